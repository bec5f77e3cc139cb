import PyProof.Rows.All
import Wide.All
import OpenK.AllK
import Wide.FinOn
import Lean
import PyProof.EqAt
import PyProof.EqKinds
import PyProof.TupleCall
import PyProof.ExcArgsOwn
import KE.KIntText
import PyProof.StrLawsRepr
import PyProof.StrLawsOcc
import PyProof.SliceStr2
import PyProof.FString
import PyProof.StrOps2
import PyProof.AutoIntG2
import PyProof.ConsumeWalk
import PyProof.MinMaxWalk
import PyProof.WalkInts
import PyProof.ZipIter
import PyProof.SumWalk
import PyProof.SeqI3
import PyProof.CompUse
import PyProof.Rows.SortWalk
import KE.KSortTup
import KE.KRevIter
import PyProof.ListRange
import PyProof.Rows.SetFrom
import PyProof.TupleKey
import PyProof.SetRoads
import PySem.SetTable
import PyProof.DictFindH
import KE.KDictList
import PyProof.Rows.TupTab
import PyProof.Rows.TupDisplay
import PyProof.DictRoadsH
import PyProof.MaxThree
import PyProof.P3In
import PyProof.WalksEnum
import PyProof.EnumMake
import PySem.Challenge.RW_primetree_k35_too_many_within
set_option Elab.async false
set_option linter.all false
set_option maxRecDepth 100000
/-! THE HAND LAYER, for ints, bools, texts, own classes, LISTS and tuples (index, slices, in, append, pop ..), calls, loops. Paste it whole ahead of your own text; what your proof does not reach may be deleted. -/
namespace L2
open PySem PySem.Spec PyProof.Rows

/-- a key: an int or a str -/
abbrev Key := Sum Int Str
def keyIs : Key → Value → Bool
  | .inl k, v => Value.isInt k v
  | .inr x, v => Value.isStrOf x v
def keyH (w : World) : Key → Int
  | .inl k => hashInt k
  | .inr x => hashStr w x
theorem keyIs_shape : ∀ {k : Key} {v : Value}, keyIs k v = true → (∃ i t, k = Sum.inl i ∧ v = Value.int i t) ∨ (∃ x t, k = Sum.inr x ∧ v = Value.str x t)
  | .inl i, v, h => by
    obtain ⟨t, e⟩ := Value.isInt_shape (k := i) (v := v) h
    exact .inl ⟨i, t, rfl, e⟩
  | .inr x, v, h => by
    obtain ⟨t, e⟩ := Value.isStrOf_shape (x := x) (v := v) h
    exact .inr ⟨x, t, rfl, e⟩
theorem keyIs_int (i : Int) (t : Tok) : keyIs (.inl i) (.int i t) = true := by simp [keyIs, Value.isInt]
theorem keyIs_str (x : Str) (t : Tok) : keyIs (.inr x) (.str x t) = true := by simp [keyIs, Value.isStrOf]
theorem key_ll (a b : Int) : decide ((Sum.inl a : Key) = Sum.inl b) = (a == b) := by
  by_cases e : a = b
  · subst e; simp
  · have h : ¬ (Sum.inl a : Key) = Sum.inl b := fun q => e (Sum.inl.inj q)
    rw [decide_eq_false h]
    exact (beq_eq_false_iff_ne.mpr e).symm
theorem key_rr (a b : Str) : decide ((Sum.inr a : Key) = Sum.inr b) = decide (a = b) := by
  by_cases e : a = b
  · subst e; simp
  · have h : ¬ (Sum.inr a : Key) = Sum.inr b := fun q => e (Sum.inr.inj q)
    rw [decide_eq_false h, decide_eq_false e]
theorem key_lr (a : Int) (b : Str) : decide ((Sum.inl a : Key) = Sum.inr b) = false := decide_eq_false (fun q => nomatch q)
theorem key_rl (a : Str) (b : Int) : decide ((Sum.inr a : Key) = Sum.inl b) = false := decide_eq_false (fun q => nomatch q)

def mixKind (prog : Program) (w : World) : PySem.KeyKind prog w Key where
  is := keyIs
  hash := keyH w
  inj := fun v a b ha hb => by
    rcases keyIs_shape ha with ⟨i, t, rfl, rfl⟩ | ⟨x, t, rfl, rfl⟩
    · rcases keyIs_shape hb with ⟨j, u, rfl, e⟩ | ⟨y, u, rfl, e⟩
      · injection e with e1 _; rw [e1]
      · exact nomatch e
    · rcases keyIs_shape hb with ⟨j, u, rfl, e⟩ | ⟨y, u, rfl, e⟩
      · exact nomatch e
      · injection e with e1 _; rw [e1]
  byValue := fun k v h => by
    rcases keyIs_shape h with ⟨i, t, rfl, rfl⟩ | ⟨x, t, rfl, rfl⟩ <;> rfl
  pyHash := fun hv h => by
    rcases keyIs_shape hv with ⟨i, t, rfl, rfl⟩ | ⟨x, t, rfl, rfl⟩
    · exact wpAny_pyHash_int h
    · exact wpAny_pyHash_str h
  eqBool := fun hu hv h => by
    rcases keyIs_shape hu with ⟨i, t, rfl, rfl⟩ | ⟨x, t, rfl, rfl⟩
    · rcases keyIs_shape hv with ⟨j, u, rfl, rfl⟩ | ⟨y, u, rfl, rfl⟩
      · rw [key_ll] at h; exact wpAny_eqBool_int h
      · rw [key_lr] at h; exact SeqAt.EqAt.int_str i t y u _ _ _ _ h
    · rcases keyIs_shape hv with ⟨j, u, rfl, rfl⟩ | ⟨y, u, rfl, rfl⟩
      · rw [key_rl] at h; exact SeqAt.EqAt.str_int x t j u _ _ _ _ h
      · rw [key_rr] at h; exact wpAny_eqBool_str h
  «strs» := fun k x t v h => by
    rcases keyIs_shape h with ⟨i, u, rfl, e⟩ | ⟨y, u, rfl, e⟩
    · exact nomatch e
    · injection e with e1 _
      subst e1
      cases v <;> rfl

theorem mixKind_int (prog : Program) (w : World) (i : Int) (t : Tok) : (mixKind prog w).is (.inl i) (.int i t) = true := keyIs_int i t
theorem mixKind_str (prog : Program) (w : World) (x : Str) (t : Tok) : (mixKind prog w).is (.inr x) (.str x t) = true := keyIs_str x t
end L2

namespace L2
open PySem PySem.Spec PyProof.Rows

/-- a value, without the heap -/
inductive V where
  | non | bl (b : Bool) | int (i : Int) | str (x : Str) | byt (b : Array UInt8) | flt (b : UInt64) | ref (a : Addr) | ty (n : String)
  deriving DecidableEq

def RelV : V → Value → Prop
  | .non, u => u = Value.none
  | .bl b, u => u = Value.bool b
  | .int i, u => ∃ t, u = Value.int i t
  | .str x, u => ∃ t, u = Value.str x t
  | .byt b, u => ∃ t, u = Value.bytes b t
  | .flt b, u => ∃ t, u = Value.float b t
  | .ref a, u => u = Value.ref a
  | .ty n, u => u = Value.type n

abbrev Vals : List V → List Value → Prop := Paired RelV
theorem Vals.length {xs : List V} {us : List Value} (r : Vals xs us) : xs.length = us.length := Paired.length r
theorem Vals.get : ∀ {xs : List V} {us : List Value} {i : Nat} {x : V}, Vals xs us → xs[i]? = some x → ∃ u, us[i]? = some u ∧ RelV x u
  | _, _, _, _, .nil, e => by simp at e
  | _, _, 0, _, .cons r _, e => by simp at e; subst e; exact ⟨_, rfl, r⟩
  | _, _, i + 1, x, .cons _ t, e => by
    obtain ⟨u, h1, h2⟩ := Vals.get (i := i) (x := x) t (by simpa using e)
    exact ⟨u, by simpa using h1, h2⟩
theorem Vals.append : ∀ {xs ys : List V} {us ws : List Value}, Vals xs us → Vals ys ws → Vals (xs ++ ys) (us ++ ws)
  | _, _, _, _, .nil, s => s
  | _, _, _, _, .cons r t, s => .cons r (Vals.append t s)
theorem Vals.take : ∀ {xs : List V} {us : List Value} (n : Nat), Vals xs us → Vals (xs.take n) (us.take n)
  | _, _, 0, _ => .nil
  | _, _, _ + 1, .nil => .nil
  | _, _, n + 1, .cons r t => .cons r (Vals.take n t)
theorem Vals.drop : ∀ {xs : List V} {us : List Value} (n : Nat), Vals xs us → Vals (xs.drop n) (us.drop n)
  | _, _, 0, r => r
  | _, _, _ + 1, .nil => .nil
  | _, _, n + 1, .cons _ t => Vals.drop n t
def RelO : Option V → Option Value → Prop
  | some v, some u => RelV v u
  | none, none => True
  | _, _ => False
def KV {κ : Type} : List (κ × V) → List (κ × Value) → Prop := Paired fun (p : κ × V) (q : κ × Value) => p.1 = q.1 ∧ RelV p.2 q.2

/-- a key of a dict (00_mix): an int or a text -/
def kV : Key → V
  | .inl i => .int i
  | .inr x => .str x

/-- what stands at a tracked address -/
inductive HO where
  /-- a list -/
  | lst (xs : List V)
  /-- a tuple (never changes) -/
  | tup (xs : List V)
  /-- a dict whose keys are ints and texts; one whose keys are tuples of ints and texts (the empty one is both) -/
  | dK (kvs : List (Key × V)) | dT (kvs : List (List Key × V))
  /-- a set of ints: its members, its size -/
  | set (S : Int → Bool) (n : Nat)
  /-- an instance of the class at C, its dict at dx, its attributes -/
  | ins (C dx : Addr) (fs : List (Str × V))
  /-- the dict of the instance at x -/
  | own (x : Addr)
  /-- the dict of an exception -/
  | xd (fs : List (Str × V))
  /-- a bound method, f of x -/
  | met (f x : Addr)
  /-- a range object lo, lo + 1, .. below hi -/
  | rng (lo hi : Int)
  /-- a thing that is known to the object (the script; a dict while a loop walks it): read, never written while it is so -/
  | frz (o : Obj) (u : HO)
  /-- a code object's table -/
  | tbl (ps : Array Value)
  /-- any other thing, by what is true of its one object (a def of one's own: SetO a S n := HO.ext fun h => ..) -/
  | ext (φ : Heap → Prop)

abbrev Hp := Addr → Option HO
def upd (H : Hp) (a : Addr) (o : HO) : Hp := fun b => if b = a then some o else H b
theorem upd_same {H : Hp} {a : Addr} {o : HO} : upd H a o a = some o := by unfold upd; rw [if_pos rfl]
theorem upd_ne {H : Hp} {a b : Addr} {o : HO} (h : b ≠ a) : upd H a o b = H b := by unfold upd; rw [if_neg h]
theorem ne_of_none {H : Hp} {a b : Addr} {o : HO} (h : H a = some o) (h' : H b = none) : a ≠ b := by
  intro e; subst e; rw [h] at h'; cases h'

section
variable (P : Program) (w : World)
def ObjOk (H : Hp) (h : Heap) (a : Addr) : HO → Prop
  | .lst xs => xs.length ≤ sizeLine ∧ ∃ (its : List Value) (n : Nat), Vals xs its ∧ h.get? a = some { cls := .type "list", data := .seq its.toArray n }
  | .tup xs => xs.length ≤ sizeLine ∧ ∃ its : List Value, Vals xs its ∧ IsTup h a its.toArray
  | .dK kvs => kvs.length ≤ sizeLine ∧ (a == sysModules) = false ∧ ∃ vs, KV kvs vs ∧ h.DictOf (mixKind P w) a vs
  | .dT kvs => kvs.length ≤ sizeLine ∧ (a == sysModules) = false ∧ ∃ xs : List (List Key × Addr × Value),
      Paired (fun (p : List Key × V) (q : List Key × Addr × Value) => p.1 = q.1 ∧ H q.2.1 = some (.tup (p.1.map kV)) ∧ RelV p.2 q.2.2) kvs xs ∧
      ∃ o es ep, h.get? a = some o ∧ o.ExactDict ∧ o.data = .dict es ep ∧ es.toList = xs.map (entryOfKey (tupleKind (mixKind P w))) ∧ (xs.map (·.1)).Nodup
  | .set S n => h.SetOf (intKind P w) a S n
  | .ins C dx fs => H dx = some (.own a) ∧ fs.length ≤ 1000 ∧ dx ≠ a ∧ h.get? a = some (PySem.W.instObj C dx) ∧
      ∃ mA, h.Ns1 dx mA ∧ (∀ f, RelO (fs.lookup f) (mA f)) ∧ PySem.Within mA (fs.map (·.1))
  | .own _ => ∃ o, h.get? a = some o
  | .xd fs => ∃ mA, h.Ns1 a mA ∧ ∀ f, RelO (fs.lookup f) (mA f)
  | .rng lo hi => ∃ t u v, h.get? a = some { cls := .type "range", data := .fields #[.int lo t, .int hi u, .int 1 v] }
  | .frz o u => h.get? a = some o ∧ ObjOk H h a u
  | .tbl ps => h.get? a = some { cls := .none, data := .fields ps }
  | .met f x => h.get? a = some (PySem.W.methodObj (.ref f) (.ref x))
  | .ext φ => φ h ∧ (∃ o, h.get? a = some o) ∧ ∀ h1 h2 : Heap, φ h1 → (∀ o, h1.get? a = some o → h2.get? a = some o) → φ h2
/-- the abstract heap is held -/
def HOk (H : Hp) (h : Heap) : Prop := ∀ a o, H a = some o → ObjOk P w H h a o
end

section
variable {P : Program} {w : World} {H H' : Hp} {h h' : Heap} {a : Addr} {o : HO}
theorem ObjOk.lt (x : ObjOk P w H h a o) : a < h.objs.size := by
  cases o with
  | lst xs => obtain ⟨_, _, _, _, e⟩ := x; exact Heap.lt_size e
  | tup xs => obtain ⟨_, _, _, p⟩ := x; exact p.lt
  | dK kvs => obtain ⟨_, _, _, _, o, _, _, e, _⟩ := x; exact Heap.lt_size e
  | dT kvs => obtain ⟨_, _, _, _, o, _, _, e, _⟩ := x; exact Heap.lt_size e
  | set S n => obtain ⟨o, _, _, _, e, _⟩ := x; exact Heap.lt_size e
  | ins C dx fs => obtain ⟨_, _, _, e, _⟩ := x; exact Heap.lt_size e
  | own y => obtain ⟨_, e⟩ := x; exact Heap.lt_size e
  | xd fs => obtain ⟨_, ⟨_, _, _, e, _⟩, _⟩ := x; exact Heap.lt_size e
  | rng lo hi => obtain ⟨_, _, _, e⟩ := x; exact Heap.lt_size e
  | frz ob u => obtain ⟨e, _⟩ := x; exact Heap.lt_size e
  | tbl ps => exact Heap.lt_size (show h.get? a = some _ from x)
  | met f y => exact Heap.lt_size (show h.get? a = some _ from x)
  | ext φ => obtain ⟨_, ⟨_, e⟩, _⟩ := x; exact Heap.lt_size e
theorem Paired.mapP {α β : Type} {F G : α → β → Prop} : ∀ {l₁ : List α} {l₂ : List β}, Paired F l₁ l₂ → (∀ a b, F a b → G a b) → Paired G l₁ l₂
  | _, _, .nil, _ => .nil
  | _, _, .cons r t, f => .cons (f _ _ r) (Paired.mapP t f)
/-- what an object's description leans on: its own object, its own dict, the tuples -/
theorem ObjOk.stay (x : ObjOk P w H h a o) (k : ∀ b u, (b = a ∨ H b = some (.own a)) → h.get? b = some u → h'.get? b = some u)
    (ho : ∀ b, H b = some (.own a) → H' b = some (.own a)) (ht : ∀ b xs, H b = some (.tup xs) → H' b = some (.tup xs)) : ObjOk P w H' h' a o := by
  induction o with
  | lst xs => obtain ⟨z, its, n, r, e⟩ := x; exact ⟨z, its, n, r, k _ _ (.inl rfl) e⟩
  | tup xs => obtain ⟨z, its, r, ob, e, c⟩ := x; exact ⟨z, its, r, ob, k _ _ (.inl rfl) e, c⟩
  | dK kvs => obtain ⟨z, y, vs, r, ob, es, ep, e, c⟩ := x; exact ⟨z, y, vs, r, ob, es, ep, k _ _ (.inl rfl) e, c⟩
  | dT kvs =>
    obtain ⟨z, y, xs, r, ob, es, ep, e, c⟩ := x
    exact ⟨z, y, xs, Paired.mapP r fun p q z => ⟨z.1, ht _ _ z.2.1, z.2.2⟩, ob, es, ep, k _ _ (.inl rfl) e, c⟩
  | set S n => obtain ⟨ob, es, ep, t, e, c⟩ := x; exact ⟨ob, es, ep, t, k _ _ (.inl rfl) e, c⟩
  | ins C dx fs =>
    obtain ⟨d, z, ne, e, mA, ⟨od, es, ep, e2, c⟩, r⟩ := x
    exact ⟨ho _ d, z, ne, k _ _ (.inl rfl) e, mA, ⟨od, es, ep, k _ _ (.inr d) e2, c⟩, r⟩
  | own y => obtain ⟨ob, e⟩ := x; exact ⟨ob, k _ _ (.inl rfl) e⟩
  | xd fs => obtain ⟨mA, ⟨od, es, ep, e, c⟩, r⟩ := x; exact ⟨mA, ⟨od, es, ep, k _ _ (.inl rfl) e, c⟩, r⟩
  | rng lo hi => obtain ⟨t, u, v, e⟩ := x; exact ⟨t, u, v, k _ _ (.inl rfl) e⟩
  | frz ob u ih => obtain ⟨e, q⟩ := x; exact ⟨k _ _ (.inl rfl) e, ih q⟩
  | tbl ps =>
    have e : h.get? a = some { cls := .none, data := .fields ps } := x
    show h'.get? a = some { cls := .none, data := .fields ps }
    exact k a _ (.inl rfl) e
  | met f y =>
    have e : h.get? a = some (PySem.W.methodObj (.ref f) (.ref y)) := x
    show h'.get? a = some (PySem.W.methodObj (.ref f) (.ref y))
    exact k a _ (.inl rfl) e
  | ext φ => obtain ⟨p, ⟨o, e⟩, st⟩ := x; exact ⟨st _ _ p fun o q => k _ _ (.inl rfl) q, ⟨o, k _ _ (.inl rfl) e⟩, st⟩
theorem HOk.lt (x : HOk P w H h) (e : H a = some o) : a < h.objs.size := (x a o e).lt
theorem HOk.fresh (x : HOk P w H h) (e : h.objs.size ≤ a) : H a = none := by
  cases q : H a with
  | none => rfl
  | some u => exact absurd (Nat.lt_of_lt_of_le (x.lt q) e) (Nat.lt_irrefl _)
/-- every object of the heap is kept -/
theorem HOk.kept (x : HOk P w H h) (k : ∀ b u, h.get? b = some u → h'.get? b = some u) : HOk P w H h' := fun a o e =>
  (x a o e).stay (fun b u _ q => k b u q) (fun _ q => q) fun _ _ q => q
/-- a new object is laid and tracked -/
theorem HOk.laid (x : HOk P w H h) (k : ∀ b u, h.get? b = some u → h'.get? b = some u) (hp : h.objs.size ≤ a) (new : ObjOk P w (upd H a o) h' a o) : HOk P w (upd H a o) h' := fun b u e => by
  have hn := x.fresh hp
  by_cases hb : b = a
  · subst hb; rw [upd_same] at e; cases e; exact new
  · rw [upd_ne hb] at e
    exact (x b u e).stay (fun c v _ q => k c v q) (fun c q => by rw [upd_ne (ne_of_none q hn)]; exact q) fun c xs q => by rw [upd_ne (ne_of_none q hn)]; exact q
end

/-- what may be read as u: it is u, or a known u -/
def Rd (H : Hp) (a : Addr) (u : HO) : Prop := H a = some u ∨ ∃ o, H a = some (.frz o u)
theorem Rd.ok {P : Program} {w : World} {H : Hp} {h : Heap} {a : Addr} {u : HO} (r : Rd H a u) (x : HOk P w H h) : ObjOk P w H h a u := by
  rcases r with r | ⟨o, r⟩
  · exact x a u r
  · obtain ⟨_, q⟩ := x a _ r
    exact q
/-- what may be written -/
def Mut : Option HO → Prop
  | some (.lst _) => True
  | some (.dK _) => True
  | some (.dT _) => True
  | some (.set _ _) => True
  | some (.ins _ _ _) => True
  | some (.ext _) => True
  | _ => False
section
variable {P : Program} {w : World} {H : Hp} {h h' : Heap} {x e : Addr} {o' : HO}
/-- the object at e is changed: x itself, or the dict of the instance x -/
theorem HOk.write (ok : HOk P w H h) (mu : Mut (H x)) (he : e = x ∨ H e = some (.own x)) (k : ∀ b u, b ≠ e → h.get? b = some u → h'.get? b = some u) (heo : ∃ u, h'.get? e = some u)
    (new : ObjOk P w (upd H x o') h' x o') : HOk P w (upd H x o') h' := fun b u q => by
  have nown : ∀ c y, H c = some (.own y) → c ≠ x := fun c y r z => by subst z; rw [r] at mu; exact mu
  have ntup : ∀ c xs, H c = some (.tup xs) → c ≠ x := fun c xs r z => by subst z; rw [r] at mu; exact mu
  by_cases hb : b = x
  · subst hb; rw [upd_same] at q; cases q; exact new
  · rw [upd_ne hb] at q
    by_cases hbe : b = e
    · have q' : H b = some (.own x) := by
        rcases he with z | z
        · exact absurd (hbe.trans z) hb
        · rw [hbe]; exact z
      rw [q] at q'; cases q'
      obtain ⟨v, hv⟩ := heo
      exact ⟨v, by rw [hbe]; exact hv⟩
    · refine (ok b u q).stay (fun c v hc r => k c v ?_ r) (fun c r => by rw [upd_ne (nown c b r)]; exact r) fun c xs r => by rw [upd_ne (ntup c xs r)]; exact r
      rcases hc with rfl | hc
      · exact hbe
      · rintro rfl
        rcases he with z | z
        · exact nown c b hc z
        · rw [hc] at z; cases z; exact hb rfl
end

/-! ### kept unless tracked; of the frames at fs (the callers') the slots may change (an exception that passes writes there); of the records at ex (iterators) nothing is said -/
structure Un (fs ex : List Addr) (H H' : Hp) (h h' : Heap) : Prop where
  keep : ∀ b o, h.get? b = some o → H b = none → b ∉ fs → b ∉ ex → h'.get? b = some o
  slot : ∀ b o, h.get? b = some o → H b = none → b ∈ fs → b ∉ ex → ∃ sl, h'.get? b = some { o with slots := sl }
  free : ∀ b o, h.get? b = some o → H b = none → b ∉ ex → H' b = none
  there : ∀ b o, h.get? b = some o → b ∉ ex → ∃ o', h'.get? b = some o'
  tups : ∀ b xs, H b = some (.tup xs) → H' b = some (.tup xs)
  frzs : ∀ b o u, H b = some (.frz o u) → H' b = some (.frz o u)
  tbls : ∀ b ps, H b = some (.tbl ps) → ∃ more, H' b = some (.tbl (ps ++ more))
section
variable {fs fs' ex ex' : List Addr} {H H1 H2 : Hp} {h h1 h2 h' : Heap} {a x e : Addr} {o : HO}
theorem Un.any (u : Un fs ex H H1 h h1) {b : Addr} {ob : Obj} (q : h.get? b = some ob) (n : H b = none) (hx : b ∉ ex) : ∃ sl, h1.get? b = some { ob with slots := sl } := by
  by_cases hb : b ∈ fs
  · exact u.slot b ob q n hb hx
  · exact ⟨ob.slots, u.keep b ob q n hb hx⟩
theorem Un.kept (k : ∀ b u, h.get? b = some u → h'.get? b = some u) : Un fs ex H H h h' :=
  ⟨fun b ob q _ _ _ => k b ob q, fun b ob q _ _ _ => ⟨ob.slots, k b ob q⟩, fun _ _ _ n _ => n, fun b ob q _ => ⟨ob, k b ob q⟩, fun _ _ q => q, fun _ _ _ q => q, fun _ ps q => ⟨#[], by rw [q]; simp⟩⟩
theorem Un.refl : Un fs ex H H h h := Un.kept fun _ _ q => q
theorem Un.laid (k : ∀ b u, h.get? b = some u → h'.get? b = some u) (hp : h.objs.size ≤ a) (hn : H a = none) : Un fs ex H (upd H a o) h h' where
  keep := fun b u q _ _ _ => k b u q
  slot := fun b u q _ _ _ => ⟨u.slots, k b u q⟩
  free := fun b u q n _ => by rw [upd_ne (Nat.ne_of_lt (Nat.lt_of_lt_of_le (Heap.lt_size q) hp))]; exact n
  there := fun b u q _ => ⟨u, k b u q⟩
  tups := fun b xs q => by rw [upd_ne (ne_of_none q hn)]; exact q
  frzs := fun b u xs q => by rw [upd_ne (ne_of_none q hn)]; exact q
  tbls := fun b ps q => ⟨#[], by rw [upd_ne (ne_of_none q hn), q]; simp⟩
theorem Un.write (mu : Mut (H x)) (he : e = x ∨ H e = some (.own x)) (k : ∀ b u, b ≠ e → h.get? b = some u → h'.get? b = some u) (heo : ∃ u, h'.get? e = some u) : Un fs ex H (upd H x o) h h' := by
  have hx : ∀ b, H b = none → b ≠ x := fun b n z => by subst z; rw [n] at mu; exact mu
  have hb : ∀ b, H b = none → b ≠ e := fun b n z => by
    subst z
    rcases he with r | r
    · exact hx b n r
    · rw [n] at r; cases r
  have hm : ∀ b u, H b = some u → ¬ Mut (some u) → b ≠ x := fun b u q nm z => by subst z; rw [q] at mu; exact nm mu
  refine ⟨fun b u q n _ _ => k b u (hb b n) q, fun b u q n _ _ => ⟨u.slots, k b u (hb b n) q⟩, fun b u q n _ => by rw [upd_ne (hx b n)]; exact n, fun b u q _ => ?_,
    fun b xs q => by rw [upd_ne (hm b _ q fun z => z)]; exact q, fun b u xs q => by rw [upd_ne (hm b _ q fun z => z)]; exact q, fun b ps q => ⟨#[], by rw [upd_ne (hm b _ q fun z => z), q]; simp⟩⟩
  by_cases hbe : b = e
  · subst hbe; exact heo
  · exact ⟨u, k b u hbe q⟩
end

/-! ### the heap without what is tracked -/
def trk (h : Heap) (H : Hp) : List Addr := (List.range h.objs.size).filter fun a => (H a).isSome
def hidT (h : Heap) (H : Hp) : Heap := PySem.W.hideAll h (trk h H)
theorem hidT_size (h : Heap) (H : Hp) : (hidT h H).objs.size = h.objs.size := PySem.W.hideAll_size _ _
theorem hidT_get {h : Heap} {H : Hp} {b : Addr} {o : Obj} (e : h.get? b = some o) (n : H b = none) : (hidT h H).get? b = some o :=
  PySem.W.hideAll_get _ e fun hm => by
    have q : (H b).isSome = true := (List.mem_filter.mp hm).2
    rw [n] at q; simp at q
theorem of_hidT {h : Heap} {H : Hp} {b : Addr} {o : Obj} (e : (hidT h H).get? b = some o) : h.get? b = some o ∧ H b = none := by
  have e' : h.get? b = some o := PySem.W.of_hideAll (trk h H) e
  refine ⟨e', ?_⟩
  cases q : H b with
  | none => rfl
  | some x =>
    have hm : b ∈ trk h H := List.mem_filter.mpr ⟨List.mem_range.mpr (Heap.lt_size e'), by simp [q]⟩
    have z : (hidT h H).get? b = none := PySem.W.hideAll_none (trk h H) hm
    rw [z] at e; cases e

/-! ### OpenK's ledger, filled with every new object but one -/
def allNews (g h : Heap) (L : Addr) : List (Addr × Obj) := (List.range h.objs.size).filterMap fun a => if a = L ∨ (g.get? a).isSome = true then none else (h.get? a).map fun o => (a, o)
def rest (g h : Heap) (L d : Addr) : List (Addr × Obj) := (allNews g h L).filter fun p => decide (p.1 ≠ d)
end L2

namespace L2
open PySem PySem.Spec PyProof.Rows

/-- the module's facts, over the base: the heap at the law's entry without what is tracked there -/
structure Mod (K : PySem.W.Frag) (mg : Str → Option Value) (base : Heap) : Prop where
  kin : K.In base
  glob : base.Ns mainGlobals mg
  blt : ∃ mb, base.Ns builtinsNs mb ∧ ∀ x : Str, x ≠ "__name__" → mb x = bootBuiltins x
  nolimit : base.NoLimit

/-- the context: a def's body (or a comprehension's block) running. base: fixed through the whole law; s₀, H₀: the entry; outer: the frames whose slots others may change (a def's callers); stack: all frames that run;
   ex: iterators that were made ahead of the entry and are walked here (a comprehension's); fn: the names whose cells were made at the entry (a def: all; a comprehension's block: its own); calm: not within an except suite; pn: pins that every state bears; xe: what is wanted of an exception that leaves the code -/
structure Cx where
  prog : Program
  w : World
  K : PySem.W.Frag
  mg : Str → Option Value
  base : Heap
  A : Around
  N : List Str
  s₀ : Shared
  H₀ : Hp
  env : Env
  outer : List Env
  stack : List Env
  ex : List Addr
  fn : Str → Bool
  calm : Bool
  pn : List (Addr × Obj)
  xe : Value → Shared → Prop
/-- the callers' frames -/
def frs (l : List Env) : List Addr := l.filterMap (·.frame)
abbrev Cx.fs (X : Cx) : List Addr := frs X.outer

def Vis (sc : Scope) (x : Str) : Prop := sc.names.lookup x = some .local ∨ sc.names.lookup x = some .cell ∨ sc.names.lookup x = some .free
def Loc (sc : Scope) (x : Str) : Prop := sc.names.lookup x = some .local ∨ sc.names.lookup x = some .cell
def Look (env : Env) (h : Heap) (m : Str → Option Value) (x : Str) (u : Value) : Prop :=
  (env.kindOf x = some .local ∧ m x = some u) ∨ ((env.kindOf x = some .cell ∨ env.kindOf x = some .free) ∧ ∃ c, env.cells.lookup x = some c ∧ h.IsCell c (some u))

structure Cx.Ok (X : Cx) : Prop where
  mod : Mod X.K X.mg X.base
  kind : X.env.scope.kind = .function
  glob : X.env.globals = mainGlobals
  blt : X.env.builtins = builtinsNs
  above : X.s₀.heap.objs.size ≤ X.env.locals
  inj : ∀ x y c, X.env.cells.lookup x = some c → X.env.cells.lookup y = some c → x = y
  has : ∀ x, (X.env.kindOf x = some .cell ∨ X.env.kindOf x = some .free) → ∃ c, X.env.cells.lookup x = some c
  cab : ∀ x c, X.fn x = true → X.env.cells.lookup x = some c → X.s₀.heap.objs.size ≤ c
  hd : X.calm = true → X.A.handled = none
  frames : X.A.frames = some X.stack
  stk : X.stack = X.outer ∨ (X.stack = X.env :: X.outer ∧ X.env.frame = some X.env.locals)
  exf : ∀ b ∈ X.ex, b ≠ X.env.locals ∧ ∀ x c, X.env.cells.lookup x = some c → c ≠ b
  bs : ∀ b o, X.base.get? b = some o → X.s₀.heap.get? b = some o ∧ X.H₀ b = none
  bsz : X.base.objs.size ≤ X.s₀.heap.objs.size
  noex : ∀ b o, X.base.get? b = some o → b ∉ X.ex
  exfs : ∀ b ∈ X.ex, b ∉ X.fs
  funs : X.s₀.heap.FunFrames X.base X.outer
  frf : ∀ b ∈ X.fs, X.H₀ b = none

structure Inv (X : Cx) (pins : List (Addr × Obj)) (σ : List (Option V)) (H : Hp) (s : Shared) : Prop where
  ok : X.Ok
  os : s.os = X.s₀.os
  bare : AllBare s.gens
  base : Un X.fs X.ex X.H₀ H X.s₀.heap s.heap
  loc : ∃ m, s.heap.Ns X.env.locals m ∧ ∀ (i : Nat) (x : Str) (v : V), X.N[i]? = some x → σ[i]? = some (some v) → Vis X.env.scope x → ∃ u, RelV v u ∧ Look X.env s.heap m x u
  cell : ∀ x c, X.env.cells.lookup x = some c → ∃ v, s.heap.IsCell c v
  free : H X.env.locals = none
  freeC : ∀ x c, X.env.cells.lookup x = some c → H c = none
  pin : ∀ p ∈ X.pn ++ pins, s.heap.get? p.1 = some p.2 ∧ H p.1 = none ∧ p.1 ≠ X.env.locals ∧ p.1 ∉ X.fs ∧ ∀ v, p.2.data ≠ .cell v
  hok : HOk X.prog X.w H s.heap
  len : σ.length = X.N.length

section
variable {X : Cx} {pins : List (Addr × Obj)} {σ : List (Option V)} {H H' : Hp} {s : Shared} {h' : Heap}

theorem Cx.Ok.nofr (ok : X.Ok) {b : Addr} {o : Obj} (e : X.base.get? b = some o) : b ∉ X.fs := fun hb => by
  have := (ok.funs.mem hb).1
  rw [e] at this; cases this
theorem Inv.bs (I : Inv X pins σ H s) : ∀ b o, X.base.get? b = some o → s.heap.get? b = some o ∧ H b = none := fun b o e =>
  ⟨I.base.keep b o (I.ok.bs b o e).1 (I.ok.bs b o e).2 (I.ok.nofr e) (I.ok.noex b o e), I.base.free b o (I.ok.bs b o e).1 (I.ok.bs b o e).2 (I.ok.noex b o e)⟩
theorem Inv.bk (I : Inv X pins σ H s) : ∀ b o, X.base.get? b = some o → s.heap.get? b = some o := fun b o e => (I.bs b o e).1
theorem Inv.mod (I : Inv X pins σ H s) : Mod X.K X.mg X.base := I.ok.mod
theorem Inv.kIn (I : Inv X pins σ H s) : X.K.In s.heap := I.ok.mod.kin.keeps I.bk
theorem Inv.lt (I : Inv X pins σ H s) : X.env.locals < s.heap.objs.size := let ⟨_, hn, _⟩ := I.loc; hn.lt
theorem Inv.sz (I : Inv X pins σ H s) : X.s₀.heap.objs.size ≤ s.heap.objs.size := Nat.le_trans I.ok.above (Nat.le_of_lt I.lt)
theorem Inv.nofs (I : Inv X pins σ H s) {a : Addr} (h : s.heap.objs.size ≤ a) : a ∉ X.fs := fun hb => by
  obtain ⟨_, o, ho, _⟩ := I.ok.funs.mem hb
  exact absurd (Nat.lt_of_lt_of_le (Heap.lt_size ho) (Nat.le_trans I.sz h)) (Nat.lt_irrefl _)
theorem Inv.cne (I : Inv X pins σ H s) : ∀ x c, X.env.cells.lookup x = some c → c ≠ X.env.locals := fun x c e z => by
  obtain ⟨v, o, ho, hd⟩ := I.cell x c e
  obtain ⟨m, ⟨o', es, ep, ho', hd', _⟩, _⟩ := I.loc
  rw [z, ho'] at ho; cases ho; rw [hd'] at hd; cases hd
theorem Inv.funs (I : Inv X pins σ H s) : s.heap.FunFrames X.base X.outer := by
  have all : ∀ (l : List Env), (∀ b ∈ frs l, b ∈ X.fs) → X.s₀.heap.FunFrames X.base l → s.heap.FunFrames X.base l := by
    intro l
    induction l with
    | nil => intro _ _; trivial
    | cons env r ih =>
      intro hs hl
      obtain ⟨hk, ⟨L, o, hf, hn, ho, hd⟩, hr⟩ := hl
      have hL : L ∈ X.fs := hs L (by unfold frs; rw [List.filterMap_cons, hf]; exact List.mem_cons_self)
      obtain ⟨sl, e⟩ := I.base.slot L o ho (I.ok.frf L hL) hL fun z => I.ok.exfs L z hL
      exact ⟨hk, ⟨L, _, hf, hn, e, hd⟩, ih (fun b hb => hs b (by unfold frs; rw [List.filterMap_cons, hf]; exact List.mem_cons_of_mem _ hb)) hr⟩
  exact all X.outer (fun _ hb => hb) I.ok.funs

/-- the frames that run, for a call -/
theorem Inv.stack (I : Inv X pins σ H s) : s.heap.FunFrames X.base X.stack := by
  rcases I.ok.stk with e | ⟨e, hf⟩
  · rw [e]; exact I.funs
  · rw [e]
    obtain ⟨m, hn, _⟩ := I.loc
    refine .cons (by rw [I.ok.kind]; decide) hf hn ?_ I.funs
    exact Heap.get?_none_of_le (Nat.le_trans I.ok.bsz I.ok.above)
theorem Inv.stkSub (I : Inv X pins σ H s) : ∀ b ∈ frs X.stack, b ∈ X.env.locals :: X.fs := fun b hb => by
  rcases I.ok.stk with e | ⟨e, hf⟩
  · rw [e] at hb; exact List.mem_cons_of_mem _ hb
  · rw [e] at hb
    unfold frs at hb
    rw [List.filterMap_cons, hf] at hb
    exact hb
theorem Inv.stkFree (I : Inv X pins σ H s) : ∀ b ∈ frs X.stack, H b = none := fun b hb => by
  rcases List.mem_cons.mp (I.stkSub b hb) with e | hb
  · rw [e]; exact I.free
  · obtain ⟨_, o, ho, _⟩ := I.ok.funs.mem hb
    exact I.base.free b o ho (I.ok.frf b hb) fun z => I.ok.exfs b z hb

/-- THE STEP: the untracked objects but the frame and the records at ch are kept (the callers' frames up to slots), the frame's map is kept, the new abstract heap is held -/
theorem Inv.step {g' : Array GenState} {t' : Nat} {d' : Drawn} {ch : List Addr} (I : Inv X pins σ H s)
    (hch : ∀ b ∈ ch, (b ∈ X.ex ∨ X.s₀.heap.objs.size ≤ b) ∧ b ≠ X.env.locals ∧ (∀ x c, X.env.cells.lookup x = some c → c ≠ b) ∧ ∀ p ∈ X.pn ++ pins, p.1 ≠ b)
    (keep : ∀ b o, b ≠ X.env.locals → b ∉ X.fs → b ∉ ch → s.heap.get? b = some o → H b = none → h'.get? b = some o)
    (slot : ∀ b o, b ≠ X.env.locals → b ∈ X.fs → b ∉ ch → s.heap.get? b = some o → H b = none → ∃ sl, h'.get? b = some { o with slots := sl }) (free : ∀ b o, b ∉ ch → s.heap.get? b = some o → H b = none → H' b = none)
    (there : ∀ b o, b ∉ ch → s.heap.get? b = some o → ∃ o', h'.get? b = some o')
    (tups : ∀ b xs, H b = some (.tup xs) → H' b = some (.tup xs)) (frzs : ∀ b o u, H b = some (.frz o u) → H' b = some (.frz o u)) (tbls : ∀ b ps, H b = some (.tbl ps) → ∃ more, H' b = some (.tbl (ps ++ more)))
    (ns : ∀ m, s.heap.Ns X.env.locals m → h'.Ns X.env.locals m) (hok : HOk X.prog X.w H' h') (hg : AllBare g') :
    Inv X pins σ H' { s with heap := h', gens := g', drawn := d', toks := t' } := by
  have neL : ∀ b o, X.s₀.heap.get? b = some o → b ≠ X.env.locals := fun b o e => Nat.ne_of_lt (Nat.lt_of_lt_of_le (Heap.lt_size e) I.ok.above)
  have neC : ∀ b o, X.s₀.heap.get? b = some o → b ∉ X.ex → b ∉ ch := fun b o e hx hb => by
    rcases (hch b hb).1 with z | z
    · exact hx z
    · exact absurd (Nat.lt_of_lt_of_le (Heap.lt_size e) z) (Nat.lt_irrefl _)
  have cellK : ∀ x c, X.env.cells.lookup x = some c → ∀ v, s.heap.IsCell c v → h'.IsCell c v := fun x c e v ⟨o, ho, hd⟩ => by
    have nch : c ∉ ch := fun z => (hch c z).2.2.1 x c e rfl
    by_cases hc : c ∈ X.fs
    · obtain ⟨sl, q⟩ := slot c o (I.cne x c e) hc nch ho (I.freeC x c e)
      exact ⟨_, q, hd⟩
    · exact ⟨o, keep c o (I.cne x c e) hc nch ho (I.freeC x c e), hd⟩
  refine ⟨I.ok, I.os, hg, ⟨fun b o e n hb hx => ?_, fun b o e n hb hx => ?_, fun b o e n hx => ?_, fun b o e hx => ?_, fun b xs e => tups b xs (I.base.tups b xs e), fun b o xs e => frzs b o xs (I.base.frzs b o xs e), fun b ps e => ?_⟩, ?_, fun x c e => ?_, ?_, fun x c e => ?_, fun p hp => ?_, hok, I.len⟩
  · exact keep b o (neL b o e) hb (neC b o e hx) (I.base.keep b o e n hb hx) (I.base.free b o e n hx)
  · obtain ⟨sl, e1⟩ := I.base.slot b o e n hb hx
    obtain ⟨sl', e2⟩ := slot b _ (neL b o e) hb (neC b o e hx) e1 (I.base.free b o e n hx)
    exact ⟨sl', e2⟩
  · obtain ⟨o', e1⟩ := I.base.there b o e hx
    exact free b o' (neC b o e hx) e1 (I.base.free b o e n hx)
  · obtain ⟨o', e1⟩ := I.base.there b o e hx
    exact there b o' (neC b o e hx) e1
  · obtain ⟨m1, e1⟩ := I.base.tbls b ps e
    obtain ⟨m2, e2⟩ := tbls b _ e1
    exact ⟨m1 ++ m2, by rw [e2, Array.append_assoc]⟩
  · obtain ⟨m, hn, hl⟩ := I.loc
    refine ⟨m, ns m hn, fun i x v e1 e2 e3 => ?_⟩
    obtain ⟨u, r, l⟩ := hl i x v e1 e2 e3
    refine ⟨u, r, ?_⟩
    rcases l with l | ⟨k, c, e, z⟩
    · exact .inl l
    · exact .inr ⟨k, c, e, cellK x c e _ z⟩
  · obtain ⟨v, z⟩ := I.cell x c e
    exact ⟨v, cellK x c e v z⟩
  · obtain ⟨m, ⟨o, _, _, ho, _⟩, _⟩ := I.loc
    exact free _ o (fun z => (hch _ z).2.1 rfl) ho I.free
  · obtain ⟨v, o, ho, hd⟩ := I.cell x c e
    exact free c o (fun z => (hch c z).2.2.1 x c e rfl) ho (I.freeC x c e)
  · obtain ⟨e, n, ne, nf, d⟩ := I.pin p hp
    have nch : p.1 ∉ ch := fun z => (hch p.1 z).2.2.2 p hp rfl
    exact ⟨keep p.1 p.2 ne nf nch e n, free p.1 p.2 nch e n, ne, nf, d⟩
/-- .. where the frame's own object is kept too -/
theorem Inv.un {t' : Nat} (I : Inv X pins σ H s) (u : Un X.fs [] H H' s.heap h') (hok : HOk X.prog X.w H' h') : Inv X pins σ H' { s with heap := h', toks := t' } := by
  obtain ⟨m, ⟨o, es, ep, ho, r⟩, _⟩ := id I.loc
  obtain ⟨sl, hL⟩ := u.any ho I.free (by simp)
  exact I.step (g' := s.gens) (d' := s.drawn) (ch := []) (fun _ z => nomatch z) (fun b o _ hb _ e n => u.keep b o e n hb (by simp)) (fun b o _ hb _ e n => u.slot b o e n hb (by simp)) (fun b o _ e n => u.free b o e n (by simp)) (fun b o _ e => u.there b o e (by simp)) u.tups u.frzs u.tbls (fun m' hm => by
    obtain ⟨o', es', ep', ho', r'⟩ := hm
    rw [ho] at ho'; cases ho'
    exact ⟨_, es', ep', hL, r'⟩) hok I.bare
/-- behind a call (or a comprehension's block): the slots of this frame may have changed too, the records at ch may have turned -/
theorem Inv.call {g' : Array GenState} {t' : Nat} {d' : Drawn} {ch : List Addr} (I : Inv X pins σ H s) (u : Un (frs X.stack) ch H H' s.heap h') (hok : HOk X.prog X.w H' h') (hg : AllBare g')
    (hch : ∀ b ∈ ch, (b ∈ X.ex ∨ X.s₀.heap.objs.size ≤ b) ∧ b ≠ X.env.locals ∧ (∀ x c, X.env.cells.lookup x = some c → c ≠ b) ∧ ∀ p ∈ X.pn ++ pins, p.1 ≠ b) :
    Inv X pins σ H' { s with heap := h', gens := g', drawn := d', toks := t' } := by
  obtain ⟨m, ⟨o, es, ep, ho, r⟩, _⟩ := id I.loc
  obtain ⟨sl, hL⟩ := u.any ho I.free fun z => (hch _ z).2.1 rfl
  exact I.step (ch := ch) hch (fun b o hL hb hc e n => u.keep b o e n (fun z => (List.mem_cons.mp (I.stkSub b z)).elim hL hb) hc) (fun b o _ _ hc e n => u.any e n hc) (fun b o hc e n => u.free b o e n hc) (fun b o hc e => u.there b o e hc) u.tups u.frzs u.tbls (fun m' hm => by
    obtain ⟨o', es', ep', ho', r'⟩ := hm
    rw [ho] at ho'; cases ho'
    exact ⟨_, es', ep', hL, r'⟩) hok hg
/-- an untracked record of ours (an iterator) has turned -/
theorem Inv.turned {t' : Nat} {it : Addr} (I : Inv X pins σ H s) (k : ∀ b o, b ≠ it → s.heap.get? b = some o → h'.get? b = some o) (hn : H it = none) (hL : it ≠ X.env.locals)
    (h1 : it ∈ X.ex ∨ X.s₀.heap.objs.size ≤ it) (h2 : ∀ x c, X.env.cells.lookup x = some c → c ≠ it) (h3 : ∀ p ∈ X.pn ++ pins, p.1 ≠ it) : Inv X pins σ H { s with heap := h', toks := t' } := by
  have nit : ∀ b u, H b = some u → b ≠ it := fun b u e z => by rw [z, hn] at e; cases e
  refine I.step (g' := s.gens) (d' := s.drawn) (ch := [it]) (fun b hb => ?_) (fun b o _ _ hc e _ => k b o (fun z => hc (by simp [z])) e) (fun b o _ _ hc e _ => ⟨o.slots, k b o (fun z => hc (by simp [z])) e⟩) (fun _ _ _ _ n => n)
    (fun b o hc e => ⟨o, k b o (fun z => hc (by simp [z])) e⟩) (fun _ _ e => e) (fun _ _ _ e => e) (fun b ps e => ⟨#[], by rw [e]; simp⟩) (fun m hm => ?_) (fun b u e => ?_) I.bare
  · have e : b = it := by simpa using hb
    subst e
    exact ⟨h1, hL, h2, h3⟩
  · obtain ⟨o, es, ep, ho, r⟩ := hm
    exact ⟨o, es, ep, k _ o (Ne.symm hL) ho, r⟩
  · refine (I.hok b u e).stay (fun c v hc q => k c v ?_ q) (fun _ q => q) fun _ _ q => q
    rcases hc with z | z
    · rw [z]; exact nit b u e
    · exact nit c _ z
theorem Inv.tok (I : Inv X pins σ H s) (t : Nat) : Inv X pins σ H { s with toks := t } := I.un (h' := s.heap) (t' := t) Un.refl I.hok
/-- all objects kept -/
theorem Inv.kept {t' : Nat} (I : Inv X pins σ H s) (k : ∀ b u, s.heap.get? b = some u → h'.get? b = some u) : Inv X pins σ H { s with heap := h', toks := t' } := I.un (Un.kept k) (I.hok.kept k)
/-- a new object laid and tracked -/
theorem Inv.laid {a : Addr} {o : HO} {t' : Nat} (I : Inv X pins σ H s) (k : ∀ b u, s.heap.get? b = some u → h'.get? b = some u) (hp : s.heap.objs.size ≤ a) (new : ObjOk X.prog X.w (upd H a o) h' a o) :
    Inv X pins σ (upd H a o) { s with heap := h', toks := t' } := I.un (Un.laid k hp (I.hok.fresh hp)) (I.hok.laid k hp new)
/-- an object written -/
theorem Inv.write {x e : Addr} {o : HO} {t' : Nat} (I : Inv X pins σ H s) (mu : Mut (H x)) (he : e = x ∨ H e = some (.own x)) (k : ∀ b u, b ≠ e → s.heap.get? b = some u → h'.get? b = some u) (heo : ∃ u, h'.get? e = some u)
    (new : ObjOk X.prog X.w (upd H x o) h' x o) : Inv X pins σ (upd H x o) { s with heap := h', toks := t' } := I.un (Un.write mu he k heo) (I.hok.write mu he k heo new)
theorem Inv.pins_of {pins' : List (Addr × Obj)} (I : Inv X pins σ H s) (h : ∀ p ∈ pins', s.heap.get? p.1 = some p.2 ∧ H p.1 = none ∧ p.1 ≠ X.env.locals ∧ p.1 ∉ X.fs ∧ ∀ v, p.2.data ≠ .cell v) : Inv X pins' σ H s :=
  ⟨I.ok, I.os, I.bare, I.base, I.loc, I.cell, I.free, I.freeC, fun p hp => (List.mem_append.mp hp).elim (fun z => I.pin p (List.mem_append_left _ z)) (h p), I.hok, I.len⟩

theorem nodup_ix {N : List Str} (hN : N.Nodup) {i j : Nat} {x : Str} (a : N[i]? = some x) (b : N[j]? = some x) : i = j := by
  obtain ⟨h1, e1⟩ := List.getElem?_eq_some_iff.mp a
  obtain ⟨h2, e2⟩ := List.getElem?_eq_some_iff.mp b
  exact (List.getElem_inj hN).mp (e1.trans e2.symm)

/-- a name is stored; what changed -/
theorem store_ok2 {M : Model} {A : Around} {E : Value → Shared → Prop} {i : Nat} {x : Str} {v : V} {u : Value} {Q : Unit → Shared → Prop} (I : Inv X pins σ H s) (hN : X.N.Nodup) (hi : X.N[i]? = some x) (hx : Loc X.env.scope x) (r : RelV v u)
    (h : ∀ s', Inv X pins (σ.set i (some v)) H s' → (∃ a, Heap.SameBut a s.heap s'.heap ∧ (a = X.env.locals ∨ X.env.cells.lookup x = some a)) → Q () s') (hf : X.fn x = true ∨ X.env.scope.names.lookup x = some .local := by first | exact .inl rfl | exact .inr rfl | assumption) : wpAny M A (storeName X.env x u) Q E s := by
  obtain ⟨m, hn, hl⟩ := id I.loc
  have hcls : (X.env.scope.kind == .class || (X.env.scope.kind == .module && X.env.locals != X.env.globals)) = false := by rw [I.ok.kind]; rfl
  have hiσ : i < σ.length := by rw [I.len]; exact (List.getElem?_eq_some_iff.mp hi).1
  have cne := I.cne
  have tracked : ∀ {a : Addr} {h' : Heap}, (∃ o, s.heap.get? a = some o ∧ H a = none) → Heap.SameBut a s.heap h' → HOk X.prog X.w H h' := fun {a h'} ha hs b ob e => by
    obtain ⟨_, _, hfree⟩ := ha
    refine (I.hok b ob e).stay (fun c w' hc q => (hs.2 c ?_).trans q) (fun _ q => q) fun _ _ q => q
    rintro rfl
    rcases hc with rfl | hc
    · rw [hfree] at e; cases e
    · rw [hfree] at hc; cases hc
  rcases hx with hk | hk
  · refine wpAny_storeName_local hk hn (fun h' hn' hs => ?_) hcls
    obtain ⟨oL, _, _, hoL, _⟩ := id hn
    refine h _ ⟨I.ok, I.os, I.bare, ⟨fun b o e n hb hx => ?_, fun b o e n hb hx => ?_, I.base.free, fun b o e hx => ?_, I.base.tups, I.base.frzs, I.base.tbls⟩, ⟨_, hn', fun j y v' e1 e2 e3 => ?_⟩, fun y c e => ?_, I.free, I.freeC, fun p hp => ?_, tracked ⟨oL, hoL, I.free⟩ hs, by simpa using I.len⟩ ⟨_, hs, .inl rfl⟩
    · exact (hs.2 b (Nat.ne_of_lt (Nat.lt_of_lt_of_le (Heap.lt_size e) I.ok.above))).trans (I.base.keep b o e n hb hx)
    · obtain ⟨sl, e1⟩ := I.base.slot b o e n hb hx
      exact ⟨sl, (hs.2 b (Nat.ne_of_lt (Nat.lt_of_lt_of_le (Heap.lt_size e) I.ok.above))).trans e1⟩
    · obtain ⟨o', e1⟩ := I.base.there b o e hx
      exact ⟨o', (hs.2 b (Nat.ne_of_lt (Nat.lt_of_lt_of_le (Heap.lt_size e) I.ok.above))).trans e1⟩
    · by_cases hj : j = i
      · subst hj
        rw [hi] at e1; cases e1
        rw [List.getElem?_set_self hiσ] at e2
        cases e2
        exact ⟨u, r, .inl ⟨hk, by simp⟩⟩
      · rw [List.getElem?_set_ne (Ne.symm hj)] at e2
        obtain ⟨u', r', q⟩ := hl j y v' e1 e2 e3
        refine ⟨u', r', ?_⟩
        rcases q with ⟨k, e⟩ | ⟨k, c, e, z⟩
        · refine .inl ⟨k, ?_⟩
          have : y ≠ x := fun e => hj (nodup_ix hN e1 (e ▸ hi))
          simp [this, e]
        · exact .inr ⟨k, c, e, z.sameBut hs (cne y c e)⟩
    · obtain ⟨w', z⟩ := I.cell y c e
      exact ⟨w', z.sameBut hs (cne y c e)⟩
    · obtain ⟨e, n, ne, nf, d⟩ := I.pin p hp
      exact ⟨(hs.2 p.1 ne).trans e, n, ne, nf, d⟩
  · have hfn : X.fn x = true := by
      rcases hf with z | z
      · exact z
      · rw [z] at hk; cases hk
    obtain ⟨c, hc⟩ := I.ok.has x (.inl hk)
    obtain ⟨w', z⟩ := I.cell x c hc
    refine wpAny_storeName_cell I.ok.kind hk hc z (fun h' hc' hs => ?_)
    obtain ⟨oc, hoc, hocd⟩ := id z
    refine h { s with heap := h' } ⟨I.ok, I.os, I.bare, ⟨fun b o e n hb hx => ?_, fun b o e n hb hx => ?_, I.base.free, fun b o e hx => ?_, I.base.tups, I.base.frzs, I.base.tbls⟩, ⟨m, hn.sameBut hs (Ne.symm (cne x c hc)), fun j y v' e1 e2 e3 => ?_⟩, fun y c' e => ?_, I.free, I.freeC, fun p hp => ?_, tracked ⟨oc, hoc, I.freeC x c hc⟩ hs, by simpa using I.len⟩ ⟨c, hs, .inr hc⟩
    · exact (hs.2 b (Nat.ne_of_lt (Nat.lt_of_lt_of_le (Heap.lt_size e) (I.ok.cab x c hfn hc)))).trans (I.base.keep b o e n hb hx)
    · obtain ⟨sl, e1⟩ := I.base.slot b o e n hb hx
      exact ⟨sl, (hs.2 b (Nat.ne_of_lt (Nat.lt_of_lt_of_le (Heap.lt_size e) (I.ok.cab x c hfn hc)))).trans e1⟩
    · obtain ⟨o', e1⟩ := I.base.there b o e hx
      exact ⟨o', (hs.2 b (Nat.ne_of_lt (Nat.lt_of_lt_of_le (Heap.lt_size e) (I.ok.cab x c hfn hc)))).trans e1⟩
    · by_cases hj : j = i
      · subst hj
        rw [hi] at e1; cases e1
        rw [List.getElem?_set_self hiσ] at e2
        cases e2
        exact ⟨u, r, .inr ⟨.inl hk, c, hc, hc'⟩⟩
      · rw [List.getElem?_set_ne (Ne.symm hj)] at e2
        obtain ⟨u', r', q⟩ := hl j y v' e1 e2 e3
        refine ⟨u', r', ?_⟩
        rcases q with q | ⟨k, c', e, z'⟩
        · exact .inl q
        · refine .inr ⟨k, c', e, z'.sameBut hs ?_⟩
          rintro rfl
          exact hj (nodup_ix hN e1 (I.ok.inj _ _ _ e hc ▸ hi))
    · by_cases hcc : c' = c
      · subst hcc; exact ⟨_, hc'⟩
      · obtain ⟨w2, z2⟩ := I.cell y c' e
        exact ⟨w2, z2.sameBut hs hcc⟩
    · obtain ⟨e, n, ne, nf, d⟩ := I.pin p hp
      refine ⟨(hs.2 p.1 ?_).trans e, n, ne, nf, d⟩
      intro q
      rw [q, hoc] at e
      have q' : oc = p.2 := Option.some.inj e
      exact d w' (by rw [← q']; exact hocd)
theorem store_ok {M : Model} {A : Around} {E : Value → Shared → Prop} {i : Nat} {x : Str} {v : V} {u : Value} {Q : Unit → Shared → Prop} (I : Inv X pins σ H s) (hN : X.N.Nodup) (hi : X.N[i]? = some x) (hx : Loc X.env.scope x) (r : RelV v u)
    (h : ∀ s', Inv X pins (σ.set i (some v)) H s' → Q () s') (hf : X.fn x = true ∨ X.env.scope.names.lookup x = some .local := by first | exact .inl rfl | exact .inr rfl | assumption) : wpAny M A (storeName X.env x u) Q E s :=
  store_ok2 I hN hi hx r (fun s' I' _ => h s' I') hf
/-- behind a call or a block, the state as it is -/
theorem Inv.call' {s' : Shared} {ch : List Addr} (I : Inv X pins σ H s) (ho : s'.os = s.os) (u : Un (frs X.stack) ch H H' s.heap s'.heap) (hok : HOk X.prog X.w H' s'.heap) (hg : AllBare s'.gens)
    (hch : ∀ b ∈ ch, (b ∈ X.ex ∨ X.s₀.heap.objs.size ≤ b) ∧ b ≠ X.env.locals ∧ (∀ x c, X.env.cells.lookup x = some c → c ≠ b) ∧ ∀ p ∈ X.pn ++ pins, p.1 ≠ b) : Inv X pins σ H' s' := by
  obtain ⟨h', g', d', t', o'⟩ := s'
  have e : o' = s.os := ho
  subst e
  exact I.call (g' := g') (t' := t') (d' := d') u hok hg hch
end

/-! ### the judgements -/
/-- an exception: its class, its own dict's address (where it has one), the abstract heap behind it -/
abbrev XK := Value → Option Addr → Hp → Prop
abbrev St := List (Option V)
abbrev VK := V → Hp → Prop
/-- an expression's reading; a test's; an argument list's -/
abbrev TE := St → Hp → VK → Prop
abbrev TT := St → Hp → (Bool → Hp → Prop) → Prop
abbrev TA := St → Hp → (List V → Hp → Prop) → Prop
/-- what is wanted behind a statement -/
structure Ends where
  nx : St → Hp → Prop
  rt : VK
  bk : St → Hp → Prop := fun _ _ => False
  ct : St → Hp → Prop := fun _ _ => False
abbrev TS := Ends → St → Hp → Prop

def EP (X : Cx) (pins : List (Addr × Obj)) (σ : St) (Q : VK) (u : Value) (s' : Shared) : Prop := ∃ v H', Inv X pins σ H' s' ∧ RelV v u ∧ Q v H'
def TP (X : Cx) (pins : List (Addr × Obj)) (σ : St) (Q : Bool → Hp → Prop) (b : Bool) (s' : Shared) : Prop := ∃ H', Inv X pins σ H' s' ∧ Q b H'
def AP (X : Cx) (pins : List (Addr × Obj)) (σ : St) (Q : List V → Hp → Prop) (us : List Value) (s' : Shared) : Prop := ∃ vs H', Inv X pins σ H' s' ∧ Vals vs us ∧ Q vs H'
def SP (X : Cx) (pins : List (Addr × Obj)) (D : Ends) (f : Flow) (s' : Shared) : Prop :=
  match f with
  | .next => ∃ σ' H', Inv X pins σ' H' s' ∧ D.nx σ' H'
  | .brk => ∃ σ' H', Inv X pins σ' H' s' ∧ D.bk σ' H'
  | .cont => ∃ σ' H', Inv X pins σ' H' s' ∧ D.ct σ' H'
  | .ret u => ∃ v σ' H', Inv X pins σ' H' s' ∧ RelV v u ∧ D.rt v H'

def PE (X : Cx) (e : Expr) (t : TE) : Prop :=
  ∀ (pins : List (Addr × Obj)) (s : Shared) (σ : St) (H : Hp) (Q : VK), Inv X pins σ H s → t σ H Q → wpAny (model X.prog X.w) X.A (eval e X.env) (EP X pins σ Q) X.xe s
def PT (X : Cx) (e : Expr) (t : TT) : Prop :=
  ∀ (pins : List (Addr × Obj)) (s : Shared) (σ : St) (H : Hp) (Q : Bool → Hp → Prop), Inv X pins σ H s → t σ H Q → wpAny (model X.prog X.w) X.A (isTrue e X.env (eval e X.env)) (TP X pins σ Q) X.xe s
/-- a test whatever its 'whole' is (and, or) -/
def PW (X : Cx) (e : Expr) (t : TT) : Prop :=
  ∀ (whole : Sem Value) (pins : List (Addr × Obj)) (s : Shared) (σ : St) (H : Hp) (Q : Bool → Hp → Prop), Inv X pins σ H s → t σ H Q → wpAny (model X.prog X.w) X.A (isTrue e X.env whole) (TP X pins σ Q) X.xe s
theorem PW.pt {X : Cx} {e : Expr} {t : TT} (h : PW X e t) : PT X e t := h _
/-- an argument list (no star), from the left -/
def PA (X : Cx) (es : List Expr) (t : TA) : Prop :=
  ∀ (pos : Pos) (pins : List (Addr × Obj)) (s : Shared) (σ : St) (H : Hp) (Q : List V → Hp → Prop), Inv X pins σ H s → t σ H Q → wpAny (model X.prog X.w) X.A (spliced (backTo pos (starEach es X.env))) (AP X pins σ Q) X.xe s
def PS (X : Cx) (st : Stmt) (t : TS) : Prop :=
  ∀ (pins : List (Addr × Obj)) (s : Shared) (σ : St) (H : Hp) (D : Ends), Inv X pins σ H s → t D σ H → wpAny (model X.prog X.w) X.A (exec st X.env) (SP X pins D) X.xe s
def PSs (X : Cx) (st : List Stmt) (t : TS) : Prop :=
  ∀ (pins : List (Addr × Obj)) (s : Shared) (σ : St) (H : Hp) (D : Ends), Inv X pins σ H s → t D σ H → wpAny (model X.prog X.w) X.A (execs st X.env) (SP X pins D) X.xe s
/-- weaken the end -/
theorem thn {α : Type} {t : Sem α} {Q Q' : α → Shared → Prop} {M : Model} {A : Around} {E : Value → Shared → Prop} {s : Shared} (h : wpAny M A t Q E s) (hQ : ∀ a s, Q a s → Q' a s) : wpAny M A t Q' E s := wpAny_mono h hQ fun _ _ x => x
end L2

namespace L2
open PySem PySem.Spec PyProof.Rows
section
variable {X : Cx}

/-! ### names and constants -/
def tVar (i : Nat) : TE := fun σ H Q => ∃ v, σ[i]? = some (some v) ∧ Q v H
def tC (v : V) : TE := fun _ H Q => Q v H
theorem pe_var {i : Nat} {x : Str} {pos : Pos} (hN : X.N[i]? = some x) (hv : Vis X.env.scope x) (hd : (x == ("__debug__" : Str)) = false := by decide) (hcd : (x == ("__classdict__" : Str)) = false := by decide) : PE X (.Name x pos) (tVar i) := by
  intro pins s σ H Q I h
  obtain ⟨v, e, h⟩ := h
  obtain ⟨m, hn, hl⟩ := I.loc
  obtain ⟨u, r, l⟩ := hl i x v hN e hv
  have fin : EP X pins σ Q u s := ⟨v, H, I, r, h⟩
  rcases l with ⟨hk, hm⟩ | ⟨hk, c, hc, hcell⟩
  · exact wpAny_Name (wpAny_loadName_local I.ok.kind hk hn hm fin) hd
  · rcases hk with hk | hk
    · exact wpAny_Name (wpAny_loadName_cell I.ok.kind hk hc hcell fin) hd
    · exact wpAny_Name (wpAny_loadName_free I.ok.kind hk hc hcell fin hcd) hd
theorem pe_int {i j pos} : PE X (.Constant (.int i) j pos) (tC (.int i)) := fun _ _ _ H _ I h => wpAny_Constant_int ⟨.int i, H, I.tok _, ⟨_, rfl⟩, h⟩
theorem pe_bl {b j pos} : PE X (.Constant (.bool b) j pos) (tC (.bl b)) := fun _ _ _ H _ I h => Constant_bool ⟨.bl b, H, I, rfl, h⟩
theorem pe_non {j pos} : PE X (.Constant .none j pos) (tC .non) := fun _ _ _ H _ I h => Constant_none ⟨.non, H, I, rfl, h⟩
theorem pe_str {x j pos} : PE X (.Constant (.str x) j pos) (tC (.str x)) := fun _ _ _ H _ I h => Calls.Constant_str ⟨.str x, H, I.tok _, ⟨_, rfl⟩, h⟩

/-- a global name of the def -/
def Gl (X : Cx) (x : Str) : Prop := X.env.kindOf x = some .globalImplicit
theorem ld_glob {E : Value → Shared → Prop} {pins : List (Addr × Obj)} {s : Shared} {σ : St} {H : Hp} {x : Str} {u : Value} {pos : Pos} {Q : Value → Shared → Prop} (I : Inv X pins σ H s) (hg : Gl X x) (hm : X.mg x = some u) (h : Q u s)
    (hd : (x == ("__debug__" : Str)) = false := by decide) : wpAny (model X.prog X.w) X.A (eval (.Name x pos) X.env) Q E s :=
  Calls.Name_function_global I.ok.kind hg (Calls.loadGlobal_global (by rw [I.ok.glob]; exact I.mod.glob.keeps I.bk) hm h) hd
theorem ld_blt {E : Value → Shared → Prop} {pins : List (Addr × Obj)} {s : Shared} {σ : St} {H : Hp} {x : Str} {u : Value} {pos : Pos} {Q : Value → Shared → Prop} (I : Inv X pins σ H s) (hg : Gl X x) (hm : X.mg x = none) (hv : bootBuiltins x = some u) (h : Q u s)
    (hn : x ≠ "__name__" := by decide) (hd : (x == ("__debug__" : Str)) = false := by decide) : wpAny (model X.prog X.w) X.A (eval (.Name x pos) X.env) Q E s := by
  obtain ⟨mb, h1, h2⟩ := I.mod.blt
  exact Calls.Name_function_global I.ok.kind hg (Calls.loadGlobal_builtin (by rw [I.ok.glob]; exact I.mod.glob.keeps I.bk) hm (by rw [I.ok.blt]; exact h1.keeps I.bk) ((h2 x hn).trans hv) h) hd
/-- a module's constant, a class, a function, as a value -/
theorem pe_glob {x : Str} {v : V} {u : Value} {pos : Pos} (hg : Gl X x) (hm : X.mg x = some u) (r : RelV v u) (hd : (x == ("__debug__" : Str)) = false := by decide) : PE X (.Name x pos) (tC v) :=
  fun _ _ _ H _ I h => ld_glob I hg hm ⟨v, H, I, r, h⟩ hd
theorem pe_bltn {x : Str} {v : V} {u : Value} {pos : Pos} (hg : Gl X x) (hm : X.mg x = none) (hv : bootBuiltins x = some u) (r : RelV v u) (hn : x ≠ "__name__" := by decide) (hd : (x == ("__debug__" : Str)) = false := by decide) : PE X (.Name x pos) (tC v) :=
  fun _ _ _ H _ I h => ld_blt I hg hm hv ⟨v, H, I, r, h⟩ hn hd

/-! ### arithmetic -/
variable {a b : Expr} {ta tb : TE} {pos : Pos}
/-! ### comparisons -/
def PC (X : Cx) (op : CmpOp) (a b : Expr) (t : TE) : Prop :=
  ∀ (pins : List (Addr × Obj)) (s : Shared) (σ : St) (H : Hp) (Q : VK), Inv X pins σ H s → t σ H Q →
    wpAny (model X.prog X.w) X.A (eval a X.env) (fun v s₁ => wpAny (model X.prog X.w) X.A (eval b X.env) (fun u s₂ => wpAny (model X.prog X.w) X.A (compareOp op v u) (EP X pins σ Q) X.xe s₂) X.xe s₁) X.xe s
/-- a comparison as a value, as a test -/
def tB (t : TE) : TT := fun σ H Q => t σ H fun x H1 => ∃ c, x = .bl c ∧ Q c H1
theorem pt_cmp {op : CmpOp} {t : TE} (h : PC X op a b t) (h1 : behindInMarks op b = false := by first | exact nobehind _ (by decide) (by decide) | rfl) : PT X (.Compare a [op] [b] pos) (tB t) := by
  intro pins s σ H Q I hw
  refine wpAny_isTrue_Compare1 (thn (h pins s σ H _ I hw) fun v s1 h1 => thn h1 fun u s2 h2 => thn h2 fun c s3 ⟨x, H1, I1, r1, q1⟩ => ?_) h1
  obtain ⟨d, rfl, q⟩ := q1
  cases r1
  exact wpAny_truthy_bool ⟨H1, I1, q⟩
/-- an expression whose value is a bool, as a test -/
theorem pt_val {e : Expr} {t : TE} (h : PE X e t) (he : ∀ whole, isTrue e X.env whole = (do let v ← whole; standAt e.pos; holding [v] (truthy v)) := by intro _; rfl) : PT X e (tB t) := by
  intro pins s σ H Q I hw
  refine isTrue_plain (thn (h pins s σ H _ I hw) fun v s1 ⟨x, H1, I1, r1, q1⟩ => ?_) (he _)
  obtain ⟨d, rfl, q⟩ := q1
  cases r1
  exact wpAny_truthy_bool ⟨H1, I1, q⟩

/-! ### and, or, not -/
variable {tA tB' : TT} {rest : List Expr}
def tAnd (t u : TT) : TT := fun σ H Q => t σ H fun c H1 => if c = true then u σ H1 Q else Q false H1
def tOr (t u : TT) : TT := fun σ H Q => t σ H fun c H1 => if c = true then Q true H1 else u σ H1 Q
def tNot (t : TT) : TT := fun σ H Q => t σ H fun c H1 => Q (!c) H1
theorem pw_and1 (ha : PT X a tA) : PW X (.BoolOp .And [a] pos) tA := by
  intro wh pins s σ H Q I h
  refine isTrue_and (thn (ha pins s σ H Q I h) fun c s1 e => ?_)
  cases c with
  | true => exact isTrue_and_nil e
  | false => exact e
theorem pw_or1 (ha : PT X a tA) : PW X (.BoolOp .Or [a] pos) tA := by
  intro wh pins s σ H Q I h
  refine isTrue_or (thn (ha pins s σ H Q I h) fun c s1 e => ?_)
  cases c with
  | false => exact isTrue_or_nil e
  | true => exact e
theorem pw_and (ha : PT X a tA) (hb : PW X (.BoolOp .And (b :: rest) pos) tB') : PW X (.BoolOp .And (a :: b :: rest) pos) (tAnd tA tB') := by
  intro wh pins s σ H Q I h
  refine isTrue_and (thn (ha pins s σ H _ I h) fun c s1 ⟨H1, I1, q1⟩ => ?_)
  cases c with
  | true => exact hb wh pins s1 σ H1 Q I1 q1
  | false => exact ⟨H1, I1, q1⟩
theorem pw_or (ha : PT X a tA) (hb : PW X (.BoolOp .Or (b :: rest) pos) tB') : PW X (.BoolOp .Or (a :: b :: rest) pos) (tOr tA tB') := by
  intro wh pins s σ H Q I h
  refine isTrue_or (thn (ha pins s σ H _ I h) fun c s1 ⟨H1, I1, q1⟩ => ?_)
  cases c with
  | true => exact ⟨H1, I1, q1⟩
  | false => exact hb wh pins s1 σ H1 Q I1 q1
theorem pt_not (ha : PT X a tA) : PT X (.UnaryOp .Not a pos) (tNot tA) := by
  intro pins s σ H Q I h
  exact isTrue_not (ha pins s σ H (fun c H1 => Q (!c) H1) I h)
/-- .. as values (bools) -/
def tAndV (ta tb : TE) : TE := fun σ H Q => ta σ H fun x H1 => ∃ c, x = .bl c ∧ if c = true then tb σ H1 Q else Q (.bl false) H1
def tNotV (ta : TE) : TE := fun σ H Q => ta σ H fun x H1 => ∃ c, x = .bl c ∧ Q (.bl (!c)) H1
theorem pe_one {op} {t : TE} (h : PE X a t) : PE X (.BoolOp op [a] pos) t := fun pins s σ H Q I hw => BoolOp_one (h pins s σ H Q I hw)
theorem pe_and (ha : PE X a ta) (hb : PE X (.BoolOp .And (b :: rest) pos) tb) : PE X (.BoolOp .And (a :: b :: rest) pos) (tAndV ta tb) := by
  intro pins s σ H Q I h
  refine BoolOp_and (thn (ha pins s σ H _ I h) fun v s1 ⟨x, H1, I1, r1, q1⟩ => ?_)
  obtain ⟨c, rfl, q1⟩ := q1
  cases r1
  refine wpAny_truthy_bool ?_
  cases c with
  | true => exact hb pins s1 σ H1 Q I1 q1
  | false => exact ⟨.bl false, H1, I1, rfl, q1⟩
theorem pe_not (ha : PE X a ta) : PE X (.UnaryOp .Not a pos) (tNotV ta) := by
  intro pins s σ H Q I h
  refine UnaryOp_ (thn (ha pins s σ H _ I h) fun v s1 ⟨x, H1, I1, r1, q1⟩ => ?_)
  obtain ⟨c, rfl, q1⟩ := q1
  cases r1
  exact not_of (wpAny_truthy_bool ⟨.bl (!c), H1, I1, rfl, q1⟩)
end
end L2

namespace L2
open PySem PySem.Spec PyProof.Rows

/-! ### a list, a tuple that is read: tracked, frozen, or an object of the module -/
def SqL (K : PySem.W.Frag) (H : Hp) (a : Addr) (xs : List V) : Prop :=
  Rd H a (.lst xs) ∨
    ∃ (o : Obj) (its : Array Value) (n : Nat), K.lookup a = some o ∧ o.cls = .type "list" ∧ o.dict = none ∧ o.data = .seq its n ∧ its.size ≤ sizeLine ∧ Vals xs its.toList
def SqT (K : PySem.W.Frag) (H : Hp) (a : Addr) (xs : List V) : Prop :=
  Rd H a (.tup xs) ∨
    ∃ (o : Obj) (its : Array Value) (n : Nat), K.lookup a = some o ∧ o.cls = .type "tuple" ∧ o.data = .seq its n ∧ its.size ≤ sizeLine ∧ Vals xs its.toList
def absV : Value → Option V
  | .none => some .non
  | .bool b => some (.bl b)
  | .int i _ => some (.int i)
  | .str x _ => some (.str x)
  | .bytes b _ => some (.byt b)
  | .float b _ => some (.flt b)
  | .ref a => some (.ref a)
  | .type n => some (.ty n)
  | _ => none
theorem RelV.abs {x : V} {u : Value} (r : RelV x u) : absV u = some x := by
  cases x with
  | non => cases r; rfl
  | bl _ => cases r; rfl
  | int _ => obtain ⟨t, rfl⟩ := r; rfl
  | str _ => obtain ⟨t, rfl⟩ := r; rfl
  | byt _ => obtain ⟨t, rfl⟩ := r; rfl
  | flt _ => obtain ⟨t, rfl⟩ := r; rfl
  | ref _ => cases r; rfl
  | ty _ => cases r; rfl
theorem RelV.inj {x y : V} {u : Value} (r : RelV x u) (q : RelV y u) : x = y := Option.some.inj (r.abs.symm.trans q.abs)
theorem Vals.inj : ∀ {xs ys : List V} {us : List Value}, Vals xs us → Vals ys us → xs = ys
  | _, _, _, .nil, .nil => rfl
  | _, _, _, .cons r t, .cons r' t' => by rw [r.inj r', Vals.inj t t']
section
variable {X : Cx} {pins : List (Addr × Obj)} {σ : St} {H : Hp} {s : Shared} {a : Addr} {xs ys : List V}
theorem SqL.of {K : PySem.W.Frag} (h : H a = some (.lst xs)) : SqL K H a xs := .inl (.inl h)
theorem SqT.of {K : PySem.W.Frag} (h : H a = some (.tup xs)) : SqT K H a xs := .inl (.inl h)
theorem Inv.list (I : Inv X pins σ H s) (h : SqL X.K H a xs) : ∃ its : List Value, Vals xs its ∧ PlainL s.heap a its.toArray ∧ xs.length ≤ sizeLine := by
  rcases h with h | ⟨o, its, n, hk, hc, hd, hs, hz, r⟩
  · obtain ⟨z, its, n, r, e⟩ := h.ok I.hok
    exact ⟨its, r, ⟨_, n, e, rfl, rfl, rfl⟩, z⟩
  · refine ⟨its.toList, r, ⟨o, n, I.kIn a o hk, hc, hd, by simpa using hs⟩, ?_⟩
    have e := r.length
    simp only [Array.length_toList] at e
    omega
theorem Inv.tuple (I : Inv X pins σ H s) (h : SqT X.K H a xs) : ∃ its : List Value, Vals xs its ∧ IsTup s.heap a its.toArray ∧ xs.length ≤ sizeLine := by
  rcases h with h | ⟨o, its, n, hk, hc, hs, hz, r⟩
  · obtain ⟨z, its, r, p⟩ := h.ok I.hok
    exact ⟨its, r, p, z⟩
  · refine ⟨its.toList, r, ⟨o, I.kIn a o hk, hc, n, by simpa using hs⟩, ?_⟩
    have e := r.length
    simp only [Array.length_toList] at e
    omega
theorem Inv.list_inj (I : Inv X pins σ H s) (h : SqL X.K H a xs) (h' : SqL X.K H a ys) : xs = ys := by
  obtain ⟨its, r, ⟨o, n, e, _, _, d⟩, _⟩ := I.list h
  obtain ⟨its', r', ⟨o', n', e', _, _, d'⟩, _⟩ := I.list h'
  rw [e] at e'; cases e'
  rw [d] at d'
  injection d' with d1 _
  have : its = its' := by simpa using congrArg Array.toList d1
  subst this
  exact r.inj r'
end

/-! ### another wish about exceptions -/
abbrev Cx.wish (X : Cx) (E : Value → Shared → Prop) : Cx := { X with xe := E }
/-- no exception leaves -/
abbrev Cx.nox (X : Cx) : Cx := X.wish fun _ _ => False
theorem Cx.Ok.wish {X : Cx} (ok : X.Ok) (E : Value → Shared → Prop) : (X.wish E).Ok :=
  ⟨ok.mod, ok.kind, ok.glob, ok.blt, ok.above, ok.inj, ok.has, ok.cab, ok.hd, ok.frames, ok.stk, ok.exf, ok.bs, ok.bsz, ok.noex, ok.exfs, ok.funs, ok.frf⟩
theorem Cx.Ok.unwish {X : Cx} {E : Value → Shared → Prop} (ok : (X.wish E).Ok) : X.Ok :=
  ⟨ok.mod, ok.kind, ok.glob, ok.blt, ok.above, ok.inj, ok.has, ok.cab, ok.hd, ok.frames, ok.stk, ok.exf, ok.bs, ok.bsz, ok.noex, ok.exfs, ok.funs, ok.frf⟩
section
variable {X : Cx} {pins : List (Addr × Obj)} {σ : St} {H : Hp} {s : Shared} {E : Value → Shared → Prop}
theorem Inv.wish (I : Inv X pins σ H s) (E : Value → Shared → Prop) : Inv (X.wish E) pins σ H s := ⟨I.ok.wish E, I.os, I.bare, I.base, I.loc, I.cell, I.free, I.freeC, I.pin, I.hok, I.len⟩
theorem Inv.unwish (I : Inv (X.wish E) pins σ H s) : Inv X pins σ H s := ⟨I.ok.unwish, I.os, I.bare, I.base, I.loc, I.cell, I.free, I.freeC, I.pin, I.hok, I.len⟩
theorem SP.unwish {D : Ends} {f : Flow} {s' : Shared} (h : SP (X.wish E) pins D f s') : SP X pins D f s' := by
  cases f with
  | next => obtain ⟨σ', H', I, q⟩ := h; exact ⟨σ', H', I.unwish, q⟩
  | brk => obtain ⟨σ', H', I, q⟩ := h; exact ⟨σ', H', I.unwish, q⟩
  | cont => obtain ⟨σ', H', I, q⟩ := h; exact ⟨σ', H', I.unwish, q⟩
  | ret u => obtain ⟨v, σ', H', I, r, q⟩ := h; exact ⟨v, σ', H', I.unwish, r, q⟩
theorem PSs.nox {st : List Stmt} {t : TS} (h : PSs X.nox st t) : PSs X st t := fun pins s σ H D I hw =>
  wpAny_mono (h pins s σ H D (I.wish _) hw) (fun _ _ q => q.unwish) fun _ _ z => False.elim z
end

/-! ### blocks and small statements -/
section
variable {X : Cx} {st : Stmt} {rest : List Stmt} {t u : TS} {e : Expr} {te : TE} {pos : Pos}
def tNext : TS := fun D σ H => D.nx σ H
def tSeq (t u : TS) : TS := fun D σ H => t { D with nx := u D } σ H
theorem pss_nil : PSs X [] tNext := fun _ _ σ H _ I h => wpAny_execs_nil ⟨σ, H, I, h⟩
theorem pss_cons (h1 : PS X st t) (h2 : PSs X rest u) : PSs X (st :: rest) (tSeq t u) := by
  intro pins s σ H D I h
  refine wpAny_execs_cons (thn (h1 pins s σ H { D with nx := u D } I h) fun f s1 q => ?_)
  cases f with
  | next =>
    obtain ⟨σ', H', I', q⟩ := q
    exact h2 pins s1 σ' H' D I' q
  | ret v => exact q
  | brk => exact q
  | cont => exact q
/-- in a def's body nothing is shown -/
theorem Inv.quiet {pins : List (Addr × Obj)} {σ : St} {H : Hp} {s : Shared} (I : Inv X pins σ H s) : interactive X.env = false := by simp [interactive, I.ok.kind]
/-- an expression whose value is dropped -/
def tDrop (te : TE) : TS := fun D σ H => te σ H fun _ H1 => D.nx σ H1
theorem ps_expr (he : PE X e te) (hs : swapsWith e none pos.line X.env = pure false := by rfl) : PS X (.Expr e pos) (tDrop te) := by
  intro pins s σ H D I h
  exact wpAny_Expr_any (thn (he pins s σ H _ I h) fun v s1 ⟨x, H1, I1, r1, q1⟩ => ⟨σ, H1, I1, q1⟩) I.quiet hs
def tRet (te : TE) : TS := fun D σ H => te σ H D.rt
theorem ps_ret (he : PE X e te) : PS X (.Return (some e) pos) (tRet te) := by
  intro pins s σ H D I h
  exact wpAny_Return_some (thn (he pins s σ H _ I h) fun v s1 ⟨x, H1, I1, r1, q1⟩ => ⟨x, σ, H1, I1, r1, q1⟩)
def tIfS (c : TT) (t u : TS) : TS := fun D σ H => c σ H fun b H1 => if b = true then t D σ H1 else u D σ H1
theorem ps_if {c : Expr} {a b : List Stmt} {tc : TT} (hc : PT X c tc) (ha : PSs X a t) (hb : PSs X b u) : PS X (.If c a b pos) (tIfS tc t u) := by
  intro pins s σ H D I h
  refine wpAny_If (thn (hc pins s σ H _ I h) fun d s1 ⟨H1, I1, q1⟩ => ?_)
  cases d with
  | true => exact ha pins s1 σ H1 D I1 q1
  | false => exact hb pins s1 σ H1 D I1 q1
/-- code that the proof never comes to -/
def tNever : TS := fun _ _ _ => False
theorem pss_never {sts : List Stmt} : PSs X sts tNever := fun _ _ _ _ _ _ h => h.elim
end

/-! ### targets -/
abbrev TG := V → St → Hp → (St → Hp → Prop) → Prop
def PG (X : Cx) (target : Expr) (t : TG) : Prop :=
  ∀ (pins : List (Addr × Obj)) (s : Shared) (σ : St) (H : Hp) (v : V) (u : Value) (Q : St → Hp → Prop), Inv X pins σ H s → RelV v u → t v σ H Q →
    wpAny (model X.prog X.w) X.A (assign target X.env u) (fun _ s' => ∃ σ' H', Inv X pins σ' H' s' ∧ Q σ' H') X.xe s
section
variable {X : Cx} {pos : Pos}
def gName (i : Nat) : TG := fun v σ H Q => Q (σ.set i (some v)) H
theorem pg_name {i : Nat} {x : Str} (hN : X.N.Nodup) (hi : X.N[i]? = some x) (hx : Loc X.env.scope x) (hf : X.fn x = true ∨ X.env.scope.names.lookup x = some .local := by first | exact .inl rfl | exact .inr rfl | assumption) : PG X (.Name x pos) (gName i) := by
  intro pins s σ H v u Q I r h
  exact wpAny_assign_Name (store_ok I hN hi hx r (fun s' I' => ⟨_, H, I', h⟩) hf)
/-- target = value -/
def tAsg (te : TE) (g : TG) : TS := fun D σ H => te σ H fun x H1 => g x σ H1 D.nx
/-- name = value -/
theorem ps_set {i : Nat} {x : Str} {e : Expr} {te : TE} {pos' : Pos} (hN : X.N.Nodup) (hi : X.N[i]? = some x) (hx : Loc X.env.scope x) (he : PE X e te) (hs : swapsWith e (some (.Name x pos')) pos.line X.env = pure false := by rfl) (hf : X.fn x = true ∨ X.env.scope.names.lookup x = some .local := by first | exact .inl rfl | exact .inr rfl | assumption) :
    PS X (.Assign [.Name x pos'] e pos) (tAsg te (gName i)) := by
  intro pins s σ H D I h
  refine wpAny_Assign_Name (thn (he pins s σ H _ I h) fun v s1 ⟨y, H1, I1, r1, q1⟩ => ?_) hs
  exact store_ok I1 hN hi hx r1 (fun s2 I2 => ⟨_, H1, I2, q1⟩) hf
/-- a, b = x, y with plain local names: stored from the right; the pair itself is not tracked (the opening rows as in PyProof/Rows/TupAssign.lean:23) -/
def tPar (i j : Nat) (ta : TA) : TS := fun D σ H => ta σ H fun vs H1 => ∃ v w, vs = [v, w] ∧ D.nx ((σ.set i (some v)).set j (some w)) H1
theorem ps_par {i j : Nat} {x y : Str} {a b : Expr} {ta : TA} {px py pt : Pos} {kt k2 pt2} (hc : X.calm = true) (hN : X.N.Nodup) (hi : X.N[i]? = some x) (hj : X.N[j]? = some y) (hij : i ≠ j)
    (hx : X.env.scope.names.lookup x = some .local) (hy : X.env.scope.names.lookup y = some .local) (ha : PA X [a, b] ta)
    (hw : swappedStores [.Tuple [.Name x px, .Name y py] kt pt] (.Tuple [a, b] k2 pt2) X.env = pure (some [x, y]))
    (hs : swapsWithSole [.Tuple [.Name x px, .Name y py] kt pt] (.Tuple [a, b] k2 pt2) pos.line X.env = pure false := by rfl) :
    PS X (.Assign [.Tuple [.Name x px, .Name y py] kt pt] (.Tuple [a, b] k2 pt2) pos) (tPar i j ta) := by
  intro pins s σ H D I h
  rw [exec_Assign_arm]
  refine wpAny_bind (wpAny_standAt ?_)
  rw [hs]
  refine wpAny_bind (wpAny_pure ?_)
  rw [if_neg (by decide)]
  refine wpAny_bind (Tuple_ (thn (ha _ pins s σ H _ I h) fun us s1 ⟨vs, H1, I1, r1, q1⟩ => ?_))
  obtain ⟨v, w, e1, q1⟩ := q1
  subst e1
  obtain ⟨u1, u2, rfl, rv, rw'⟩ : ∃ u1 u2, us = [u1, u2] ∧ RelV v u1 ∧ RelV w u2 := by
    cases r1 with
    | cons p q =>
      cases q with
      | cons p' q' =>
        cases q'
        exact ⟨_, _, rfl, p, p'⟩
  refine wpAny_newObj_type ?_ (by show 2 ≤ sizeLine; decide)
  have I2 : Inv X pins σ H1 { s1 with heap := s1.heap.push { cls := .type "tuple", data := .seq [u1, u2].toArray } } := I1.kept (t' := s1.toks) fun b o e => Heap.get?_push_of_some _ e
  rw [hw]
  refine wpAny_bind (wpAny_pure ?_)
  show wpAny (model X.prog X.w) X.A (do rule "assign.swapped-stores"; let items ← unpackItems (.ref s1.heap.objs.size) 2 none; assignInOrder [fun v => bindName X.env y v, fun v => bindName X.env x v] items.reverse; pure Flow.next) _ _ _
  refine wpAny_bind (wpAny_rule (wpAny_bind (unpackItems_tuple (items := #[u1, u2]) (I.ok.hd hc) (IsTup.new s1.heap _) fun h' hx' => ?_)))
  have I3 := I2.kept (h' := h') (t' := s1.toks) fun b o e => hx' b o (Nat.ne_of_lt (Heap.lt_size e)) e
  show wpAny _ _ (assignInOrder [fun v => bindName X.env y v, fun v => bindName X.env x v] [u2, u1] >>= fun _ => pure Flow.next) _ _ _
  refine wpAny_bind (assignInOrder_cons (wpAny_bindName (store_ok I3 hN hj (.inl hy) rw' (fun s2 I4 => ?_) (.inr hy))))
  refine assignInOrder_cons (wpAny_bindName (store_ok I4 hN hi (.inl hx) rv (fun s3 I5 => assignInOrder_nil (wpAny_pure ?_)) (.inr hx)))
  rw [List.set_comm _ _ (Ne.symm hij)] at I5
  exact ⟨_, H1, I5, q1⟩
end

/-! ### while -/
section
variable {X : Cx} {pos : Pos}
/-- the invariant W with its measure -/
def tWhile (c : TT) (tb : TS) : TS := fun D σ H => ∃ W : Nat → St → Hp → Prop, (∃ m, W m σ H) ∧ ∀ m σ H, W m σ H →
  c σ H fun b H1 => if b = true then ∃ N : St → Hp → Prop, (∀ σ' H', N σ' H' → ∃ m', m' < m ∧ W m' σ' H') ∧ tb { D with nx := N, ct := N, bk := D.nx } σ H1 else D.nx σ H1
theorem ps_while {c : Expr} {body : List Stmt} {tc : TT} {tb : TS} (hp : PassesOwn (model X.prog X.w) X.A X.env X.xe) (hc : PT X c tc) (hb : PSs X body tb) : PS X (.While c body [] pos) (tWhile tc tb) := by
  intro pins s σ H D I h
  obtain ⟨W, ⟨m0, w0⟩, turn⟩ := h
  refine wpAny_While (codeAny_whileLoop (fun n s' => ∃ σ' H', Inv X pins σ' H' s' ∧ W n σ' H') ?_ m0 ⟨σ, H, I, w0⟩)
  rintro n s1 ⟨σ1, H1, I1, w1⟩
  refine wpAny_passesOwn hp (thn (hc pins s1 σ1 H1 _ I1 (turn n σ1 H1 w1)) fun b s2 ⟨H2, I2, q2⟩ => ?_)
  cases b with
  | true =>
    obtain ⟨N, hN, q2⟩ := q2
    rw [if_pos rfl]
    refine wpAny_passesOwn hp (thn (hb pins s2 σ1 H2 _ I2 q2) fun f s3 q3 => ?_)
    cases f with
    | next =>
      obtain ⟨σ3, H3, I3, n3⟩ := q3
      obtain ⟨m', hm, w3⟩ := hN σ3 H3 n3
      exact ⟨m', hm, σ3, H3, I3, w3⟩
    | cont =>
      obtain ⟨σ3, H3, I3, n3⟩ := q3
      obtain ⟨m', hm, w3⟩ := hN σ3 H3 n3
      exact ⟨m', hm, σ3, H3, I3, w3⟩
    | brk => exact q3
    | ret v => exact q3
  | false =>
    rw [if_neg Bool.false_ne_true]
    exact wpAny_execs_nil ⟨σ1, H2, I2, q2⟩
end

/-! ### what a loop or a comprehension walks -/
/-- at turn i: it yields x (the heap may grow), or it stops -/
structure It where
  go : Nat → Hp → Prop
  yld : Nat → Hp → V → Hp → Prop
  stop : Nat → Hp → Prop
/-- the iterator's own objects may turn: they are not the frame's, not pinned, younger than the entry (or a comprehension's own) -/
def FpOk (X : Cx) (pins : List (Addr × Obj)) (H : Hp) (b : Addr) : Prop :=
  H b = none ∧ b ≠ X.env.locals ∧ b ∉ X.fs ∧ (b ∈ X.ex ∨ X.s₀.heap.objs.size ≤ b) ∧ (∀ x c, X.env.cells.lookup x = some c → c ≠ b) ∧ ∀ p ∈ X.pn ++ pins, p.1 ≠ b
theorem Inv.fpOk {X : Cx} {pins : List (Addr × Obj)} {σ : St} {H H' : Hp} {s : Shared} {b : Addr} (I : Inv X pins σ H s) (hb : s.heap.objs.size ≤ b) (hn : H' b = none) : FpOk X pins H' b := by
  refine ⟨hn, Nat.ne_of_gt (Nat.lt_of_lt_of_le I.lt hb), I.nofs hb, .inr (Nat.le_trans I.sz hb), fun x c e z => ?_, fun p hp z => ?_⟩
  · obtain ⟨v, q⟩ := I.cell x c e
    exact absurd (Nat.lt_of_lt_of_le q.lt (by rw [z]; exact hb)) (Nat.lt_irrefl _)
  · exact absurd (Nat.lt_of_lt_of_le (Heap.lt_size (I.pin p hp).1) (by rw [z]; exact hb)) (Nat.lt_irrefl _)
structure Turn (P : Program) (w : World) (K : PySem.W.Frag) (tg : Expr) (J : It) (fp : List Addr) (it : Addr) (tn : Nat → Heap → Prop) : Prop where
  mem : it ∈ fp
  obj : ∀ i h, tn i h → ∀ b ∈ fp, ∃ o, h.get? b = some o ∧ ∀ v, o.data ≠ .cell v
  keep : ∀ i h h', tn i h → (∀ b ∈ fp, ∀ o, h.get? b = some o → h'.get? b = some o) → tn i h'
  item : ∀ (X : Cx), X.prog = P → X.w = w → X.K = K → X.calm = true → ∀ (i : Nat) (pins : List (Addr × Obj)) (s : Shared) (σ : St) (H : Hp) (E : Value → Shared → Prop), Inv X pins σ H s → (∀ b ∈ fp, FpOk X pins H b) → tn i s.heap → J.go i H →
    wpAny (model P w) X.A (pyNext (.ref it)) (fun r s1 => ∃ u, r = some u ∧
      wpAny (model P w) X.A (letOwnedTupleGo tg (.ref it) u) (fun _ s2 => ∃ x H', Inv X pins σ H' s2 ∧ RelV x u ∧ J.yld i H x H' ∧ tn (i + 1) s2.heap ∧ ∀ b ∈ fp, H' b = none) E s1) E s
  done : ∀ (X : Cx), X.prog = P → X.w = w → X.K = K → X.calm = true → ∀ (i : Nat) (pins : List (Addr × Obj)) (s : Shared) (σ : St) (H : Hp) (E : Value → Shared → Prop), Inv X pins σ H s → (∀ b ∈ fp, FpOk X pins H b) → tn i s.heap → J.stop i H →
    wpAny (model P w) X.A (pyNext (.ref it)) (fun r s1 => r = none ∧ Inv X pins σ H s1) E s
  self : ∀ (A : Around) (i : Nat) (s : Shared) (Q : Value → Shared → Prop) (E : Value → Shared → Prop), tn i s.heap → Q (.ref it) s → wpAny (model P w) A (pyIter (.ref it)) Q E s
abbrev TI := St → Hp → (It → Hp → Prop) → Prop
/-- an iterator has come -/
def PIE (X : Cx) (pins : List (Addr × Obj)) (σ : St) (tg : Expr) (R : It → Hp → Prop) (itv : Value) (s2 : Shared) : Prop :=
  ∃ (it : Addr) (fp : List Addr) (tn : Nat → Heap → Prop) (J : It) (H' : Hp), itv = .ref it ∧ Inv X pins σ H' s2 ∧ Turn X.prog X.w X.K tg J fp it tn ∧ tn 0 s2.heap ∧ (∀ b ∈ fp, FpOk X pins H' b) ∧ R J H'
def PI (X : Cx) (tg iter : Expr) (wi : TI) : Prop :=
  ∀ (pins : List (Addr × Obj)) (s : Shared) (σ : St) (H : Hp) (R : It → Hp → Prop), Inv X pins σ H s → wi σ H R →
    wpAny (model X.prog X.w) X.A (eval iter X.env) (fun v s1 => wpAny (model X.prog X.w) X.A (pyIter v) (PIE X pins σ tg R) X.xe s1) X.xe s

/-- the step ahead of the store is nothing for an iterator that keeps no tuple -/
theorem go_of {M : Model} {A : Around} {E : Value → Shared → Prop} {s : Shared} {tg : Expr} {it : Addr} {u : Value} {o : Obj} {n : String} {vs : Array Value} {Q : Unit → Shared → Prop} (ho : s.heap.get? it = some o) (hc : o.cls = .type n) (hd : o.data = .fields vs)
    (hn : ["enumerate", "zip", "dict_itemiterator", "dict_reverseitemiterator", "odict_iterator", "itertools.zip_longest", "itertools.pairwise"].contains n = false) (hQ : Q () s) : wpAny M A (letOwnedTupleGo tg (.ref it) u) Q E s := by
  unfold letOwnedTupleGo
  cases tg <;> first
    | exact wpAny_pure hQ
    | (cases u <;> first
        | exact wpAny_pure hQ
        | (refine wpAny_bind (wpAny_load ho ?_)
           rw [hc, hd]
           show wpAny M A (if (["enumerate", "zip", "dict_itemiterator", "dict_reverseitemiterator", "odict_iterator", "itertools.zip_longest", "itertools.pairwise"].contains n && vs[0]? == some (rawInt _)) = true then _ else _) Q E s
           rw [if_neg (by intro h; rw [hn, Bool.false_and] at h; cases h)]
           exact wpAny_pure hQ))

/-- the list at a, as it stands at each turn (a loop may append to it) -/
def Itl (K : PySem.W.Frag) (a : Addr) : It :=
  ⟨fun i H => ∃ xs x, SqL K H a xs ∧ xs[i]? = some x, fun i H x H' => H' = H ∧ ∀ xs, SqL K H a xs → xs[i]? = some x, fun i H => ∃ xs, SqL K H a xs ∧ xs.length ≤ i⟩
/-- lo, lo + 1, .. (n of them) -/
def Itr (lo : Int) (n : Nat) : It := ⟨fun i _ => i < n, fun i H x H' => H' = H ∧ x = .int (lo + i), fun i _ => n ≤ i⟩
theorem turn_list {P : Program} {w : World} {K : PySem.W.Frag} {tg : Expr} (a it : Addr) : Turn P w K tg (Itl K a) [it] it (fun i h => h.IsListIter it a i) where
  mem := by simp
  obj := fun i h st b hb => by
    have e : b = it := by simpa using hb
    subst e
    obtain ⟨o, e, c, d⟩ := st
    exact ⟨o, e, fun v z => by rw [d] at z; cases z⟩
  keep := fun i h h' st k => st.at fun o e => k it (by simp) o e
  item := by
    intro X hP hw hK hc i pins s σ H E I hf st hg
    subst hP hw hK
    obtain ⟨xs, x, hq, hx⟩ := hg
    obtain ⟨its, rv, p, hz⟩ := I.list hq
    obtain ⟨u, hu, ru⟩ := rv.get hx
    obtain ⟨f0, f1, f2, f3, f4, f5⟩ := hf it (by simp)
    refine wpAny_pyNext_list_item st p.isList (x := u) (by simpa using hu) fun h' st' sb => ?_
    have I1 : Inv X pins σ H { s with heap := h' } := I.turned (t' := s.toks) (fun b o hb e => (sb.2 b hb).trans e) f0 f1 f3 f4 f5
    obtain ⟨o, e, c, d⟩ := id st'
    exact ⟨u, rfl, go_of (s := { s with heap := h' }) e c d (by decide) ⟨x, H, I1, ru, ⟨rfl, fun ys hy => by rw [I.list_inj hy hq]; exact hx⟩, st', fun b hb => (hf b hb).1⟩⟩
  done := by
    intro X hP hw hK hc i pins s σ H E I hf st hg
    subst hP hw hK
    obtain ⟨xs, hq, hx⟩ := hg
    obtain ⟨its, rv, p, hz⟩ := I.list hq
    obtain ⟨f0, f1, f2, f3, f4, f5⟩ := hf it (by simp)
    have hl := rv.length
    exact wpAny_pyNext_list_end (I.ok.hd hc) st p.isList (by simp; omega) fun h' eb => ⟨rfl, I.turned (t' := s.toks) (fun b o hb e => eb b o hb e) f0 f1 f3 f4 f5⟩
  self := fun _ _ _ _ _ st h => wpAny_pyIter_listiter st h
theorem turn_range {P : Program} {w : World} {K : PySem.W.Frag} {tg : Expr} (it : Addr) (lo : Int) (n : Nat) : Turn P w K tg (Itr lo n) [it] it (fun i h => IsRangeIter h it (lo + (i : Nat) * 1) ((n : Int) - (i : Nat)) 1) where
  mem := by simp
  obj := fun i h st b hb => by
    have e : b = it := by simpa using hb
    subst e
    exact ⟨_, st, fun v z => by
      have z' : Data.fields _ = Data.cell v := z
      cases z'⟩
  keep := fun i h h' st k => k it (by simp) _ st
  item := by
    intro X hP hw hK hc i pins s σ H E I hf st hg
    subst hP hw hK
    obtain ⟨f0, f1, f2, f3, f4, f5⟩ := hf it (by simp)
    have W := Walks.range (prog := X.prog) (w := X.w) (I.ok.hd hc) it lo 1 n
    refine W.item i s _ _ hg st fun v h' tk hv st' kk => ?_
    obtain ⟨t, rfl⟩ := hv
    have I1 : Inv X pins σ H { s with heap := h', toks := tk } := I.turned (fun b o hb e => kk b o (by simpa using hb) e) f0 f1 f3 f4 f5
    refine ⟨_, rfl, go_of (s := { s with heap := h', toks := tk }) (n := "range_iterator") st' rfl rfl (by decide) ⟨.int (lo + i), H, I1, ⟨t, ?_⟩, ⟨rfl, rfl⟩, st', fun b hb => (hf b hb).1⟩⟩
    rw [Int.mul_one]
  done := by
    intro X hP hw hK hc i pins s σ H E I hf st hg
    subst hP hw hK
    obtain ⟨f0, f1, f2, f3, f4, f5⟩ := hf it (by simp)
    exact wpAny_pyNext_range_end (I.ok.hd hc) st (by have : n ≤ i := hg; omega) fun h' eb => ⟨rfl, I.turned (t' := s.toks) (fun b o hb e => eb b o hb e) f0 f1 f3 f4 f5⟩
  self := fun _ _ _ _ _ st h => wpAny_pyIter_rangeiter st h
end L2

namespace L2
open PySem PySem.Spec PyProof.Rows
section
variable {X : Cx} {tg : Expr}
def iList (K : PySem.W.Frag) (tl : TE) : TI := fun σ H R => tl σ H fun x H1 => ∃ a, x = .ref a ∧ (∃ xs, SqL K H1 a xs) ∧ R (Itl K a) H1
theorem pi_list {l : Expr} {tl : TE} (hl : PE X l tl) : PI X tg l (iList X.K tl) := by
  intro pins s σ H R I h
  refine thn (hl pins s σ H _ I h) fun v s1 ⟨x, H1, I1, r1, q1⟩ => ?_
  obtain ⟨a, e, ⟨xs, hq⟩, q⟩ := q1
  subst e
  cases r1
  obtain ⟨its, rv, p, hz⟩ := I1.list hq
  refine wpAny_pyIter_list p.isList ?_
  refine ⟨s1.heap.objs.size, [s1.heap.objs.size], _, _, H1, rfl, I1.kept (t' := s1.toks) fun b o e => Heap.get?_push_of_some _ e, turn_list a _, ⟨_, Heap.get?_push_size _ rfl, rfl, rfl⟩, fun b hb => ?_, q⟩
  have e : b = s1.heap.objs.size := by simpa using hb
  subst e
  exact I1.fpOk (Nat.le_refl _) (I1.hok.fresh (Nat.le_refl _))
/-- a range object just made, walked -/
theorem range_it {pins : List (Addr × Obj)} {σ : St} {H : Hp} {s : Shared} {R : It → Hp → Prop} {E : Value → Shared → Prop} {lo hi : Int} {t u v : Tok} {tk : Nat} (I : Inv X pins σ H s) (h1 : -(2 ^ 62) ≤ lo) (h2 : lo < 2 ^ 62) (h3 : -(2 ^ 62) ≤ hi) (h4 : hi < 2 ^ 62)
    (q : R (Itr lo (hi - lo).toNat) H) : wpAny (model X.prog X.w) X.A (pyIter (.ref s.heap.objs.size)) (PIE X pins σ tg R) E { s with heap := s.heap.push { cls := .type "range", data := .fields #[.int lo t, .int hi u, .int 1 v] }, toks := tk } := by
  refine wpAny_pyIter_range (IsRange.new ..) (small_one h1 h2 h3 h4) ?_
  have I1 : Inv X pins σ H { s with heap := s.heap.push { cls := .type "range", data := .fields #[.int lo t, .int hi u, .int 1 v] }, toks := tk } := I.kept fun b o e => Heap.get?_push_of_some _ e
  refine ⟨(s.heap.push { cls := .type "range", data := .fields #[.int lo t, .int hi u, .int 1 v] }).objs.size, [(s.heap.push { cls := .type "range", data := .fields #[.int lo t, .int hi u, .int 1 v] }).objs.size], _, _, H, rfl,
    I1.kept (t' := tk) fun b o e => Heap.get?_push_of_some _ e, turn_range _ lo (hi - lo).toNat, ?_, fun b hb => ?_, q⟩
  · have e1 : lo + ((0 : Nat) : Int) * 1 = lo := by simp
    have e2 : (((hi - lo).toNat : Nat) : Int) - ((0 : Nat) : Int) = Builtin.Range.rangeSize lo hi 1 := by rw [rangeSize_one]; split <;> omega
    show IsRangeIter _ _ (lo + ((0 : Nat) : Int) * 1) ((((hi - lo).toNat : Nat) : Int) - ((0 : Nat) : Int)) 1
    rw [e1, e2]
    exact Heap.get?_push_size _ rfl
  · have e : b = (s.heap.push { cls := .type "range", data := .fields #[.int lo t, .int hi u, .int 1 v] }).objs.size := by simpa using hb
    subst e
    exact I1.fpOk (Nat.le_refl _) (I1.hok.fresh (Nat.le_refl _))
def iRng1 (ta : TA) : TI := fun σ H R => ta σ H fun vs H1 => ∃ j : Int, vs = [.int j] ∧ -(2 ^ 62) ≤ j ∧ j < 2 ^ 62 ∧ R (Itr 0 j.toNat) H1
def iRng2 (ta : TA) : TI := fun σ H R => ta σ H fun vs H1 => ∃ i j : Int, vs = [.int i, .int j] ∧ (-(2 ^ 62) ≤ i ∧ i < 2 ^ 62 ∧ -(2 ^ 62) ≤ j ∧ j < 2 ^ 62) ∧ R (Itr i (j - i).toNat) H1
theorem pi_range1 {a : Expr} {ta : TA} {p pos : Pos} (hg : Gl X "range") (hm : X.mg "range" = none) (ha : PA X [a] ta) (hs : starEach [a] X.env = [(false, eval a X.env)] := by rfl) : PI X tg (.Call (.Name "range" p) [a] [] pos) (iRng1 ta) := by
  intro pins s σ H R I h
  refine Call_ (ld_blt I hg hm boot_range (PyProof.Rows.callWith_type1 (thn (ha pos pins s σ H _ I h) fun us s1 ⟨vs, H1, I1, r1, q1⟩ => ?_) hs rfl))
  obtain ⟨j, e, q1, q2, q⟩ := q1
  subst e
  cases r1 with
  | cons r rr =>
    cases rr
    obtain ⟨t, rfl⟩ := r
    exact call_range_1 (range_it I1 (by omega) (by omega) q1 q2 (by simpa using q))
theorem pi_range2 {a b : Expr} {ta : TA} {p pos : Pos} (hg : Gl X "range") (hm : X.mg "range" = none) (ha : PA X [a, b] ta) (hs : starEach [a, b] X.env = [(false, eval a X.env), (false, eval b X.env)] := by rfl) (hs2 : starEach [b] X.env = [(false, eval b X.env)] := by rfl) :
    PI X tg (.Call (.Name "range" p) [a, b] [] pos) (iRng2 ta) := by
  intro pins s σ H R I h
  refine Call_ (ld_blt I hg hm boot_range (PyProof.Rows.callWith_type1 (thn (ha pos pins s σ H _ I h) fun us s1 ⟨vs, H1, I1, r1, q1⟩ => ?_) (by rw [hs, hs2]) (by rw [hs2]; rfl)))
  obtain ⟨i, j, e, ⟨q1, q2, q3, q4⟩, q⟩ := q1
  subst e
  cases r1 with
  | cons r rr =>
    cases rr with
    | cons r' rr =>
      cases rr
      obtain ⟨t, rfl⟩ := r
      obtain ⟨t', rfl⟩ := r'
      exact call_range_2 (range_it I1 q1 q2 q3 q4 q)

/-! ### for -/
/-- W: the invariant by the turn and a measure; N: what the body is to reach -/
def tFor (wi : TI) (g : TG) (tb : TS) : TS := fun D σ H => wi σ H fun J H1 => ∃ W : Nat → Nat → St → Hp → Prop, (∃ m, W 0 m σ H1) ∧ ∀ i m σ H, W i m σ H →
  (J.stop i H ∧ D.nx σ H) ∨ (J.go i H ∧ ∃ N : St → Hp → Prop, (∀ σ' H', N σ' H' → ∃ m', m' < m ∧ W (i + 1) m' σ' H') ∧ ∀ x H', J.yld i H x H' → g x σ H' fun σ2 H2 => tb { D with nx := N, ct := N, bk := D.nx } σ2 H2)
/-- the records at fp as they stand -/
def pinsAt (fp : List Addr) (h : Heap) : List (Addr × Obj) := fp.filterMap fun b => (h.get? b).map fun o => (b, o)
theorem mem_pinsAt {fp : List Addr} {h : Heap} {b : Addr} {o : Obj} (hb : b ∈ fp) (e : h.get? b = some o) : (b, o) ∈ pinsAt fp h := List.mem_filterMap.mpr ⟨b, hb, by rw [e]; rfl⟩
theorem of_pinsAt {fp : List Addr} {h : Heap} {p : Addr × Obj} (hp : p ∈ pinsAt fp h) : p.1 ∈ fp ∧ h.get? p.1 = some p.2 := by
  obtain ⟨b, hb, e⟩ := List.mem_filterMap.mp hp
  cases q : h.get? b with
  | none => rw [q] at e; cases e
  | some o =>
    rw [q] at e
    have e' : (b, o) = p := Option.some.inj e
    subst e'
    exact ⟨hb, q⟩
theorem Inv.pinned {pins : List (Addr × Obj)} {σ : St} {H : Hp} {s : Shared} {fp : List Addr} (I : Inv X pins σ H s) (hf : ∀ b ∈ fp, FpOk X pins H b) (ho : ∀ b ∈ fp, ∃ o, s.heap.get? b = some o ∧ ∀ v, o.data ≠ .cell v) : Inv X (pins ++ pinsAt fp s.heap) σ H s :=
  I.pins_of fun p hp => (List.mem_append.mp hp).elim (fun z => I.pin p (List.mem_append_right _ z)) fun z => by
    obtain ⟨hb, e⟩ := of_pinsAt z
    obtain ⟨f0, f1, f2, _⟩ := hf p.1 hb
    obtain ⟨o, e', d⟩ := ho p.1 hb
    rw [e] at e'; cases e'
    exact ⟨e, f0, f1, f2, d⟩
theorem Inv.unpinned {pins pl : List (Addr × Obj)} {σ : St} {H : Hp} {s : Shared} (I : Inv X (pins ++ pl) σ H s) : Inv X pins σ H s := I.pins_of fun p hp => I.pin p (List.mem_append_right _ (List.mem_append_left _ hp))
theorem ps_for {iter : Expr} {body : List Stmt} {wi : TI} {g : TG} {tb : TS} {pos : Pos} (hp : PassesOwn (model X.prog X.w) X.A X.env X.xe) (hc : X.calm = true) (hi : PI X tg iter wi) (hg : PG X tg g) (hb : PSs X body tb)
    (hs : ∀ x, foldedSetIterable iter X.env x = pure x := by intro _; rfl) : PS X (.For tg iter body [] pos) (tFor wi g tb) := by
  intro pins s σ H D I h
  refine wpAny_For (thn (hi pins s σ H _ I h) fun v s1 h1 => thn h1 fun itv s2 h2 => ?_) hs
  obtain ⟨it, fp, tn, J, H2, e, I2, T, st2, f2, W, ⟨m0, w0⟩, turn⟩ := h2
  subst e
  -- what stays true of the iterator's objects through the loop
  have stat : ∀ {H' : Hp}, (∀ b ∈ fp, H' b = none) → ∀ b ∈ fp, FpOk X pins H' b := fun hn b hb => ⟨hn b hb, (f2 b hb).2⟩
  refine codeAny_forLoop_any (fun n s' => ∃ i σ' H', Inv X pins σ' H' s' ∧ tn i s'.heap ∧ (∀ b ∈ fp, H' b = none) ∧ W i n σ' H') ?_ m0 ⟨0, σ, H2, I2, st2, fun b hb => (f2 b hb).1, w0⟩
  rintro n s3 ⟨i, σ3, H3, I3, st3, fr3, w3⟩
  rcases turn i n σ3 H3 w3 with ⟨stop, qn⟩ | ⟨go, N, hN, step⟩
  · refine wpAny_passesOwn hp (thn (T.done X rfl rfl rfl hc i pins s3 σ3 H3 X.xe I3 (stat fr3) st3 stop) fun r s4 ⟨hr, I4⟩ => ?_)
    subst hr
    exact wpAny_execs_nil ⟨σ3, H3, I4, qn⟩
  · refine wpAny_passesOwn hp (thn (T.item X rfl rfl rfl hc i pins s3 σ3 H3 X.xe I3 (stat fr3) st3 go) fun r s4 ⟨u, hr, h4⟩ => ?_)
    subst hr
    refine wpAny_passesOwn hp (thn h4 fun _ s5 ⟨x, H5, I5, r5, y5, st5, fr5⟩ => ?_)
    have I5' := I5.pinned (stat fr5) (T.obj _ _ st5)
    refine wpAny_passesOwn hp (thn (hg _ s5 σ3 H5 x u _ I5' r5 (step x H5 y5)) fun _ s6 ⟨σ6, H6, I6, q6⟩ => ?_)
    refine wpAny_passesOwn hp (thn (hb _ s6 σ6 H6 _ I6 q6) fun f s7 q7 => ?_)
    have again : ∀ {σ7 : St} {H7 : Hp}, Inv X (pins ++ pinsAt fp s5.heap) σ7 H7 s7 → N σ7 H7 → ∃ m, m < n ∧ ∃ i σ' H', Inv X pins σ' H' s7 ∧ tn i s7.heap ∧ (∀ b ∈ fp, H' b = none) ∧ W i m σ' H' := fun {σ7 H7} I7 n7 => by
      obtain ⟨m', hm, w7⟩ := hN σ7 H7 n7
      refine ⟨m', hm, i + 1, σ7, H7, I7.unpinned, T.keep _ _ _ st5 fun b hb o e => (I7.pin (b, o) (List.mem_append_right _ (List.mem_append_right _ (mem_pinsAt hb e)))).1, fun b hb => ?_, w7⟩
      obtain ⟨o, e, d⟩ := T.obj _ _ st5 b hb
      exact (I7.pin (b, o) (List.mem_append_right _ (List.mem_append_right _ (mem_pinsAt hb e)))).2.1
    cases f with
    | next => obtain ⟨σ7, H7, I7, n7⟩ := q7; exact again I7 n7
    | cont => obtain ⟨σ7, H7, I7, n7⟩ := q7; exact again I7 n7
    | brk => obtain ⟨σ7, H7, I7, q7⟩ := q7; exact ⟨σ7, H7, I7.unpinned, q7⟩
    | ret v => obtain ⟨x7, σ7, H7, I7, r7, q7⟩ := q7; exact ⟨x7, σ7, H7, I7.unpinned, r7, q7⟩
end

/-! ### the forms one uses -/
end L2

namespace L2
open PySem PySem.Spec PyProof.Rows

abbrev R2 := V → V → Hp → VK → Prop
/-- a two-place operation on values: f is binaryOp op, inplaceOp op or compareOp op -/
def OpR (X : Cx) (f : Value → Value → Sem Value) (r : R2) : Prop :=
  ∀ (pins : List (Addr × Obj)) (s : Shared) (σ : St) (H : Hp) (x y : V) (v u : Value) (Q : VK), Inv X pins σ H s → RelV x v → RelV y u → r x y H Q →
    wpAny (model X.prog X.w) X.A (f v u) (EP X pins σ Q) X.xe s
/-- a one-place operation -/
def UnR (X : Cx) (f : Value → Sem Value) (r : V → Hp → VK → Prop) : Prop :=
  ∀ (pins : List (Addr × Obj)) (s : Shared) (σ : St) (H : Hp) (x : V) (v : Value) (Q : VK), Inv X pins σ H s → RelV x v → r x H Q →
    wpAny (model X.prog X.w) X.A (f v) (EP X pins σ Q) X.xe s
/-- a call of a value that is known (a builtin, a type) with values -/
def CallR (X : Cx) (f : Value) (r : List V → Hp → VK → Prop) : Prop :=
  ∀ (pins : List (Addr × Obj)) (s : Shared) (σ : St) (H : Hp) (xs : List V) (us : List Value) (Q : VK), Inv X pins σ H s → Vals xs us → r xs H Q →
    wpAny (model X.prog X.w) X.A (call f us) (EP X pins σ Q) X.xe s
def tOp (r : R2) (ta tb : TE) : TE := fun σ H Q => ta σ H fun x H1 => tb σ H1 fun y H2 => r x y H2 Q
def tUn (r : V → Hp → VK → Prop) (ta : TE) : TE := fun σ H Q => ta σ H fun x H1 => r x H1 Q
/-- ints in, under C, and a value out -/
def rI (C : Int → Int → Prop) (g : Int → Int → V) : R2 := fun x y H Q => ∃ i j, x = .int i ∧ y = .int j ∧ C i j ∧ Q (g i j) H
def rI0 (g : Int → Int → V) : R2 := fun x y H Q => ∃ i j, x = .int i ∧ y = .int j ∧ Q (g i j) H
def rU (g : Int → V) : V → Hp → VK → Prop := fun x H Q => ∃ i, x = .int i ∧ Q (g i) H

section
variable {X : Cx} {a b c : Expr} {ta tb tc : TE} {pos : Pos}

theorem binT (ha : PE X a ta) (hb : PE X b tb) {pins : List (Addr × Obj)} {s : Shared} {σ : St} {H : Hp} {R : V → V → Hp → Prop} (I : Inv X pins σ H s)
    (h : ta σ H fun x H1 => tb σ H1 fun y H2 => R x y H2) {Q : Value → Shared → Prop} {f : Value → Value → Sem Value}
    (hf : ∀ v u s2 x y H2, Inv X pins σ H2 s2 → RelV x v → RelV y u → R x y H2 → wpAny (model X.prog X.w) X.A (f v u) Q X.xe s2) :
    wpAny (model X.prog X.w) X.A (eval a X.env) (fun v s₁ => wpAny (model X.prog X.w) X.A (eval b X.env) (fun u s₂ => wpAny (model X.prog X.w) X.A (f v u) Q X.xe s₂) X.xe s₁) X.xe s := by
  refine thn (ha pins s σ H _ I h) fun v s1 ⟨x, H1, I1, r1, q1⟩ => ?_
  refine thn (hb pins s1 σ H1 _ I1 q1) fun u s2 ⟨y, H2, I2, r2, q2⟩ => ?_
  exact hf v u s2 x y H2 I2 r1 r2 q2

theorem pe_op {op : Operator} {r : R2} (ho : OpR X (binaryOp op) r) (ha : PE X a ta) (hb : PE X b tb) : PE X (.BinOp a op b pos) (tOp r ta tb) := by
  intro pins s σ H Q I h
  exact wpAny_BinOp (binT ha hb I h fun v u s2 x y H2 I2 rx ry q => ho pins s2 σ H2 x y v u Q I2 rx ry q)
theorem pe_un {op : UnaryOp} {r : V → Hp → VK → Prop} (ho : UnR X (unaryOp op) r) (ha : PE X a ta) : PE X (.UnaryOp op a pos) (tUn r ta) := by
  intro pins s σ H Q I h
  exact UnaryOp_ (thn (ha pins s σ H _ I h) fun v s1 ⟨x, H1, I1, r1, q1⟩ => ho pins s1 σ H1 x v Q I1 r1 q1)
/-! ### ints -/
theorem opI {f : Value → Value → Sem Value} {C : Int → Int → Prop} {g : Int → Int → Int}
    (rule : ∀ (i j : Int) (t u : Tok) (s : Shared) (Q : Value → Shared → Prop) (E : Value → Shared → Prop), C i j → Q (.int (g i j) s.toks) { s with toks := s.toks + 1 } → wpAny (model X.prog X.w) X.A (f (.int i t) (.int j u)) Q E s) :
    OpR X f (rI C fun i j => .int (g i j)) := by
  intro pins s σ H x y v u Q I rx ry h
  obtain ⟨i, j, rfl, rfl, hc, q⟩ := h
  obtain ⟨t, rfl⟩ := rx
  obtain ⟨t', rfl⟩ := ry
  exact rule i j t t' s _ _ hc ⟨.int (g i j), H, I.tok _, ⟨_, rfl⟩, q⟩
theorem opI0 {f : Value → Value → Sem Value} {g : Int → Int → Int}
    (rule : ∀ (i j : Int) (t u : Tok) (s : Shared) (Q : Value → Shared → Prop) (E : Value → Shared → Prop), Q (.int (g i j) s.toks) { s with toks := s.toks + 1 } → wpAny (model X.prog X.w) X.A (f (.int i t) (.int j u)) Q E s) :
    OpR X f (rI0 fun i j => .int (g i j)) := by
  intro pins s σ H x y v u Q I rx ry h
  obtain ⟨i, j, rfl, rfl, q⟩ := h
  obtain ⟨t, rfl⟩ := rx
  obtain ⟨t', rfl⟩ := ry
  exact rule i j t t' s _ _ ⟨.int (g i j), H, I.tok _, ⟨_, rfl⟩, q⟩
theorem opB0 {f : Value → Value → Sem Value} {g : Int → Int → Bool}
    (rule : ∀ (i j : Int) (t u : Tok) (s : Shared) (Q : Value → Shared → Prop) (E : Value → Shared → Prop), Q (.bool (g i j)) s → wpAny (model X.prog X.w) X.A (f (.int i t) (.int j u)) Q E s) :
    OpR X f (rI0 fun i j => .bl (g i j)) := by
  intro pins s σ H x y v u Q I rx ry h
  obtain ⟨i, j, rfl, rfl, q⟩ := h
  obtain ⟨t, rfl⟩ := rx
  obtain ⟨t', rfl⟩ := ry
  exact rule i j t t' s _ _ ⟨.bl (g i j), H, I, rfl, q⟩

def CPow (i j : Int) : Prop := 0 ≤ j ∧ j ≤ 1000000 ∧ i.natAbs < 2 ^ 64
theorem op_add : OpR X (binaryOp .Add) (rI0 fun i j => .int (i + j)) := opI0 fun _ _ _ _ _ _ _ q => add_int q
theorem op_sub : OpR X (binaryOp .Sub) (rI0 fun i j => .int (i - j)) := opI0 fun _ _ _ _ _ _ _ q => sub_int q
/-- % by a positive divisor of any size -/
theorem op_mod : OpR X (binaryOp .Mod) (rI (fun _ j => 0 < j) fun i j => .int (i % j)) := opI fun i j _ _ _ _ _ hc q => by
  have h1 : (0 : Int) < j := hc
  exact mod_int' (by omega) (by rw [Int.fmod_eq_emod_of_nonneg i (by omega)]; exact q)
theorem op_modN : OpR X (binaryOp .Mod) (rI (fun _ j => j ≠ 0) fun i j => .int (i.fmod j)) := opI fun _ _ _ _ _ _ _ hc q => mod_int' hc q
theorem op_pow : OpR X (binaryOp .Pow) (rI CPow fun i j => .int (i ^ j.toNat)) := opI fun _ _ _ _ _ _ _ hc q => pow_int_small hc.1 hc.2.1 hc.2.2 q
theorem unI {f : Value → Sem Value} {g : Int → Int}
    (rule : ∀ (i : Int) (t : Tok) (s : Shared) (Q : Value → Shared → Prop) (E : Value → Shared → Prop), Q (.int (g i) s.toks) { s with toks := s.toks + 1 } → wpAny (model X.prog X.w) X.A (f (.int i t)) Q E s) :
    UnR X f (rU fun i => .int (g i)) := by
  intro pins s σ H x v Q I rx h
  obtain ⟨i, rfl, q⟩ := h
  obtain ⟨t, rfl⟩ := rx
  exact rule i t s _ _ ⟨.int (g i), H, I.tok _, ⟨_, rfl⟩, q⟩
theorem un_neg : UnR X (unaryOp .USub) (rU fun i => .int (-i)) := unI fun _ _ _ _ _ q => neg_int q
/-! ### bools among ints: n += (a < b) -/
end

/-! ### comparisons -/
/-- the scalars that == tells apart as data does -/
def scal : V → V → Bool
  | .non, .non => true | .non, .int _ => true | .int _, .non => true | .non, .bl _ => true | .bl _, .non => true | .non, .str _ => true | .str _, .non => true
  | .int _, .int _ => true | .bl _, .bl _ => true | .str _, .str _ => true | .byt _, .byt _ => true
  | .int _, .str _ => true | .str _, .int _ => true | .bl _, .str _ => true | .str _, .bl _ => true
  | _, _ => false
def rEq : R2 := fun x y H Q => scal x y = true ∧ Q (.bl (decide (x = y))) H
def rNe : R2 := fun x y H Q => scal x y = true ∧ Q (.bl (!decide (x = y))) H

theorem dec_int {i j : Int} : decide (V.int i = V.int j) = (i == j) := by
  rw [Bool.eq_iff_iff]
  simp
theorem dec_bl {i j : Bool} : decide (V.bl i = V.bl j) = (i == j) := by
  rw [Bool.eq_iff_iff]
  simp
theorem dec_str {i j : Str} : decide (V.str i = V.str j) = (i == j) := by
  rw [Bool.eq_iff_iff]
  simp
theorem dec_byt {i j : Array UInt8} : decide (V.byt i = V.byt j) = (i.toList == j.toList) := by
  rw [Bool.eq_iff_iff]
  cases i
  cases j
  simp

section
variable {X : Cx} {a b c : Expr} {ta tb tc : TE} {pos : Pos}
theorem fin_bl {pins : List (Addr × Obj)} {σ : St} {H : Hp} {s : Shared} {Q : VK} {k k' : Bool} (I : Inv X pins σ H s) (q : Q (.bl k) H) (e : k = k') : EP X pins σ Q (.bool k') s := by
  subst e
  exact ⟨.bl k, H, I, rfl, q⟩
theorem op_eq : OpR X (compareOp .Eq) rEq := by
  intro pins s σ H x y v u Q I rx ry h
  obtain ⟨hs, q⟩ := h
  cases x with
  | non =>
    cases rx
    cases y with
    | non => cases ry; exact PySem.EqNone.eq_none_none (fin_bl I q (by simp))
    | bl j => cases ry; exact PySem.EqNone.eq_none_bool (fin_bl I q (by simp))
    | int j => obtain ⟨t', rfl⟩ := ry; exact PySem.EqNone.eq_none_int (fin_bl I q (by simp))
    | str j => obtain ⟨t', rfl⟩ := ry; exact PySem.EqNone.eq_none_str (fin_bl I q (by simp))
    | _ => exact absurd (show false = true from hs) Bool.false_ne_true
  | bl i =>
    cases rx
    cases y with
    | non => cases ry; exact PySem.EqNone.eq_bool_none (fin_bl I q (by simp))
    | bl j => cases ry; exact eq_bool (fin_bl I q dec_bl)
    | str j => obtain ⟨t', rfl⟩ := ry; exact PySem.EqMixed.eq_bool_str (fin_bl I q (by simp))
    | _ => exact absurd (show false = true from hs) Bool.false_ne_true
  | int i =>
    obtain ⟨t, rfl⟩ := rx
    cases y with
    | non => cases ry; exact PySem.EqNone.eq_int_none (fin_bl I q (by simp))
    | int j => obtain ⟨t', rfl⟩ := ry; exact eq_int (fin_bl I q dec_int)
    | str j => obtain ⟨t', rfl⟩ := ry; exact PySem.EqMixed.eq_int_str (fin_bl I q (by simp))
    | _ => exact absurd (show false = true from hs) Bool.false_ne_true
  | str i =>
    obtain ⟨t, rfl⟩ := rx
    cases y with
    | non => cases ry; exact PySem.EqNone.eq_str_none (fin_bl I q (by simp))
    | bl j => cases ry; exact PySem.EqMixed.eq_str_bool (fin_bl I q (by simp))
    | int j => obtain ⟨t', rfl⟩ := ry; exact PySem.EqMixed.eq_str_int (fin_bl I q (by simp))
    | str j => obtain ⟨t', rfl⟩ := ry; exact eq_str (fin_bl I q dec_str)
    | _ => exact absurd (show false = true from hs) Bool.false_ne_true
  | byt i =>
    obtain ⟨t, rfl⟩ := rx
    cases y with
    | byt j => obtain ⟨t', rfl⟩ := ry; exact PySem.W.eq_bytes (fin_bl I q dec_byt)
    | _ => exact absurd (show false = true from hs) Bool.false_ne_true
  | _ => cases y <;> exact absurd (show false = true from hs) Bool.false_ne_true
theorem op_ne : OpR X (compareOp .NotEq) rNe := by
  intro pins s σ H x y v u Q I rx ry h
  obtain ⟨hs, q⟩ := h
  cases x with
  | non =>
    cases rx
    cases y with
    | non => cases ry; exact PySem.EqNone.ne_none_none (fin_bl I q (by simp))
    | bl j => cases ry; exact PySem.EqNone.ne_none_bool (fin_bl I q (by simp))
    | int j => obtain ⟨t', rfl⟩ := ry; exact PySem.EqNone.ne_none_int (fin_bl I q (by simp))
    | str j => obtain ⟨t', rfl⟩ := ry; exact PySem.EqNone.ne_none_str (fin_bl I q (by simp))
    | _ => exact absurd (show false = true from hs) Bool.false_ne_true
  | bl i =>
    cases rx
    cases y with
    | non => cases ry; exact PySem.EqNone.ne_bool_none (fin_bl I q (by simp))
    | bl j => cases ry; exact ne_bool (fin_bl I q (congrArg not dec_bl))
    | str j => obtain ⟨t', rfl⟩ := ry; exact PySem.EqMixed.ne_bool_str (fin_bl I q (by simp))
    | _ => exact absurd (show false = true from hs) Bool.false_ne_true
  | int i =>
    obtain ⟨t, rfl⟩ := rx
    cases y with
    | non => cases ry; exact PySem.EqNone.ne_int_none (fin_bl I q (by simp))
    | int j => obtain ⟨t', rfl⟩ := ry; exact ne_int (fin_bl I q (congrArg not dec_int))
    | str j => obtain ⟨t', rfl⟩ := ry; exact PySem.EqMixed.ne_int_str (fin_bl I q (by simp))
    | _ => exact absurd (show false = true from hs) Bool.false_ne_true
  | str i =>
    obtain ⟨t, rfl⟩ := rx
    cases y with
    | non => cases ry; exact PySem.EqNone.ne_str_none (fin_bl I q (by simp))
    | bl j => cases ry; exact PySem.EqMixed.ne_str_bool (fin_bl I q (by simp))
    | int j => obtain ⟨t', rfl⟩ := ry; exact PySem.EqMixed.ne_str_int (fin_bl I q (by simp))
    | str j => obtain ⟨t', rfl⟩ := ry; exact ne_str (fin_bl I q (congrArg not dec_str))
    | _ => exact absurd (show false = true from hs) Bool.false_ne_true
  | byt i =>
    obtain ⟨t, rfl⟩ := rx
    cases y with
    | byt j => obtain ⟨t', rfl⟩ := ry; exact PySem.W.ne_bytes (fin_bl I q (congrArg not dec_byt))
    | _ => exact absurd (show false = true from hs) Bool.false_ne_true
  | _ => cases y <;> exact absurd (show false = true from hs) Bool.false_ne_true

theorem op_lt : OpR X (compareOp .Lt) (rI0 fun i j => .bl (decide (i < j))) := opB0 fun _ _ _ _ _ _ _ q => lt_int q
theorem op_le : OpR X (compareOp .LtE) (rI0 fun i j => .bl (decide (i ≤ j))) := opB0 fun _ _ _ _ _ _ _ q => le_int q
theorem op_gt : OpR X (compareOp .Gt) (rI0 fun i j => .bl (decide (j < i))) := opB0 fun _ _ _ _ _ _ _ q => gt_int q
theorem nomark (b : Expr) {op : CmpOp} (h : op ≠ .In := by decide) (h2 : op ≠ .NotIn := by decide) : behindInMarks op b = false := by
  have e1 : (op == CmpOp.In) = false := by cases op <;> first | rfl | exact absurd rfl h
  have e2 : (op == CmpOp.NotIn) = false := by cases op <;> first | rfl | exact absurd rfl h2
  cases b <;> simp [behindInMarks, e1, e2]
/-- a comparison as a value; hm: nomark b, or (for in, not in) by with_unfolding_all rfl -/
theorem pe_cmpR {op : CmpOp} {r : R2} (ho : OpR X (compareOp op) r) (ha : PE X a ta) (hb : PE X b tb) (hm : behindInMarks op b = false) : PE X (.Compare a [op] [b] pos) (tOp r ta tb) := by
  intro pins s σ H Q I h
  exact wpAny_Compare1 (binT ha hb I h fun v u s2 x y H2 I2 rx ry q => ho pins s2 σ H2 x y v u Q I2 rx ry q) hm
/-- a reading of a value as a test -/
def tTest (t : TE) : TT := fun σ H Q => t σ H fun x H' => ∃ k, x = .bl k ∧ Q k H'
theorem pt_cmpR {op : CmpOp} {r : R2} (ho : OpR X (compareOp op) r) (ha : PE X a ta) (hb : PE X b tb) (hm : behindInMarks op b = false) : PT X (.Compare a [op] [b] pos) (tTest (tOp r ta tb)) := by
  intro pins s σ H Q I h
  refine wpAny_isTrue_Compare1 (thn (ha pins s σ H _ I h) fun v s1 ⟨x, H1, I1, r1, q1⟩ => thn (hb pins s1 σ H1 _ I1 q1) fun u s2 ⟨y, H2, I2, r2, q2⟩ =>
    thn (ho pins s2 σ H2 x y v u _ I2 r1 r2 q2) fun c s3 ⟨z, H3, I3, r3, k, e, q3⟩ => ?_) hm
  subst e
  cases r3
  exact wpAny_truthy_bool ⟨H3, I3, q3⟩
/-! ### truth -/
theorem line63 : (sizeLine : Nat) < 2 ^ 63 := by rw [sizeLine_eq]; decide
/-! ### strs and bytes -/
/-! ### scalar builtins, by CallR -/
theorem vals1 {x : V} {us : List Value} (r : Vals [x] us) : ∃ u, us = [u] ∧ RelV x u := by
  cases r with
  | cons r1 r2 => cases r2; exact ⟨_, rfl, r1⟩
theorem vals2 {x y : V} {us : List Value} (r : Vals [x, y] us) : ∃ u w', us = [u, w'] ∧ RelV x u ∧ RelV y w' := by
  cases r with
  | cons r1 r2 =>
    cases r2 with
    | cons r3 r4 => cases r4; exact ⟨_, _, rfl, r1, r3⟩
theorem call_abs : CallR X (.builtin "abs") (fun xs H Q => ∃ i, xs = [.int i] ∧ Q (.int (if i < 0 then -i else i)) H) := by
  intro pins s σ H xs us Q I r h
  obtain ⟨i, rfl, q⟩ := h
  obtain ⟨u, rfl, t, rfl⟩ := vals1 r
  exact call_abs_int fun u tk => ⟨.int (if i < 0 then -i else i), H, I.tok _, ⟨_, rfl⟩, q⟩
theorem call_max2 (hc : X.calm = true) : CallR X (.builtin "max") (fun xs H Q => ∃ i j, xs = [.int i, .int j] ∧ Q (.int (if j > i then j else i)) H) := by
  intro pins s σ H xs us Q I r h
  obtain ⟨i, j, rfl, q⟩ := h
  obtain ⟨u, w', rfl, ⟨t, rfl⟩, ⟨t', rfl⟩⟩ := vals2 r
  refine max_two_ints (I.ok.hd hc) fun h' tk k => ⟨_, H, I.kept k, ?_, q⟩
  by_cases hj : j > i
  · rw [if_pos hj, if_pos hj]; exact ⟨_, rfl⟩
  · rw [if_neg hj, if_neg hj]; exact ⟨_, rfl⟩
theorem call_min2 (hc : X.calm = true) : CallR X (.builtin "min") (fun xs H Q => ∃ i j, xs = [.int i, .int j] ∧ Q (.int (if j < i then j else i)) H) := by
  intro pins s σ H xs us Q I r h
  obtain ⟨i, j, rfl, q⟩ := h
  obtain ⟨u, w', rfl, ⟨t, rfl⟩, ⟨t', rfl⟩⟩ := vals2 r
  refine min_two_ints (I.ok.hd hc) fun h' tk k => ⟨_, H, I.kept k, ?_, q⟩
  by_cases hj : j < i
  · rw [if_pos hj, if_pos hj]; exact ⟨_, rfl⟩
  · rw [if_neg hj, if_neg hj]; exact ⟨_, rfl⟩
theorem call_int1 : CallR X (.type "int") (fun xs H Q => (∃ i, xs = [.int i] ∧ Q (.int i) H) ∨ ∃ k, xs = [.bl k] ∧ Q (.int (if k then 1 else 0)) H) := by
  intro pins s σ H xs us Q I r h
  rcases h with ⟨i, rfl, q⟩ | ⟨k, rfl, q⟩
  · obtain ⟨u, rfl, t, rfl⟩ := vals1 r
    exact call_int_int ⟨.int i, H, I, ⟨_, rfl⟩, q⟩
  · obtain ⟨u, rfl, r1⟩ := vals1 r
    cases r1
    exact call_int_bool ⟨.int (if k then 1 else 0), H, I.tok _, ⟨_, rfl⟩, q⟩
/-- len of a str, a bytes, a list, a tuple -/
def LenV (K : PySem.W.Frag) (x : V) (H : Hp) (n : Nat) : Prop :=
  match x with
  | .str y => y.length ≤ sizeLine ∧ n = y.length
  | .byt y => y.size ≤ sizeLine ∧ n = y.size
  | .ref p => (∃ xs, SqL K H p xs ∧ n = xs.length) ∨ ∃ xs, SqT K H p xs ∧ n = xs.length
  | _ => False
theorem call_len : CallR X (.builtin "len") (fun xs H Q => ∃ x n, xs = [x] ∧ LenV X.K x H n ∧ Q (.int n) H) := by
  intro pins s σ H xs us Q I r h
  obtain ⟨x, n, rfl, e, q⟩ := h
  obtain ⟨u, rfl, rx⟩ := vals1 r
  have hl := line63
  have hs : sizeLine = 16777216 := sizeLine_eq
  cases x with
  | str y =>
    obtain ⟨t, rfl⟩ := rx
    obtain ⟨hy, e'⟩ : y.length ≤ sizeLine ∧ n = y.length := e
    subst e'
    exact len_str (by omega) ⟨.int _, H, I.tok _, ⟨_, rfl⟩, q⟩
  | byt y =>
    obtain ⟨t, rfl⟩ := rx
    obtain ⟨hy, e'⟩ : y.size ≤ sizeLine ∧ n = y.size := e
    subst e'
    exact PySem.W.len_bytes (by omega) ⟨.int _, H, I.tok _, ⟨_, rfl⟩, q⟩
  | ref p =>
    cases rx
    have e' : (∃ xs, SqL X.K H p xs ∧ n = xs.length) ∨ ∃ xs, SqT X.K H p xs ∧ n = xs.length := e
    rcases e' with ⟨xs, hx, e'⟩ | ⟨xs, hx, e'⟩
    · subst e'
      obtain ⟨its, r', pl, hz⟩ := I.list hx
      have hlen := r'.length
      exact Calls.call_len_list pl.isList (by simp only [List.size_toArray]; omega) ⟨.int xs.length, H, I.tok _, ⟨_, by simp only [List.size_toArray]; rw [hlen]⟩, q⟩
    · subst e'
      obtain ⟨its, r', pl, hz⟩ := I.tuple hx
      have hlen := r'.length
      exact len_tuple pl (by simp only [List.size_toArray]; omega) ⟨.int xs.length, H, I.tok _, ⟨_, by simp only [List.size_toArray]; rw [hlen]⟩, q⟩
  | _ => exact (show False from e).elim
end
end L2

namespace L2
open PySem PySem.Spec PyProof.Rows

/-! ### an instance, its attributes a map -/
structure ObjM (h : Heap) (x dx C : Addr) (mA : Str → Option Value) : Prop where
  obj : h.get? x = some (PySem.W.instObj C dx)
  ns : h.Ns1 dx mA
  ne : dx ≠ x

section
variable {prog : Program} {w : World} {A : Around} {E : Value → Shared → Prop} {s : Shared} {K : PySem.W.Frag} {x dx C f : Addr} {mA : Str → Option Value} {name : Str} {v : Value}

end

/-! ### the attributes as a list of pairs -/
theorem RelO.some_of {v : V} {o : Option Value} (r : RelO (some v) o) : ∃ u, o = some u ∧ RelV v u := by
  cases o with
  | none => exact (show False from r).elim
  | some u => exact ⟨u, rfl, r⟩
section
variable {P : Program} {w : World} {H H' : Hp} {h h' : Heap} {a C dx : Addr} {fs fs' : List (Str × V)}
end

/-! ### what of the text a class must have -/
structure Cls (K : PySem.W.Frag) (C : Addr) : Prop where
  pg : PySem.W.plainGet K C Str.empty = true
  hd : PySem.W.hasDictIn K C = true
  po : PySem.W.plainOver K C = true
  sa : PySem.W.findIn K (.ref C) "__setattr__" = some (some (.builtin "object.__setattr__"))
/-- a constant of the class -/
structure Con (K : PySem.W.Frag) (C : Addr) (f : Str) (v : V) (u : Value) : Prop where
  at_ : PySem.W.findIn K (.ref C) f = some (some u)
  rel : RelV v u
  get : PySem.W.specialIn K u "__get__" = some none
  cp : PySem.W.copiedNames.contains f = false
/-- a method: a plain def of the class or of one above it -/
structure Meth (K : PySem.W.Frag) (C : Addr) (m : Str) (f : Addr) : Prop where
  at_ : PySem.W.findIn K (.ref C) m = some (some (.ref f))
  fn : PySem.W.isFn K (.ref f) = true
  kp : PySem.W.keepIn K (.ref f) = true

section
variable {X : Cx} {pins : List (Addr × Obj)} {σ : St} {H : Hp} {s : Shared} {a C dx : Addr} {fs : List (Str × V)} {f : Str} {v : V} {A : Around} {E : Value → Shared → Prop}

end

/-! ### readings and rules -/
section
variable {X : Cx} {o e value : Expr} {f : Str} {pos pos' tpos : Pos} {ta tv : TE}
end

/-! ### isinstance -/
section
variable {X : Cx} {pins : List (Addr × Obj)} {σ : St} {H : Hp} {s : Shared} {A : Around} {E : Value → Shared → Prop} {Q : Value → Shared → Prop} {c : Value} {b : Bool}
/-- the type of a value, as the fragment's deciders take it; for an instance its class -/
inductive TyOf (K : PySem.W.Frag) (H : Hp) : V → Value → Prop where
  | non : TyOf K H .non (.type "NoneType")
  | bl (x : Bool) : TyOf K H (.bl x) (.type "bool")
  | int (i : Int) : TyOf K H (.int i) (.type "int")
  | str (x : Str) : TyOf K H (.str x) (.type "str")
  | flt (x : UInt64) : TyOf K H (.flt x) (.type "float")
  | lst {a : Addr} {xs : List V} (e : H a = some (.lst xs)) : TyOf K H (.ref a) (.type "list")
  | frz {a : Addr} {o : Obj} {xs : List V} (e : H a = some (.frz o (.lst xs))) : TyOf K H (.ref a) (.type "list")
  | tup {a : Addr} {xs : List V} (e : H a = some (.tup xs)) : TyOf K H (.ref a) (.type "tuple")
  | dK {a : Addr} {kvs : List (Key × V)} (e : H a = some (.dK kvs)) : TyOf K H (.ref a) (.type "dict")
  | dT {a : Addr} {kvs : List (List Key × V)} (e : H a = some (.dT kvs)) : TyOf K H (.ref a) (.type "dict")
  | ins {a C dx : Addr} {fs : List (Str × V)} (e : H a = some (.ins C dx fs)) (cl : Cls K C) (ha : PySem.W.findIn K (.ref C) "__class__" = some (some (.builtin "object.__class__")))
      (hn : PySem.W.specialIn K (.builtin "object.__class__") "__get__" = some (some (.builtin "getset_descriptor.__get__"))) (htk : PySem.W.takesIn K (.builtin "object.__class__") = some true)
      (hm : PySem.W.mroIn K C (.type "object") = some true) : TyOf K H (.ref a) (.ref C)
end
end L2

namespace L2
open PySem PySem.Spec PyProof.Rows

/-! ### room -/
structure Room (k : Nat) (A : Around) : Prop where
  hd : A.handled = none
  dp : A.depth + 3 * k + 5 < recursionLimit
  un : A.units + 16 * k + 200 < cLine
theorem Room.mono {j k : Nat} {A : Around} (r : Room k A) (h : j ≤ k) : Room j A := ⟨r.hd, by have := r.dp; omega, by have := r.un; omega⟩
theorem Room.deeper {k : Nat} {A : Around} (r : Room (k + 1) A) (env : Env) : Room k (A.deeper env) :=
  ⟨r.hd, by have := r.dp; show A.depth + 1 + 3 * k + 5 < _; omega, by have := r.un; show A.units + 3 + 16 * k + 200 < _; omega⟩
theorem Room.depth {k : Nat} {A : Around} (r : Room k A) : A.depth < recursionLimit := by have := r.dp; omega
theorem Room.units {k : Nat} {A : Around} (r : Room k A) : A.units + 64 < cLine := by have := r.un; omega
/-! ### argument lists and displays -/
def tNil : TA := fun _ H Q => Q [] H
def tCons (ta : TE) (tr : TA) : TA := fun σ H Q => ta σ H fun x H1 => tr σ H1 fun xs H2 => Q (x :: xs) H2
section
variable {X : Cx} {e : Expr} {es : List Expr} {te : TE} {t : TA} {pos : Pos}
theorem pa_nil : PA X [] tNil := fun _ _ _ _ H Q I h => Calls.spliced_nil ⟨[], H, I, .nil, h⟩
theorem pa_cons (ha : PE X e te) (hr : PA X es t) (hs : starEach (e :: es) X.env = (false, eval e X.env) :: starEach es X.env := by rfl) : PA X (e :: es) (tCons te t) := by
  intro pos pins s σ H Q I h
  rw [hs]
  show wpAny _ _ (spliced ((false, eval e X.env) :: backTo pos (starEach es X.env))) _ _ s
  refine Calls.spliced_cons (thn (ha pins s σ H _ I h) fun u s1 ⟨x, H1, I1, r1, q1⟩ => ?_)
  exact thn (hr pos pins s1 σ H1 _ I1 q1) fun us s2 ⟨xs, H2, I2, r2, q2⟩ => ⟨x :: xs, H2, I2, .cons r1 r2, q2⟩

/-- a tuple, a list of written items -/
def tTup (t : TA) : TE := fun σ H Q => t σ H fun xs H1 => xs.length ≤ sizeLine ∧ ∀ p, H1 p = none → Q (.ref p) (upd H1 p (.tup xs))
def tLst (t : TA) : TE := fun σ H Q => t σ H fun xs H1 => xs.length ≤ sizeLine ∧ ∀ p, H1 p = none → Q (.ref p) (upd H1 p (.lst xs))
theorem pe_tup {x1} (h : PA X es t) : PE X (.Tuple es x1 pos) (tTup t) := by
  intro pins s σ H Q I hq
  refine wpAny_Tuple_spliced (thn (h pos pins s σ H _ I hq) fun us s1 ⟨xs, H1, I1, r, z, q⟩ => ⟨by rw [← r.length]; exact z, ?_⟩)
  have hf : H1 s1.heap.objs.size = none := I1.hok.fresh (Nat.le_refl _)
  refine ⟨.ref s1.heap.objs.size, upd H1 s1.heap.objs.size (.tup xs), I1.laid (t' := s1.toks) (fun b u e => Heap.get?_push_of_some _ e) (Nat.le_refl _) ?_, rfl, q _ hf⟩
  exact ⟨z, us, r, ⟨_, Heap.get?_push_size _ rfl, rfl, _, rfl⟩⟩
theorem pe_lst (h : PA X es t) : PE X (.List es pos) (tLst t) := by
  intro pins s σ H Q I hq
  refine wpAny_List_spliced (thn (h pos pins s σ H _ I hq) fun us s1 ⟨xs, H1, I1, r, z, q⟩ => ⟨by rw [← r.length]; exact z, ?_⟩)
  have hf : H1 s1.heap.objs.size = none := I1.hok.fresh (Nat.le_refl _)
  refine ⟨.ref s1.heap.objs.size, upd H1 s1.heap.objs.size (.lst xs), I1.laid (t' := s1.toks) (fun b u e => Heap.get?_push_of_some _ e) (Nat.le_refl _) ?_, rfl, q _ hf⟩
  exact ⟨z, us, 0, r, Heap.get?_push_size _ rfl⟩
end

/-! ### what a def promises -/
/-- a def's promise: the bound arguments in the parameters' order, the heap, the wanted end, the wanted exception -/
abbrev Sp := List V → Hp → VK → XK → Prop
/-- how an exception lies behind a call (file 08 gives it): the callers' frames, abstract heap and state ahead of the call, the wish, the exception, the state -/
abbrev CXT := List Env → Hp → Shared → XK → Value → Shared → Prop

/-- the state at a call -/
structure Env0 (P : Program) (w : World) (K : PySem.W.Frag) (mg : Str → Option Value) (base : Heap) (A : Around) (outer : List Env) (s : Shared) (H : Hp) : Prop where
  frames : A.frames = some outer
  mod : Mod K mg base
  bs : ∀ b o, base.get? b = some o → s.heap.get? b = some o ∧ H b = none
  bsz : base.objs.size ≤ s.heap.objs.size
  funs : s.heap.FunFrames base outer
  frf : ∀ b ∈ frs outer, H b = none
  hok : HOk P w H s.heap
  bare : AllBare s.gens
/-- a call's end -/
def CE (outer : List Env) (P : Program) (w : World) (H : Hp) (s : Shared) (Q : VK) (u : Value) (s' : Shared) : Prop :=
  ∃ v H', s'.os = s.os ∧ AllBare s'.gens ∧ Un (frs outer) [] H H' s.heap s'.heap ∧ HOk P w H' s'.heap ∧ RelV v u ∧ Q v H'
def CR (CX : CXT) (outer : List Env) (P : Program) (w : World) (H : Hp) (s : Shared) (Q : VK) (E : XK) (r : Result) (s' : Shared) : Prop :=
  match r with
  | .ok (.ret u) => CE outer P w H s Q u s'
  | .ok _ => False
  | .error e => CX outer H s E e s'
structure FnOk (P : Program) (w : World) (K : PySem.W.Frag) (mg : Str → Option Value) (base : Heap) (CX : CXT) (k : Nat) (f : Addr) (fd : FuncData) (ps : List Str) (sp : Sp) : Prop where
  len : ∀ vs H Q E, sp vs H Q E → vs.length = ps.length
  run : ∀ (A : Around) (outer : List Env) (s : Shared) (H : Hp) (args : Args) (us : List Value) (vs : List V) (Q : VK) (E : XK), Room k A → Env0 P w K mg base A outer s H → BindsTo s fd args (ps.zip us) → Vals vs us → sp vs H Q E →
    codeAny (model P w) A (.call (.ref f) args) (CR CX outer P w H s Q E) s
section
variable {X : Cx} {pins : List (Addr × Obj)} {σ : St} {H : Hp} {s s' : Shared}
/-- from a body: what a callee wants -/
theorem Inv.env0 (I : Inv X pins σ H s) : Env0 X.prog X.w X.K X.mg X.base X.A X.stack s H :=
  ⟨I.ok.frames, I.ok.mod, I.bs, Nat.le_trans I.ok.bsz I.sz, I.stack, I.stkFree, I.hok, I.bare⟩
/-- behind a call -/
theorem Inv.after {Q : VK} {u : Value} (I : Inv X pins σ H s) (h : CE X.stack X.prog X.w H s Q u s') : EP X pins σ Q u s' := by
  obtain ⟨v, H', os, bare, un, hok, r, q⟩ := h
  obtain ⟨hh, g, d, t, os'⟩ := s'
  obtain rfl : os' = s.os := os
  exact ⟨v, H', I.call (h' := hh) (g' := g) (d' := d) (t' := t) (ch := []) un hok bare (fun b z => absurd z (by simp)), r, q⟩
end

/-! ### calls -/
/-- f(..): the written arguments, then the defaults dvs; E: what is wanted of an exception -/
def tCall (sp : Sp) (dvs : List V) (E : XK) (t : TA) : TE := fun σ H Q => t σ H fun vs H1 => sp (vs ++ dvs) H1 Q E
/-- how the parameters are bound: us the positional arguments, kw the keywords' values by name, ds the defaults that fill up -/
def Binds (K : PySem.W.Frag) (fd : FuncData) (ps : List Str) (ds : List Value) : Prop :=
  ∀ (s : Shared) (us : List Value), K.In s.heap → (us ++ ds).length = ps.length → BindsTo s fd ⟨us, []⟩ (ps.zip (us ++ ds))
/-- every parameter is given -/
theorem Binds.all {K : PySem.W.Frag} {fd : FuncData} {ps : List Str} (h : ∀ us : List Value, us.length = ps.length → bindArgs fd ⟨us, []⟩ = pure (ps.zip us)) : Binds K fd ps [] := fun s us _ hl => by
  rw [List.append_nil] at hl ⊢
  exact .of_eq (h us hl)

/-- an exception of a callee reaches what this body wants of exceptions -/
def Passes (CX : CXT) (X : Cx) (E : XK) : Prop := ∀ (pins : List (Addr × Obj)) (σ : St) (H : Hp) (s : Shared) (e : Value) (s' : Shared), Inv X pins σ H s → CX X.stack H s E e s' → X.xe e s'

section
variable {X : Cx} {CX : CXT} {k : Nat} {f C : Addr} {fd : FuncData} {ps : List Str} {sp : Sp} {dvs : List V} {ds : List Value} {E : XK} {x m : Str} {p pos apos : Pos} {e o : Expr} {es : List Expr} {ta : TE} {t : TA}

/-- the callee runs -/
theorem run_fn {pins : List (Addr × Obj)} {σ : St} {H : Hp} {s : Shared} {Q : VK} {us : List Value} {vs : List V} (F : FnOk X.prog X.w X.K X.mg X.base CX k f fd ps sp) (hr : Room k X.A) (hb : Binds X.K fd ps ds) (hd : Vals dvs ds) (hx : Passes CX X E)
    (I : Inv X pins σ H s) (r : Vals vs us) (h : sp (vs ++ dvs) H Q E) : wpAny (model X.prog X.w) X.A (call (.ref f) us) (EP X pins σ Q) X.xe s := by
  have r2 : Vals (vs ++ dvs) (us ++ ds) := r.append hd
  have hl : (us ++ ds).length = ps.length := by rw [← r2.length]; exact F.len _ _ _ _ h
  refine wpAny_call (codeAny_mono (F.run X.A X.stack s H ⟨us, []⟩ (us ++ ds) (vs ++ dvs) Q E hr I.env0 (hb s us I.kIn hl) r2 h) fun r s' hq => ?_)
  cases r with
  | error e => exact hx pins σ H s e s' I hq
  | ok fl =>
    cases fl with
    | ret u => exact I.after hq
    | next => exact False.elim hq
    | brk => exact False.elim hq
    | cont => exact False.elim hq

theorem pe_call (F : FnOk X.prog X.w X.K X.mg X.base CX k f fd ps sp) (hr : Room k X.A) (hg : Gl X x) (hm : X.mg x = some (.ref f)) (hk : PySem.W.keepIn X.K (.ref f) = true) (hb : Binds X.K fd ps ds) (hd : Vals dvs ds) (hx : Passes CX X E)
    (ha : PA X (e :: es) t) (hdb : (x == ("__debug__" : Str)) = false := by decide) (he : starEach (e :: es) X.env = (false, eval e X.env) :: starEach es X.env := by rfl) (hpl : (backTo pos (starEach es X.env)).any (·.1) = false := by rfl) :
    PE X (.Call (.Name x p) (e :: es) [] pos) (tCall sp dvs E t) := by
  intro pins s σ H Q I h
  refine wpAny_Call_Name_kw (ld_glob I hg hm ?_ hdb)
  refine PySem.W.callWith_K (h₀ := X.base) I.ok.mod.kin hk (thn (ha pos pins s σ H _ I h) fun us s1 ⟨vs, H1, I1, r, q⟩ => ⟨I1.kIn, ?_⟩) he hpl
  exact run_fn F hr hb hd hx I1 r q
/-- what a class must have to be made -/
structure Mk (K : PySem.W.Frag) (C f : Addr) : Prop where
  makes : PySem.W.makesIn K C = true
  init : PySem.W.findIn K (.ref C) "__init__" = some (some (.ref f))
  fn : PySem.W.isFn K (.ref f) = true
  kp : PySem.W.keepIn K (.ref C) = true

end

/-! ### keywords -/
section
variable {X : Cx} {CX : CXT} {k : Nat} {f C : Addr} {fd : FuncData} {ps ks : List Str} {sp : Sp} {E : XK} {x m : Str} {p pos apos kpos : Pos} {e o : Expr} {es : List Expr} {kws : List Keyword} {te ta : TE} {t tk : TA} {nm : Option Str}
/-- how a call with keywords binds: g puts the positional values us and the keywords' values ws (names ks) in the parameters' order, defaults among them -/
structure KBinds (K : PySem.W.Frag) (fd : FuncData) (ps ks : List Str) (g : List Value → List Value → List Value) (gV : List V → List V → List V) : Prop where
  to : ∀ (s : Shared) (us ws : List Value), K.In s.heap → (g us ws).length = ps.length → BindsTo s fd ⟨us, ks.zip ws⟩ (ps.zip (g us ws))
  rel : ∀ {vs : List V} {us : List Value} {zs : List V} {ws : List Value}, Vals vs us → Vals zs ws → Vals (gV vs zs) (g us ws)
variable {g : List Value → List Value → List Value} {gV : List V → List V → List V}
end

/-! ### a def's body keeps its promise -/
/-- names: the parameters first -/
structure FnScope (N P : List Str) (sc : Scope) : Prop where
  kind : sc.kind = .function
  co : sc.isCoroutine = false
  gen : sc.isGenerator = false
  nd : N.Nodup
  pre : N.take P.length = P
  par : ∀ x ∈ P, sc.names.lookup x = some .local ∨ sc.names.lookup x = some .cell
  nofree : ∀ y ∈ sc.names, y.2 ≠ .free

theorem bindL_out {kindOf : Str → Option NameKind} {x : Str} : ∀ {binds : List (Str × Value)} {m : Str → Option Value}, (∀ v, (x, v) ∉ binds) → bindL kindOf binds m x = m x
  | [], _, _ => rfl
  | (n, v) :: r, m, h => by
    unfold bindL
    rw [bindL_out fun w hw => h w (List.mem_cons_of_mem _ hw)]
    split
    · have : x ≠ n := by rintro rfl; exact h v List.mem_cons_self
      simp [this]
    · rfl
theorem bindC_out {kindOf : Str → Option NameKind} {x : Str} : ∀ {binds : List (Str × Value)} {m : Str → Option Value}, (∀ v, (x, v) ∉ binds) → bindC kindOf binds m x = m x
  | [], _, _ => rfl
  | (n, v) :: r, m, h => by
    unfold bindC
    rw [bindC_out fun w hw => h w (List.mem_cons_of_mem _ hw)]
    split
    · rfl
    · have : x ≠ n := by rintro rfl; exact h v List.mem_cons_self
      simp [this]
theorem bindL_get {kindOf : Str → Option NameKind} {x : Str} {v : Value} : ∀ {P : List Str} {vs : List Value} {i : Nat} {m : Str → Option Value}, P.Nodup → P[i]? = some x → vs[i]? = some v → kindOf x = some .local →
    bindL kindOf (P.zip vs) m x = some v
  | [], _, _, _, _, h, _, _ => by simp at h
  | _ :: _, [], _, _, _, _, h, _ => by simp at h
  | p :: P, w :: vs, 0, m, nd, h1, h2, hk => by
    simp at h1 h2; subst h1; subst h2
    show bindL kindOf ((p, w) :: P.zip vs) m p = _
    unfold bindL
    rw [bindL_out fun v hv => (List.nodup_cons.mp nd).1 (List.of_mem_zip hv).1, if_pos hk]
    simp
  | p :: P, w :: vs, i + 1, m, nd, h1, h2, hk => by
    show bindL kindOf ((p, w) :: P.zip vs) m x = _
    unfold bindL
    exact bindL_get (i := i) (List.nodup_cons.mp nd).2 (by simpa using h1) (by simpa using h2) hk
theorem bindC_get {kindOf : Str → Option NameKind} {x : Str} {v : Value} : ∀ {P : List Str} {vs : List Value} {i : Nat} {m : Str → Option Value}, P.Nodup → P[i]? = some x → vs[i]? = some v → kindOf x ≠ some .local →
    bindC kindOf (P.zip vs) m x = some v
  | [], _, _, _, _, h, _, _ => by simp at h
  | _ :: _, [], _, _, _, _, h, _ => by simp at h
  | p :: P, w :: vs, 0, m, nd, h1, h2, hk => by
    simp at h1 h2; subst h1; subst h2
    show bindC kindOf ((p, w) :: P.zip vs) m p = _
    unfold bindC
    rw [bindC_out fun v hv => (List.nodup_cons.mp nd).1 (List.of_mem_zip hv).1, if_neg hk]
    simp
  | p :: P, w :: vs, i + 1, m, nd, h1, h2, hk => by
    show bindC kindOf ((p, w) :: P.zip vs) m x = _
    unfold bindC
    exact bindC_get (i := i) (List.nodup_cons.mp nd).2 (by simpa using h1) (by simpa using h2) hk

/-- the names' values at the entry -/
def start (N : List Str) (vs : List V) : St := vs.map some ++ List.replicate (N.length - vs.length) none

/-- the context of a def's body, at its entry; an exception leaves the frame, then lies as CX says -/
def cxOf (CX : CXT) (P : Program) (w : World) (K : PySem.W.Frag) (mg : Str → Option Value) (base : Heap) (N : List Str) (qual : Str) (scope : Scope) (f : Addr) (cd : Value) (A : Around) (outer : List Env) (s : Shared) (H : Hp) (E : XK) : Cx where
  prog := P
  w := w
  K := K
  mg := mg
  base := base
  A := A.deeper (envOfC qual scope s.heap.objs.size f cd)
  N := N
  s₀ := s
  H₀ := H
  env := envOfC qual scope s.heap.objs.size f cd
  outer := outer
  stack := envOfC qual scope s.heap.objs.size f cd :: outer
  ex := []
  calm := true
  fn := fun _ => true
  pn := []
  xe := fun e s' => wpAny (model P w) (A.deeper (envOfC qual scope s.heap.objs.size f cd)) (leaving (envOfC qual scope s.heap.objs.size f cd) e) (fun _ s'' => CX outer H s E e s'') (fun e' s'' => CX outer H s E e' s'') s'

theorem cell_has {sc : Scope} {n : Nat} {x : Str} (h : sc.names.lookup x = some .cell) : ∃ c, (cellsFrom n sc.names []).lookup x = some c := by
  have q := PySem.W.cellsFrom_some sc.names n [] (.inl h)
  exact Option.isSome_iff_exists.mp q

theorem inv_start {CX : CXT} {P : Program} {w : World} {K : PySem.W.Frag} {mg : Str → Option Value} {base : Heap} {N ps : List Str} {qual : Str} {scope : Scope} {f : Addr} {cd : Value} {A : Around} {outer : List Env} {s s1 : Shared} {H : Hp} {E : XK} {us : List Value} {vs : List V}
    (S : FnScope N ps scope) (hd : A.handled = none) (e0 : Env0 P w K mg base A outer s H) (hl : vs.length = ps.length) (r : Vals vs us)
    (x : InCallC s s.heap.objs.size (bindL (envOfC qual scope s.heap.objs.size f cd).kindOf (ps.zip us) fun _ => none) (cellsFrom (s.heap.objs.size + 1) scope.names []) (bindC (envOfC qual scope s.heap.objs.size f cd).kindOf (ps.zip us) fun _ => none) s1) :
    Inv (cxOf CX P w K mg base N qual scope f cd A outer s H E) [] (start N vs) H s1 := by
  have hpl : ps.length ≤ N.length := by have := congrArg List.length S.pre; rw [List.length_take] at this; omega
  obtain ⟨h1, tk, rfl, hk⟩ := x.done
  have noA : ∀ b : Addr, b ∉ (cxOf CX P w K mg base N qual scope f cd A outer s H E).ex := fun b z => absurd (show b ∈ ([] : List Addr) from z) (by simp)
  refine ⟨⟨e0.mod, S.kind, rfl, rfl, Nat.le_refl _, fun y z c h1 h2 => ?_, fun y hy => ?_, fun y c _ h => ?_, fun _ => hd, Around.frames_deeper e0.frames, .inr ⟨rfl, rfl⟩, fun b z => absurd z (noA b), e0.bs, e0.bsz, fun b _ _ => noA b, fun b z => absurd z (noA b), e0.funs, e0.frf⟩,
    rfl, e0.bare, Un.kept hk, ⟨_, x.toInCall.ns, fun i y v h1 h2 h3 => ?_⟩, fun y c h => ⟨_, x.cell y c h⟩, e0.hok.fresh (Nat.le_refl _), fun y c h => ?_, fun p hp => absurd (show p ∈ ([] : List (Addr × Obj)) from hp) (by simp), e0.hok.kept hk, ?_⟩
  · exact name_of_addr x.apart (PySem.mem_of_lookup h1) (PySem.mem_of_lookup h2)
  · have hy : scope.names.lookup y = some .cell ∨ scope.names.lookup y = some .free := hy
    rcases hy with hy | hy
    · exact cell_has hy
    · exact absurd rfl (S.nofree _ (PySem.mem_of_lookup hy))
  · exact Nat.le_of_lt (x.above y c (PySem.mem_of_lookup h))
  · have hi : i < vs.length := by
      unfold start at h2
      by_cases hi : i < vs.length
      · exact hi
      · rw [List.getElem?_append_right (by simpa using hi)] at h2
        rw [List.getElem?_replicate] at h2
        split at h2 <;> cases h2
    have ha : vs[i]? = some v := by
      unfold start at h2
      rw [List.getElem?_append_left (by simpa using hi), List.getElem?_map] at h2
      cases e : vs[i]? with
      | none => rw [e] at h2; cases h2
      | some a => rw [e] at h2; cases h2; rfl
    obtain ⟨u, hu, rv⟩ := r.get ha
    have hp : ps[i]? = some y := by
      rw [← S.pre, List.getElem?_take_of_lt (by omega)]; exact h1
    have ndP : ps.Nodup := by rw [← S.pre]; exact S.nd.sublist (List.take_sublist _ _)
    refine ⟨u, rv, ?_⟩
    rcases S.par y (List.mem_of_getElem? hp) with k | k
    · exact .inl ⟨k, bindL_get ndP hp hu k⟩
    · obtain ⟨c, e⟩ := cell_has (n := s.heap.objs.size + 1) k
      refine .inr ⟨.inl k, c, e, ?_⟩
      have q := x.cell y c e
      rw [bindC_get ndP hp hu (by show scope.names.lookup y ≠ _; rw [k]; decide)] at q
      exact q
  · exact e0.hok.fresh (Nat.le_of_lt (x.above y c (PySem.mem_of_lookup h)))
  · unfold start
    show _ = N.length
    rw [List.length_append, List.length_map, List.length_replicate]
    omega

/-- THE RULE: a def (or a method) of the text, by its body. The body's reading t is chosen for each entry; it is run at the parameters' values -/
theorem fn_of {CX : CXT} {P : Program} {w : World} {K : PySem.W.Frag} {mg : Str → Option Value} {base : Heap} {k : Nat} {f : Addr} {name qual : Str} {params : Arguments} {body : List Stmt} {scope : Scope} {dV kV doc pm cdv ct oc : Value} {an od : Option Addr}
    {osl : Array (Option Value)} {N ps : List Str} {sp : Sp} (lk : K.lookup f = some ⟨oc, od, .func (PySem.W.fnOf name qual params body scope dV kV doc pm an cdv ct), osl⟩) (hcd : PySem.W.codeIn K cdv qual = true) (S : FnScope N ps scope)
    (len : ∀ vs H Q E, sp vs H Q E → vs.length = ps.length)
    (hbody : ∀ (A : Around) (outer : List Env) (s : Shared) (H : Hp) (vs : List V) (Q : VK) (E : XK), Room k (A.deeper (envOfC qual scope s.heap.objs.size f cdv)) → sp vs H Q E →
      ∃ t, PSs (cxOf CX P w K mg base N qual scope f cdv A outer s H E) body t ∧ t { nx := fun _ H' => Q .non H', rt := Q } (start N vs) H) :
    FnOk P w K mg base CX (k + 1) f (PySem.W.fnOf name qual params body scope dV kV doc pm an cdv ct) ps sp := by
  refine ⟨len, fun A outer s H args us vs Q E hr e0 hb r hsp => ?_⟩
  have hl := len _ _ _ _ hsp
  have KX : K.In s.heap := e0.mod.kin.keeps fun b o e => (e0.bs b o e).1
  have lim : s.heap.NoLimit := e0.mod.nolimit.keeps fun b o e => (e0.bs b o e).1
  have hkind : ∀ y ∈ ps.zip us, scope.names.lookup y.1 = some .local ∨ (scope.names.lookup y.1 = some .cell ∧ ((cellsFrom (s.heap.objs.size + 1) scope.names []).lookup y.1).isSome = true) := fun ⟨n, v⟩ hy => by
    rcases S.par n (List.of_mem_zip hy).1 with q | q
    · exact .inl q
    · exact .inr ⟨q, PySem.W.cellsFrom_some _ _ _ (.inl q)⟩
  refine codeAny_call_function hr.depth (KX _ _ lk) rfl S.co S.gen rfl (PySem.W.codeRec_of KX hcd) (hb _ _ _ _ ?_)
  refine wpAny_newFunctionEnv_cells S.kind hkind fun env he s1 x => ?_
  subst he
  refine ⟨lim.keeps x.toInCall.keep, codeAny_func ?_⟩
  obtain ⟨t, ht, hq⟩ := hbody A outer s H vs Q E (hr.deeper _) hsp
  have I : Inv (cxOf CX P w K mg base N qual scope f cdv A outer s H E) [] (start N vs) H s1 := inv_start S hr.hd e0 hl r x
  refine wpAny_mono (ht [] s1 (start N vs) H _ I hq) (fun fl s' hs => ?_) fun e s' hs => hs
  have fin : ∀ {σ' : St} {H' : Hp} {v : V} {u : Value}, Inv (cxOf CX P w K mg base N qual scope f cdv A outer s H E) [] σ' H' s' → RelV v u → Q v H' → CE outer P w H s Q u s' :=
    fun {σ' H' v u} J rv q => ⟨v, H', J.os, J.bare, J.base, J.hok, rv, q⟩
  cases fl with
  | ret u =>
    obtain ⟨v, σ', H', J, rv, q⟩ := hs
    exact fin J rv q
  | next =>
    obtain ⟨σ', H', J, q⟩ := hs
    exact fin (v := V.non) (u := Value.none) J rfl q
  | brk =>
    obtain ⟨_, _, _, q⟩ := hs
    exact False.elim q
  | cont =>
    obtain ⟨_, _, _, q⟩ := hs
    exact False.elim q
end L2

namespace L2
open PySem PySem.Spec PyProof.Rows
section
variable {X : Cx} {x : Str} {p pos : Pos} {e : Expr} {es : List Expr} {t : TA} {id T : String} {r : List V → Hp → VK → Prop}

def tCB (r : List V → Hp → VK → Prop) (t : TA) : TE := fun σ H Q => t σ H fun vs H1 => r vs H1 Q
/-- f(e, ..), f a built-in function -/
theorem pe_callB (hc : CallR X (.builtin id) r) (hg : Gl X x) (hm : X.mg x = none) (hv : bootBuiltins x = some (.builtin id)) (ha : PA X (e :: es) t) (hn : x ≠ "__name__" := by decide) (hdb : (x == ("__debug__" : Str)) = false := by decide)
    (he : starEach (e :: es) X.env = (false, eval e X.env) :: starEach es X.env := by rfl) (hpl : (backTo pos (starEach es X.env)).any (·.1) = false := by rfl) : PE X (.Call (.Name x p) (e :: es) [] pos) (tCB r t) := by
  intro pins s σ H Q I h
  refine wpAny_Call_Name_kw (ld_blt I hg hm hv ?_ hn hdb)
  exact PyProof.Rows.callWith_builtin1 (thn (ha pos pins s σ H _ I h) fun us s1 ⟨vs, H1, I1, r1, q1⟩ => hc pins s1 σ H1 vs us Q I1 r1 q1) he hpl
/-- T(e, ..), T a built-in type -/
theorem pe_callTy (hc : CallR X (.type T) r) (hg : Gl X x) (hm : X.mg x = none) (hv : bootBuiltins x = some (.type T)) (ha : PA X (e :: es) t) (hn : x ≠ "__name__" := by decide) (hdb : (x == ("__debug__" : Str)) = false := by decide)
    (he : starEach (e :: es) X.env = (false, eval e X.env) :: starEach es X.env := by rfl) (hpl : (backTo pos (starEach es X.env)).any (·.1) = false := by rfl) : PE X (.Call (.Name x p) (e :: es) [] pos) (tCB r t) := by
  intro pins s σ H Q I h
  refine wpAny_Call_Name_kw (ld_blt I hg hm hv ?_ hn hdb)
  exact PyProof.Rows.callWith_type1 (thn (ha pos pins s σ H _ I h) fun us s1 ⟨vs, H1, I1, r1, q1⟩ => hc pins s1 σ H1 vs us Q I1 r1 q1) he hpl
end
end L2

namespace HT
open PySem PyProof.Rows

/-- t < u of tuples of ints -/
def lexLt : List Int → List Int → Bool
  | [], [] => false
  | [], _ :: _ => true
  | _ :: _, [] => false
  | x :: xs, y :: ys => if x = y then lexLt xs ys else decide (x < y)
theorem lexLt_cons (x y : Int) (xs ys : List Int) : lexLt (x :: xs) (y :: ys) = if x = y then lexLt xs ys else decide (x < y) := rfl
theorem lexLt_nil_nil : lexLt [] [] = false := rfl
theorem lexLt_nil_cons (y : Int) (ys : List Int) : lexLt [] (y :: ys) = true := rfl
theorem lexLt_cons_nil (x : Int) (xs : List Int) : lexLt (x :: xs) [] = false := rfl

theorem eqAt_int (A : Around) (s : Shared) (a : Int) (t : Tok) (c : Int) (u : Tok) : ∃ e, SeqAt.EqAt A s (.int a t) (.int c u) e ∧ (e = true ↔ a = c) :=
  ⟨(a == c), SeqAt.EqAt.int_int a t c u, by simp⟩
theorem rcLt_int (A : Around) (s : Shared) (a : Int) (t : Tok) (c : Int) (u : Tok) (prog : Program) (w : World) (E : Value → Shared → Prop) (Q : Value → Shared → Prop) (h : Q (.bool (decide (a < c))) s) :
    wpAny (model prog w) A (richCompare .Lt (.int a t) (.int c u)) Q E s :=
  (PyProof.Rows.lt_int h : wpAny (model prog w) A (compareOp .Lt (.int a t) (.int c u)) Q E s)

section
open PySem.SeqAt
open PySem.AutoSeq1 (wpAny_loadPart')
open PySem.MeetsSeq PySem.MeetsSeq2 PySem.MeetsSeq3

theorem tuple_lt_ints (l b : Addr) (items items2 : Array Value) (n n2 : Nat) (dd dd2 : Option Addr) (sl sl2 : Array (Option Value)) (ns ms : List Int) (hi : IntsAre items.toList ns) (hj : IntsAre items2.toList ms) :
    Meets (Builtin.«tuple.__lt__» ⟨[.ref l, .ref b], []⟩)
      (fun _ R s => s.heap.get? l = some { cls := .type "tuple", dict := dd, data := .seq items n, slots := sl } ∧ s.heap.get? b = some { cls := .type "tuple", dict := dd2, data := .seq items2 n2, slots := sl2 } ∧
        R (.ok (.ret (.bool (lexLt ns ms)))) s) :=
  .of_wp fun prog w A R s h => by
    obtain ⟨hp, g, d, tk, os⟩ := s; obtain ⟨hl, hb, h⟩ := h
    have f2 := AutoSeq1.sub_tuple_tuple
    have z1 : items.size = ns.length := by rw [← hi.length]; simp
    have z2 : items2.size = ms.length := by rw [← hj.length]; simp
    wp_walk using wpAny_loadPart' hl, wpAny_loadPart' hb, wpAny_forIn_list _ (fun rest b s' => b.1 = none ∧ s' = ⟨hp, g, d, tk, os⟩ ∧ ∃ (vs ws : List Value) (ns' ms' : List Int), rest = vs.zip ws ∧
      IntsAre vs ns' ∧ IntsAre ws ms' ∧ ns'.length + items2.size = ms'.length + items.size ∧ R (.ok (.ret (.bool (lexLt ns' ms')))) ⟨hp, g, d, tk, os⟩) _
    case turn =>
      rintro ⟨y, x⟩ rest b s' ⟨hb', rfl, vs, ws, ns', ms', hz, hvi, hwi, hlen, hR⟩
      cases hvi with
      | nil => rw [List.zip_nil_left] at hz; cases hz
      | cons a t hvi' =>
        cases hwi with
        | nil => rw [List.zip_nil_right] at hz; cases hz
        | cons c u hwi' =>
          rw [List.zip_cons_cons] at hz
          injection hz with hyx hrest
          injection hyx with hy hx
          subst hy hx
          rw [lexLt_cons] at hR
          simp only [List.length_cons] at hlen
          obtain ⟨e, he, hiff⟩ := eqAt_int A.in1 ⟨hp, g, d, tk, os⟩ a t c u
          refine wpAny_bind (he prog w _ _ ?_)
          cases e with
          | true =>
            rw [if_pos (hiff.mp rfl)] at hR
            wp_walk
            exact ⟨rfl, rfl, _, _, _, _, hrest, hvi', hwi', by omega, hR⟩
          | false =>
            rw [if_neg (fun q => absurd (hiff.mpr q) Bool.false_ne_true)] at hR
            have hri := rcLt_int A.in1 ⟨hp, g, d, tk, os⟩ a t c u prog w
            wp_walk using hri
            exact ⟨_, rfl, by simpa using hR⟩
    case fin =>
      rintro ⟨b1, b2⟩ s' ⟨hb', rfl, vs, ws, ns', ms', hz, hvi, hwi, hlen, hR⟩
      simp only at hb'
      subst hb'
      have hv : lexLt ns' ms' = decide (items.size < items2.size) := by
        cases hvi with
        | nil =>
          cases hwi with
          | nil =>
            simp only [List.length_nil] at hlen
            rw [lexLt_nil_nil]
            exact (decide_eq_false (by omega)).symm
          | cons c u hw =>
            simp only [List.length_nil, List.length_cons] at hlen
            rw [lexLt_nil_cons]
            exact (decide_eq_true (by omega)).symm
        | cons a t hv =>
          cases hwi with
          | nil =>
            simp only [List.length_nil, List.length_cons] at hlen
            rw [lexLt_cons_nil]
            exact (decide_eq_false (by omega)).symm
          | cons c u hw =>
            rw [List.zip_cons_cons] at hz
            cases hz
      rw [hv] at hR
      wp_walk
      exact ⟨_, rfl, by simpa [Builtin.Tuple.tupleCompareSizes] using hR⟩
    case h =>
      exact ⟨rfl, rfl, items.toList, items2.toList, ns, ms, rfl, hi, hj, by omega, h⟩
end

section
variable {prog : Program} {w : World} {A : Around} {E : Value → Shared → Prop} {s : Shared}

theorem lt_tupInts {l b : Addr} {items items2 : Array Value} {ns ms : List Int} {Q : Value → Shared → Prop} (hl : IsTup s.heap l items) (hb : IsTup s.heap b items2) (hi : IntsAre items.toList ns) (hj : IntsAre items2.toList ms)
    (hu : A.units < cLine) (h : Q (.bool (lexLt ns ms)) s) : wpAny (model prog w) A (compareOp .Lt (.ref l) (.ref b)) Q E s := by
  obtain ⟨⟨cls, dd, data, sl⟩, ho, hc, n, hd⟩ := id hl
  obtain ⟨⟨cls2, dd2, data2, sl2⟩, ho2, hc2, n2, hd2⟩ := id hb
  simp only at hc hd hc2 hd2
  subst hc hd hc2 hd2
  exact richCompare_meets_room (op := .Lt) ⟨_, ho, rfl⟩ ⟨_, ho2, rfl⟩ PySem.F.slot_tuple_lt PySem.F.entry_tuple_lt (PySem.F.args_tuple_lt_2 _ _) (tuple_lt_ints l b items items2 n n2 dd dd2 sl sl2 ns ms hi hj)
    ⟨ho, ho2, show Value.bool (lexLt ns ms) ≠ Value.notImplemented ∧ Q (.bool (lexLt ns ms)) s from ⟨(fun x => nomatch x), h⟩⟩ hu

/-! ### t[a:b], not the whole -/
/-- a slice's bound as a place among n (d where it is left out) -/
def sIx (n d : Nat) : Option Int → Nat
  | none => d
  | some v => if v < 0 then (v + (n : Int)).toNat else min v.toNat n
end
end HT

namespace L2
open PySem PySem.Spec PyProof.Rows

/-! ### the parts of a slice -/
abbrev TO := St → Hp → (Option Int → Hp → Prop) → Prop
/-- a slice's part (left out, or an int) -/
def PO (X : Cx) (e : Option Expr) (t : TO) : Prop :=
  ∀ (pins : List (Addr × Obj)) (s : Shared) (σ : St) (H : Hp) (Q : Option Int → Hp → Prop), Inv X pins σ H s → t σ H Q →
    wpAny (model X.prog X.w) X.A (evalPart e X.env) (fun u s' => ∃ o H', Inv X pins σ H' s' ∧ IsPart u o ∧ Q o H') X.xe s
def tNoPart : TO := fun _ H Q => Q none H
def tPart (t : TE) : TO := fun σ H Q => t σ H fun x H1 => ∃ i, x = .int i ∧ Q (some i) H1

section
variable {X : Cx} {e : Expr} {te : TE} {lo hi : Option Expr} {tl th : TO} {pos p2 : Pos}

theorem po_none : PO X none tNoPart := by
  intro pins s σ H Q I h
  rw [evalPart_none]
  exact wpAny_pure ⟨none, H, I, .none, h⟩
theorem po_some (h : PE X e te) : PO X (some e) (tPart te) := by
  intro pins s σ H Q I hw
  rw [evalPart_some]
  refine thn (h pins s σ H _ I hw) fun u s1 ⟨x, H1, I1, r1, q1⟩ => ?_
  obtain ⟨i, rfl, q⟩ := q1
  obtain ⟨t, rfl⟩ := r1
  exact ⟨some i, H1, I1, .int i t, q⟩

/-- what a slice of a value is, by values: the slice object stands at sl -/
def SlR (X : Cx) (r : V → Option Int → Option Int → Hp → VK → Prop) : Prop :=
  ∀ (pins : List (Addr × Obj)) (s : Shared) (σ : St) (H : Hp) (x : V) (v vl vu : Value) (lo hi : Option Int) (sl : Addr) (Q : VK), Inv X pins σ H s → RelV x v → s.heap.IsSliceOf sl vl vu .none → IsPart vl lo → IsPart vu hi → r x lo hi H Q →
    ∃ T id, typeLookup (.type T) "__getitem__" = pure (some (.builtin id)) ∧ s.TypeIs v T ∧ wpAny (model X.prog X.w) X.A (getItem v (.ref sl)) (EP X pins σ Q) X.xe s
def tSl (r : V → Option Int → Option Int → Hp → VK → Prop) (te : TE) (tl th : TO) : TE := fun σ H Q => te σ H fun x H1 => tl σ H1 fun l H2 => th σ H2 fun u H3 => r x l u H3 Q
/-- a[lo:hi], any a -/
theorem pe_slice {r : V → Option Int → Option Int → Hp → VK → Prop} (hr : SlR X r) (he : PE X e te) (hl : PO X lo tl) (hu : PO X hi th) : PE X (.Subscript e (.Slice lo hi none p2) pos) (tSl r te tl th) := by
  intro pins s σ H Q I h
  refine Subscript_ (thn (he pins s σ H _ I h) fun v s1 ⟨x, H1, I1, r1, q1⟩ => ?_)
  refine wpAny_Slice (thn (hl pins s1 σ H1 _ I1 q1) fun vl s2 ⟨l, H2, I2, pl, q2⟩ => thn (hu pins s2 σ H2 _ I2 q2) fun vu s3 ⟨u, H3, I3, pu, q3⟩ => ?_)
  rw [evalPart_none]
  refine wpAny_pure ?_
  have I4 : Inv X pins σ H3 { s3 with heap := s3.heap.push { cls := .type "slice", data := .fields #[vl, vu, .none] } } := I3.kept (t' := s3.toks) fun b ob q => Heap.get?_push_of_some _ q
  obtain ⟨T, id, hT, ht, hg⟩ := hr pins { s3 with heap := s3.heap.push { cls := .type "slice", data := .fields #[vl, vu, .none] } } σ H3 x v vl vu l u s3.heap.objs.size Q I4 r1 (Heap.IsSliceOf.new ..) pl pu q3
  show wpAny (model X.prog X.w) X.A (subscriptTail e (.Slice lo hi none p2) v (.ref s3.heap.objs.size)) (EP X pins σ Q) X.xe { s3 with heap := s3.heap.push { cls := .type "slice", data := .fields #[vl, vu, .none] } }
  exact tail_any (ops := [.ref s3.heap.objs.size, v]) ht hT hg (by with_unfolding_all rfl)

/-- the items of xs[lo:hi] -/
def cutV (xs : List V) (lo hi : Option Int) : List V := (xs.drop (HT.sIx xs.length 0 lo)).take (HT.sIx xs.length xs.length hi - HT.sIx xs.length 0 lo)
theorem cutV_length (xs : List V) (lo hi : Option Int) : (cutV xs lo hi).length ≤ xs.length := by
  unfold cutV
  rw [List.length_take, List.length_drop]
  omega
/-! ### t < u, t + u -/
end
end L2

namespace L2
open PySem PySem.Spec PyProof.Rows

/-! ### places -/
/-- the place that an index of any sign means -/
def ixN (n : Nat) (i : Int) : Option Nat := if 0 ≤ i then (if i < n then some i.toNat else none) else if -(n : Int) ≤ i then some (i + n).toNat else none
def atI {α : Type} (xs : List α) (i : Int) : Option α := (ixN xs.length i).bind fun j => xs[j]?
theorem ixN_seq {n : Nat} {i : Int} {j : Nat} (h : ixN n i = some j) : seqIndex? i n = some j ∧ j < n ∧ -(n : Int) ≤ i ∧ i < n := by
  unfold ixN at h
  by_cases h0 : 0 ≤ i
  · rw [if_pos h0] at h
    by_cases h1 : i < n
    · rw [if_pos h1] at h
      have e : i.toNat = j := Option.some.inj h
      exact ⟨by rw [seqIndex_of h0 h1, e], by omega, by omega, h1⟩
    · rw [if_neg h1] at h; cases h
  · rw [if_neg h0] at h
    by_cases h1 : -(n : Int) ≤ i
    · rw [if_pos h1] at h
      have e : (i + n).toNat = j := Option.some.inj h
      exact ⟨by rw [seqIndex_neg (by omega) h1, e], by omega, h1, by omega⟩
    · rw [if_neg h1] at h; cases h
theorem atI_get {α : Type} {xs : List α} {i : Int} {v : α} (h : atI xs i = some v) : ∃ j, seqIndex? i xs.length = some j ∧ xs[j]? = some v ∧ j < xs.length ∧ -(xs.length : Int) ≤ i ∧ i < xs.length := by
  unfold atI at h
  cases e : ixN xs.length i with
  | none => rw [e] at h; cases h
  | some j =>
    rw [e] at h
    obtain ⟨h1, h2, h3, h4⟩ := ixN_seq e
    exact ⟨j, h1, h, h2, h3, h4⟩
theorem atI_nat {α : Type} {xs : List α} {j : Nat} {v : α} (h : xs[j]? = some v) : atI xs (j : Int) = some v := by
  have hj : j < xs.length := (List.getElem?_eq_some_iff.mp h).1
  have e : ixN xs.length (j : Int) = some j := by
    unfold ixN
    rw [if_pos (by omega), if_pos (by omega)]; simp
  unfold atI; rw [e]; exact h
/-! ### what may be subscripted -/
/-- what stands as an index of a plain subscript -/
def PlainIx (b : Expr) : Prop := ∀ o i, subscripted b false o i = operate [o, i] (getItem o i)
/-- a subscript by values -/
def IxR (X : Cx) (r : R2) : Prop :=
  ∀ (value slice : Expr) (pins : List (Addr × Obj)) (s : Shared) (σ : St) (H : Hp) (x y : V) (v u : Value) (Q : VK), Inv X pins σ H s → RelV x v → RelV y u → r x y H Q →
    subscripted slice false v u = operate [v, u] (getItem v u) → wpAny (model X.prog X.w) X.A (subscriptTail value slice v u) (EP X pins σ Q) X.xe s
/-- a call of a builtin's method by values: the receiver, the arguments -/
def MtR (X : Cx) (id : String) (r : V → List V → Hp → VK → Prop) : Prop :=
  ∀ (pins : List (Addr × Obj)) (s : Shared) (σ : St) (H : Hp) (x : V) (xs : List V) (v : Value) (us : List Value) (Q : VK), Inv X pins σ H s → RelV x v → Vals xs us → r x xs H Q →
    wpAny (model X.prog X.w) X.A (call (.builtin id) (v :: us)) (EP X pins σ Q) X.xe s
section
variable {X : Cx} {a b : Expr} {ta tb : TE} {pos : Pos}
/-- a[b] -/
theorem pe_ix {r : R2} (hr : IxR X r) (ha : PE X a ta) (hb : PE X b tb) (hs : PlainIx b) : PE X (.Subscript a b pos) (tOp r ta tb) := by
  intro pins s σ H Q I h
  exact Subscript_ (binT ha hb I h fun v u s2 x y H2 I2 rx ry q => hr a b pins s2 σ H2 x y v u Q I2 rx ry q (hs _ _))

def rIxL (K : PySem.W.Frag) : R2 := fun x y H Q => ∃ p xs i v, x = .ref p ∧ y = .int i ∧ SqL K H p xs ∧ atI xs i = some v ∧ Q v H
def rIxT (K : PySem.W.Frag) : R2 := fun x y H Q => ∃ p xs i v, x = .ref p ∧ y = .int i ∧ SqT K H p xs ∧ atI xs i = some v ∧ Q v H
theorem ix_list : IxR X (rIxL X.K) := by
  intro value slice pins s σ H x y v u Q I rx ry h hs
  obtain ⟨p, xs, i, z, rfl, rfl, hq, he, q⟩ := h
  cases rx
  obtain ⟨t, rfl⟩ := ry
  obtain ⟨its, r, pl, hz⟩ := I.list hq
  obtain ⟨j, h1, h2, h3, h4, h5⟩ := atI_get he
  obtain ⟨w, ew, rw'⟩ := r.get h2
  have hl := r.length
  have hn := line63
  have fin : EP X pins σ Q w s := ⟨z, H, I, rw', q⟩
  by_cases h0 : 0 ≤ i
  · have hj : i.toNat = j := by
      rw [seqIndex_of h0 h5] at h1
      exact Option.some.inj h1
    exact item_listR pl.isList h0 (by omega) (by rw [hj]; simpa using ew) fin hs
  · have hj : (i + (its.toArray.size : Int)).toNat = j := by
      rw [seqIndex_neg (by omega) h4] at h1
      rw [List.size_toArray, ← hl]
      exact Option.some.inj h1
    exact subscriptTail_builtinR (x := w) pl.isList.typeIs slot_list_getitem.lookup
      (wpAny_getItem_list_neg (Q := fun r s' => r = w ∧ EP X pins σ Q r s') pl.isList (by omega) (by rw [List.size_toArray] <;> omega) (by omega) (by rw [hj]; simpa using ew) ⟨rfl, fin⟩) hs
theorem ix_tup : IxR X (rIxT X.K) := by
  intro value slice pins s σ H x y v u Q I rx ry h hs
  obtain ⟨p, xs, i, z, rfl, rfl, hq, he, q⟩ := h
  cases rx
  obtain ⟨t, rfl⟩ := ry
  obtain ⟨its, r, pl, hz⟩ := I.tuple hq
  obtain ⟨j, h1, h2, h3, h4, h5⟩ := atI_get he
  obtain ⟨w, ew, rw'⟩ := r.get h2
  have hl := r.length
  have hn := line63
  have fin : EP X pins σ Q w s := ⟨z, H, I, rw', q⟩
  exact subscriptTail_builtinR (x := w) pl.typeIs slot_tuple_getitem.lookup
    (getItem_tuple (j := j) (Q := fun r s' => r = w ∧ EP X pins σ Q r s') pl (by omega) (by omega) (by rw [List.size_toArray, ← hl]; exact h1) (by simpa using ew) ⟨rfl, fin⟩) hs
/-! ### xs[i] = v, any sign -/
/-! ### slices -/
theorem slice_bounds (lo hi : Option Int) (n : Nat) : (sliceBounds lo hi none n).1 = ((HT.sIx n 0 lo : Nat) : Int) ∧ (sliceBounds lo hi none n).2.1 = ((HT.sIx n n hi : Nat) : Int) ∧ (sliceBounds lo hi none n).2.2 = 1 := by
  refine ⟨?_, ?_, rfl⟩
  · cases lo with
    | none => simp [sliceBounds, HT.sIx]
    | some i =>
      simp only [sliceBounds, HT.sIx, Option.getD_none, show (1 : Int) > 0 by decide, if_true]
      by_cases h : i < 0
      · simp only [h, if_true] <;> omega
      · simp only [h, if_false] <;> omega
  · cases hi with
    | none => simp [sliceBounds, HT.sIx]
    | some i =>
      simp only [sliceBounds, HT.sIx, Option.getD_none, show (1 : Int) > 0 by decide, if_true]
      by_cases h : i < 0
      · simp only [h, if_true] <;> omega
      · simp only [h, if_false] <;> omega
theorem slicePick_cut (its : List Value) (lo hi : Option Int) : slicePick its.toArray lo hi none = ((its.drop (HT.sIx its.length 0 lo)).take (HT.sIx its.length its.length hi - HT.sIx its.length 0 lo)).toArray := by
  obtain ⟨h1, h2, h3⟩ := slice_bounds lo hi its.toArray.size
  unfold slicePick
  rw [h1, h2, h3]
  simp only [sliceRange_one, pick_run, List.size_toArray] <;> rfl
/-- xs[lo:hi] of a list: a new list -/
def rSlL (K : PySem.W.Frag) : V → Option Int → Option Int → Hp → VK → Prop := fun x lo hi H Q => ∃ a xs, x = .ref a ∧ SqL K H a xs ∧ ∀ p, H p = none → Q (.ref p) (upd H p (.lst (cutV xs lo hi)))
theorem sl_list : SlR X (rSlL X.K) := by
  intro pins s σ H x v vl vu lo hi sl Q I rx hs pl pu h
  obtain ⟨a, xs, rfl, hx, q⟩ := h
  cases rx
  obtain ⟨its, r, ht, hz⟩ := I.list hx
  have hlen := r.length
  refine ⟨"list", _, slot_list_getitem.lookup, ht.isList.typeIs, ?_⟩
  refine wpAny_getItem_list_slice ht.isList hs pl pu .none (by simp) ?_ (by rw [List.size_toArray] <;> omega)
  rw [slicePick_cut, ← hlen]
  refine ⟨.ref s.heap.objs.size, _, I.laid (t' := s.toks) (o := .lst (cutV xs lo hi)) (fun b ob q => Heap.get?_push_of_some _ q) (Nat.le_refl _) ?_, rfl, q _ (I.hok.fresh (Nat.le_refl _))⟩
  exact ⟨Nat.le_trans (cutV_length xs lo hi) hz, _, 0, (r.drop (HT.sIx xs.length 0 lo)).take (HT.sIx xs.length xs.length hi - HT.sIx xs.length 0 lo), Heap.get?_push_size _ rfl⟩

/-! ### in, not in: flat items -/
/-! ### len, list(x), tuple(x) of any list or tuple that is read -/
/-! ### the call of a builtin's method: o.m(..) -/
/-- the value is of that builtin type -/
def tyV (K : PySem.W.Frag) (T : String) (x : V) (H : Hp) : Prop := match x with
  | .str _ => T = "str"
  | .int _ => T = "int"
  | .ref p => (T = "list" ∧ ∃ xs, SqL K H p xs) ∨ (T = "tuple" ∧ ∃ o, K.lookup p = some o ∧ o.cls = .type "tuple" ∧ o.dict = none) ∨
      (T = "dict" ∧ ((∃ kvs, H p = some (.dK kvs)) ∨ ∃ kvs, H p = some (.dT kvs))) ∨ (T = "set" ∧ ∃ S n, H p = some (.set S n))
  | _ => False
theorem tyV_is {pins : List (Addr × Obj)} {σ : St} {H : Hp} {s : Shared} {T : String} {x : V} {v : Value} (I : Inv X pins σ H s) (r : RelV x v) (ty : tyV X.K T x H) :
    s.TypeIs v T ∧ ∀ a, v = .ref a → ∃ ob, s.heap.get? a = some ob ∧ ob.dict = none := by
  cases x with
  | str z =>
    obtain ⟨t, rfl⟩ := r
    cases (show T = "str" from ty)
    exact ⟨typeIs_str s z t, fun _ e => nomatch e⟩
  | int i =>
    obtain ⟨t, rfl⟩ := r
    cases (show T = "int" from ty)
    exact ⟨typeIs_int s i t, fun _ e => nomatch e⟩
  | ref p =>
    cases r
    rcases ty with ⟨rfl, xs, hq⟩ | ⟨rfl, o, hk, hc, hd⟩ | ⟨rfl, hk⟩ | ⟨rfl, S, n, hk⟩
    · obtain ⟨its, _, pl, _⟩ := I.list hq
      refine ⟨pl.isList.typeIs, fun a e => ?_⟩
      cases e
      obtain ⟨o, n, e, c, hd, _⟩ := pl
      exact ⟨o, e, hd⟩
    · refine ⟨⟨o, I.kIn p o hk, hc⟩, fun a e => ?_⟩
      cases e
      exact ⟨o, I.kIn _ o hk, hd⟩
    · have z : ∃ o, s.heap.get? p = some o ∧ o.ExactDict := by
        rcases hk with ⟨kvs, hk⟩ | ⟨kvs, hk⟩
        · obtain ⟨_, _, _, _, o, _, _, e, ex, _⟩ := I.hok p _ hk
          exact ⟨o, e, ex⟩
        · obtain ⟨_, _, _, _, o, _, _, e, ex, _⟩ := I.hok p _ hk
          exact ⟨o, e, ex⟩
      obtain ⟨o, e, ex⟩ := z
      refine ⟨⟨o, e, ex.1⟩, fun a e2 => ?_⟩
      cases e2
      exact ⟨o, e, ex.2.1⟩
    · obtain ⟨o, _, _, _, e, ex, _⟩ := I.hok p _ hk
      refine ⟨⟨o, e, ex.1⟩, fun a e2 => ?_⟩
      cases e2
      exact ⟨o, e, ex.2.1⟩
  | _ => exact False.elim ty
def tBM (K : PySem.W.Frag) (T : String) (r : V → List V → Hp → VK → Prop) (to : TE) (t : TA) : TE := fun σ H Q => to σ H fun x H1 => tyV K T x H1 ∧ t σ H1 fun xs H2 => r x xs H2 Q
variable {o e : Expr} {es : List Expr} {to : TE} {t : TA} {name : Str} {apos cpos : Pos} {T id : String} {r : V → List V → Hp → VK → Prop}
theorem pe_bm (pa : PlainAttrs T) (slot : Slot T name id) (hty : typeOf (.builtin id) = pure (.type "method_descriptor")) (hm : MtR X id r) (ho : PE X o to) (ha : PA X (e :: es) t)
    (hbase : attributeBase o name X.env (eval o X.env) = eval o X.env := by rfl)
    (hfew : ((backTo cpos (starEach (e :: es) X.env)).all (fun x => !x.1) && (backToKw cpos (keywordEach [] X.env)).all (fun x => x.1.isSome)
      && decide ((e :: es).length + ([] : List Keyword).length + (if ([] : List Keyword).isEmpty then 0 else 1) < 30)) = true := by rfl)
    (hline : (apos.endLine == cpos.line) = true := by rfl) (hs : starEach (e :: es) X.env = (false, eval e X.env) :: starEach es X.env := by rfl) (hplain : (backTo cpos (starEach es X.env)).any (·.1) = false := by rfl) :
    PE X (.Call (.Attribute o name apos) (e :: es) [] cpos) (tBM X.K T r to t) := by
  intro pins s σ H Q I h
  refine wpAny_Call_method_late hbase hfew hline rfl (thn (ho pins s σ H _ I h) fun v s1 ⟨x, H1, I1, r1, ty, q1⟩ => ?_)
  obtain ⟨h1, h2⟩ := tyV_is I1 r1 ty
  refine ⟨T, id, pa, slot, hty, h1, h2, ?_⟩
  have hA := ha cpos pins s1 σ H1 _ I1 q1
  rw [hs] at hA ⊢
  refine Calls.callWith_builtin (by show (false || (backTo cpos (starEach es X.env)).any (·.1)) = false; rw [hplain] <;> rfl) (Calls.evalArgs_plain ?_)
  exact thn hA fun us s2 ⟨vs, H2, I2, r2, q2⟩ => hm pins s2 σ H2 x vs v us Q I2 r1 r2 q2
/- xs.append(e), list.index on a module's tuple .. are MtR facts of 06m -/
end
end L2

namespace L2
open PySem PySem.Spec PyProof.Rows

def MtM (X : Cx) (id : String) (r : V → List V → Hp → VK → Prop) : Prop :=
  ∀ (pins : List (Addr × Obj)) (s : Shared) (σ : St) (H : Hp) (x : V) (xs : List V) (v : Value) (us : List Value) (Q : VK), Inv X pins σ H s → RelV x v → Vals xs us → r x xs H Q →
    wpAny (model X.prog X.w) X.A (call (.builtin id) (v :: us)) (EP X pins σ Q) X.xe s

/-! ### lists of values -/
theorem Vals.one : ∀ {x : V} {us : List Value}, Vals [x] us → ∃ u, us = [u] ∧ RelV x u
  | _, _, .cons r .nil => ⟨_, rfl, r⟩
theorem Vals.rep {xs : List V} {us : List Value} (h : Vals xs us) : ∀ k : Nat, Vals (List.replicate k xs).flatten (List.replicate k us).flatten
  | 0 => .nil
  | k + 1 => by
    rw [List.replicate_succ, List.replicate_succ, List.flatten_cons, List.flatten_cons]
    exact Vals.append h (Vals.rep h k)
section
variable {X : Cx} {pins : List (Addr × Obj)} {σ : St} {H : Hp} {s : Shared} {l b : Addr} {xs ys zs : List V}

/-! ### the two steps: a tracked list is rewritten, a new list is laid -/
theorem Inv.lset {its its' : List Value} {n : Nat} {f : Array Value → Array Value} {t' : Nat} (I : Inv X pins σ H s) (hH : H l = some (.lst xs))
    (e : s.heap.get? l = some { cls := .type "list", data := .seq its.toArray n }) (hf : f its.toArray = its'.toArray) (hv : Vals ys its') (hz : ys.length ≤ sizeLine) :
    Inv X pins σ (upd H l (.lst ys)) { s with heap := s.heap.update l (Obj.mapSeq f), toks := t' } := by
  have q := PySem.IsL.update e f
  rw [hf] at q
  refine I.write (x := l) (e := l) (by rw [hH]; exact trivial) (.inl rfl) (fun b' u hb hu => (Heap.get?_update_other s.heap (Obj.mapSeq f) (Ne.symm hb)).trans hu) ⟨_, q⟩ ?_
  exact ⟨hz, its', _, hv, q⟩
theorem Inv.lnew {its : List Value} {t' : Nat} (I : Inv X pins σ H s) (hv : Vals ys its) (hz : ys.length ≤ sizeLine) :
    Inv X pins σ (upd H s.heap.objs.size (.lst ys)) { s with heap := s.heap.push { cls := .type "list", data := .seq its.toArray }, toks := t' } :=
  I.laid (fun _ _ q => Heap.get?_push_of_some _ q) (Nat.le_refl _) ⟨hz, its, 0, hv, Heap.get?_push_size _ rfl⟩
theorem Inv.fresh (I : Inv X pins σ H s) : H s.heap.objs.size = none := I.hok.fresh (Nat.le_refl _)
theorem Inv.lstM (I : Inv X pins σ H s) (hH : H l = some (.lst xs)) : xs.length ≤ sizeLine ∧ ∃ (its : List Value) (n : Nat), Vals xs its ∧ xs.length = its.length ∧ s.heap.get? l = some { cls := .type "list", data := .seq its.toArray n } := by
  obtain ⟨z, its, n, r, e⟩ := I.hok l _ hH
  exact ⟨z, its, n, r, r.length, e⟩

theorem notLongL {n : Nat} (h : n ≤ sizeLine) : Builtin.List.listTooLong n = false := by
  unfold Builtin.List.listTooLong
  exact decide_eq_false (by omega)
end

section
variable {X : Cx}

/-! ### methods -/
def rAppend : V → List V → Hp → VK → Prop := fun x vs H Q => ∃ l xs y, x = .ref l ∧ vs = [y] ∧ H l = some (.lst xs) ∧ xs.length < sizeLine ∧ Q .non (upd H l (.lst (xs ++ [y])))
theorem mt_append : MtM X "list.append" rAppend := by
  intro pins s σ H x vs v us Q I rx rv h
  obtain ⟨l, xs, y, rfl, rfl, hH, hz, q⟩ := h
  cases rx
  obtain ⟨u, rfl, ru⟩ := rv.one
  obtain ⟨z, its, n, r, hl, e⟩ := I.lstM hH
  refine call_meets F.slot_list_append ⟨_, e, rfl⟩ F.entry_list_append (F.args_list_append_2 _ _) (PySem.list_append l its.toArray n u (by rw [List.size_toArray]; omega)) ⟨e, ?_⟩
  refine ⟨.non, _, I.lset (its' := its ++ [u]) hH e (by simp) (r.append (.cons ru .nil)) ?_, rfl, q⟩
  rw [List.length_append, List.length_singleton]
  omega

def rExtend : V → List V → Hp → VK → Prop := fun x vs H Q => ∃ l b xs zs, x = .ref l ∧ vs = [.ref b] ∧ H l = some (.lst xs) ∧ H b = some (.lst zs) ∧ xs.length + zs.length ≤ sizeLine ∧ Q .non (upd H l (.lst (xs ++ zs)))
theorem mt_extend : MtM X "list.extend" rExtend := by
  intro pins s σ H x vs v us Q I rx rv h
  obtain ⟨l, b, xs, zs, rfl, rfl, hH, hB, hz, q⟩ := h
  cases rx
  obtain ⟨u, rfl, ru⟩ := rv.one
  cases ru
  obtain ⟨z, its, n, r, hl, e⟩ := I.lstM hH
  obtain ⟨z2, its2, n2, r2, hl2, e2⟩ := I.lstM hB
  have hsz : its.toArray.size + its2.toArray.size ≤ sizeLine := by rw [List.size_toArray, List.size_toArray]; omega
  have hlong : ¬ (!its.toArray.isEmpty && Builtin.List.listTooLong (its.toArray.size + its2.toArray.size)) = true := by
    rw [notLongL hsz, Bool.and_false]
    exact Bool.false_ne_true
  refine call_meets F.slot_list_extend ⟨_, e, rfl⟩ F.entry_list_extend (F.args_list_extend_2 _ _)
    (AutoSeq1.list_extend_list_list_0 l its.toArray n b its2.toArray n2 hlong (by rw [List.size_toArray]; omega) (by omega)) ⟨e, e2, ?_⟩
  refine ⟨.non, _, I.lset (its' := its ++ its2) hH e (by simp) (r.append r2) ?_, rfl, q⟩
  rw [List.length_append]
  omega

/-! ### list + list, list += list, list * int -/
/-! ### del xs[i] -/
end

/-! ### xs[a:b] = ys -/
section
variable {prog : Program} {w : World} {A : Around} {E : Value → Shared → Prop} {s : Shared}
set_option maxRecDepth 100000 in
end

section
variable {X : Cx}
end
end L2

namespace Att
open PySem PySem.W PySem.Calls PyProof.Rows

/-! ### the script -/
theorem ints_of_wellAll {P : Params} {h : Heap} : ∀ (ns : List Int) (vs : List Value), WellAll P h vs (ns.map WData.int) → IntsAre vs ns := by
  intro ns
  induction ns with
  | nil =>
    intro vs w
    rw [List.map_nil] at w
    cases w
    exact .nil
  | cons n ns ih =>
    intro vs w
    rw [List.map_cons] at w
    cases w with
    | cons a b =>
      cases a
      exact .cons _ _ (ih _ b)

theorem script_of {l : OpenLaw} {n : Nat} (hn : l.most = some n) {P : Params} {h : Heap} {args : List WData} {vals : List Value}
    (hpre : l.row.toRowW.claim.pre args = true) (hwl : WellAll P h vals args) :
    ∃ a vs ns, vals = [Value.ref a] ∧ args = [WData.list (ns.map WData.int)] ∧ h.get? a = some { cls := .type "list", data := .seq vs.toArray } ∧ IntsAre vs ns ∧ ns.length ≤ n := by
  have hsh : WShape.hasAll [] args [.list .int] = true := (pre_splitW hpre).1
  have hc : l.pre.holds [] { args := args } = true := (pre_splitW hpre).2
  obtain ⟨d, r, rfl, h1, h2⟩ := hasAllW_cons hsh
  obtain rfl := hasAllW_nil h2
  obtain ⟨xs, rfl, h3⟩ := hasW_list h1
  obtain ⟨ns, rfl⟩ := items_int h3
  have hlen : ns.length ≤ n := by
    unfold OpenLaw.pre at hc
    have h4 : (WTm.not (.lt (.lit (.int (n : Int))) (.len (.arg 0)))).holds [] { args := [.list (ns.map .int)] } = true := by
      have h4 := (holds_andW hc).1
      rw [hn] at h4
      exact h4
    have h5 := condW_of h4 (w_not (w_lt w_lit (w_len_list (w_arg rfl))))
    rw [List.length_map] at h5
    refine Nat.le_of_not_lt fun q => ?_
    have q' : (n : Int) < ((ns.length : Nat) : Int) := by omega
    first
      | (rw [decide_eq_true q'] at h5; exact absurd h5 (by decide))
      | (simp at h5; omega)
  cases hwl with
  | cons w1 w2 =>
    cases w2
    cases w1 with
    | list ho hall => exact ⟨_, _, ns, rfl, rfl, ho, ints_of_wellAll ns _ hall, hlen⟩

theorem post_true (l : OpenLaw) (args : List WData) : l.row.toRowW.claim.post args (.bool true) args = true :=
  postW_of (r := l.row.toRowW) (X := (true == true))
    (show WShape.has [] (.bool true) .bool = true by first | rfl | decide | simp [WShape.has, WShape.arms, WShape.armsAll])
    (show (WTm.eq .res (.lit (.bool true))).value [] { args := args, res := some (.bool true), after := args } = some (.bool (true == true)) from w_eq_bool (w_res rfl) w_lit) rfl

/-! ### the attachment: holds_open's last premise (the goal 'hc' behind k_head) from a wpAny of the law's body -/
/-- the same from a codeAny of the CALL (for a layer whose function contracts speak of calls) -/
theorem attach_call {l : OpenLaw} {n : Nat} {q : Program} {loose : List Str} {XP : (Str → Option Value) → Heap → Prop} {YP : World → Heap → Prop} {d : DefRec}
    (hn : l.most = some n) (hdf : d.params.defaults = [])
    (call : ∀ (w : World) (s₀ s₁ : Shared) (mg mb : Str → Option Value) (fa : Addr) (o : Obj) (pm cd doc : Value) (a : Addr) (vs : List Value) (ns : List Int),
      Ground q loose [] XP w s₀ mg mb s₁.heap → YP w s₁.heap →
      s₁.heap.get? fa = some o → o.data = .func (docDef d.name d.params d.body d.scope pm cd doc) → s₁.heap.CodeRec cd d.name → mg d.name = some (.ref fa) →
      s₁.heap.get? a = some { cls := .type "list", data := .seq vs.toArray } → IntsAre vs ns → ns.length ≤ n → s₁.gens = #[] →
      codeAny (model l.prog w) callerA (.call (.ref fa) ⟨[.ref a], []⟩) (fun r s' => r = .ok (.ret (.bool true)) ∧ OldK s₁.heap s'.heap ∧ s'.os = s₁.os ∧ AllBare s'.gens) s₁) :
    WalkO q loose XP YP l.row.toRowW d [] (fun f vs => PySem.call f vs) := by
  intro w s₀ s₁ mg mb G Y fa o pm cd doc dV kV ho hd hcd hD hmg hg args vals as hpre hlay hrd hwl hlo
  obtain rfl : dV = .none := Dflts.none hD hdf
  obtain rfl : kV = .none := Dflts.noKw hD
  obtain ⟨a, vs, ns, rfl, rfl, hobj, hints, hlen⟩ := script_of hn hpre hwl
  refine enter_call (codeAny_mono (call w s₀ s₁ mg mb fa o pm cd doc a vs ns G Y ho (fd_plain hd) hcd hmg hobj hints hlen hg) fun r s' hq => ?_)
  obtain ⟨rfl, h2, h3, h4⟩ := hq
  exact ⟨.inl ⟨.bool true, .bool true, [], rfl, fun _ => rfl, .bool true, post_true l _, fun _ => ⟨List.Pairwise.nil, fun _ hm => (nomatch hm)⟩⟩, h2, h3, h4⟩

/-! ### rules over ANY heap (no ledger) from facts about the written part K: the library's own take a ledger (News) for what they write -/
section
variable {prog : Program} {w : World} {A : Around} {E : Value → Shared → Prop} {s : Shared} {K : Frag}

/-! the whole heap as the ledger: makes every rule that writes through a ledger a rule over any heap -/
def ledger (h : Heap) (L d : Addr) : List (Addr × Obj) := (List.range h.objs.size).filterMap fun a => if a = L ∨ a = d then none else (h.get? a).map fun o => (a, o)
end
end Att

namespace L2
open PySem PySem.Spec PyProof.Rows

theorem vals_ints : ∀ {vs : List Value} {ns : List Int}, IntsAre vs ns → Vals (ns.map V.int) vs
  | _, _, .nil => .nil
  | _, _, .cons n t h => .cons ⟨t, rfl⟩ (vals_ints h)

/-- nothing is tracked but the script, known to the object (or it is an object of the module) -/
def Only (H : Hp) : Prop := ∀ b, H b = none ∨ ∃ o xs, H b = some (.frz o (.lst xs))

/-- THE HEAD: the law's promise, at the heap behind the top. F, the promise of the law's def, may use that base is part of the heap (so K.In base, base.Ns mainGlobals mg stand in Mod) -/
theorem law_call {P : Program} {w : World} {K : PySem.W.Frag} {mg mb : Str → Option Value} {CX : CXT} {k : Nat} {fa a : Addr} {fd : FuncData} {x : Str} {sp : Sp} {s₁ : Shared} {vs : List Value} {ns : List Int}
    (KX : K.In s₁.heap) (hns : s₁.heap.Ns mainGlobals mg) (hb : s₁.heap.Ns builtinsNs mb) (hbb : ∀ x : Str, x ≠ "__name__" → mb x = bootBuiltins x) (hlim : s₁.heap.NoLimit) (hg : s₁.gens = #[])
    (ha : s₁.heap.get? a = some { cls := .type "list", data := .seq vs.toArray }) (hi : IntsAre vs ns) (hl : ns.length ≤ sizeLine) (hr : Room k callerA)
    (F : ∀ base : Heap, K.In base → base.Ns mainGlobals mg → FnOk P w K mg base CX k fa fd [x] sp) (hbind : ∀ (s : Shared) (u : Value), BindsTo s fd ⟨[u], []⟩ [(x, u)])
    (hsp : ∀ H : Hp, Only H → SqL K H a (ns.map V.int) → sp [.ref a] H (fun v _ => v = .bl true) fun _ _ _ => False)
    (hCX : ∀ H e s', CX [] H s₁ (fun _ _ _ => False) e s' → False) :
    codeAny (model P w) callerA (.call (.ref fa) ⟨[.ref a], []⟩) (fun r s' => r = .ok (.ret (.bool true)) ∧ OldK s₁.heap s'.heap ∧ s'.os = s₁.os ∧ AllBare s'.gens) s₁ := by
  have rv := vals_ints hi
  have lenV := hi.length
  -- from an abstract heap in which nothing but the script may be tracked
  have core : ∀ H : Hp, Only H → SqL K H a (ns.map V.int) → HOk P w H s₁.heap → (∀ b, H b ≠ none → b = a) → (H a ≠ none → K.lookup a = none) →
      codeAny (model P w) callerA (.call (.ref fa) ⟨[.ref a], []⟩) (fun r s' => r = .ok (.ret (.bool true)) ∧ OldK s₁.heap s'.heap ∧ s'.os = s₁.os ∧ AllBare s'.gens) s₁ := by
    intro H hO hS hok hA hK
    have base_of : ∀ {b : Addr} {o : Obj}, s₁.heap.get? b = some o → H b = none → (hidT s₁.heap H).get? b = some o := fun e n => hidT_get e n
    have noA : ∀ {b : Addr} {o : Obj} {es : Array DictEntry} {ep : Nat}, s₁.heap.get? b = some o → o.data = .dict es ep → H b = none := fun {b o es ep} e d => by
      cases q : H b with
      | none => rfl
      | some u =>
        have e' : b = a := hA b (by rw [q]; simp)
        subst e'
        rw [ha] at e; cases e
        have d' : Data.seq vs.toArray _ = Data.dict es ep := d
        cases d'
    have nsK : ∀ {b : Addr} {m : Str → Option Value}, s₁.heap.Ns b m → (hidT s₁.heap H).Ns b m := fun {b m} ⟨o, es, ep, e, d, r⟩ => ⟨o, es, ep, base_of e (noA e d), d, r⟩
    have hKb : K.In (hidT s₁.heap H) := fun b o e => base_of (KX b o e) (by
      cases q : H b with
      | none => rfl
      | some u =>
        have e' : b = a := hA b (by rw [q]; simp)
        subst e'
        rw [hK (by rw [q]; simp)] at e; cases e)
    have hM : Mod K mg (hidT s₁.heap H) := ⟨hKb, nsK hns, ⟨mb, nsK hb, hbb⟩, let ⟨mc, h1, h2⟩ := hlim; ⟨mc, nsK h1, h2⟩⟩
    have e0 : Env0 P w K mg (hidT s₁.heap H) callerA [] s₁ H := ⟨rfl, hM, fun b o e => of_hidT e, Nat.le_of_eq (hidT_size _ _), trivial, fun b hb => absurd (show b ∈ ([] : List Addr) from hb) (by simp), hok, .of_eq hg⟩
    refine codeAny_mono ((F _ hKb (nsK hns)).run callerA [] s₁ H ⟨[.ref a], []⟩ [.ref a] [.ref a] _ _ hr e0 (hbind s₁ (.ref a)) (.cons rfl .nil) (hsp H hO hS)) fun r s' h => ?_
    cases r with
    | error e => exact (hCX H e s' h).elim
    | ok fl =>
      cases fl with
      | next => exact False.elim h
      | brk => exact False.elim h
      | cont => exact False.elim h
      | ret u =>
        obtain ⟨v, H', os, bare, un, hok', r', q⟩ := h
        have q' : v = .bl true := q
        subst q'
        obtain rfl : u = Value.bool true := r'
        refine ⟨rfl, OldK.of_keep fun b o e => ?_, os, bare⟩
        cases q : H b with
        | none => exact un.keep b o e q (by intro z; exact absurd (show b ∈ ([] : List Addr) from z) (by simp)) (by simp)
        | some u =>
          rcases hO b with z | ⟨ob, xs, z⟩
          · rw [q] at z; cases z
          · have z2 := un.frzs b ob _ z
            obtain ⟨e1, _⟩ := hok b _ z
            obtain ⟨e2, _⟩ := hok' b _ z2
            rw [e] at e1; cases e1
            exact e2
  cases hk : K.lookup a with
  | some o =>
    -- the script is one of the module's own objects
    have e := KX a o hk
    rw [ha] at e
    cases e
    refine core (fun _ => none) (fun _ => .inl rfl) (.inr ⟨_, vs.toArray, _, hk, rfl, rfl, rfl, by rw [List.size_toArray, lenV]; exact hl, by simpa using rv⟩) (fun b u z => by have z' : (none : Option HO) = some u := z; cases z') (fun b z => absurd rfl z) fun z => absurd rfl z
  | none =>
    refine core (fun b => if b = a then some (.frz { cls := .type "list", data := .seq vs.toArray } (.lst (ns.map V.int))) else none) (fun b => ?_) (.inl (.inr ⟨{ cls := .type "list", data := .seq vs.toArray }, if_pos rfl⟩)) (fun b u z => ?_) (fun b z => ?_) fun _ => hk
    · by_cases hb : b = a
      · exact .inr ⟨_, _, if_pos hb⟩
      · exact .inl (if_neg hb)
    · by_cases hb : b = a
      · have z' := (if_pos hb).symm.trans z
        cases z'
        subst hb
        exact ⟨ha, by rw [List.length_map]; exact hl, vs, _, rv, ha⟩
      · have z' := (if_neg hb).symm.trans z
        cases z'
    · by_cases hb : b = a
      · exact hb
      · exact absurd (if_neg hb) z
end L2

namespace L2
open PySem PySem.Spec PyProof.Rows

/-- the goal that k_head leaves (case hc), from the law's promise. F gives the function object fd (K's own) once, then the promise over every base -/
theorem walk_of {l : PySem.W.OpenLaw} {n k : Nat} {q : Program} {loose : List Str} {XP : (Str → Option Value) → Heap → Prop} {YP : World → Heap → Prop} {d : DefRec} {K : Params → PySem.W.Frag} {CX : World → CXT} {sp : World → Sp} {x : Str}
    (hn : l.most = some n) (hn2 : n ≤ sizeLine) (hdf : d.params.defaults = []) (hr : Room k callerA)
    (hY : ∀ (w : World) (h : Heap), YP w h → (K w.params).In h)
    (F : ∀ (w : World) (mg : Str → Option Value) (fa : Addr) (h : Heap), (K w.params).In h → h.Ns mainGlobals mg → mg d.name = some (.ref fa) →
      ∃ fd : FuncData, (∀ (s : Shared) (u : Value), BindsTo s fd ⟨[u], []⟩ [(x, u)]) ∧
        ∀ base : Heap, (K w.params).In base → base.Ns mainGlobals mg → FnOk l.prog w (K w.params) mg base (CX w) k fa fd [x] (sp w))
    (hsp : ∀ (w : World) (H : Hp) (a : Addr) (ns : List Int), ns.length ≤ n → Only H → SqL (K w.params) H a (ns.map V.int) → sp w [.ref a] H (fun v _ => v = .bl true) fun _ _ _ => False)
    (hCX : ∀ (w : World) (H : Hp) (s : Shared) (e : Value) (s' : Shared), CX w [] H s (fun _ _ _ => False) e s' → False) :
    PySem.W.WalkO q loose XP YP l.row.toRowW d [] (fun f vs => PySem.call f vs) := by
  refine Att.attach_call hn hdf fun w s₀ s₁ mg mb fa o pm cd doc a vs ns G Y ho hd hcd hmg hobj hints hlen hg => ?_
  have KX := hY w _ Y
  obtain ⟨fd, hb, hF⟩ := F w mg fa _ KX G.T.g hmg
  exact law_call KX G.T.g G.T.b G.T.builtins G.T.nolimit hg hobj hints (Nat.le_trans hlen hn2) hr hF hb (fun H hO hS => hsp w H a ns hlen hO hS) fun H e s' => hCX w H s₁ e s'
end L2

/- THE LAST THEOREM (shape; LID, My.* are yours):
   My.Adr: a structure of the addresses that your layer names (classes, functions); My.Txt K t: a structure (Prop) of the equations over K;
   My.txt_mk : {K} {implicit addresses ..} (e1 : nsIn K mainGlobals "law" = some (some (.ref f))) (e2 : K.lookup f = some ⟨oc, od, .func (fnOf "law" "law" params body scope dV kV doc pm an cdv ct), sl⟩) (e3 : codeIn K cdv "law" = true) .. : ∃ t, My.Txt K t

set_option maxRecDepth 100000 in
set_option maxHeartbeats 0 in
(the tactic k_is has no namespace: write k_is) -/

/-! SHORT WORDS over the layer: a def of the text, its body, what a loop and a test want. -/
namespace L2
open PySem PySem.Spec PyProof.Rows

/-! ### the text by places -/
def defArgs (s : Stmt) : Arguments := match s with
  | .FunctionDef _ a _ _ _ _ _ _ _ _ => a
  | _ => { posonlyargs := [], args := [], vararg := none, kwonlyargs := [], kw_defaults := [], kwarg := none, defaults := [] }
def defBody (s : Stmt) : List Stmt := match s with
  | .FunctionDef _ _ b _ _ _ _ _ _ _ => b
  | _ => []
def defScope (s : Stmt) : Scope := match s with
  | .FunctionDef _ _ _ _ _ _ sc _ _ _ => sc
  | _ => { kind := .function, names := [], isGenerator := false, isCoroutine := false }

/-! ### no exception leaves a def -/
abbrev CX0 : CXT := fun _ _ _ _ _ _ => False
abbrev E0 : XK := fun _ _ _ => False
theorem pass0 {X : Cx} : Passes CX0 X E0 := fun _ _ _ _ _ _ _ h => h.elim

/-! ### a def (or method) of the text as it stands behind the top -/
structure Fun (K : PySem.W.Frag) (x qual : Str) (st : Stmt) (f : Addr) (fd : FuncData) : Prop where
  ex : ∃ (oc : Value) (od : Option Addr) (kV doc pm : Value) (an : Option Addr) (cdv ct : Value) (osl : Array (Option Value)),
    fd = PySem.W.fnOf x qual (defArgs st) (defBody st) (defScope st) .none kV doc pm an cdv ct ∧ K.lookup f = some ⟨oc, od, .func fd, osl⟩ ∧ PySem.W.codeIn K cdv qual = true
  kp : PySem.W.keepIn K (.ref f) = true
section
variable {P : Program} {w : World} {K : PySem.W.Frag} {mg : Str → Option Value} {base : Heap}
/-- THE RULE for a def: its body as a term of rules, and the reading of that term -/
theorem Fun.ok {x qual : Str} {st : Stmt} {f : Addr} {fd : FuncData} {N ps : List Str} {k : Nat} {sp : Sp} (F : Fun K x qual st f fd) (S : FnScope N ps (defScope st)) (len : ∀ vs H Q E, sp vs H Q E → vs.length = ps.length)
    (hbody : ∀ (cdv : Value) (A : Around) (outer : List Env) (s : Shared) (H : Hp) (vs : List V) (Q : VK) (E : XK), Room k (A.deeper (envOfC qual (defScope st) s.heap.objs.size f cdv)) → sp vs H Q E →
      ∃ t, PSs (cxOf CX0 P w K mg base N qual (defScope st) f cdv A outer s H E).nox (defBody st) t ∧ t { nx := fun _ H' => Q .non H', rt := Q } (start N vs) H) : FnOk P w K mg base CX0 (k + 1) f fd ps sp := by
  obtain ⟨oc, od, kV, doc, pm, an, cdv, ct, osl, rfl, lk, hcd⟩ := F.ex
  refine fn_of lk hcd S len fun A outer s H vs Q E hr hsp => ?_
  obtain ⟨t, h, q⟩ := hbody cdv A outer s H vs Q E hr hsp
  exact ⟨t, h.nox, q⟩
/-- how its arguments bind (no defaults): h is «fun _ _ _ _ _ _ us hl => match us, hl with | [_, _], _ => rfl», one _ a parameter -/
theorem Fun.binds {x qual : Str} {st : Stmt} {f : Addr} {fd : FuncData} {ps : List Str} (F : Fun K x qual st f fd)
    (h : ∀ (kV doc pm : Value) (an : Option Addr) (cdv ct : Value) (us : List Value), us.length = ps.length → bindArgs (PySem.W.fnOf x qual (defArgs st) (defBody st) (defScope st) .none kV doc pm an cdv ct) ⟨us, []⟩ = pure (ps.zip us)) : Binds K fd ps [] := by
  obtain ⟨oc, od, kV, doc, pm, an, cdv, ct, osl, rfl, lk, hcd⟩ := F.ex
  exact .all (h kV doc pm an cdv ct)
theorem fun_mk {x qual : Str} {st : Stmt} {f : Addr} {oc : Value} {od an : Option Addr} {osl : Array (Option Value)} {kV doc pm cdv ct : Value} (l : K.lookup f = some ⟨oc, od, .func (PySem.W.fnOf x qual (defArgs st) (defBody st) (defScope st) .none kV doc pm an cdv ct), osl⟩)
    (c : PySem.W.codeIn K cdv qual = true) (k : PySem.W.keepIn K (.ref f) = true) : Fun K x qual st f (PySem.W.fnOf x qual (defArgs st) (defBody st) (defScope st) .none kV doc pm an cdv ct) := ⟨⟨oc, od, kV, doc, pm, an, cdv, ct, osl, rfl, l, c⟩, k⟩
end
/-! ### expressions in short: the name that stands in the i-th slot -/
section
variable {X : Cx}
end

/-! ### tests -/
theorem iteF {A B : Prop} (h : B) : if false = true then A else B := by
  rw [if_neg Bool.false_ne_true]
  exact h
theorem iteT {A B : Prop} (h : A) : if true = true then A else B := by
  rw [if_pos rfl]
  exact h
/-! ### heaps -/
/-- all that was tracked is as it was -/
def Same (H H' : Hp) : Prop := ∀ b o, H b = some o → H' b = some o
theorem Same.refl (H : Hp) : Same H H := fun _ _ h => h
theorem Same.trans {H H1 H2 : Hp} (a : Same H H1) (b : Same H1 H2) : Same H H2 := fun c o h => b c o (a c o h)
theorem Same.seq {K : PySem.W.Frag} {H H' : Hp} {a : Addr} {xs : List V} (e : Same H H') (h : SqL K H a xs) : SqL K H' a xs := by
  rcases h with (h | ⟨o, h⟩) | h
  · exact .inl (.inl (e _ _ h))
  · exact .inl (.inr ⟨o, e _ _ h⟩)
  · exact .inr h

end L2

set_option Elab.async false
set_option linter.all false
set_option maxRecDepth 100000
namespace L2
open PySem PySem.Spec PyProof.Rows

/-! ### lists of pairs as tables -/
section
variable {κ : Type} [DecidableEq κ]
def valV (kvs : List (κ × V)) (k : κ) : Option V := (kvs.find? fun kv => decide (kv.1 = k)).map (·.2)
/-- in its place, or at the end -/
def putK (kvs : List (κ × V)) (k : κ) (v : V) : List (κ × V) :=
  if (kvs.any fun kv => decide (kv.1 = k)) = true then kvs.map (fun kv => if kv.1 = k then (kv.1, v) else kv) else kvs ++ [(k, v)]
theorem valV_pos {p : κ × V} {r : List (κ × V)} {k : κ} (e : p.1 = k) : valV (p :: r) k = some p.2 := by simp [valV, List.find?_cons, e]
theorem valV_neg {p : κ × V} {r : List (κ × V)} {k : κ} (e : ¬ p.1 = k) : valV (p :: r) k = valV r k := by simp [valV, List.find?_cons, e]
theorem length_putK (kvs : List (κ × V)) (k : κ) (v : V) : (putK kvs k v).length ≤ kvs.length + 1 := by
  unfold putK
  split
  · rw [List.length_map]; omega
  · rw [List.length_append, List.length_cons, List.length_nil]; omega
/-- raw tables of the same keys -/
theorem KV.val {kvs : List (κ × V)} {vs : List (κ × Value)} (r : KV kvs vs) (k : κ) : RelO (valV kvs k) (valueAt vs k) := by
  unfold KV at r
  induction r with
  | nil => exact True.intro
  | @cons p q ps qs h t ih =>
    obtain ⟨h1, h2⟩ := h
    by_cases e : p.1 = k
    · have e' : q.1 = k := h1.symm.trans e
      have b : valueAt (q :: qs) k = some q.2 := by simp [valueAt, List.find?_cons, e']
      rw [valV_pos e, b]; exact h2
    · have e' : ¬ q.1 = k := fun z => e (h1.trans z)
      have b : valueAt (q :: qs) k = valueAt qs k := by simp [valueAt, List.find?_cons, e']
      rw [valV_neg e, b]; exact ih
theorem KV.any {kvs : List (κ × V)} {vs : List (κ × Value)} (r : KV kvs vs) (k : κ) : (kvs.any fun kv => decide (kv.1 = k)) = vs.any fun kv => decide (kv.1 = k) := by
  unfold KV at r
  induction r with
  | nil => rfl
  | cons h t ih => rw [List.any_cons, List.any_cons, ih, h.1]
theorem KV.repl {kvs : List (κ × V)} {vs : List (κ × Value)} (r : KV kvs vs) (k : κ) {y : V} {u : Value} (ry : RelV y u) :
    KV (kvs.map fun kv => if kv.1 = k then (kv.1, y) else kv) (vs.map fun kv => if kv.1 = k then (kv.1, u) else kv) := by
  unfold KV at r ⊢
  induction r with
  | nil => exact .nil
  | @cons p q ps qs h t ih =>
    rw [List.map_cons, List.map_cons]
    refine .cons ?_ ih
    obtain ⟨h1, h2⟩ := h
    by_cases e : p.1 = k
    · rw [if_pos e, if_pos (h1.symm.trans e)]; exact ⟨h1, ry⟩
    · rw [if_neg e, if_neg (fun z => e (h1.trans z))]; exact ⟨h1, h2⟩
theorem KV.put {kvs : List (κ × V)} {vs : List (κ × Value)} (r : KV kvs vs) (k : κ) {y : V} {u : Value} (ry : RelV y u) : KV (putK kvs k y) (stored vs k u) := by
  unfold putK stored
  rw [r.any k]
  by_cases e : (vs.any fun kv => decide (kv.1 = k)) = true
  · rw [if_pos e, if_pos e]; exact r.repl k ry
  · rw [if_neg e, if_neg e]; exact Paired.snoc r ⟨rfl, ry⟩
end


/-! ### a tracked dict, its keys ints and texts or tuples of these -/
theorem kV_is {P : Program} {w : World} {k : Key} {u : Value} (r : RelV (kV k) u) : (mixKind P w).is k u = true := by
  cases k with
  | inl i => obtain ⟨t, e⟩ := (show ∃ t, u = Value.int i t from r); subst e; exact mixKind_int P w i t
  | inr x => obtain ⟨t, e⟩ := (show ∃ t, u = Value.str x t from r); subst e; exact mixKind_str P w x t
theorem items_are {P : Program} {w : World} : ∀ {ks : List Key} {us : List Value}, Vals (ks.map kV) us → ItemsAre (mixKind P w) ks us
  | [], _, r => by rw [List.map_nil] at r; cases r; exact .nil
  | k :: ks, _, r => by
    rw [List.map_cons] at r
    cases r with
    | cons h t => exact .cons (kV_is h) (items_are t)

/-- raw entries of a dict with tuple keys -/
abbrev KT (H : Hp) : List (List Key × V) → List (List Key × Addr × Value) → Prop := Paired fun p q => p.1 = q.1 ∧ H q.2.1 = some (.tup (p.1.map kV)) ∧ RelV p.2 q.2.2
theorem KT.val {H : Hp} {kvs : List (List Key × V)} {xs : List (List Key × Addr × Value)} (r : KT H kvs xs) (k : List Key) : RelO (valV kvs k) ((atKey xs k).map (·.2)) := by
  induction r with
  | nil => exact True.intro
  | @cons p q ps qs h t ih =>
    obtain ⟨h1, _, h2⟩ := h
    by_cases e : p.1 = k
    · have e' : q.1 = k := h1.symm.trans e
      have b : atKey (q :: qs) k = some q.2 := by simp [atKey, List.find?_cons, e']
      rw [valV_pos e, b]; exact h2
    · have e' : ¬ q.1 = k := fun z => e (h1.trans z)
      have b : atKey (q :: qs) k = atKey qs k := by simp [atKey, List.find?_cons, e']
      rw [valV_neg e, b]; exact ih
section
variable {P : Program} {w : World} {H : Hp} {h : Heap} {a : Addr}
theorem rd_of {u : HO} (ok : HOk P w H h) (e : Rd H a u) : ObjOk P w H h a u := e.ok ok
theorem dk_rd {kvs : List (Key × V)} (ok : HOk P w H h) (e : Rd H a (.dK kvs)) : kvs.length ≤ sizeLine ∧ (a == sysModules) = false ∧ ∃ vs, KV kvs vs ∧ h.DictOf (mixKind P w) a vs :=
  show ObjOk P w H h a (.dK kvs) from rd_of ok e
theorem dk_of {kvs : List (Key × V)} (ok : HOk P w H h) (e : H a = some (.dK kvs)) : kvs.length ≤ sizeLine ∧ (a == sysModules) = false ∧ ∃ vs, KV kvs vs ∧ h.DictOf (mixKind P w) a vs := dk_rd ok (.inl e)
/-- a tracked tuple of ints and texts is a key -/
theorem key_of {ks : List Key} (ok : HOk P w H h) (e : H a = some (.tup (ks.map kV))) : (tupleKind (mixKind P w)).is h ks a := by
  obtain ⟨_, its, r, o, h1, h2, n, h3⟩ := (show ObjOk P w H h a (.tup (ks.map kV)) from ok a _ e)
  exact ⟨o, its.toArray, n, h1, h2, h3, by simpa using items_are r⟩
theorem dt_rd {kvs : List (List Key × V)} (ok : HOk P w H h) (e : Rd H a (.dT kvs)) : kvs.length ≤ sizeLine ∧ (a == sysModules) = false ∧
    ∃ xs, KT H kvs xs ∧ h.DictOfH (tupleKind (mixKind P w)) a xs := by
  obtain ⟨z, y, xs, r, o, es, ep, h1, h2, h3, h4, h5⟩ := (show ObjOk P w H h a (.dT kvs) from rd_of ok e)
  refine ⟨z, y, xs, r, o, es, ep, h1, h2, h3, h4, fun x hx => ?_, h5⟩
  have all : ∀ {l : List (List Key × V)} {m : List (List Key × Addr × Value)}, KT H l m → ∀ x ∈ m, (tupleKind (mixKind P w)).is h x.1 x.2.1 := by
    intro l m q
    induction q with
    | nil => intro x hx; exact nomatch hx
    | @cons p q ps qs hq t ih =>
      intro x hx
      rcases List.mem_cons.mp hx with e | hx
      · subst e
        exact key_of ok (by rw [← hq.1]; exact hq.2.1)
      · exact ih x hx
  exact all r x hx
end

/-- what the dict at a holds at the key y -/
def DGet (H : Hp) (a : Addr) (y : V) (r : Option V) : Prop :=
  (∃ kvs k, Rd H a (.dK kvs) ∧ y = kV k ∧ r = valV kvs k) ∨ ∃ kvs k b, Rd H a (.dT kvs) ∧ y = .ref b ∧ H b = some (.tup (k.map kV)) ∧ r = valV kvs k
theorem DGet.k {H : Hp} {a : Addr} {kvs : List (Key × V)} {k : Key} (e : H a = some (.dK kvs)) : DGet H a (kV k) (valV kvs k) := .inl ⟨kvs, k, .inl e, rfl, rfl⟩
section
variable {X : Cx} {pins : List (Addr × Obj)} {σ : St} {H : Hp} {s : Shared} {a : Addr} {y v : V} {u r : Value} {o : Option V} {A : Around} {E : Value → Shared → Prop}

theorem Inv.big (I : Inv X pins σ H s) : sysModules < s.heap.objs.size := by
  have h : mainGlobals < s.heap.objs.size := (I.mod.glob.keeps I.bk).lt
  exact Nat.lt_trans (by decide) h

/-- d[y], there -/
theorem d_getItem {Q : Value → Shared → Prop} (hu : A.units + 1 < cLine) (I : Inv X pins σ H s) (g : DGet H a y (some v)) (ry : RelV y u) (h : ∀ w' s', Inv X pins σ H s' → RelV v w' → Q w' s') :
    wpAny (model X.prog X.w) A (getItem (.ref a) u) Q E s := by
  rcases g with ⟨kvs, k, e, ey, l⟩ | ⟨kvs, k, b, e, ey, eb, l⟩
  · subst ey
    obtain ⟨z, hd, vs, rel, dd⟩ := dk_rd I.hok e
    obtain ⟨w', hw, rw'⟩ := RelO.some_of (v := v) (o := valueAt vs k) (by rw [l]; exact rel.val k)
    exact wpAny_getItem_of (kV_is ry) dd.mapOf hw (h w' _ (I.tok _) rw')
  · subst ey
    cases (show u = Value.ref b from ry)
    obtain ⟨z, hd, xs, rel, dd⟩ := dt_rd I.hok e
    obtain ⟨w', hw, rw'⟩ := RelO.some_of (v := v) (o := (atKey xs k).map (·.2)) (by rw [l]; exact rel.val k)
    obtain ⟨p, hp, hp2⟩ := Option.map_eq_some_iff.mp hw
    refine wpAny_getItem_heap (tupleKind_room_in1 hu) (key_of I.hok eb) dd hp ?_
    rw [hp2]
    exact h w' _ (I.tok _) rw'
/-- a dict's object is replaced -/
theorem d_write {h' : Heap} {t' : Nat} {ob : HO} (I : Inv X pins σ H s) (mu : Mut (H a)) (hs : Heap.SameBut a s.heap h') (he : ∃ q, h'.get? a = some q) (new : ObjOk X.prog X.w (upd H a ob) h' a ob) :
    Inv X pins σ (upd H a ob) { s with heap := h', toks := t' } :=
  I.write (x := a) (e := a) mu (.inl rfl) (fun b q hb z => (hs.2 b hb).trans z) he new
theorem dk_new {P : Program} {w : World} {H' : Hp} {h' : Heap} {kvs : List (Key × V)} {vs : List (Key × Value)} (z : kvs.length ≤ sizeLine) (hd : (a == sysModules) = false) (rel : KV kvs vs) (dd : h'.DictOf (mixKind P w) a vs) :
    ObjOk P w H' h' a (.dK kvs) := ⟨z, hd, vs, rel, dd⟩
end

section
variable {X : Cx} {pins : List (Addr × Obj)} {σ : St} {H : Hp} {s : Shared} {a : Addr} {kvs : List (Key × V)} {k : Key} {u : Value} {A : Around} {E : Value → Shared → Prop}
end


/-! ### readings and rules -/
/-- the element of a subscription, not a slice -/
def NoSl (i : Expr) : Prop := ∀ ov iv, subscripted i false ov iv = operate [ov, iv] (getItem ov iv)
theorem subD_of {prog : Program} {w : World} {A : Around} {E : Value → Shared → Prop} {s : Shared} {env : Env} {value slice : Expr} {pos : Pos} {T id : String} {Q : Value → Shared → Prop}
    (hl : typeLookup (.type T) "__getitem__" = pure (some (.builtin id))) (hs : NoSl slice)
    (h : wpAny (model prog w) A (eval value env) (fun o s₁ => wpAny (model prog w) A (eval slice env) (fun i s₂ => s₂.TypeIs o T ∧ wpAny (model prog w) A (getItem o i) Q E s₂) E s₁) E s) :
    wpAny (model prog w) A (eval (.Subscript value slice pos) env) Q E s := by
  refine Subscript_ (wpAny_mono h (fun o s₁ h₁ => wpAny_mono h₁ (fun i s₂ h₂ => ?_) fun _ _ x => x) fun _ _ x => x)
  obtain ⟨hT, h₂⟩ := h₂
  unfold subscriptTail
  refine wpAny_bind ?_
  rw [getitemInPython_of_ne hT.not_modules]
  refine wpAny_bind (wpAny_specialOf hT hl ?_)
  have fin : wpAny (model prog w) A (subscripted slice false o i) (fun r s₃ => wpAny (model prog w) A (letTemporaryGo value o r >>= fun _ => pure r) Q E s₃) E s₂ := by
    rw [hs o i]
    exact wpAny_operating (wpAny_mono h₂ (fun r s₃ h₃ => wpAny_bind (wpAny_letTemporaryGo (wpAny_pure h₃))) fun _ _ x => x)
  first
    | exact wpAny_pure (wpAny_bind fin)
    | exact wpAny_bind (wpAny_pure (wpAny_bind fin))
    | exact wpAny_bind fin

theorem dict_typeIs {X : Cx} {pins : List (Addr × Obj)} {σ : St} {H : Hp} {s : Shared} {a : Addr} {y : V} {o : Option V} (I : Inv X pins σ H s) (g : DGet H a y o) : s.TypeIs (.ref a) "dict" := by
  rcases g with ⟨kvs, k, e, _, _⟩ | ⟨kvs, k, b, e, _, _, _⟩
  · obtain ⟨_, _, vs, _, dd⟩ := dk_rd I.hok e
    exact dd.typeIs
  · obtain ⟨_, _, xs, _, dd⟩ := dt_rd I.hok e
    exact dd.typeIs
/-- d[y] -/
def tDGet (td ty : TE) : TE := fun σ H Q => td σ H fun x H1 => ty σ H1 fun y H2 => ∃ a v, x = .ref a ∧ DGet H2 a y (some v) ∧ Q v H2
section
variable {X : Cx} {o i e value : Expr} {pos pos' tpos : Pos} {td ty tv : TE}
theorem pe_dget (hu : X.A.units + 1 < cLine) (ho : PE X o td) (hi : PE X i ty) (hs : NoSl i) : PE X (.Subscript o i pos) (tDGet td ty) := by
  intro pins s σ H Q I h
  refine subD_of PySem.F.slot_dict_getitem.lookup hs (thn (ho pins s σ H _ I h) fun u s1 ⟨x, H1, I1, rx, q1⟩ => thn (hi pins s1 σ H1 _ I1 q1) fun iv s2 ⟨y, H2, I2, ry, a, v, ex, g, q2⟩ => ?_)
  subst ex
  obtain rfl : u = Value.ref a := rx
  exact ⟨dict_typeIs I2 g, d_getItem hu I2 g ry fun w' s3 I3 rw' => ⟨v, H2, I3, rw', q2⟩⟩
end


/-! ### displays -/
theorem dk_empty {P : Program} {w : World} {H : Hp} (h : Heap) (hb : sysModules < h.objs.size) : ObjOk P w H (h.push { cls := .type "dict", data := .dict #[] }) h.objs.size (.dK []) :=
  ⟨Nat.zero_le _, beq_eq_false_iff_ne.mpr (Ne.symm (Nat.ne_of_lt hb)), [], .nil, Heap.DictOf.new h⟩
section
variable {X : Cx} {pos : Pos}
end

/-- the pairs of a display, from the left -/
def tPairs : List (TE × TE) → St → Hp → (List (V × V) → Hp → Prop) → Prop
  | [], _, H, Q => Q [] H
  | (tk, tv) :: r, σ, H, Q => tk σ H fun x H1 => tv σ H1 fun y H2 => tPairs r σ H2 fun ps H3 => Q ((x, y) :: ps) H3
abbrev VV : List (V × V) → List (Value × Value) → Prop := Paired fun p q => RelV p.1 q.1 ∧ RelV p.2 q.2
def PPs (X : Cx) (pos : Pos) (keys : List (Option Expr)) (values : List Expr) (trs : List (TE × TE)) : Prop :=
  ∀ (pins : List (Addr × Obj)) (s : Shared) (σ : St) (H : Hp) (Q : List (V × V) → Hp → Prop), Inv X pins σ H s → tPairs trs σ H Q →
    wpAny (model X.prog X.w) X.A (evalPairs (pairTrees keys values X.env pos)) (fun vs s' => ∃ ps H', Inv X pins σ H' s' ∧ VV ps vs ∧ Q ps H') X.xe s
theorem pps_nil {X : Cx} {pos : Pos} : PPs X pos [] [] [] := fun pins s σ H Q I h => pairTrees_nil_walk ⟨[], H, I, .nil, h⟩
theorem pps_cons {X : Cx} {pos : Pos} {k v : Expr} {ks : List (Option Expr)} {vs : List Expr} {tk tv : TE} {trs : List (TE × TE)} (hk : PE X k tk) (hv : PE X v tv) (hr : PPs X pos ks vs trs) :
    PPs X pos (some k :: ks) (v :: vs) ((tk, tv) :: trs) := fun pins s σ H Q I h =>
  pairTrees_cons_walk (thn (hk pins s σ H _ I h) fun u s1 ⟨x, H1, I1, rx, q1⟩ => thn (hv pins s1 σ H1 _ I1 q1) fun w2 s2 ⟨y, H2, I2, ry, q2⟩ =>
    thn (hr pins s2 σ H2 _ I2 q2) fun ws s3 ⟨ps, H3, I3, rel, q3⟩ => ⟨(x, y) :: ps, H3, I3, .cons ⟨rx, ry⟩ rel, q3⟩)

def mergeK (kvs more : List (Key × V)) : List (Key × V) := more.foldl (fun acc kv => putK acc kv.1 kv.2) kvs
theorem KV.merge : ∀ {more : List (Key × V)} {rs : List (Key × Value)} {kvs : List (Key × V)} {vs : List (Key × Value)}, KV more rs → KV kvs vs → KV (mergeK kvs more) (merged vs rs) := by
  intro more rs kvs vs r
  unfold KV at r
  induction r generalizing kvs vs with
  | nil => intro q; exact q
  | @cons p q ps qs h t ih =>
    intro r0
    have e : KV (putK kvs p.1 p.2) (stored vs q.1 q.2) := by
      have := r0.put p.1 h.2
      rw [← h.1]; exact this
    exact ih e
theorem length_mergeK : ∀ (more kvs : List (Key × V)), (mergeK kvs more).length ≤ kvs.length + more.length
  | [], kvs => by show kvs.length ≤ kvs.length + 0; omega
  | p :: r, kvs => by
    have h1 := length_mergeK r (putK kvs p.1 p.2)
    have h2 := length_putK kvs p.1 p.2
    show (mergeK (putK kvs p.1 p.2) r).length ≤ _
    rw [List.length_cons]; omega
theorem carries_of {P : Program} {w : World} : ∀ {kvs : List (Key × V)} {ws : List (Value × Value)}, VV (kvs.map fun kv => (kV kv.1, kv.2)) ws → ∃ rs, Carries (mixKind P w) ws rs ∧ KV kvs rs
  | [], _, r => by rw [List.map_nil] at r; cases r; exact ⟨[], True.intro, .nil⟩
  | p :: kvs, _, r => by
    rw [List.map_cons] at r
    cases r with
    | @cons a b as bs h t =>
      obtain ⟨rs, c, q⟩ := carries_of (P := P) (w := w) t
      obtain ⟨b1, b2⟩ := b
      exact ⟨(p.1, b2) :: rs, ⟨kV_is h.1, rfl, c⟩, .cons ⟨rfl, h.2⟩ q⟩
/-- {k: v, ..} with keys ints and texts; the new dict stands empty while the pairs are made -/
def tDisp (trs : List (TE × TE)) : TE := fun σ H Q => ∀ p, H p = none → tPairs trs σ (upd H p (.dK [])) fun ps H2 => H2 p = some (.dK []) ∧ ∃ kvs : List (Key × V), ps = kvs.map (fun kv => (kV kv.1, kv.2)) ∧ kvs.length ≤ 15 ∧ Q (.ref p) (upd H2 p (.dK (mergeK [] kvs)))
theorem pe_disp {X : Cx} {pos : Pos} {keys : List (Option Expr)} {values : List Expr} {trs : List (TE × TE)} (h : PPs X pos keys values trs) (hall : keys.all (·.isSome) = true) (hl : keys.length = values.length) (h0 : keys ≠ [])
    (h15 : keys.length ≤ 15) : PE X (.Dict keys values pos) (tDisp trs) := by
  intro pins s σ H Q I q
  have hn := I.hok.fresh (Nat.le_refl s.heap.objs.size)
  have I1 := I.laid (a := s.heap.objs.size) (o := .dK []) (h' := s.heap.push { cls := .type "dict", data := .dict #[] }) (t' := s.toks) (fun _ _ q => Heap.get?_push_of_some _ q) (Nat.le_refl _) (dk_empty s.heap I.big)
  refine wpAny_Dict_walk (knd := mixKind X.prog X.w) hall hl h0 h15 (thn (h pins _ σ _ _ I1 (q _ hn)) fun ws s2 ⟨ps, H2, I2, rel, e, kvs, ep, lk, q2⟩ => ?_)
  subst ep
  obtain ⟨rs, c, rk⟩ := carries_of (P := X.prog) (w := X.w) rel
  obtain ⟨z, hd, vs0, r0, dd⟩ := dk_of I2.hok e
  cases r0
  refine ⟨rs, c, dd, fun h' dd' hs => ⟨.ref s.heap.objs.size, _, ?_, rfl, q2⟩⟩
  have hz : (mergeK [] kvs).length ≤ sizeLine := by
    have h1 := length_mergeK kvs []
    rw [List.length_nil] at h1
    rw [sizeLine_eq]; omega
  have he : ∃ q, h'.get? s.heap.objs.size = some q := let ⟨q, _, _, hq, _⟩ := dd'; ⟨q, hq⟩
  exact d_write I2 (by rw [e]; exact True.intro) hs he (dk_new hz hd (rk.merge .nil) dd')


/-! ### methods -/
/-- a method call o.m(e) of a built-in, with one argument: what must be seen of the text -/
structure M1 (X : Cx) (o : Expr) (m : Str) (apos : Pos) (e : Expr) (cpos : Pos) : Prop where
  base : attributeBase o m X.env (eval o X.env) = eval o X.env
  few : ((backTo cpos (starEach [e] X.env)).all (fun x => !x.1) && (backToKw cpos (keywordEach [] X.env)).all (fun x => x.1.isSome)
    && decide (([e] : List Expr).length + ([] : List Keyword).length + (if ([] : List Keyword).isEmpty then 0 else 1) < 30)) = true
  line : (apos.endLine == cpos.line) = true
  trees : backTo cpos (starEach [e] X.env) = [(false, eval e X.env)]
structure M2 (X : Cx) (o : Expr) (m : Str) (apos : Pos) (e f : Expr) (cpos : Pos) : Prop where
  base : attributeBase o m X.env (eval o X.env) = eval o X.env
  few : ((backTo cpos (starEach [e, f] X.env)).all (fun x => !x.1) && (backToKw cpos (keywordEach [] X.env)).all (fun x => x.1.isSome)
    && decide (([e, f] : List Expr).length + ([] : List Keyword).length + (if ([] : List Keyword).isEmpty then 0 else 1) < 30)) = true
  line : (apos.endLine == cpos.line) = true
  trees : backTo cpos (starEach [e, f] X.env) = [(false, eval e X.env), (false, eval f X.env)]

section
variable {X : Cx} {pins : List (Addr × Obj)} {σ : St} {H : Hp} {s : Shared} {a : Addr} {y d : V} {u r : Value} {o : Option V} {A : Around} {E : Value → Shared → Prop}
end

section
variable {X : Cx} {o e f : Expr} {apos cpos : Pos} {td ty tx : TE}
end

end L2

set_option Elab.async false
set_option linter.all false
set_option maxRecDepth 100000
namespace DL
open PySem L2

/-- what a program's value is, without the heap -/
inductive D where
  | non | bl (b : Bool) | int (i : Int) | str (x : Str) | tup (xs : List D) | lst (xs : List D)

mutual
inductive Rep (K : PySem.W.Frag) (F : Hp) : V → D → Prop
  | non : Rep K F .non .non
  | bl (b : Bool) : Rep K F (.bl b) (.bl b)
  | int (i : Int) : Rep K F (.int i) (.int i)
  | str (x : Str) : Rep K F (.str x) (.str x)
  | tup {a : Addr} {vs : List V} {ds : List D} : SqT K F a vs → Reps K F vs ds → Rep K F (.ref a) (.tup ds)
  | lst {a : Addr} {vs : List V} {ds : List D} : SqL K F a vs → Reps K F vs ds → Rep K F (.ref a) (.lst ds)
inductive Reps (K : PySem.W.Frag) (F : Hp) : List V → List D → Prop
  | nil : Reps K F [] []
  | cons {v : V} {vs : List V} {d : D} {ds : List D} : Rep K F v d → Reps K F vs ds → Reps K F (v :: vs) (d :: ds)
end

theorem sqT_same {K : PySem.W.Frag} {H H' : Hp} {a : Addr} {xs : List V} (e : Same H H') (h : SqT K H a xs) : SqT K H' a xs := by
  rcases h with (h | ⟨o, h⟩) | h
  · exact .inl (.inl (e _ _ h))
  · exact .inl (.inr ⟨o, e _ _ h⟩)
  · exact .inr h

section
variable {K : PySem.W.Frag} {F F' : Hp}
mutual
theorem Rep.mono (e : Same F F') : ∀ {v : V} {d : D}, Rep K F v d → Rep K F' v d
  | _, _, .non => .non
  | _, _, .bl b => .bl b
  | _, _, .int i => .int i
  | _, _, .str x => .str x
  | _, _, .tup h r => .tup (sqT_same e h) (Reps.mono e r)
  | _, _, .lst h r => .lst (e.seq h) (Reps.mono e r)
theorem Reps.mono (e : Same F F') : ∀ {vs : List V} {ds : List D}, Reps K F vs ds → Reps K F' vs ds
  | _, _, .nil => .nil
  | _, _, .cons r t => .cons (Rep.mono e r) (Reps.mono e t)
end
theorem Reps.length : ∀ {vs : List V} {ds : List D}, Reps K F vs ds → vs.length = ds.length
  | _, _, .nil => rfl
  | _, _, .cons _ t => congrArg (· + 1) (Reps.length t)
theorem Reps.get : ∀ {vs : List V} {ds : List D} {i : Nat} {d : D}, Reps K F vs ds → ds[i]? = some d → ∃ v, vs[i]? = some v ∧ Rep K F v d
  | _, _, _, _, .nil, e => by simp at e
  | _, _, 0, _, .cons r _, e => by simp at e; subst e; exact ⟨_, rfl, r⟩
  | _, _, i + 1, d, .cons _ t, e => by
    obtain ⟨u, h1, h2⟩ := Reps.get (i := i) (d := d) t (by simpa using e)
    exact ⟨u, by simpa using h1, h2⟩
theorem Reps.get' : ∀ {vs : List V} {ds : List D} {i : Nat} {v : V}, Reps K F vs ds → vs[i]? = some v → ∃ d, ds[i]? = some d ∧ Rep K F v d
  | _, _, _, _, .nil, e => by simp at e
  | _, _, 0, _, .cons r _, e => by simp at e; subst e; exact ⟨_, rfl, r⟩
  | _, _, i + 1, d, .cons _ t, e => by
    obtain ⟨u, h1, h2⟩ := Reps.get' (i := i) (v := d) t (by simpa using e)
    exact ⟨u, by simpa using h1, h2⟩
theorem Reps.append : ∀ {vs ws : List V} {ds es : List D}, Reps K F vs ds → Reps K F ws es → Reps K F (vs ++ ws) (ds ++ es)
  | _, _, _, _, .nil, s => s
  | _, _, _, _, .cons r t, s => .cons r (Reps.append t s)
theorem Reps.ints : ∀ (ns : List Int), Reps K F (ns.map V.int) (ns.map D.int)
  | [] => .nil
  | n :: r => .cons (.int n) (Reps.ints r)
end

/-- the frozen part F grew, the heap H grew; what was not frozen of the old heap is not frozen now -/
structure Ext (F H F' H' : Hp) : Prop where
  ff : Same F F'
  fh : Same F' H'
  hh : Same H H'
  fr : ∀ b, H b ≠ none → F b = none → F' b = none
theorem Ext.refl {F H : Hp} (h : Same F H) : Ext F H F H := ⟨Same.refl F, h, Same.refl H, fun _ _ e => e⟩
theorem Ext.trans {F H F1 H1 F2 H2 : Hp} (a : Ext F H F1 H1) (b : Ext F1 H1 F2 H2) : Ext F H F2 H2 :=
  ⟨a.ff.trans b.ff, b.fh, a.hh.trans b.hh, fun c hc fc => b.fr c (fun z => by
    cases q : H c with
    | none => exact hc q
    | some o => rw [a.hh c o q] at z; cases z) (a.fr c hc fc)⟩
theorem Ext.new {F H : Hp} {p : Addr} (h : Same F H) (hp : H p = none) (o : HO) : Ext F H (upd F p o) (upd H p o) where
  ff := fun b u q => by rw [upd_ne (fun z => by subst z; rw [h _ _ q] at hp; cases hp)]; exact q
  fh := fun b u q => by
    by_cases e : b = p
    · subst e; rw [upd_same] at q ⊢; exact q
    · rw [upd_ne e] at q ⊢; exact h _ _ q
  hh := fun b u q => by rw [upd_ne (ne_of_none q hp)]; exact q
  fr := fun b hb fb => by rw [upd_ne (fun z => hb (by rw [z]; exact hp))]; exact fb
/-- an exception of the own class D lies at x -/
def ExcAt (D x : Addr) (h : Heap) : Prop := ∃ o vs, h.get? x = some o ∧ o.cls = .ref D ∧ o.data = .fields vs
/-- a thing at an address, by what is known of its object -/
structure Thing where
  φ : PySem.W.Frag → Hp → Addr → HO → Prop
  keep : ∀ {K : PySem.W.Frag} {F F' : Hp} {a : Addr} {o : HO}, Same F F' → φ K F a o → φ K F' a o
def ThgOk (t : Thing) (K : PySem.W.Frag) (F : Hp) (a : Addr) (o : HO) : Prop := t.φ K F a o
theorem ThgOk.mono {t : Thing} {K : PySem.W.Frag} {F F' : Hp} {a : Addr} {o : HO} (e : Same F F') (h : ThgOk t K F a o) : ThgOk t K F' a o := t.keep e h
inductive Slot where
  | un | val (d : D) | own (ds : List D) | exc (C : Addr) | dic (kvs : List (Int × D)) | thg (t : Thing) | bor (t : Thing)
def slot : List Slot → Nat → Slot
  | [], _ => .un
  | x :: _, 0 => x
  | _ :: r, n + 1 => slot r n
def put : List Slot → Nat → Slot → List Slot
  | [], _, _ => []
  | _ :: r, 0, y => y :: r
  | x :: r, n + 1, y => x :: put r n y
theorem put_length (y : Slot) : ∀ (c : List Slot) (i : Nat), (put c i y).length = c.length
  | [], _ => rfl
  | _ :: _, 0 => rfl
  | _ :: r, n + 1 => congrArg (· + 1) (put_length y r n)
theorem slot_put_ne (y : Slot) : ∀ (c : List Slot) (i j : Nat), i ≠ j → slot (put c i y) j = slot c j
  | [], _, _, _ => rfl
  | _ :: _, 0, 0, h => absurd rfl h
  | _ :: _, 0, _ + 1, _ => rfl
  | _ :: _, _ + 1, 0, _ => rfl
  | _ :: r, n + 1, m + 1, h => slot_put_ne y r n m (fun z => h (by rw [z]))
theorem put_slot : ∀ (c : List Slot) (i : Nat), put c i (slot c i) = c
  | [], _ => rfl
  | _ :: _, 0 => rfl
  | x :: r, n + 1 => congrArg (x :: ·) (put_slot r n)
theorem slot_put (y : Slot) : ∀ (c : List Slot) (i : Nat), i < c.length → slot (put c i y) i = y
  | [], _, h => by simp at h
  | _ :: _, 0, _ => rfl
  | _ :: r, n + 1, h => slot_put y r n (by simpa using h)

/-- a dict of ints -/
structure DRep (K : PySem.W.Frag) (F : Hp) (kv : List (Key × V)) (kvs : List (Int × D)) : Prop where
  ks : kv.map (·.1) = kvs.map fun q => Sum.inl q.1
  vs : Reps K F (kv.map (·.2)) (kvs.map (·.2))
theorem DRep.mono {K : PySem.W.Frag} {F F' : Hp} {kv : List (Key × V)} {kvs : List (Int × D)} (e : Same F F') (h : DRep K F kv kvs) : DRep K F' kv kvs := ⟨h.ks, h.vs.mono e⟩
def SlotOk (K : PySem.W.Frag) (H₀ F H : Hp) (v : Option (Option V)) : Slot → Prop
  | .un => True
  | .val d => ∃ x, v = some (some x) ∧ Rep K F x d
  | .own ds => ∃ a vs, v = some (some (.ref a)) ∧ H a = some (.lst vs) ∧ F a = none ∧ H₀ a = none ∧ Reps K F vs ds
  | .exc C => ∃ a, v = some (some (.ref a)) ∧ H a = some (.ext (ExcAt C a))
  | .dic kvs => ∃ a kv, v = some (some (.ref a)) ∧ H a = some (.dK kv) ∧ F a = none ∧ H₀ a = none ∧ DRep K F kv kvs
  | .thg t => ∃ a o, v = some (some (.ref a)) ∧ H a = some o ∧ F a = none ∧ H₀ a = none ∧ ThgOk t K F a o
  | .bor t => ∃ a o, v = some (some (.ref a)) ∧ H₀ a = some o ∧ ThgOk t K F a o
def isOwn : Slot → Bool
  | .own _ => true
  | .dic _ => true
  | .thg _ => true
  | _ => false

structure Env (K : PySem.W.Frag) (F₀ H₀ F H : Hp) (σ : St) (c : List Slot) : Prop where
  ext : Ext F₀ H₀ F H
  len : σ.length = c.length
  sl : ∀ i, SlotOk K H₀ F H σ[i]? (slot c i)
  inj : ∀ (i j : Nat) (a : Addr), isOwn (slot c i) = true → isOwn (slot c j) = true → σ[i]? = some (some (V.ref a)) → σ[j]? = some (some (V.ref a)) → i = j

section
variable {K : PySem.W.Frag} {F₀ H₀ F H F' H' : Hp} {σ : St} {c : List Slot}
theorem SlotOk.ext {v : Option (Option V)} (e : Ext F H F' H') : ∀ {s : Slot}, SlotOk K H₀ F H v s → SlotOk K H₀ F' H' v s
  | .un, _ => trivial
  | .val d, ⟨x, h, r⟩ => ⟨x, h, r.mono e.ff⟩
  | .own ds, ⟨a, vs, h, h1, h2, h3, r⟩ => ⟨a, vs, h, e.hh _ _ h1, e.fr a (by rw [h1]; exact fun z => nomatch z) h2, h3, r.mono e.ff⟩
  | .exc C, ⟨a, h, h1⟩ => ⟨a, h, e.hh _ _ h1⟩
  | .dic kvs, ⟨a, kv, h, h1, h2, h3, r⟩ => ⟨a, kv, h, e.hh _ _ h1, e.fr a (by rw [h1]; exact fun z => nomatch z) h2, h3, r.mono e.ff⟩
  | .thg t, ⟨a, o, h, h1, h2, h3, r⟩ => ⟨a, o, h, e.hh _ _ h1, e.fr a (by rw [h1]; exact fun z => nomatch z) h2, h3, r.mono e.ff⟩
  | .bor t, ⟨a, o, h, h1, r⟩ => ⟨a, o, h, h1, r.mono e.ff⟩
theorem Env.grow (E : Env K F₀ H₀ F H σ c) (e : Ext F H F' H') : Env K F₀ H₀ F' H' σ c := ⟨E.ext.trans e, E.len, fun i => (E.sl i).ext e, E.inj⟩
theorem Env.val (E : Env K F₀ H₀ F H σ c) {i : Nat} {d : D} (h : slot c i = .val d) : ∃ x, σ[i]? = some (some x) ∧ Rep K F x d := by
  have q := E.sl i
  rw [h] at q
  exact q
theorem Env.fh (E : Env K F₀ H₀ F H σ c) : Same F H := E.ext.fh
theorem Env.set (E : Env K F₀ H₀ F H σ c) {i : Nat} {x : V} {d : D} (hi : i < c.length) (r : Rep K F x d) : Env K F₀ H₀ F H (σ.set i (some x)) (put c i (.val d)) where
  ext := E.ext
  len := by rw [List.length_set, put_length]; exact E.len
  sl := fun j => by
    by_cases e : i = j
    · subst e
      rw [slot_put _ _ _ hi, List.getElem?_set_self (by rw [E.len]; exact hi)]
      exact ⟨x, rfl, r⟩
    · rw [slot_put_ne _ _ _ _ e, List.getElem?_set_ne e]
      exact E.sl j
  inj := fun j k a h1 h2 h3 h4 => by
    by_cases e : i = j
    · subst e; rw [slot_put _ _ _ hi] at h1; cases h1
    · by_cases e2 : i = k
      · subst e2; rw [slot_put _ _ _ hi] at h2; cases h2
      · rw [slot_put_ne _ _ _ _ e] at h1
        rw [slot_put_ne _ _ _ _ e2] at h2
        rw [List.getElem?_set_ne e] at h3
        rw [List.getElem?_set_ne e2] at h4
        exact E.inj j k a h1 h2 h3 h4
end

/-- a body running: its context, the frozen part and the heap at its entry -/
structure Cy where
  X : Cx
  F0 : Hp
  H0 : Hp
abbrev EnvY (Y : Cy) (F H : Hp) (σ : St) (c : List Slot) : Prop := Env Y.X.K Y.F0 Y.H0 F H σ c

def tD (Y : Cy) (c : List Slot) (d : D) : TE := fun σ H Q => ∃ F, EnvY Y F H σ c ∧ ∀ v F' H', Ext F H F' H' → Rep Y.X.K F' v d → Q v H'
def tT (Y : Cy) (c : List Slot) (b : Bool) : TT := fun σ H Q => ∃ F, EnvY Y F H σ c ∧ ∀ F' H', Ext F H F' H' → Q b H'
def tA (Y : Cy) (c : List Slot) (ds : List D) : TA := fun σ H Q => ∃ F, EnvY Y F H σ c ∧ ∀ vs F' H', Ext F H F' H' → Reps Y.X.K F' vs ds → Q vs H'
/-- the expression's value is d -/
def EvD (Y : Cy) (e : Expr) (c : List Slot) (d : D) : Prop := PE Y.X e (tD Y c d)
/-- the test comes out as b -/
def TeD (Y : Cy) (e : Expr) (c : List Slot) (b : Bool) : Prop := PT Y.X e (tT Y c b)
def ArD (Y : Cy) (es : List Expr) (c : List Slot) (ds : List D) : Prop := PA Y.X es (tA Y c ds)

inductive Out where
  | nx (c : List Slot) | rt (d : D) | bk (c : List Slot) | ct (c : List Slot) | ro (ds : List D) | rs (R : PySem.W.Frag → Hp → Hp → V → Hp → Prop)
def Meets (Y : Cy) (F : Hp) (D : Ends) : Out → Prop
  | .nx c => ∀ σ F' H, Same F F' → EnvY Y F' H σ c → D.nx σ H
  | .rt d => ∀ v F' H, Same F F' → Ext Y.F0 Y.H0 F' H → Rep Y.X.K F' v d → D.rt v H
  | .bk c => ∀ σ F' H, Same F F' → EnvY Y F' H σ c → D.bk σ H
  | .ct c => ∀ σ F' H, Same F F' → EnvY Y F' H σ c → D.ct σ H
  | .ro ds => ∀ vs F' H p, Same F F' → Ext Y.F0 Y.H0 F' H → Reps Y.X.K F' vs ds → H p = none → D.rt (.ref p) (upd H p (.lst vs))
  | .rs R => ∀ v F' H1 H, Same F F' → Ext Y.F0 Y.H0 F' H1 → R Y.X.K F' H1 v H → D.rt v H
theorem Meets.grow {Y : Cy} {F F1 : Hp} {D : Ends} (s : Same F F1) : ∀ {o : Out}, Meets Y F D o → Meets Y F1 D o
  | .nx _, m => fun σ F' H s' E => m σ F' H (s.trans s') E
  | .rt _, m => fun v F' H s' E r => m v F' H (s.trans s') E r
  | .bk _, m => fun σ F' H s' E => m σ F' H (s.trans s') E
  | .ct _, m => fun σ F' H s' E => m σ F' H (s.trans s') E
  | .ro _, m => fun vs F' H p s' E r hp => m vs F' H p (s.trans s') E r hp
  | .rs _, m => fun v F' H1 H s' E r => m v F' H1 H (s.trans s') E r
def tS (Y : Cy) (c : List Slot) (P : Out → Prop) : TS := fun D σ H => ∃ F, EnvY Y F H σ c ∧ ∀ o, P o → Meets Y F D o
def StD (Y : Cy) (st : Stmt) (c : List Slot) (P : Out → Prop) : Prop := PS Y.X st (tS Y c P)
def SsD (Y : Cy) (st : List Stmt) (c : List Slot) (P : Out → Prop) : Prop := PSs Y.X st (tS Y c P)
/-- behind a statement: the rest -/
def Thn (Y : Cy) (rest : List Stmt) (P : Out → Prop) : Out → Prop
  | .nx c => SsD Y rest c P
  | o => P o

theorem bt_abs : bootBuiltins "abs" = some (.builtin "abs") := by decide +kernel
theorem bt_max : bootBuiltins "max" = some (.builtin "max") := by decide +kernel
theorem bt_min : bootBuiltins "min" = some (.builtin "min") := by decide +kernel
theorem bt_len : bootBuiltins "len" = some (.builtin "len") := by decide +kernel
theorem bt_isinstance : bootBuiltins "isinstance" = some (.builtin "isinstance") := by decide +kernel
theorem bt_int : bootBuiltins "int" = some (.type "int") := by decide +kernel
/-- the module that runs -/
structure Tx where
  prog : Program
  w : World
  K : PySem.W.Frag
  mg : Str → Option Value
  base : Heap
/-- names of a def: N its own (the parameters first), G the global ones that it uses -/
structure ScB (N ps G : List Str) (sc : Scope) : Prop where
  fs : FnScope N ps sc
  loc : ∀ x ∈ N, (sc.names.lookup x = some .local ∨ sc.names.lookup x = some .cell) ∧ (x == ("__debug__" : Str)) = false ∧ (x == ("__classdict__" : Str)) = false
  gl : ∀ x ∈ G, sc.names.lookup x = some .globalImplicit ∧ (x == ("__debug__" : Str)) = false ∧ x ≠ "__name__"
/-- what a body knows of where it runs: names; expressions; statements -/
structure Sn (Y : Cy) (T : Tx) (N G : List Str) : Prop where
  eP : Y.X.prog = T.prog
  eW : Y.X.w = T.w
  eK : Y.X.K = T.K
  eM : Y.X.mg = T.mg
  eB : Y.X.base = T.base
  n : Y.X.N = N
  nd : N.Nodup
  loc : ∀ x ∈ N, Loc Y.X.env.scope x ∧ (x == ("__debug__" : Str)) = false ∧ (x == ("__classdict__" : Str)) = false
  gl : ∀ x ∈ G, Gl Y.X x ∧ (x == ("__debug__" : Str)) = false ∧ x ≠ "__name__"
structure Se (Y : Cy) (T : Tx) (k : Nat) (N G : List Str) : Prop extends Sn Y T N G where
  calm : Y.X.calm = true
  room : Room k Y.X.A
structure Sc (Y : Cy) (T : Tx) (k : Nat) (N G : List Str) : Prop extends Se Y T k N G where
  fn : ∀ y, Y.X.fn y = true
  hp : PassesOwn (model Y.X.prog Y.X.w) Y.X.A Y.X.env Y.X.xe
/-- a def's body, as it stands -/
structure Fx (Y : Cy) (st : Stmt) : Prop where
  sc : Y.X.env.scope = defScope st
  ex : Y.X.ex = []
  stk : Y.X.stack = Y.X.env :: Y.X.outer ∧ Y.X.env.frame = some Y.X.env.locals

theorem PE.imp {X : Cx} {e : Expr} {t t' : TE} (h : PE X e t) (i : ∀ σ H Q, t' σ H Q → t σ H Q) : PE X e t' := fun pins s σ H Q I q => h pins s σ H Q I (i _ _ _ q)
theorem PT.imp {X : Cx} {e : Expr} {t t' : TT} (h : PT X e t) (i : ∀ σ H Q, t' σ H Q → t σ H Q) : PT X e t' := fun pins s σ H Q I q => h pins s σ H Q I (i _ _ _ q)
theorem PA.imp {X : Cx} {e : List Expr} {t t' : TA} (h : PA X e t) (i : ∀ σ H Q, t' σ H Q → t σ H Q) : PA X e t' := fun pos pins s σ H Q I q => h pos pins s σ H Q I (i _ _ _ q)
theorem PS.imp {X : Cx} {e : Stmt} {t t' : TS} (h : PS X e t) (i : ∀ D σ H, t' D σ H → t D σ H) : PS X e t' := fun pins s σ H Q I q => h pins s σ H Q I (i _ _ _ q)
theorem PSs.imp {X : Cx} {e : List Stmt} {t t' : TS} (h : PSs X e t) (i : ∀ D σ H, t' D σ H → t D σ H) : PSs X e t' := fun pins s σ H Q I q => h pins s σ H Q I (i _ _ _ q)

section
variable {Y : Cy} {T : Tx} {k : Nat} {N G : List Str} {c : List Slot} {a b e : Expr} {es : List Expr} {pos : Pos} {d d1 d2 : D} {ds : List D} {P : Out → Prop} {rest : List Stmt}

/-! ### expressions -/
theorem ev_var (S : Se Y T k N G) (i : Nat) {x : Str} (hN : N[i]? = some x := by rfl) (hs : slot c i = .val d := by rfl) : EvD Y (.Name x pos) c d := by
  have hx := S.loc x (List.mem_of_getElem? hN)
  rw [← S.n] at hN
  exact PE.imp (pe_var hN (hx.1.elim .inl fun h => .inr (.inl h)) hx.2.1 hx.2.2) fun σ H Q ⟨F, E, q⟩ =>
    let ⟨x, ex, r⟩ := E.val hs
    ⟨x, ex, q x F H (Ext.refl E.fh) r⟩
theorem ev_const {v : V} (h : PE Y.X e (tC v)) (r : ∀ F, Rep Y.X.K F v d) : EvD Y e c d :=
  PE.imp h fun σ H Q ⟨F, E, q⟩ => q v F H (Ext.refl E.fh) (r F)
theorem ev_int {i : Int} {j} : EvD Y (.Constant (.int i) j pos) c (.int i) := ev_const pe_int fun _ => .int i
theorem ev_bl {i : Bool} {j} : EvD Y (.Constant (.bool i) j pos) c (.bl i) := ev_const pe_bl fun _ => .bl i
theorem ev_non {j} : EvD Y (.Constant .none j pos) c .non := ev_const pe_non fun _ => .non
theorem ev_str {x : Str} {j} : EvD Y (.Constant (.str x) j pos) c (.str x) := ev_const pe_str fun _ => .str x

/-- an operation by values -/
theorem ev_op2 {t : TE} {ta tb : TE} {r : R2} (h : PE Y.X e (tOp r (tD Y c d1) (tD Y c d2)))
    (hr : ∀ x y F H Q, Same F H → Rep Y.X.K F x d1 → Rep Y.X.K F y d2 → (∀ v F' H', Ext F H F' H' → Rep Y.X.K F' v d → Q v H') → r x y H Q) : EvD Y e c d :=
  PE.imp h fun σ H Q ⟨F, E, q⟩ => ⟨F, E, fun x F1 H1 e1 r1 => ⟨F1, E.grow e1, fun y F2 H2 e2 r2 =>
    hr x y F2 H2 Q e2.fh (r1.mono e2.ff) r2 fun v F3 H3 e3 r3 => q v F3 H3 (e1.trans (e2.trans e3)) r3⟩⟩
theorem ev_un1 {r : V → Hp → VK → Prop} (h : PE Y.X e (tUn r (tD Y c d1)))
    (hr : ∀ x F H Q, Same F H → Rep Y.X.K F x d1 → (∀ v F' H', Ext F H F' H' → Rep Y.X.K F' v d → Q v H') → r x H Q) : EvD Y e c d :=
  PE.imp h fun σ H Q ⟨F, E, q⟩ => ⟨F, E, fun x F1 H1 e1 r1 => hr x F1 H1 Q e1.fh r1 fun v F3 H3 e3 r3 => q v F3 H3 (e1.trans e3) r3⟩

section
variable {i j : Int}
theorem inv_int {K : PySem.W.Frag} {F : Hp} {x : V} {i : Int} (r : Rep K F x (.int i)) : x = .int i := by cases r; rfl
theorem inv_bl {K : PySem.W.Frag} {F : Hp} {x : V} {i : Bool} (r : Rep K F x (.bl i)) : x = .bl i := by cases r; rfl
theorem inv_str {K : PySem.W.Frag} {F : Hp} {x : V} {i : Str} (r : Rep K F x (.str i)) : x = .str i := by cases r; rfl
theorem inv_tup {K : PySem.W.Frag} {F : Hp} {x : V} {ds : List D} (r : Rep K F x (.tup ds)) : ∃ a vs, x = .ref a ∧ SqT K F a vs ∧ Reps K F vs ds := by cases r with | tup h t => exact ⟨_, _, rfl, h, t⟩
theorem inv_lst {K : PySem.W.Frag} {F : Hp} {x : V} {ds : List D} (r : Rep K F x (.lst ds)) : ∃ a vs, x = .ref a ∧ SqL K F a vs ∧ Reps K F vs ds := by cases r with | lst h t => exact ⟨_, _, rfl, h, t⟩

theorem ev_intop {op : Operator} {C : Int → Int → Prop} {g : Int → Int → Int} (ho : OpR Y.X (binaryOp op) (rI C fun i j => .int (g i j))) (ha : EvD Y a c (.int i)) (hb : EvD Y b c (.int j)) (hc : C i j) : EvD Y (.BinOp a op b pos) c (.int (g i j)) :=
  ev_op2 (t := tC .non) (ta := tC .non) (tb := tC .non) (pe_op ho ha hb) fun x y F H Q f rx ry q => ⟨i, j, inv_int rx, inv_int ry, hc, q _ F H (Ext.refl f) (.int _)⟩
theorem ev_intop0 {op : Operator} {g : Int → Int → Int} (ho : OpR Y.X (binaryOp op) (rI0 fun i j => .int (g i j))) (ha : EvD Y a c (.int i)) (hb : EvD Y b c (.int j)) : EvD Y (.BinOp a op b pos) c (.int (g i j)) :=
  ev_op2 (t := tC .non) (ta := tC .non) (tb := tC .non) (pe_op ho ha hb) fun x y F H Q f rx ry q => ⟨i, j, inv_int rx, inv_int ry, q _ F H (Ext.refl f) (.int _)⟩
theorem ev_add (ha : EvD Y a c (.int i)) (hb : EvD Y b c (.int j)) : EvD Y (.BinOp a .Add b pos) c (.int (i + j)) := ev_intop0 op_add ha hb
theorem ev_sub (ha : EvD Y a c (.int i)) (hb : EvD Y b c (.int j)) : EvD Y (.BinOp a .Sub b pos) c (.int (i - j)) := ev_intop0 op_sub ha hb
/-- numbers of at most n bits -/
def Bd (n : Nat) (i : Int) : Prop := i.natAbs < 2 ^ n
instance {n : Nat} {i : Int} : Decidable (Bd n i) := inferInstanceAs (Decidable (i.natAbs < 2 ^ n))
theorem op_mulB {X : Cx} : OpR X (binaryOp .Mult) (rI (fun i j => IntMulOk i j) fun i j => .int (i * j)) := opI fun _ _ _ _ _ _ _ hc q => PyProof.Rows.mul_int q hc
theorem bits_le {n : Nat} {i : Int} (h : Bd n i) : Builtin.Int.intBits i ≤ n := by
  unfold Builtin.Int.intBits
  split
  · exact Nat.zero_le _
  · rename_i h0
    have hn : i.natAbs ≠ 0 := fun z => h0 (by simpa using z)
    have : i.natAbs.log2 < n := (Nat.log2_lt hn).mpr h
    omega
theorem mulOk {m n : Nat} {i j : Int} (h1 : Bd m i) (h2 : Bd n j) (h : m + n ≤ 134217728) : IntMulOk i j := PySem.IntMulOk.of_le (bits_le h1) (bits_le h2) h
theorem ev_mul (ha : EvD Y a c (.int i)) (hb : EvD Y b c (.int j)) (hm : IntMulOk i j) : EvD Y (.BinOp a .Mult b pos) c (.int (i * j)) := ev_intop op_mulB ha hb hm
theorem op_fdivB {X : Cx} : OpR X (binaryOp .FloorDiv) (rI (fun i j => j ≠ 0 ∧ Bd 9000 j) fun i j => .int (i.fdiv j)) := opI fun _ j _ _ _ _ _ hc q => PyProof.Rows.floordiv_int hc.1 q (.inl (PyProof.noPylong_of_log2 (by
  have hn : j.natAbs ≠ 0 := fun z => hc.1 (Int.natAbs_eq_zero.mp z)
  exact (Nat.log2_lt hn).mpr hc.2)))
theorem ev_fdiv (ha : EvD Y a c (.int i)) (hb : EvD Y b c (.int j)) (hj : j ≠ 0) (hm : Bd 9000 j) : EvD Y (.BinOp a .FloorDiv b pos) c (.int (i.fdiv j)) := ev_intop op_fdivB ha hb ⟨hj, hm⟩
theorem ev_fdivP (ha : EvD Y a c (.int i)) (hb : EvD Y b c (.int j)) (hj : 0 < j) (hm : Bd 9000 j) : EvD Y (.BinOp a .FloorDiv b pos) c (.int (i / j)) := by
  have h := ev_fdiv (pos := pos) ha hb (by omega) hm
  rw [Int.fdiv_eq_ediv_of_nonneg i (by omega)] at h
  exact h
theorem ev_mod (ha : EvD Y a c (.int i)) (hb : EvD Y b c (.int j)) (hj : j ≠ 0) : EvD Y (.BinOp a .Mod b pos) c (.int (i.fmod j)) := ev_intop op_modN ha hb hj
theorem ev_modP (ha : EvD Y a c (.int i)) (hb : EvD Y b c (.int j)) (hj : 0 < j) : EvD Y (.BinOp a .Mod b pos) c (.int (i % j)) := ev_intop op_mod ha hb hj
theorem ev_pow (ha : EvD Y a c (.int i)) (hb : EvD Y b c (.int j)) (hj : CPow i j) : EvD Y (.BinOp a .Pow b pos) c (.int (i ^ j.toNat)) := ev_intop op_pow ha hb hj
theorem ev_neg (ha : EvD Y a c (.int i)) : EvD Y (.UnaryOp .USub a pos) c (.int (-i)) :=
  ev_un1 (pe_un un_neg ha) fun x F H Q f rx q => ⟨i, inv_int rx, q _ F H (Ext.refl f) (.int _)⟩

/-! comparisons -/
theorem ev_eqI (ha : EvD Y a c (.int i)) (hb : EvD Y b c (.int j)) : EvD Y (.Compare a [.Eq] [b] pos) c (.bl (decide (i = j))) :=
  ev_op2 (t := tC .non) (ta := tC .non) (tb := tC .non) (pe_cmpR op_eq ha hb (nomark _)) fun x y F H Q f rx ry q => by
    rw [inv_int rx, inv_int ry]
    refine ⟨rfl, ?_⟩
    rw [dec_int]
    exact q _ F H (Ext.refl f) (.bl _)
end

/-! tests -/
theorem te_val {v : Bool} (h : EvD Y e c (.bl v)) (he : ∀ whole, isTrue e Y.X.env whole = (do let v ← whole; standAt e.pos; holding [v] (truthy v)) := by intro _; rfl) : TeD Y e c v :=
  PT.imp (pt_val h he) fun σ H Q ⟨F, E, q⟩ => ⟨F, E, fun x F1 H1 e1 r1 => ⟨v, inv_bl r1, q F1 H1 e1⟩⟩
theorem te_cmp {op : CmpOp} {r : R2} {v : Bool} (ho : OpR Y.X (compareOp op) r) (hm : behindInMarks op b = false) (ha : EvD Y a c d1) (hb : EvD Y b c d2)
    (hr : ∀ x y F H Q, Same F H → Rep Y.X.K F x d1 → Rep Y.X.K F y d2 → (∀ F' H', Ext F H F' H' → Q (.bl v) H') → r x y H Q) : TeD Y (.Compare a [op] [b] pos) c v :=
  PT.imp (pt_cmpR ho ha hb hm) fun σ H Q ⟨F, E, q⟩ => ⟨F, E, fun x F1 H1 e1 r1 => ⟨F1, E.grow e1, fun y F2 H2 e2 r2 =>
    hr x y F2 H2 _ e2.fh (r1.mono e2.ff) r2 fun F3 H3 e3 => ⟨v, rfl, q F3 H3 (e1.trans (e2.trans e3))⟩⟩⟩
section
variable {i j : Int}
theorem te_cmpI {op : CmpOp} {g : Int → Int → Bool} (ho : OpR Y.X (compareOp op) (rI0 fun i j => .bl (g i j))) (hm : behindInMarks op b = false) (ha : EvD Y a c (.int i)) (hb : EvD Y b c (.int j)) : TeD Y (.Compare a [op] [b] pos) c (g i j) :=
  te_cmp ho hm ha hb fun x y F H Q f rx ry q => ⟨i, j, inv_int rx, inv_int ry, q F H (Ext.refl f)⟩
theorem te_lt (ha : EvD Y a c (.int i)) (hb : EvD Y b c (.int j)) : TeD Y (.Compare a [.Lt] [b] pos) c (decide (i < j)) := te_cmpI op_lt (nomark _) ha hb
theorem te_le (ha : EvD Y a c (.int i)) (hb : EvD Y b c (.int j)) : TeD Y (.Compare a [.LtE] [b] pos) c (decide (i ≤ j)) := te_cmpI op_le (nomark _) ha hb
theorem te_gt (ha : EvD Y a c (.int i)) (hb : EvD Y b c (.int j)) : TeD Y (.Compare a [.Gt] [b] pos) c (decide (j < i)) := te_cmpI op_gt (nomark _) ha hb
theorem te_eqI (ha : EvD Y a c (.int i)) (hb : EvD Y b c (.int j)) : TeD Y (.Compare a [.Eq] [b] pos) c (decide (i = j)) :=
  te_cmp op_eq (nomark _) ha hb fun x y F H Q f rx ry q => by
    rw [inv_int rx, inv_int ry]
    refine ⟨rfl, ?_⟩
    rw [dec_int]
    exact q F H (Ext.refl f)
theorem te_neI (ha : EvD Y a c (.int i)) (hb : EvD Y b c (.int j)) : TeD Y (.Compare a [.NotEq] [b] pos) c (!decide (i = j)) :=
  te_cmp op_ne (nomark _) ha hb fun x y F H Q f rx ry q => by
    rw [inv_int rx, inv_int ry]
    refine ⟨rfl, ?_⟩
    rw [dec_int]
    exact q F H (Ext.refl f)
end
theorem te_not {v : Bool} (h : TeD Y a c v) : TeD Y (.UnaryOp .Not a pos) c (!v) :=
  PT.imp (pt_not h) fun σ H Q ⟨F, E, q⟩ => ⟨F, E, fun F1 H1 e1 => q F1 H1 e1⟩
theorem te_and {v w : Bool} (ha : TeD Y a c v) (hb : v = true → PW Y.X (.BoolOp .And (b :: es) pos) (tT Y c w)) : PW Y.X (.BoolOp .And (a :: b :: es) pos) (tT Y c (v && w)) := by
  cases v with
  | true =>
    intro whole pins s σ H Q I h
    refine pw_and ha (hb rfl) whole pins s σ H Q I ?_
    obtain ⟨F, E, q⟩ := h
    exact ⟨F, E, fun F1 H1 e1 => L2.iteT ⟨F1, E.grow e1, fun F2 H2 e2 => q F2 H2 (e1.trans e2)⟩⟩
  | false =>
    intro whole pins s σ H Q I h
    have hn : PW Y.X (.BoolOp .And (b :: es) pos) (fun _ _ _ => False) := fun _ _ _ _ _ _ _ z => z.elim
    refine pw_and ha hn whole pins s σ H Q I ?_
    obtain ⟨F, E, q⟩ := h
    exact ⟨F, E, fun F1 H1 e1 => L2.iteF (q F1 H1 e1)⟩
theorem te_or {v w : Bool} (ha : TeD Y a c v) (hb : v = false → PW Y.X (.BoolOp .Or (b :: es) pos) (tT Y c w)) : PW Y.X (.BoolOp .Or (a :: b :: es) pos) (tT Y c (v || w)) := by
  cases v with
  | false =>
    intro whole pins s σ H Q I h
    refine pw_or ha (hb rfl) whole pins s σ H Q I ?_
    obtain ⟨F, E, q⟩ := h
    exact ⟨F, E, fun F1 H1 e1 => L2.iteF ⟨F1, E.grow e1, fun F2 H2 e2 => q F2 H2 (e1.trans e2)⟩⟩
  | true =>
    intro whole pins s σ H Q I h
    have hn : PW Y.X (.BoolOp .Or (b :: es) pos) (fun _ _ _ => False) := fun _ _ _ _ _ _ _ z => z.elim
    refine pw_or ha hn whole pins s σ H Q I ?_
    obtain ⟨F, E, q⟩ := h
    exact ⟨F, E, fun F1 H1 e1 => L2.iteT (q F1 H1 e1)⟩
theorem te_and1 {v : Bool} (ha : TeD Y a c v) : PW Y.X (.BoolOp .And [a] pos) (tT Y c v) := pw_and1 ha
theorem te_or1 {v : Bool} (ha : TeD Y a c v) : PW Y.X (.BoolOp .Or [a] pos) (tT Y c v) := pw_or1 ha
/-- and, or as values of truths -/
theorem ev_one {op} (h : EvD Y a c d) : EvD Y (.BoolOp op [a] pos) c d := pe_one h
theorem ev_and {v : Bool} (ha : EvD Y a c (.bl v)) (hb : v = true → EvD Y (.BoolOp .And (b :: es) pos) c d) : EvD Y (.BoolOp .And (a :: b :: es) pos) c (if v = true then d else .bl false) := by
  cases v with
  | true =>
    refine PE.imp (pe_and ha (hb rfl)) fun σ H Q ⟨F, E, q⟩ => ⟨F, E, fun x F1 H1 e1 r1 => ⟨true, inv_bl r1, L2.iteT ⟨F1, E.grow e1, fun v F2 H2 e2 r2 => q v F2 H2 (e1.trans e2) (by simpa using r2)⟩⟩⟩
  | false =>
    have hn : PE Y.X (.BoolOp .And (b :: es) pos) (fun _ _ _ => False) := fun _ _ _ _ _ _ z => z.elim
    refine PE.imp (pe_and ha hn) fun σ H Q ⟨F, E, q⟩ => ⟨F, E, fun x F1 H1 e1 r1 => ⟨false, inv_bl r1, L2.iteF (q _ F1 H1 e1 (by simpa using Rep.bl false))⟩⟩
theorem ev_not {v : Bool} (ha : EvD Y a c (.bl v)) : EvD Y (.UnaryOp .Not a pos) c (.bl (!v)) :=
  PE.imp (pe_not ha) fun σ H Q ⟨F, E, q⟩ => ⟨F, E, fun x F1 H1 e1 r1 => ⟨v, inv_bl r1, q _ F1 H1 e1 (.bl _)⟩⟩
/-! arguments, displays, items -/
theorem ar_nil : ArD Y [] c [] := PA.imp pa_nil fun σ H Q ⟨F, E, q⟩ => q [] F H (Ext.refl E.fh) .nil
theorem ar_cons (ha : EvD Y e c d) (hr : ArD Y es c ds) (hs : starEach (e :: es) Y.X.env = (false, eval e Y.X.env) :: starEach es Y.X.env := by rfl) : ArD Y (e :: es) c (d :: ds) :=
  PA.imp (pa_cons ha hr hs) fun σ H Q ⟨F, E, q⟩ => ⟨F, E, fun x F1 H1 e1 r1 => ⟨F1, E.grow e1, fun vs F2 H2 e2 r2 => q _ F2 H2 (e1.trans e2) (.cons (r1.mono e2.ff) r2)⟩⟩
theorem small_le {n : Nat} (h : n ≤ 1000000) : n ≤ sizeLine := by rw [sizeLine_eq]; omega
theorem ev_tup {x1} (h : ArD Y es c ds) (hz : ds.length ≤ 1000000 := by first | exact of_decide_eq_true rfl | (simp; done)) : EvD Y (.Tuple es x1 pos) c (.tup ds) :=
  PE.imp (pe_tup h) fun σ H Q ⟨F, E, q⟩ => ⟨F, E, fun vs F1 H1 e1 r1 => ⟨by rw [r1.length]; exact small_le hz, fun p hp =>
    q (.ref p) _ _ (e1.trans (Ext.new e1.fh hp (.tup vs))) (.tup (SqT.of upd_same) (r1.mono (Ext.new e1.fh hp _).ff))⟩⟩
theorem ev_lst (h : ArD Y es c ds) (hz : ds.length ≤ 1000000 := by first | exact of_decide_eq_true rfl | (simp; done)) : EvD Y (.List es pos) c (.lst ds) :=
  PE.imp (pe_lst h) fun σ H Q ⟨F, E, q⟩ => ⟨F, E, fun vs F1 H1 e1 r1 => ⟨by rw [r1.length]; exact small_le hz, fun p hp =>
    q (.ref p) _ _ (e1.trans (Ext.new e1.fh hp (.lst vs))) (.lst (SqL.of upd_same) (r1.mono (Ext.new e1.fh hp _).ff))⟩⟩
theorem atI_reps {K : PySem.W.Frag} {F : Hp} {vs : List V} {ds : List D} {i : Int} {d : D} (r : Reps K F vs ds) (h : atI ds i = some d) : ∃ v, atI vs i = some v ∧ Rep K F v d := by
  unfold atI at h ⊢
  rw [r.length]
  cases q : ixN ds.length i with
  | none => rw [q] at h; cases h
  | some j =>
    rw [q] at h
    obtain ⟨v, h1, h2⟩ := r.get (i := j) (by simpa using h)
    exact ⟨v, by simpa using h1, h2⟩
theorem ev_ixT {i : Int} (ha : EvD Y a c (.tup ds)) (hb : EvD Y b c (.int i)) (h : atI ds i = some d) (hs : PlainIx b := by intro _ _; rfl) : EvD Y (.Subscript a b pos) c d :=
  ev_op2 (t := tC .non) (ta := tC .non) (tb := tC .non) (pe_ix ix_tup ha hb hs) fun x y F H Q f rx ry q => by
    obtain ⟨p, vs, rfl, hp, r⟩ := inv_tup rx
    obtain ⟨v, hv, rv⟩ := atI_reps r h
    exact ⟨p, vs, i, v, rfl, inv_int ry, sqT_same f hp, hv, q v F H (Ext.refl f) rv⟩
theorem ev_ixL {i : Int} (ha : EvD Y a c (.lst ds)) (hb : EvD Y b c (.int i)) (h : atI ds i = some d) (hs : PlainIx b := by intro _ _; rfl) : EvD Y (.Subscript a b pos) c d :=
  ev_op2 (t := tC .non) (ta := tC .non) (tb := tC .non) (pe_ix ix_list ha hb hs) fun x y F H Q f rx ry q => by
    obtain ⟨p, vs, rfl, hp, r⟩ := inv_lst rx
    obtain ⟨v, hv, rv⟩ := atI_reps r h
    exact ⟨p, vs, i, v, rfl, inv_int ry, f.seq hp, hv, q v F H (Ext.refl f) rv⟩

/-! ### built-in functions -/
theorem ev_callB (S : Se Y T k N G) (gi : Nat) {id : String} {x : Str} {p : Pos} {r : List V → Hp → VK → Prop} (hc : CallR Y.X (.builtin id) r) (hg : G[gi]? = some x) (hm : T.mg x = none) (hv : bootBuiltins x = some (.builtin id)) (ha : ArD Y (e :: es) c ds)
    (hr : ∀ vs F H Q, Same F H → Reps Y.X.K F vs ds → (∀ v F' H', Ext F H F' H' → Rep Y.X.K F' v d → Q v H') → r vs H Q)
    (he : starEach (e :: es) Y.X.env = (false, eval e Y.X.env) :: starEach es Y.X.env) (hpl : (backTo pos (starEach es Y.X.env)).any (·.1) = false) : EvD Y (.Call (.Name x p) (e :: es) [] pos) c d :=
  PE.imp (pe_callB hc (S.gl x (List.mem_of_getElem? hg)).1 (by rw [S.eM]; exact hm) hv ha (S.gl x (List.mem_of_getElem? hg)).2.2 (S.gl x (List.mem_of_getElem? hg)).2.1 he hpl) fun σ H Q ⟨F, E, q⟩ => ⟨F, E, fun vs F1 H1 e1 r1 => hr vs F1 H1 Q e1.fh r1 fun v F2 H2 e2 r2 => q v F2 H2 (e1.trans e2) r2⟩
theorem ev_callTy (S : Se Y T k N G) (gi : Nat) {id : String} {x : Str} {p : Pos} {r : List V → Hp → VK → Prop} (hc : CallR Y.X (.type id) r) (hg : G[gi]? = some x) (hm : T.mg x = none) (hv : bootBuiltins x = some (.type id)) (ha : ArD Y (e :: es) c ds)
    (hr : ∀ vs F H Q, Same F H → Reps Y.X.K F vs ds → (∀ v F' H', Ext F H F' H' → Rep Y.X.K F' v d → Q v H') → r vs H Q)
    (he : starEach (e :: es) Y.X.env = (false, eval e Y.X.env) :: starEach es Y.X.env) (hpl : (backTo pos (starEach es Y.X.env)).any (·.1) = false) : EvD Y (.Call (.Name x p) (e :: es) [] pos) c d :=
  PE.imp (pe_callTy hc (S.gl x (List.mem_of_getElem? hg)).1 (by rw [S.eM]; exact hm) hv ha (S.gl x (List.mem_of_getElem? hg)).2.2 (S.gl x (List.mem_of_getElem? hg)).2.1 he hpl) fun σ H Q ⟨F, E, q⟩ => ⟨F, E, fun vs F1 H1 e1 r1 => hr vs F1 H1 Q e1.fh r1 fun v F2 H2 e2 r2 => q v F2 H2 (e1.trans e2) r2⟩
theorem inv1 {K : PySem.W.Frag} {F : Hp} {vs : List V} {d : D} (r : Reps K F vs [d]) : ∃ v, vs = [v] ∧ Rep K F v d := by
  cases r with
  | cons a t => cases t; exact ⟨_, rfl, a⟩
theorem inv2 {K : PySem.W.Frag} {F : Hp} {vs : List V} {d e : D} (r : Reps K F vs [d, e]) : ∃ v w, vs = [v, w] ∧ Rep K F v d ∧ Rep K F w e := by
  cases r with
  | cons a t => obtain ⟨w, rfl, b⟩ := inv1 t; exact ⟨_, _, rfl, a, b⟩
theorem ev_abs (S : Se Y T k N G) (gi : Nat) {i : Int} {p : Pos} (ha : ArD Y [e] c [.int i]) (hm : T.mg "abs" = none) (hg : G[gi]? = some ("abs" : Str) := by rfl) (he : starEach [e] Y.X.env = (false, eval e Y.X.env) :: starEach [] Y.X.env := by rfl) : EvD Y (.Call (.Name "abs" p) [e] [] pos) c (.int (i.natAbs : Int)) :=
  ev_callB S gi call_abs hg hm bt_abs ha (fun vs F H Q f r q => by
    obtain ⟨v, rfl, rv⟩ := inv1 r
    refine ⟨i, by rw [inv_int rv], ?_⟩
    have e : (if i < 0 then -i else i) = (i.natAbs : Int) := by split <;> omega
    rw [e]
    exact q _ F H (Ext.refl f) (.int _)) he rfl
theorem ev_max (S : Se Y T k N G) (gi : Nat) {i j : Int} {p : Pos} {e1 : Expr} (ha : ArD Y [e, e1] c [.int i, .int j]) (hm : T.mg "max" = none) (hg : G[gi]? = some ("max" : Str) := by rfl) (he : starEach [e, e1] Y.X.env = (false, eval e Y.X.env) :: starEach [e1] Y.X.env := by rfl) (hpl : (backTo pos (starEach [e1] Y.X.env)).any (·.1) = false := by rfl) : EvD Y (.Call (.Name "max" p) [e, e1] [] pos) c (.int (max i j)) :=
  ev_callB S gi (call_max2 S.calm) hg hm bt_max ha (fun vs F H Q f r q => by
    obtain ⟨v, w, rfl, rv, rw'⟩ := inv2 r
    refine ⟨i, j, by rw [inv_int rv, inv_int rw'], ?_⟩
    have e : (if j > i then j else i) = max i j := by split <;> omega
    rw [e]
    exact q _ F H (Ext.refl f) (.int _)) he hpl
theorem ev_min (S : Se Y T k N G) (gi : Nat) {i j : Int} {p : Pos} {e1 : Expr} (ha : ArD Y [e, e1] c [.int i, .int j]) (hm : T.mg "min" = none) (hg : G[gi]? = some ("min" : Str) := by rfl) (he : starEach [e, e1] Y.X.env = (false, eval e Y.X.env) :: starEach [e1] Y.X.env := by rfl) (hpl : (backTo pos (starEach [e1] Y.X.env)).any (·.1) = false := by rfl) : EvD Y (.Call (.Name "min" p) [e, e1] [] pos) c (.int (min i j)) :=
  ev_callB S gi (call_min2 S.calm) hg hm bt_min ha (fun vs F H Q f r q => by
    obtain ⟨v, w, rfl, rv, rw'⟩ := inv2 r
    refine ⟨i, j, by rw [inv_int rv, inv_int rw'], ?_⟩
    have e : (if j < i then j else i) = min i j := by split <;> omega
    rw [e]
    exact q _ F H (Ext.refl f) (.int _)) he hpl
def lenD : D → Option Nat
  | .str x => if x.length ≤ 1000000 then some x.length else none
  | .tup xs => some xs.length
  | .lst xs => some xs.length
  | _ => none
theorem ev_len (S : Se Y T k N G) (gi : Nat) {n : Nat} {p : Pos} (ha : ArD Y [e] c [d]) (hl : lenD d = some n) (hm : T.mg "len" = none) (hg : G[gi]? = some ("len" : Str) := by rfl) (he : starEach [e] Y.X.env = (false, eval e Y.X.env) :: starEach [] Y.X.env := by rfl) : EvD Y (.Call (.Name "len" p) [e] [] pos) c (.int n) :=
  ev_callB S gi call_len hg hm bt_len ha (fun vs F H Q f r q => by
    obtain ⟨v, rfl, rv⟩ := inv1 r
    refine ⟨v, n, rfl, ?_, q _ F H (Ext.refl f) (.int _)⟩
    cases rv with
    | str x =>
      have hl' : (if x.length ≤ 1000000 then some x.length else none) = some n := hl
      by_cases hx : x.length ≤ 1000000
      · rw [if_pos hx] at hl'; cases hl'; exact ⟨small_le hx, rfl⟩
      · rw [if_neg hx] at hl'; cases hl'
    | tup h t => cases hl; exact .inr ⟨_, sqT_same f h, t.length.symm⟩
    | lst h t => cases hl; exact .inl ⟨_, f.seq h, t.length.symm⟩
    | _ => cases hl) he rfl
theorem ev_intOf (S : Se Y T k N G) (gi : Nat) {i : Bool} {p : Pos} (ha : ArD Y [e] c [.bl i]) (hm : T.mg "int" = none) (hg : G[gi]? = some ("int" : Str) := by rfl) (he : starEach [e] Y.X.env = (false, eval e Y.X.env) :: starEach [] Y.X.env := by rfl) : EvD Y (.Call (.Name "int" p) [e] [] pos) c (.int (if i then 1 else 0)) :=
  ev_callTy S gi call_int1 hg hm bt_int ha (fun vs F H Q f r q => by
    obtain ⟨v, rfl, rv⟩ := inv1 r
    exact .inr ⟨i, by rw [inv_bl rv], q _ F H (Ext.refl f) (.int _)⟩) he rfl

/-! ### statements -/
theorem ss_nil (h : P (.nx c)) : SsD Y [] c P := PSs.imp pss_nil fun D σ H ⟨F, E, m⟩ => m _ h σ F H (Same.refl F) E
/-- any reading of the rest -/
def tAny (Y : Cy) (rest : List Stmt) : TS := fun D σ H => ∃ c P F, SsD Y rest c P ∧ EnvY Y F H σ c ∧ ∀ o, P o → Meets Y F D o
theorem pss_any : PSs Y.X rest (tAny Y rest) := fun pins s σ H D I ⟨c, P, F, h, e, m⟩ => h pins s σ H D I ⟨F, e, m⟩
theorem ss_cons {st : Stmt} (h : StD Y st c (Thn Y rest P)) : SsD Y (st :: rest) c P :=
  PSs.imp (pss_cons h pss_any) fun D σ H ⟨F, e, m⟩ => ⟨F, e, fun o ho => by
    cases o with
    | nx c' => exact fun σ' F' H' s' E' => ⟨c', P, F', ho, E', fun o' ho' => (m o' ho').grow s'⟩
    | rt d => exact m (.rt d) ho
    | bk c' => exact m (.bk c') ho
    | ct c' => exact m (.ct c') ho
    | ro ds => exact m (.ro ds) ho
    | rs R => exact m (.rs R) ho⟩
theorem st_ret (h : EvD Y e c d) (hp : P (.rt d)) : StD Y (.Return (some e) pos) c P :=
  PS.imp (ps_ret h) fun D σ H ⟨F, E, m⟩ => ⟨F, E, fun v F' H' x r => m _ hp v F' H' x.ff (E.ext.trans x) r⟩
theorem ss_ret (h : EvD Y e c d) (hp : P (.rt d)) : SsD Y (.Return (some e) pos :: rest) c P := ss_cons (st_ret h hp)
theorem ss_if {t : Expr} {sa sb : List Stmt} {v : Bool} (ht : TeD Y t c v) (ha : v = true → SsD Y sa c (Thn Y rest P)) (hb : v = false → SsD Y sb c (Thn Y rest P)) : SsD Y (.If t sa sb pos :: rest) c P := by
  refine ss_cons ?_
  cases v with
  | true => exact PS.imp (ps_if ht (ha rfl) (pss_never (sts := sb))) fun D σ H ⟨F, E, m⟩ => ⟨F, E, fun F1 H1 e1 => L2.iteT ⟨F1, E.grow e1, fun o ho => (m o ho).grow e1.ff⟩⟩
  | false => exact PS.imp (ps_if ht (pss_never (sts := sa)) (hb rfl)) fun D σ H ⟨F, E, m⟩ => ⟨F, E, fun F1 H1 e1 => L2.iteF ⟨F1, E.grow e1, fun o ho => (m o ho).grow e1.ff⟩⟩
theorem ss_set (S : Sc Y T k N G) (i : Nat) {x : Str} {pos' : Pos} (he : EvD Y e c d)
    (hr : SsD Y rest (put c i (.val d)) P) (hi : N[i]? = some x := by rfl) (hlt : i < c.length := by first | exact of_decide_eq_true rfl | decide | omega) (hs : swapsWith e (some (.Name x pos')) pos.line Y.X.env = pure false := by rfl) : SsD Y (.Assign [.Name x pos'] e pos :: rest) c P := by
  have hx := S.loc x (List.mem_of_getElem? hi)
  have hN := S.nd
  rw [← S.n] at hi hN
  refine ss_cons (PS.imp (ps_set hN hi hx.1 he hs (.inl (S.fn x))) fun D σ H ⟨F, E, m⟩ => ⟨F, E, fun v F' H' e' r' => ?_⟩)
  exact m (.nx (put c i (.val d))) hr _ F' H' e'.ff ((E.grow e').set hlt r')
/-- if t: x = e (no else), the name's two values in one -/
theorem ss_ifI (S : Sc Y T k N G) (i : Nat) {x : Str} {t : Expr} {p1 p2 : Pos} {v : Bool} {a b : Int} (ht : TeD Y t c v) (he : v = true → EvD Y e c (.int a)) (hr : SsD Y rest (put c i (.val (.int (if v = true then a else b)))) P) (hsl : slot c i = .val (.int b) := by rfl) (hi : N[i]? = some x := by rfl)
    (hlt : i < c.length := by first | exact of_decide_eq_true rfl | decide | omega) (hs : swapsWith e (some (.Name x p1)) p2.line Y.X.env = pure false := by rfl) : SsD Y (.If t [.Assign [.Name x p1] e p2] [] pos :: rest) c P := by
  refine ss_if ht (fun h => ?_) (fun h => ?_)
  · refine ss_set S i (he h) (ss_nil ?_) hi hlt hs
    rw [if_pos h] at hr
    exact hr
  · refine ss_nil ?_
    rw [if_neg (by rw [h]; exact Bool.false_ne_true)] at hr
    have e : put c i (.val (.int b)) = c := by rw [← hsl]; exact put_slot c i
    rw [e] at hr
    exact hr
theorem ss_expr (he : EvD Y e c d) (hr : SsD Y rest c P) (hs : swapsWith e none pos.line Y.X.env = pure false := by rfl) : SsD Y (.Expr e pos :: rest) c P :=
  ss_cons (PS.imp (ps_expr he hs) fun D σ H ⟨F, E, m⟩ => ⟨F, E, fun v F' H' e' r' => m (.nx c) hr σ F' H' e'.ff (E.grow e')⟩)
/-- what a loop's turn is to reach -/
def Turned (I : List Slot → Prop) (Pn : List Slot → Prop) (Pr : D → Prop) : Out → Prop
  | .nx c => I c
  | .ct c => I c
  | .bk c => Pn c
  | .rt d => Pr d
  | .ro _ => False
  | .rs _ => False
def tAnyT (Y : Cy) (e : Expr) : TT := fun σ H Q => ∃ c v, TeD Y e c v ∧ tT Y c v σ H Q
theorem pt_any {e : Expr} : PT Y.X e (tAnyT Y e) := fun pins s σ H Q I ⟨c, v, h, q⟩ => h pins s σ H Q I q
theorem ss_while (S : Sc Y T k N G) {t : Expr} {body : List Stmt} (I : List Slot → Prop) (μ : List Slot → Nat) (h0 : I c)
    (hs : ∀ c, I c → ∃ v, TeD Y t c v ∧ (v = true → SsD Y body c (Turned (fun c' => I c' ∧ μ c' < μ c) (fun c' => SsD Y rest c' P) (fun d => P (.rt d)))) ∧ (v = false → SsD Y rest c P)) : SsD Y (.While t body [] pos :: rest) c P := by
  refine ss_cons (PS.imp (ps_while S.hp (pt_any (e := t)) (pss_any (rest := body))) fun D σ H ⟨F, E, m⟩ => ?_)
  refine ⟨fun n σ H => ∃ c F1, I c ∧ μ c = n ∧ EnvY Y F1 H σ c ∧ Same F F1, ⟨μ c, c, F, h0, rfl, E, Same.refl F⟩, ?_⟩
  rintro n σ H ⟨c, F1, hI, rfl, E, s1⟩
  obtain ⟨v, ht, hb, hn⟩ := hs c hI
  refine ⟨c, v, ht, F1, E, fun F2 H2 e2 => ?_⟩
  cases v with
  | false => exact L2.iteF (m (.nx c) (hn rfl) σ F2 H2 (s1.trans e2.ff) (E.grow e2))
  | true =>
    refine L2.iteT ⟨fun σ' H' => ∃ c' F', (I c' ∧ μ c' < μ c) ∧ EnvY Y F' H' σ' c' ∧ Same F F', fun σ' H' ⟨c', F', hI', E', s'⟩ => ⟨μ c', hI'.2, c', F', hI'.1, rfl, E', s'⟩, ?_⟩
    refine ⟨c, _, F2, hb rfl, E.grow e2, fun o ho => ?_⟩
    have s2 := s1.trans e2.ff
    cases o with
    | nx c' => exact fun σ' F' H' s' E' => ⟨c', F', ho, E', s2.trans s'⟩
    | ct c' => exact fun σ' F' H' s' E' => ⟨c', F', ho, E', s2.trans s'⟩
    | bk c' => exact fun σ' F' H' s' E' => m (.nx c') ho σ' F' H' (s2.trans s') E'
    | rt d => exact (m (.rt d) ho).grow s2
    | ro ds => exact False.elim ho
    | rs R => exact False.elim ho
end

/-! ### for -/
section
variable {Y : Cy} {T : Tx} {k : Nat} {N G : List Str} {c c' : List Slot} {a b e tg : Expr} {es : List Expr} {pos : Pos} {d d1 d2 : D} {ds items : List D} {P : Out → Prop} {rest : List Stmt}
/-- the iterator J goes through the items -/
def Yields (K : PySem.W.Frag) (F1 : Hp) (J : It) (items : List D) : Prop := ∀ (i : Nat) (F H : Hp), Same F1 F → Same F H →
  (∀ d, items[i]? = some d → J.go i H ∧ ∀ x H', J.yld i H x H' → ∃ F', Ext F H F' H' ∧ Rep K F' x d) ∧ (items.length ≤ i → J.stop i H)
def tI (Y : Cy) (c : List Slot) (items : List D) : TI := fun σ H R => ∃ F, EnvY Y F H σ c ∧ ∀ J F1 H1, Ext F H F1 H1 → Yields Y.X.K F1 J items → R J H1
def ItD (Y : Cy) (tg e : Expr) (c : List Slot) (items : List D) : Prop := PI Y.X tg e (tI Y c items)
theorem PI.imp {X : Cx} {e : Expr} {t t' : TI} (h : PI X tg e t) (i : ∀ σ H R, t' σ H R → t σ H R) : PI X tg e t' := fun pins s σ H R I q => h pins s σ H R I (i _ _ _ q)
theorem it_list (h : EvD Y e c (.lst ds)) : ItD Y tg e c ds :=
  PI.imp (pi_list h) fun σ H R ⟨F, E, q⟩ => ⟨F, E, fun x F1 H1 e1 r1 => by
    obtain ⟨p, vs, rfl, hp, r⟩ := inv_lst r1
    refine ⟨p, rfl, ⟨vs, e1.fh.seq hp⟩, q _ F1 H1 e1 fun i F2 H2 s1 s2 => ⟨fun d hd => ?_, fun hl => ⟨vs, s2.seq (s1.seq hp), by rw [r.length]; exact hl⟩⟩⟩
    obtain ⟨v, hv, rv⟩ := r.get hd
    refine ⟨⟨vs, v, s2.seq (s1.seq hp), hv⟩, fun x H' y => ?_⟩
    obtain ⟨rfl, y⟩ := y
    have := y vs (s2.seq (s1.seq hp))
    rw [hv] at this
    cases this
    exact ⟨F2, Ext.refl s2, rv.mono s1⟩⟩
/-- lo, lo + st, .. (n of them) -/
def rangeD (lo st : Int) (n : Nat) : List D := (List.range n).map fun (m : Nat) => D.int (lo + (m : Int) * st)
theorem rangeD_length (lo st : Int) (n : Nat) : (rangeD lo st n).length = n := by simp [rangeD]
theorem rangeD_get {lo st : Int} {n m : Nat} (h : m < n) : (rangeD lo st n)[m]? = some (.int (lo + (m : Int) * st)) := by simp [rangeD, h]
theorem rangeD_of {lo st : Int} {n m : Nat} {d : D} (h : (rangeD lo st n)[m]? = some d) : m < n ∧ d = .int (lo + (m : Int) * st) := by
  have hl := (List.getElem?_eq_some_iff.mp h).1
  rw [rangeD_length] at hl
  rw [rangeD_get hl] at h
  cases h
  exact ⟨hl, rfl⟩
theorem yields_range {K : PySem.W.Frag} {F : Hp} (lo : Int) (n : Nat) : Yields K F (Itr lo n) (rangeD lo 1 n) := fun i F2 H2 s1 s2 => ⟨fun d hd => by
    obtain ⟨hi, rfl⟩ := rangeD_of hd
    refine ⟨hi, fun x H' y => ?_⟩
    obtain ⟨rfl, rfl⟩ := y
    rw [Int.mul_one]
    exact ⟨F2, Ext.refl s2, .int _⟩, fun hl => by rw [rangeD_length] at hl; exact hl⟩
theorem it_range1 (S : Se Y T k N G) (gi : Nat) {j : Int} {p : Pos} (ha : ArD Y [a] c [.int j]) (h1 : -(2 ^ 62) ≤ j) (h2 : j < 2 ^ 62) (hm : T.mg "range" = none) (hg : G[gi]? = some ("range" : Str) := by rfl)
    (hs : starEach [a] Y.X.env = [(false, eval a Y.X.env)] := by rfl) : ItD Y tg (.Call (.Name "range" p) [a] [] pos) c (rangeD 0 1 j.toNat) :=
  PI.imp (pi_range1 (S.gl _ (List.mem_of_getElem? hg)).1 (by rw [S.eM]; exact hm) ha hs) fun σ H R ⟨F, E, q⟩ => ⟨F, E, fun vs F1 H1 e1 r1 => by
    obtain ⟨v, rfl, rv⟩ := inv1 r1
    exact ⟨j, by rw [inv_int rv], h1, h2, q _ F1 H1 e1 (yields_range 0 j.toNat)⟩⟩
theorem it_range2 (S : Se Y T k N G) (gi : Nat) {i j : Int} {p : Pos} (ha : ArD Y [a, b] c [.int i, .int j]) (h0 : -(2 ^ 62) ≤ i ∧ i < 2 ^ 62 ∧ -(2 ^ 62) ≤ j ∧ j < 2 ^ 62) (hm : T.mg "range" = none) (hg : G[gi]? = some ("range" : Str) := by rfl)
    (hs : starEach [a, b] Y.X.env = [(false, eval a Y.X.env), (false, eval b Y.X.env)] := by rfl) (hs2 : starEach [b] Y.X.env = [(false, eval b Y.X.env)] := by rfl) : ItD Y tg (.Call (.Name "range" p) [a, b] [] pos) c (rangeD i 1 (j - i).toNat) :=
  PI.imp (pi_range2 (S.gl _ (List.mem_of_getElem? hg)).1 (by rw [S.eM]; exact hm) ha hs hs2) fun σ H R ⟨F, E, q⟩ => ⟨F, E, fun vs F1 H1 e1 r1 => by
    obtain ⟨v, w, rfl, rv, rw'⟩ := inv2 r1
    exact ⟨i, j, by rw [inv_int rv, inv_int rw'], h0, q _ F1 H1 e1 (yields_range i _)⟩⟩
/-! targets -/
def tG (Y : Cy) (d : D) (c c' : List Slot) : TG := fun v σ H Q => ∃ F, EnvY Y F H σ c ∧ Rep Y.X.K F v d ∧ ∀ σ' F' H', Ext F H F' H' → EnvY Y F' H' σ' c' → Q σ' H'
def TgD (Y : Cy) (tg : Expr) (d : D) (c c' : List Slot) : Prop := PG Y.X tg (tG Y d c c')
theorem PG.imp {X : Cx} {t t' : TG} (h : PG X tg t) (i : ∀ v σ H Q, t' v σ H Q → t v σ H Q) : PG X tg t' := fun pins s σ H x v Q I r q => h pins s σ H x v Q I r (i _ _ _ _ q)
theorem tg_name (S : Sc Y T k N G) (i : Nat) {x : Str} (hi : N[i]? = some x := by rfl) (hlt : i < c.length := by first | exact of_decide_eq_true rfl | decide | omega) : TgD Y (.Name x pos) d c (put c i (.val d)) := by
  have hx := S.loc x (List.mem_of_getElem? hi)
  have hN := S.nd
  rw [← S.n] at hi hN
  exact PG.imp (pg_name hN hi hx.1 (.inl (S.fn x))) fun v σ H Q ⟨F, E, r, q⟩ => q _ F H (Ext.refl E.fh) (E.set hlt r)
theorem tg_name0 (S : Sn Y T N G) (i : Nat) {x : Str} (hf : Y.X.fn x = true ∨ Y.X.env.scope.names.lookup x = some .local) (hi : N[i]? = some x := by rfl) (hlt : i < c.length := by first | exact of_decide_eq_true rfl | decide | omega) : TgD Y (.Name x pos) d c (put c i (.val d)) := by
  have hx := S.loc x (List.mem_of_getElem? hi)
  have hN := S.nd
  rw [← S.n] at hi hN
  exact PG.imp (pg_name hN hi hx.1 hf) fun v σ H Q ⟨F, E, r, q⟩ => q _ F H (Ext.refl E.fh) (E.set hlt r)
def gAny (Y : Cy) (tg : Expr) : TG := fun v σ H Q => ∃ d c c', TgD Y tg d c c' ∧ tG Y d c c' v σ H Q
theorem pg_any : PG Y.X tg (gAny Y tg) := fun pins s σ H x v Q I r ⟨d, c, c', h, q⟩ => h pins s σ H x v Q I r q
theorem ss_for (S : Sc Y T k N G) {iter : Expr} {body : List Stmt} (hi : ItD Y tg iter c items) (I : Nat → List Slot → Prop) (h0 : I 0 c)
    (hs : ∀ m d c, items[m]? = some d → I m c → ∃ c', TgD Y tg d c c' ∧ SsD Y body c' (Turned (I (m + 1)) (fun c' => SsD Y rest c' P) (fun d => P (.rt d))))
    (hd : ∀ c, I items.length c → SsD Y rest c P) (hf : ∀ x, foldedSetIterable iter Y.X.env x = pure x := by intro _; rfl) : SsD Y (.For tg iter body [] pos :: rest) c P := by
  refine ss_cons (PS.imp (ps_for S.hp S.calm hi (pg_any (tg := tg)) (pss_any (rest := body)) hf) fun D σ H ⟨F, E, m⟩ => ?_)
  refine ⟨F, E, fun J F1 H1 e1 yl => ?_⟩
  refine ⟨fun n r σ H => r = items.length - n ∧ n ≤ items.length ∧ ∃ c F, I n c ∧ EnvY Y F H σ c ∧ Same F1 F, ⟨_, rfl, Nat.zero_le _, c, F1, h0, E.grow e1, Same.refl _⟩, ?_⟩
  rintro n r σ2 H2 ⟨rfl, hn, c2, F2, hI, E2, s2⟩
  have y := yl n F2 H2 s2 E2.fh
  by_cases hlt : n < items.length
  · obtain ⟨d, hd⟩ : ∃ d, items[n]? = some d := ⟨items[n], List.getElem?_eq_getElem hlt⟩
    obtain ⟨go, yy⟩ := y.1 d hd
    obtain ⟨c3, tgd, ssd⟩ := hs n d c2 hd hI
    refine .inr ⟨go, fun σ' H' => ∃ c' F', I (n + 1) c' ∧ EnvY Y F' H' σ' c' ∧ Same F1 F', fun σ' H' ⟨c', F', hI', E', s'⟩ => ⟨items.length - (n + 1), by omega, rfl, hlt, c', F', hI', E', s'⟩, fun x H' yx => ?_⟩
    obtain ⟨F3, e3, r3⟩ := yy x H' yx
    refine ⟨d, c2, c3, tgd, F3, E2.grow e3, r3, fun σ' F' H'' s' E' => ?_⟩
    have s3 : Same F1 F' := s2.trans (e3.ff.trans s'.ff)
    refine ⟨c3, _, F', ssd, E', fun o ho => ?_⟩
    cases o with
    | nx c' => exact fun σ' F' H' s' E' => ⟨c', F', ho, E', s3.trans s'⟩
    | ct c' => exact fun σ' F' H' s' E' => ⟨c', F', ho, E', s3.trans s'⟩
    | bk c' => exact fun σ' F' H' s' E' => m (.nx c') ho σ' F' H' (e1.ff.trans (s3.trans s')) E'
    | rt d => exact (m (.rt d) ho).grow (e1.ff.trans s3)
    | ro ds => exact False.elim ho
    | rs R => exact False.elim ho
  · have e : n = items.length := by omega
    subst e
    exact .inl ⟨y.2 (Nat.le_refl _), m (.nx c2) (hd c2 hI) σ2 F2 H2 (e1.ff.trans s2) E2⟩
end

/-! ### contracts -/
/-- what a def promises: on arguments ds it hands back d, if R ds d -/
def spD (K : PySem.W.Frag) (R : List D → D → Prop) : Sp := fun vs H Q _ => ∃ F ds d, Same F H ∧ Reps K F vs ds ∧ R ds d ∧ ∀ v F' H', Ext F H F' H' → Rep K F' v d → Q v H'
structure FnD (T : Tx) (k : Nat) (x : Str) (R : List D → D → Prop) : Prop where
  ex : ∃ (f : Addr) (fd : FuncData) (ps : List Str), T.mg x = some (.ref f) ∧ PySem.W.keepIn T.K (.ref f) = true ∧ Binds T.K fd ps [] ∧ FnOk T.prog T.w T.K T.mg T.base CX0 k f fd ps (spD T.K R)
/-- the names' places at a def's entry -/
def ctx0 (N : List Str) (ds : List D) : List Slot := ds.map Slot.val ++ List.replicate (N.length - ds.length) Slot.un
def Ret (d : D) : Out → Prop
  | .rt e => e = d
  | .nx _ => d = .non
  | _ => False
theorem slot_un : ∀ (n i : Nat), slot (List.replicate n Slot.un) i = .un
  | 0, _ => rfl
  | _ + 1, 0 => rfl
  | n + 1, i + 1 => slot_un n i
section
variable {K : PySem.W.Frag} {F H H0 : Hp}
theorem start_sl {n : Nat} : ∀ {vs : List V} {ds : List D}, Reps K F vs ds → ∀ i, SlotOk K H0 F H (vs.map some ++ List.replicate n none)[i]? (slot (ds.map Slot.val ++ List.replicate n Slot.un) i)
  | _, _, .nil, i => by
    show SlotOk K H0 F H _ (slot (List.replicate n Slot.un) i)
    rw [slot_un]; exact trivial
  | _, _, .cons r t, 0 => ⟨_, rfl, r⟩
  | _, _, .cons r t, i + 1 => by
    have q := start_sl (n := n) t i
    simpa [slot] using q
theorem start_own {n : Nat} : ∀ (ds : List D) (i : Nat), isOwn (slot (ds.map Slot.val ++ List.replicate n Slot.un) i) = false
  | [], i => by
    show isOwn (slot (List.replicate n Slot.un) i) = false
    rw [slot_un]; rfl
  | _ :: _, 0 => rfl
  | _ :: r, i + 1 => start_own r i
theorem env_start {N : List Str} {vs : List V} {ds : List D} (f : Same F H) (r : Reps K F vs ds) : Env K F H F H (L2.start N vs) (ctx0 N ds) where
  ext := Ext.refl f
  len := by
    unfold L2.start ctx0
    simp [r.length]
  sl := fun i => by
    unfold L2.start ctx0
    rw [r.length]
    exact start_sl r i
  inj := fun i j a h _ _ _ => by
    unfold ctx0 at h
    rw [start_own] at h
    cases h
end
section
variable {Y : Cy} {T : Tx} {k j : Nat} {N G ps : List Str} {c : List Slot} {e : Expr} {es : List Expr} {pos p : Pos} {d : D} {ds : List D} {R : List D → D → Prop} {x qual : Str}
theorem ev_call (S : Se Y T k N G) (gi : Nat) (Fn : FnD T j x R) (hj : j ≤ k) (ha : ArD Y (e :: es) c ds) (hR : R ds d) (hg : G[gi]? = some x := by rfl)
    (he : starEach (e :: es) Y.X.env = (false, eval e Y.X.env) :: starEach es Y.X.env := by rfl) (hpl : (backTo pos (starEach es Y.X.env)).any (·.1) = false := by rfl) : EvD Y (.Call (.Name x p) (e :: es) [] pos) c d := by
  obtain ⟨f, fd, ps, hm, hk, hb, F⟩ := Fn.ex
  have F' : FnOk Y.X.prog Y.X.w Y.X.K Y.X.mg Y.X.base CX0 j f fd ps (spD Y.X.K R) := by rw [S.eP, S.eW, S.eK, S.eM, S.eB]; exact F
  have gl := S.gl x (List.mem_of_getElem? hg)
  refine PE.imp (pe_call F' (S.room.mono hj) gl.1 (by rw [S.eM]; exact hm) (by rw [S.eK]; exact hk) (by rw [S.eK]; exact hb) .nil pass0 ha gl.2.1 he hpl) fun σ H Q ⟨F, E, q⟩ => ⟨F, E, fun vs F1 H1 e1 r1 => ?_⟩
  show spD Y.X.K R (vs ++ []) H1 Q E0
  rw [List.append_nil]
  exact ⟨F1, ds, d, e1.fh, r1, hR, fun v F2 H2 e2 r2 => q v F2 H2 (e1.trans e2) r2⟩
/-- THE RULE: a def of the text keeps its promise -/
theorem fn_Dk {st : Stmt} {f : Addr} {fd : FuncData} (F : Fun T.K x qual st f fd) (B : ScB N ps G (defScope st)) (hlen : ∀ ds d, R ds d → ds.length = ps.length)
    (body : ∀ (Y : Cy) (S : Sc Y T k N G) (Z : Fx Y st) (ds : List D) (d : D), R ds d → SsD Y (defBody st) (ctx0 N ds) (Ret d)) : FnOk T.prog T.w T.K T.mg T.base CX0 (k + 1) f fd ps (spD T.K R) := by
  refine F.ok B.fs (fun vs H Q E h => ?_) fun cdv A outer s H vs Q E hr h => ?_
  · obtain ⟨F0, ds, d, _, r, hR, _⟩ := h
    rw [r.length]; exact hlen ds d hR
  · obtain ⟨F0, ds, d, f0, r, hR, q⟩ := h
    have S : Sc ⟨(cxOf CX0 T.prog T.w T.K T.mg T.base N qual (defScope st) f cdv A outer s H E).nox, F0, H⟩ T k N G :=
      ⟨⟨⟨rfl, rfl, rfl, rfl, rfl, rfl, B.fs.nd, B.loc, B.gl⟩, rfl, hr⟩, fun _ => rfl, PassesOwn.never⟩
    refine ⟨_, body _ S ⟨rfl, rfl, rfl, rfl⟩ ds d hR, F0, env_start f0 r, fun o ho => ?_⟩
    cases o with
    | rt e => cases ho; exact fun v F' H' _ x r' => q v F' H' x r'
    | nx c => cases ho; exact fun σ F' H' _ E' => q .non F' H' E'.ext .non
    | bk c => exact ho.elim
    | ct c => exact ho.elim
    | ro ds => exact ho.elim
    | rs R => exact ho.elim
/-- a def stands in the module -/
def At (T : Tx) (x : Str) (st : Stmt) : Prop := ∃ (f : Addr) (fd : FuncData), Fun T.K x x st f fd ∧ T.mg x = some (.ref f)
theorem fn_D {st : Stmt} (A : At T x st) (B : ScB N ps G (defScope st)) (hb : ∀ f fd, Fun T.K x x st f fd → Binds T.K fd ps []) (hlen : ∀ ds d, R ds d → ds.length = ps.length)
    (body : ∀ (Y : Cy) (S : Sc Y T k N G) (Z : Fx Y st) (ds : List D) (d : D), R ds d → SsD Y (defBody st) (ctx0 N ds) (Ret d)) : FnD T (k + 1) x R :=
  let ⟨f, fd, F, hm⟩ := A
  ⟨f, fd, ps, hm, F.kp, hb f fd F, fn_Dk F B hlen body⟩
/-- what the law promises -/
def R_law (ds : List D) (d : D) : Prop := ∃ ns : List Int, ds = [.lst (ns.map D.int)] ∧ ns.length ≤ 63 ∧ d = .bl true
theorem law_sp (K : PySem.W.Frag) (H : Hp) (a : Addr) (ns : List Int) (hl : ns.length ≤ 63) (hS : SqL K H a (ns.map V.int)) : spD K R_law [.ref a] H (fun v _ => v = .bl true) fun _ _ _ => False :=
  ⟨H, _, _, Same.refl H, .cons (.lst hS (Reps.ints ns)) .nil, ⟨ns, rfl, hl, rfl⟩, fun v F' H' _ r => inv_bl r⟩
def tyD : D → String
  | .non => "NoneType" | .bl _ => "bool" | .int _ => "int" | .str _ => "str" | .tup _ => "tuple" | .lst _ => "list"
end

/-! ### places of a text -/
/-! ### sizes -/
theorem Bd.mono {m n : Nat} {i : Int} (h : Bd m i) (l : m ≤ n) : Bd n i := Nat.lt_of_lt_of_le h (Nat.pow_le_pow_right (by decide) l)
theorem Bd.mul {m n : Nat} {i j : Int} (h1 : Bd m i) (h2 : Bd n j) : Bd (m + n) (i * j) := by
  unfold Bd at *
  rw [Int.natAbs_mul, Nat.pow_add]
  exact Nat.mul_lt_mul_of_lt_of_lt h1 h2
theorem Bd.add {m n : Nat} {i j : Int} (h1 : Bd m i) (h2 : Bd n j) : Bd (max m n + 1) (i + j) := by
  have a := h1.mono (Nat.le_max_left m n)
  have b := h2.mono (Nat.le_max_right m n)
  unfold Bd at *
  rw [Nat.pow_succ]
  omega
theorem Bd.neg {m : Nat} {i : Int} (h : Bd m i) : Bd m (-i) := by unfold Bd at *; rw [Int.natAbs_neg]; exact h
theorem Bd.sub {m n : Nat} {i j : Int} (h1 : Bd m i) (h2 : Bd n j) : Bd (max m n + 1) (i - j) := by rw [Int.sub_eq_add_neg]; exact h1.add h2.neg
theorem Bd.of {n : Nat} {i : Int} (b : Int) (h0 : -b < i) (h1 : i < b) (h : b ≤ 2 ^ n) : Bd n i := by
  unfold Bd
  have e : ((2 ^ n : Nat) : Int) = (2 : Int) ^ n := by simp
  omega

/-! ### == and != at any depth -/
mutual
def toPy : D → PyData
  | .non => .none
  | .bl b => .bool b
  | .int i => .int i
  | .str x => .str x
  | .tup xs => .tuple (toPys xs)
  | .lst xs => .list (toPys xs)
def toPys : List D → List PyData
  | [] => []
  | x :: xs => toPy x :: toPys xs
end
def eqD (d e : D) : Bool := PyData.eqv (toPy d) (toPy e)
section
variable {X : Cx} {pins : List (Addr × Obj)} {σ : St} {F H : Hp} {s : Shared}
mutual
theorem reads_of (I : Inv X pins σ H s) (f : Same F H) : ∀ {v : V} {d : D} {u : Value}, Rep X.K F v d → RelV v u → ∃ as, Reads s.heap u (toPy d) as
  | _, _, _, .non, r => by cases r; exact ⟨_, .none⟩
  | _, _, _, .bl b, r => by cases r; exact ⟨_, .bool b⟩
  | _, _, _, .int i, r => by obtain ⟨t, rfl⟩ := r; exact ⟨_, .int i t⟩
  | _, _, _, .str x, r => by obtain ⟨t, rfl⟩ := r; exact ⟨_, .str x t⟩
  | _, _, _, .tup h t, r => by
    cases r
    obtain ⟨its, r2, ⟨o, e1, e2, n, e3⟩, _⟩ := I.tuple (sqT_same f h)
    obtain ⟨as, ra⟩ := readss_of I f t r2
    exact ⟨as, .tuple e1 e2 e3 (by simpa using ra)⟩
  | _, _, _, .lst h t, r => by
    cases r
    obtain ⟨its, r2, ⟨o, n, e1, e2, _, e3⟩, _⟩ := I.list (f.seq h)
    obtain ⟨as, ra⟩ := readss_of I f t r2
    exact ⟨_, .list e1 e2 e3 (by simpa using ra)⟩
theorem readss_of (I : Inv X pins σ H s) (f : Same F H) : ∀ {vs : List V} {ds : List D} {us : List Value}, Reps X.K F vs ds → Vals vs us → ∃ as, ReadsAll s.heap us (toPys ds) as
  | _, _, _, .nil, r => by cases r; exact ⟨_, .nil⟩
  | _, _, _, .cons a t, r => by
    cases r with
    | cons r1 r2 =>
      obtain ⟨as, h1⟩ := reads_of I f a r1
      obtain ⟨bs, h2⟩ := readss_of I f t r2
      exact ⟨_, .cons h1 h2⟩
end
end
section
variable {Y : Cy} {T : Tx} {k : Nat} {N G : List Str} {c : List Slot} {a b : Expr} {pos : Pos} {d1 d2 : D}
def rEqD (K : PySem.W.Frag) (d1 d2 : D) (v : Bool) : R2 := fun x y H Q => ∃ F, Same F H ∧ Rep K F x d1 ∧ Rep K F y d2 ∧ Q (.bl v) H
theorem op_neD {X : Cx} (hu : X.A.units + 64 < cLine) (h1 : SeqAt.shaped (toPy d1) = true) (h2 : SeqAt.shaped (toPy d2) = true) : OpR X (compareOp .NotEq) (rEqD X.K d1 d2 (!eqD d1 d2)) := by
  intro pins s σ H x y v u Q I rx ry ⟨F, f, r1, r2, q⟩
  obtain ⟨as, ra⟩ := reads_of I f r1 rx
  obtain ⟨bs, rb⟩ := reads_of I f r2 ry
  exact SeqAt.compareNe_shaped ra rb h1 h2 hu ⟨.bl _, H, I, rfl, q⟩
theorem te_neD (S : Se Y T k N G) (ha : EvD Y a c d1) (hb : EvD Y b c d2) (h1 : SeqAt.shaped (toPy d1) = true := by rfl) (h2 : SeqAt.shaped (toPy d2) = true := by rfl) : TeD Y (.Compare a [.NotEq] [b] pos) c (!eqD d1 d2) :=
  te_cmp (op_neD S.room.units h1 h2) (nomark _) ha hb fun x y F H Q f rx ry q => ⟨F, f, rx, ry, q F H (Ext.refl f)⟩
end

/-! ### truths by is -/
section
variable {Y : Cy} {c : List Slot} {a b : Expr} {pos : Pos} {v w : Bool}
end
/-! ### a def whose last parameter has a default, an int -/
def AtV (T : Tx) (x : Str) (st : Stmt) (i : Int) : Prop := ∃ (f Td : Addr) (oc : Value) (od : Option Addr) (kV doc pm : Value) (an : Option Addr) (cdv ct : Value) (osl : Array (Option Value)) (tk : Tok) (o : Obj) (n : Nat),
  T.K.lookup f = some ⟨oc, od, .func (PySem.W.fnOf x x (defArgs st) (defBody st) (defScope st) (.ref Td) kV doc pm an cdv ct), osl⟩ ∧ T.K.lookup Td = some o ∧ o.data = .seq #[.int i tk] n ∧ PySem.W.codeIn T.K cdv x = true ∧ PySem.W.keepIn T.K (.ref f) = true ∧ T.mg x = some (.ref f)
/-- the def called without its last argument -/
structure FnDd (T : Tx) (k : Nat) (x : Str) (i : Int) (R : List D → D → Prop) : Prop where
  ex : ∃ (f : Addr) (fd : FuncData) (ps : List Str) (tk : Tok), T.mg x = some (.ref f) ∧ PySem.W.keepIn T.K (.ref f) = true ∧ Binds T.K fd ps [.int i tk] ∧ FnOk T.prog T.w T.K T.mg T.base CX0 k f fd ps (spD T.K R)
theorem ev_calld {Y : Cy} {T : Tx} {k j : Nat} {N G : List Str} {c : List Slot} {e : Expr} {es : List Expr} {pos p : Pos} {d : D} {ds : List D} {i : Int} {R : List D → D → Prop} {x : Str} (S : Se Y T k N G) (gi : Nat) (Fn : FnDd T j x i R) (hj : j ≤ k) (ha : ArD Y (e :: es) c ds) (hR : R (ds ++ [.int i]) d) (hg : G[gi]? = some x := by rfl)
    (he : starEach (e :: es) Y.X.env = (false, eval e Y.X.env) :: starEach es Y.X.env := by rfl) (hpl : (backTo pos (starEach es Y.X.env)).any (·.1) = false := by rfl) : EvD Y (.Call (.Name x p) (e :: es) [] pos) c d := by
  obtain ⟨f, fd, ps, tk, hm, hk, hb, F⟩ := Fn.ex
  have F' : FnOk Y.X.prog Y.X.w Y.X.K Y.X.mg Y.X.base CX0 j f fd ps (spD Y.X.K R) := by rw [S.eP, S.eW, S.eK, S.eM, S.eB]; exact F
  have gl := S.gl x (List.mem_of_getElem? hg)
  refine PE.imp (pe_call F' (S.room.mono hj) gl.1 (by rw [S.eM]; exact hm) (by rw [S.eK]; exact hk) (by rw [S.eK]; exact hb) (dvs := [.int i]) (.cons ⟨tk, rfl⟩ .nil) pass0 ha gl.2.1 he hpl) fun σ H Q ⟨F, E, q⟩ => ⟨F, E, fun vs F1 H1 e1 r1 => ?_⟩
  show spD Y.X.K R (vs ++ [.int i]) H1 Q E0
  exact ⟨F1, _, d, e1.fh, r1.append (.cons (.int i) .nil), hR, fun v F2 H2 e2 r2 => q v F2 H2 (e1.trans e2) r2⟩
theorem fn_DV {T : Tx} {k : Nat} {N G ps : List Str} {R : List D → D → Prop} {x : Str} {st : Stmt} {i : Int} (A : AtV T x st i) (B : ScB N ps G (defScope st))
    (hb : ∀ (Td : Addr) (kV doc pm : Value) (an : Option Addr) (cdv ct : Value) (tk : Tok) (o : Obj) (n : Nat), T.K.lookup Td = some o → o.data = .seq #[.int i tk] n →
      Binds T.K (PySem.W.fnOf x x (defArgs st) (defBody st) (defScope st) (.ref Td) kV doc pm an cdv ct) ps [] ∧ Binds T.K (PySem.W.fnOf x x (defArgs st) (defBody st) (defScope st) (.ref Td) kV doc pm an cdv ct) ps [.int i tk]) (hlen : ∀ ds d, R ds d → ds.length = ps.length)
    (body : ∀ (Y : Cy) (S : Sc Y T k N G) (Z : Fx Y st) (ds : List D) (d : D), R ds d → SsD Y (defBody st) (ctx0 N ds) (Ret d)) : FnD T (k + 1) x R ∧ FnDd T (k + 1) x i R := by
  obtain ⟨f, Td, oc, od, kV, doc, pm, an, cdv, ct, osl, tk, o, n, lk, lt, hs, hcd, kp, hm⟩ := A
  have hB := hb Td kV doc pm an cdv ct tk o n lt hs
  have main : FnOk T.prog T.w T.K T.mg T.base CX0 (k + 1) f (PySem.W.fnOf x x (defArgs st) (defBody st) (defScope st) (.ref Td) kV doc pm an cdv ct) ps (spD T.K R) := by
    refine fn_of lk hcd B.fs (fun vs H Q E h => ?_) fun A outer s H vs Q E hr h => ?_
    · obtain ⟨F0, ds, d, _, r, hR, _⟩ := h
      rw [r.length]; exact hlen ds d hR
    · obtain ⟨F0, ds, d, f0, r, hR, q⟩ := h
      have S : Sc ⟨(cxOf CX0 T.prog T.w T.K T.mg T.base N x (defScope st) f cdv A outer s H E).nox, F0, H⟩ T k N G :=
        ⟨⟨⟨rfl, rfl, rfl, rfl, rfl, rfl, B.fs.nd, B.loc, B.gl⟩, rfl, hr⟩, fun _ => rfl, PassesOwn.never⟩
      refine ⟨_, PSs.nox (body _ S ⟨rfl, rfl, rfl, rfl⟩ ds d hR), F0, env_start f0 r, fun o ho => ?_⟩
      cases o with
      | rt e => cases ho; exact fun v F' H' _ x r' => q v F' H' x r'
      | nx c => cases ho; exact fun σ F' H' _ E' => q .non F' H' E'.ext .non
      | bk c => exact ho.elim
      | ct c => exact ho.elim
      | ro ds => exact ho.elim
      | rs R => exact ho.elim
  exact ⟨⟨f, _, ps, hm, kp, hB.1, main⟩, ⟨f, _, ps, tk, hm, kp, hB.2, main⟩⟩
end DL

set_option Elab.async false
set_option linter.all false
set_option maxRecDepth 100000
namespace DL
open PySem L2 PySem.W PySem.Spec PySem.Calls PyProof.Rows Builtin Builtin.ObjectAttr Builtin.Getset_descriptor
section
variable {prog : Program} {w : World} {A : Around} {E : Value → Shared → Prop} {K : PySem.W.Frag} {x D : Addr} {o : Obj}
structure ExcK (K : PySem.W.Frag) (D : Addr) : Prop where
  ga : findIn K (.ref D) "__getattribute__" = some (some (.builtin "BaseException.__getattribute__"))
  gt : findIn K (.ref D) "__getattr__" = some none
  ca : findIn K (.ref D) "__class__" = some (some (.builtin "object.__class__"))
  cg : specialIn K (.builtin "object.__class__") "__get__" = some (some (.builtin "getset_descriptor.__get__"))
  tk : takesIn K (.builtin "object.__class__") = some true
  mo : mroIn K D (.type "object") = some true
  mb : mroIn K D (.type "BaseException") = some true
  cl : (clsIn K D).isSome = true
def excKb (K : PySem.W.Frag) (D : Addr) : Bool :=
  findIn K (.ref D) "__getattribute__" == some (some (.builtin "BaseException.__getattribute__")) && (findIn K (.ref D) "__getattr__" == some none && (findIn K (.ref D) "__class__" == some (some (.builtin "object.__class__")) &&
  (specialIn K (.builtin "object.__class__") "__get__" == some (some (.builtin "getset_descriptor.__get__")) && (takesIn K (.builtin "object.__class__") == some true && (mroIn K D (.type "object") == some true && (mroIn K D (.type "BaseException") == some true && (clsIn K D).isSome))))))
theorem excK_of {K : PySem.W.Frag} {D : Addr} (h : excKb K D = true) : ExcK K D := by
  unfold excKb at h
  simp only [Bool.and_eq_true, beq_iff_eq] at h
  obtain ⟨a, b, c, d, e, f, g, i⟩ := h
  exact ⟨a, b, c, d, e, f, g, i⟩
theorem exc_class_get {s : Shared} {R : Result → Shared → Prop} {tp : Value} (X : K.In s.heap) (hx : s.heap.get? x = some o) (hc : o.cls = .ref D) (hm : mroIn K D (.type "object") = some true)
    (h : R (.ok (.ret (.ref D))) s) : codeAny (model prog w) A (.call (.builtin "getset_descriptor.__get__") ⟨[.builtin "object.__class__", .ref x, tp], []⟩) R s := by
  obtain ⟨hh, g, dr, t, os⟩ := s
  have L0 : Looks (model prog w) hh (typeOf (.ref x)) (.ref D) := hc ▸ (Looks.ld hx).andThen .now
  have L1 := looks_mroIn (M := model prog w) X hm
  refine codeAny_call_builtin KF.slot_gs.plain KF.entry_gs (KF.slot_gs.check _ _ _ _ _ _ _ _ KF.type_class (KF.args_gs _ _ _) ?_)
  unfold Builtin.«getset_descriptor.__get__» descrGet
  rw [dga_obj]
  refine wpAny_bind (wpAny_pure ?_)
  unfold descrGetter descrCheckInstance descrNameAndClass isInstance
  simp only [KF.owner_class]
  repeat lk
  refine ⟨Code.quiet_builtin _ (by decide +kernel), codeAny_builtin KF.entry_class ?_⟩
  unfold Builtin.«object.__class__» shownTypeOf
  repeat lk
  exact h
theorem exc_class {s : Shared} {Q : Option Value → Shared → Prop} (X : K.In s.heap) (Z : ExcK K D) (hx : s.heap.get? x = some o) (hc : o.cls = .ref D)
    (h : Q (some (.ref D)) { s with toks := s.toks + 1 }) : wpAny (model prog w) A (getAttr? (.ref x) "__class__") Q E s := by
  obtain ⟨hh, g, d, t, os⟩ := s
  have L0 : Looks (model prog w) hh (typeOf (.ref x)) (.ref D) := hc ▸ (Looks.ld hx).andThen .now
  have L1 := looks_findIn (M := model prog w) X Z.ga
  have L2 := looks_findIn (M := model prog w) X Z.gt
  have L3 := looks_findIn (M := model prog w) X Z.ca
  have L5 := looks_mroIn (M := model prog w) X Z.mb
  have LI : Looks (model prog w) hh (isInstance (.ref x) (.type "BaseException")) true := L0.andThen L5
  unfold getAttr? getAttrBy? getAttrBy
  refine wpAny_bind (wpAny_mkText (wpAny_bind (wpAny_attempt (wpAny_holding (wpAny_bind (L0.at (wpAny_bind (L1.at ?_))))))))
  show wpAny _ _ (getAttrByItsOwn _ _ _ _ _ _) _ _ _
  unfold getAttrByItsOwn hookBefore
  refine wpAny_bind (L2.at (wpAny_bind (wpAny_attempt (wpAny_holding ?_))))
  show wpAny _ _ (boundAndCalled _ _ _) _ _ _
  unfold boundAndCalled
  rw [PySem.F.excAttr_ValueError.ga.bind (.ref x)]
  refine wpAny_bind (wpAny_pure (wpAny_call (codeAny_call_builtin PySem.F.excAttr_ValueError.ga.plain F.entry_bexc_ga ?_)))
  have hk : builtinKind "BaseException.__getattribute__" = some .slot := by decide +kernel
  have hsplit : splitId "BaseException.__getattribute__" = some ("BaseException", "__getattribute__") := by decide +kernel
  have hargs := F.args_bexc_ga (.ref x) (Value.str (Str.ofString "__class__") t)
  have hfind : Looks (model prog w) hh (find (.ref x) (.ref D) "__class__") (.bind (.builtin "getset_descriptor.__get__") (.builtin "object.__class__")) := by
    have G1 := looks_specialIn (M := model prog w) X Z.cg
    have G2 := looks_takesIn (M := model prog w) X Z.tk
    refine L3.andThen (G1.andThen ?_)
    exact (show Looks (model prog w) hh (dataDescriptor? (some (.builtin "object.__class__")) (some (.builtin "getset_descriptor.__get__"))) (some (.builtin "getset_descriptor.__get__", .builtin "object.__class__")) from G2.andThen .now).andThen (Looks.tag .now)
  simp only [checkBuiltinCall, hk, hsplit]
  refine wpAny_bind (LI.at ?_)
  simp only [Bool.not_true, Bool.false_eq_true, if_false]
  have body : ∀ (A' : Around) (Q' : Fin → Shared → Prop) (E' : Value → Shared → Prop), Q' (.done (.ret (.ref D))) ⟨hh, g, d, t + 1, os⟩ → wpAny (model prog w) A' (Builtin.«object.__getattribute__» ⟨[.ref x, .str "__class__" t], []⟩) Q' E' ⟨hh, g, d, t + 1, os⟩ := by
    intro A' Q' E' hq
    unfold Builtin.«object.__getattribute__»
    repeat lk
    refine wpAny_run (h := none) (exc_class_get (s := ⟨hh, g, d, t + 1, os⟩) X hx hc Z.mo ?_)
    exact wpAny_pure (wpAny_pure hq)
  refine wpAny_of_eq (a := ()) hargs (body _ _ _ ?_)
  show wpAny (model prog w) A (handedOut (.ref D)) _ _ _
  exact wpAny_of_eq (handedOut_of rfl) (wpAny_pure h)
theorem kitx_exc (Z : ExcK K D) : KitX K (.ref x) (.ref D) (ExcAt D x) where
  ty := fun _ _ _ ⟨o, _, h1, h2, _⟩ => h2 ▸ (Looks.ld h1).andThen .now
  it := fun _ _ X _ => by
    obtain ⟨cdD, hcD⟩ := Option.isSome_iff_exists.mp Z.cl
    unfold clsIn at hcD
    split at hcD
    · rename_i c' d' cd' sl' ho
      intro A' Q' E' s' k q
      unfold isType loadHead
      exact wpAny_bind (wpAny_loadPart (k _ _ (X _ _ ho)) (wpAny_pure q))
    · cases hcD
  ne := fun h tp dd its n sl X htp => by
    obtain ⟨cdD, hcD⟩ := Option.isSome_iff_exists.mp Z.cl
    refine Bool.eq_false_iff.mpr fun q => ?_
    have e : D = tp := Value.ref.inj (beq_iff_eq.mp q)
    subst e
    unfold clsIn at hcD
    split at hcD
    · rename_i c' d' cd' sl' ho
      have z := (X _ _ ho).symm.trans htp
      cases z
    · cases hcD
  ca := fun X ⟨o, _, h1, h2, _⟩ k => exc_class X Z h1 h2 k
end

end DL
namespace DL
open PySem L2
/-! ### exceptions that pass -/
theorem _root_.L2.ObjOk.there {P : Program} {w : World} {H : Hp} {h : Heap} {a : Addr} {o : HO} (x : ObjOk P w H h a o) : ∃ ob, h.get? a = some ob := by
  cases o with
  | lst xs => obtain ⟨_, _, _, _, e⟩ := x; exact ⟨_, e⟩
  | tup xs => obtain ⟨_, _, _, ob, e, _⟩ := x; exact ⟨_, e⟩
  | dK kvs => obtain ⟨_, _, _, _, o, _, _, e, _⟩ := x; exact ⟨_, e⟩
  | dT kvs => obtain ⟨_, _, _, _, o, _, _, e, _⟩ := x; exact ⟨_, e⟩
  | set S n => obtain ⟨o, _, _, _, e, _⟩ := x; exact ⟨_, e⟩
  | ins C dx fs => obtain ⟨_, _, _, e, _⟩ := x; exact ⟨_, e⟩
  | own y => obtain ⟨_, e⟩ := x; exact ⟨_, e⟩
  | xd fs => obtain ⟨_, ⟨_, _, _, e, _⟩, _⟩ := x; exact ⟨_, e⟩
  | rng lo hi => obtain ⟨_, _, _, e⟩ := x; exact ⟨_, e⟩
  | frz ob u => obtain ⟨e, _⟩ := x; exact ⟨_, e⟩
  | tbl ps => exact ⟨_, (show h.get? a = some _ from x)⟩
  | met f y => exact ⟨_, (show h.get? a = some _ from x)⟩
  | ext φ => obtain ⟨_, ⟨_, e⟩, _⟩ := x; exact ⟨_, e⟩
/-- what B keeps of the heap h: the tracked things, and what stood at s but the frames -/
def Kpt (B : Heap) (outer : List PySem.Env) (H : Hp) (s h : Heap) : Prop := ∀ b o, h.get? b = some o → (H b ≠ none ∨ (s.get? b ≠ none ∧ b ∉ frs outer)) → B.get? b = some o
theorem un_move {P : Program} {w : World} {B : Heap} {outer : List PySem.Env} {H H' : Hp} {s h1 h2 : Heap} (U : Un (frs outer) [] H H' s h1) (K : Kpt B outer H' s h1) (hk : HOk P w H' h1) (fr : h1.FunFrames B outer) (fu : ∀ b ∈ frs outer, H' b = none)
    (st : B.StaysIn h2) (up : h1.UpToSlots h2) : Un (frs outer) [] H H' s h2 ∧ HOk P w H' h2 ∧ Kpt B outer H' s h2 := by
  have frame : ∀ b o, b ∈ frs outer → h1.get? b = some o → ∃ sl, h2.get? b = some { o with slots := sl } := fun b o hb e => by
    obtain ⟨_, o', ho, hd⟩ := fr.mem hb
    rw [e] at ho; cases ho
    exact up b o e hd
  refine ⟨⟨fun b o e n hb hx => ?_, fun b o e n hb hx => ?_, U.free, fun b o e hx => ?_, U.tups, U.frzs, U.tbls⟩, fun a o e => ?_, fun b o e c => ?_⟩
  · exact st _ _ (K b o (U.keep b o e n hb hx) (.inr ⟨by rw [e]; exact (fun z => nomatch z), hb⟩))
  · obtain ⟨sl, e1⟩ := U.slot b o e n hb hx
    obtain ⟨sl', e2⟩ := frame b _ hb e1
    exact ⟨sl', e2⟩
  · obtain ⟨o', e1⟩ := U.there b o e hx
    by_cases hb : b ∈ frs outer
    · obtain ⟨sl, e2⟩ := frame b _ hb e1
      exact ⟨_, e2⟩
    · exact ⟨o', st _ _ (K b o' e1 (.inr ⟨by rw [e]; exact (fun z => nomatch z), hb⟩))⟩
  · refine (hk a o e).stay (fun b u hb q => ?_) (fun _ q => q) fun _ _ q => q
    refine st _ _ (K b u q (.inl ?_))
    rcases hb with rfl | hb
    · rw [e]; exact fun z => nomatch z
    · rw [hb]; exact fun z => nomatch z
  · have ex : ∃ o', h1.get? b = some o' := by
      rcases c with c | ⟨c, _⟩
      · cases q : H' b with
        | none => exact absurd q c
        | some u => exact (hk b u q).there
      · cases q : s.get? b with
        | none => exact absurd q c
        | some u => exact U.there b u q (by simp)
    obtain ⟨o', e1⟩ := ex
    have k := K b o' e1 c
    have z := st _ _ k
    rw [e] at z; cases z
    exact k
/-- how an exception lies behind a call: the class C, at a -/
structure Lies (P : Program) (w : World) (outer : List PySem.Env) (H : Hp) (s : Shared) (a C : Addr) (H' : Hp) (s' : Shared) : Prop where
  os : s'.os = s.os
  bare : PyProof.Rows.AllBare s'.gens
  un : Un (frs outer) [] H H' s.heap s'.heap
  hok : HOk P w H' s'.heap
  new : s.heap.get? a = none
  fu : ∀ b ∈ frs outer, H' b = none
  fly : ∃ B a0, Heap.FlyingW B outer a (.ref C) a0 s'.heap ∧ Kpt B outer H' s.heap s'.heap
def CXE (P : Program) (w : World) : CXT := fun outer H s E e s' => ∃ a C H', e = .ref a ∧ Lies P w outer H s a C H' s' ∧ E (.ref C) none H'
/-- an exception of the class C that is raised here, or arrives here, is as it is wanted -/
structure RzM (Y : Cy) (C : Addr) (c : List Slot) : Prop where
  made : ∀ {pins : List (Addr × Obj)} {σ : St} {F H : Hp} {s : Shared} {h' : Heap} {e : Addr} {vs : List Value}, Inv Y.X pins σ H s → EnvY Y F H σ c → Heap.MadeExcOf s.heap h' e (.ref C) vs → Y.X.xe (.ref e) { s with heap := h' }
structure Rz (Y : Cy) (C : Addr) (c : List Slot) : Prop where
  fly : ∀ {pins : List (Addr × Obj)} {σ : St} {F H F' H' : Hp} {s s' : Shared} {e : Addr}, Inv Y.X pins σ H s → EnvY Y F H σ c → Ext F H F' H' → Lies Y.X.prog Y.X.w Y.X.stack H s e C H' s' → Y.X.xe (.ref e) s'
/-- a state of a body as seen from its entry -/
theorem kpt_of {X : Cx} {pins : List (Addr × Obj)} {σ : St} {H : Hp} {s : Shared} (I : Inv X pins σ H s) (hx : X.ex = []) : Kpt (PySem.W.hideAll s.heap (frs X.stack)) X.stack H s.heap s.heap := fun b o e c => by
  refine PySem.W.hideAll_get _ e fun hb => ?_
  rcases c with c | ⟨_, c⟩
  · exact c (I.stkFree b hb)
  · exact c hb
theorem kpt_in {X : Cx} {pins : List (Addr × Obj)} {σ : St} {H H' : Hp} {s : Shared} {B h : Heap} (I : Inv X pins σ H s) (hx : X.ex = []) (hs : X.stack = X.env :: X.outer ∧ X.env.frame = some X.env.locals) (K : Kpt B X.stack H' s.heap h) : Kpt B X.outer H' X.s₀.heap h := fun b o e c => by
  refine K b o e ?_
  rcases c with c | ⟨c1, c2⟩
  · exact .inl c
  · refine .inr ⟨fun z => ?_, fun hb => ?_⟩
    · cases q : X.s₀.heap.get? b with
      | none => exact c1 q
      | some u =>
        obtain ⟨o', e'⟩ := I.base.there b u q (by rw [hx]; simp)
        rw [z] at e'; cases e'
    · rw [hs.1] at hb
      unfold frs at hb
      rw [List.filterMap_cons, hs.2] at hb
      rcases List.mem_cons.mp hb with rfl | hb
      · cases q : X.s₀.heap.get? X.env.locals with
        | none => exact c1 q
        | some u => exact absurd (Nat.lt_of_lt_of_le (Heap.lt_size q) I.ok.above) (Nat.lt_irrefl _)
      · exact c2 hb
theorem new_in {X : Cx} {pins : List (Addr × Obj)} {σ : St} {H : Hp} {s : Shared} {a : Addr} (I : Inv X pins σ H s) (hx : X.ex = []) (n : s.heap.get? a = none) : X.s₀.heap.get? a = none := by
  cases q : X.s₀.heap.get? a with
  | none => rfl
  | some u =>
    obtain ⟨o', e'⟩ := I.base.there a u q (by rw [hx]; simp)
    rw [n] at e'; cases e'
/-- an exception leaves a def -/
theorem leave_made {X : Cx} {pins : List (Addr × Obj)} {σ : St} {H : Hp} {s : Shared} {h' : Heap} {e C : Addr} {vs : List Value} {Q : Unit → Shared → Prop} {E : Value → Shared → Prop} (I : Inv X pins σ H s) (hx : X.ex = []) (hs : X.stack = X.env :: X.outer ∧ X.env.frame = some X.env.locals)
    (M : Heap.MadeExcOf s.heap h' e (.ref C) vs) (hQ : ∀ s', Lies X.prog X.w X.outer X.H₀ X.s₀ e C H s' → Q () s') : wpAny (model X.prog X.w) X.A (leaving X.env (.ref e)) Q E { s with heap := h' } := by
  have hin : ∀ env ∈ X.stack, ∀ b, env.frame = some b → b ∈ frs X.stack := fun env he b hb => List.mem_filterMap.mpr ⟨env, he, hb⟩
  have fr := PySem.W.funFrames_hide (as := frs X.stack) I.stack hin
  have fro : s.heap.FunFrames (PySem.W.hideAll s.heap (frs X.stack)) X.outer := by have := fr; rw [hs.1] at this; rw [hs.1]; exact this.2.2
  refine wpAny_leaves_madeW (base := PySem.W.hideAll s.heap (frs X.stack)) (by rw [I.ok.frames, hs.1]) hs.2 (fun b o q => PySem.W.of_hideAll _ q) (by rw [← hs.1]; exact fr) M fun h2 t fl _ _ up => ?_
  have ub : Un (frs X.outer) [] X.H₀ H X.s₀.heap s.heap := by have := I.base; rw [hx] at this; exact this
  have fu : ∀ b ∈ frs X.outer, H b = none := fun b hb => I.stkFree b (by rw [hs.1]; unfold frs; rw [List.filterMap_cons, hs.2]; exact .tail _ hb)
  obtain ⟨u2, k2, kp⟩ := un_move ub (kpt_in I hx hs (kpt_of I hx)) I.hok fro fu fl.1 ((Heap.UpToSlots.of_keeps M.keeps).trans up)
  exact hQ _ ⟨I.os, I.bare, u2, k2, new_in I hx M.new, fu, _, _, fl, kp⟩
theorem leave_on {X : Cx} {pins : List (Addr × Obj)} {σ : St} {H H' : Hp} {s s' : Shared} {e C : Addr} {Q : Unit → Shared → Prop} {E : Value → Shared → Prop} (I : Inv X pins σ H s) (hx : X.ex = []) (hs : X.stack = X.env :: X.outer ∧ X.env.frame = some X.env.locals)
    (L : Lies X.prog X.w X.stack H s e C H' s') (hQ : ∀ s', Lies X.prog X.w X.outer X.H₀ X.s₀ e C H' s' → Q () s') : wpAny (model X.prog X.w) X.A (leaving X.env (.ref e)) Q E s' := by
  obtain ⟨B, a0, fl, kp⟩ := L.fly
  have I' : Inv X pins σ H' s' := I.call' (ch := []) L.os L.un L.hok L.bare (fun _ z => nomatch z)
  refine wpAny_leaves_onW (by rw [I.ok.frames, hs.1]) hs.2 (by rw [← hs.1]; exact fl) fun h2 fl2 up => ?_
  have ub : Un (frs X.outer) [] X.H₀ H' X.s₀.heap s'.heap := by have := I'.base; rw [hx] at this; exact this
  have fu : ∀ b ∈ frs X.outer, H' b = none := fun b hb => L.fu b (by rw [hs.1]; unfold frs; rw [List.filterMap_cons, hs.2]; exact .tail _ hb)
  have fro : s'.heap.FunFrames B X.outer := by have := fl.2.2.1; rw [hs.1] at this; exact this.2.2
  obtain ⟨u2, k2, kp2⟩ := un_move ub (kpt_in I hx hs kp) L.hok fro fu fl2.1 up
  exact hQ { s' with heap := h2 } ⟨I'.os, L.bare, u2, k2, new_in I hx L.new, fu, _, _, fl2, kp2⟩

/-! ### defs that may refuse -/
/-- what a def hands back, or the class by which it refuses -/
inductive Rs where
  | ok (d : D) | ex (x : Str)
def spX (T : Tx) (R : List D → Rs → Prop) : Sp := fun vs H Q E => ∃ F ds r, Same F H ∧ Reps T.K F vs ds ∧ R ds r ∧ (match r with
  | .ok d => ∀ v F' H', Ext F H F' H' → Rep T.K F' v d → Q v H'
  | .ex x => ∀ C F' H', T.mg x = some (.ref C) → Ext F H F' H' → E (.ref C) none H')
structure FnX (T : Tx) (k : Nat) (x : Str) (R : List D → Rs → Prop) : Prop where
  ex : ∃ (f : Addr) (fd : FuncData) (ps : List Str), T.mg x = some (.ref f) ∧ PySem.W.keepIn T.K (.ref f) = true ∧ Binds T.K fd ps [] ∧ FnOk T.prog T.w T.K T.mg T.base (CXE T.prog T.w) k f fd ps (spX T R)
def RzN (Y : Cy) (T : Tx) (x : Str) (c : List Slot) : Prop := ∀ C, T.mg x = some (.ref C) → Rz Y C c
def RzMN (Y : Cy) (T : Tx) (x : Str) (c : List Slot) : Prop := ∀ C, T.mg x = some (.ref C) → RzM Y C c
def RetX : Rs → Out → Prop
  | .ok d => Ret d
  | .ex _ => fun _ => False
/-- an expression that raises -/
def tX (Y : Cy) (c : List Slot) : TE := fun σ H _ => ∃ F, EnvY Y F H σ c
def EvX (Y : Cy) (e : Expr) (c : List Slot) : Prop := PE Y.X e (tX Y c)
section
variable {Y : Cy} {T : Tx} {k j : Nat} {N G ps : List Str} {c : List Slot} {e : Expr} {es : List Expr} {pos p : Pos} {d : D} {ds : List D} {R : List D → Rs → Prop} {x qual y : Str} {P : Out → Prop} {rest : List Stmt}
theorem fn_Xk {st : Stmt} {f : Addr} {fd : FuncData} (F : Fun T.K x qual st f fd) (B : ScB N ps G (defScope st)) (hlen : ∀ ds d, R ds d → ds.length = ps.length)
    (body : ∀ (Y : Cy) (S : Sc Y T k N G) (Z : Fx Y st) (ds : List D) (r : Rs), R ds r → (∀ y, r = .ex y → ∀ c, RzN Y T y c ∧ RzMN Y T y c) → SsD Y (defBody st) (ctx0 N ds) (RetX r)) : FnOk T.prog T.w T.K T.mg T.base (CXE T.prog T.w) (k + 1) f fd ps (spX T R) := by
  obtain ⟨oc, od, kV, doc, pm, an, cdv, ct, osl, rfl, lk, hcd⟩ := F.ex
  refine fn_of lk hcd B.fs (fun vs H Q E h => ?_) fun A outer s H vs Q E hr h => ?_
  · obtain ⟨F0, ds, d, _, r, hR, _⟩ := h
    rw [r.length]; exact hlen ds d hR
  · obtain ⟨F0, ds, r, f0, rs, hR, q⟩ := h
    have S : Sc ⟨cxOf (CXE T.prog T.w) T.prog T.w T.K T.mg T.base N qual (defScope st) f cdv A outer s H E, F0, H⟩ T k N G :=
      ⟨⟨⟨rfl, rfl, rfl, rfl, rfl, rfl, B.fs.nd, B.loc, B.gl⟩, rfl, hr⟩, fun _ => rfl, PassesOwn.leaving⟩
    refine ⟨_, body _ S ⟨rfl, rfl, rfl, rfl⟩ ds r hR (fun y hy c => ?_), F0, env_start f0 rs, fun o ho => ?_⟩
    · subst hy
      have q : ∀ C F' H', T.mg y = some (.ref C) → Ext F0 H F' H' → E (.ref C) none H' := q
      exact ⟨fun C hC => ⟨fun I En ex L => leave_on I rfl ⟨rfl, rfl⟩ L fun s' L => ⟨_, C, _, rfl, L, q C _ _ hC (En.ext.trans ex)⟩⟩, fun C hC => ⟨fun I En M => leave_made I rfl ⟨rfl, rfl⟩ M fun s' L => ⟨_, C, _, rfl, L, q C _ _ hC En.ext⟩⟩⟩
    · cases r with
      | ex y => exact False.elim ho
      | ok d =>
        have q : ∀ v F' H', Ext F0 H F' H' → Rep T.K F' v d → Q v H' := q
        cases o with
        | rt e => cases ho; exact fun v F' H' _ x r' => q v F' H' x r'
        | nx c => cases ho; exact fun σ F' H' _ E' => q .non F' H' E'.ext .non
        | bk c => exact False.elim ho
        | ct c => exact False.elim ho
        | ro ds => exact False.elim ho
        | rs R => exact False.elim ho
theorem fn_X {st : Stmt} (A : At T x st) (B : ScB N ps G (defScope st)) (hb : ∀ f fd, Fun T.K x x st f fd → Binds T.K fd ps []) (hlen : ∀ ds d, R ds d → ds.length = ps.length)
    (body : ∀ (Y : Cy) (S : Sc Y T k N G) (Z : Fx Y st) (ds : List D) (r : Rs), R ds r → (∀ y, r = .ex y → ∀ c, RzN Y T y c ∧ RzMN Y T y c) → SsD Y (defBody st) (ctx0 N ds) (RetX r)) : FnX T (k + 1) x R :=
  let ⟨f, fd, F, hm⟩ := A
  ⟨f, fd, ps, hm, F.kp, hb f fd F, fn_Xk F B hlen body⟩
/-- the call refuses -/
theorem ev_callX (S : Se Y T k N G) (gi : Nat) (Fn : FnX T j x R) (hj : j ≤ k) (ha : ArD Y (e :: es) c ds) (hR : R ds (.ex y)) (hz : RzN Y T y c) (hg : G[gi]? = some x := by rfl)
    (he : starEach (e :: es) Y.X.env = (false, eval e Y.X.env) :: starEach es Y.X.env := by rfl) (hpl : (backTo pos (starEach es Y.X.env)).any (·.1) = false := by rfl) : EvX Y (.Call (.Name x p) (e :: es) [] pos) c := by
  obtain ⟨f, fd, ps, hm, hk, hb, F⟩ := Fn.ex
  have F' : FnOk Y.X.prog Y.X.w Y.X.K Y.X.mg Y.X.base (CXE Y.X.prog Y.X.w) j f fd ps (spX T R) := by rw [S.eP, S.eW, S.eK, S.eM, S.eB]; exact F
  have gl := S.gl x (List.mem_of_getElem? hg)
  intro pins s σ H Q I ⟨F0, E⟩
  refine wpAny_Call_Name_kw (ld_glob I gl.1 (by rw [S.eM]; exact hm) ?_ gl.2.1)
  refine PySem.W.callWith_K (h₀ := Y.X.base) I.ok.mod.kin (by rw [S.eK]; exact hk) (thn (ha pos pins s σ H (fun vs H1 => ∃ F1, Ext F0 H F1 H1 ∧ Reps Y.X.K F1 vs ds) I ⟨F0, E, fun vs F1 H1 e1 r1 => ⟨F1, e1, r1⟩⟩) fun us s1 ⟨vs, H1, I1, r, F1, e1, rs⟩ => ⟨I1.kIn, ?_⟩) he hpl
  have h : spX T R vs H1 (fun _ _ => False) (fun cls _ H' => ∃ C F', cls = .ref C ∧ T.mg y = some (.ref C) ∧ Ext F1 H1 F' H') :=
    ⟨F1, ds, .ex y, e1.fh, by rw [← S.eK]; exact rs, hR, fun C F' H' hC ex => ⟨C, F', rfl, hC, ex⟩⟩
  have hl : us.length = ps.length := by rw [← r.length]; exact F'.len _ _ _ _ h
  have hb' : Binds Y.X.K fd ps [] := by rw [S.eK]; exact hb
  have hb2 := hb' s1 us I1.kIn (by rw [List.append_nil]; exact hl)
  rw [List.append_nil] at hb2
  refine wpAny_call (codeAny_mono (F'.run Y.X.A Y.X.stack s1 H1 ⟨us, []⟩ us vs _ _ (S.room.mono hj) I1.env0 hb2 r h) fun r s' hq => ?_)
  cases r with
  | error e =>
    obtain ⟨a, C, H', rfl, L, C', F', z, hC, ex⟩ := hq
    cases z
    exact (hz C hC).fly I1 (E.grow e1) ex L
  | ok fl =>
    cases fl with
    | ret u => obtain ⟨_, _, _, _, _, _, _, z⟩ := hq; exact z.elim
    | next => exact False.elim hq
    | brk => exact False.elim hq
    | cont => exact False.elim hq
theorem ss_exprX (he : EvX Y e c) (hs : swapsWith e none pos.line Y.X.env = pure false := by rfl) : SsD Y (.Expr e pos :: rest) c P :=
  ss_cons (PS.imp (ps_expr he hs) fun D σ H ⟨F, E, _⟩ => ⟨F, E⟩)
end
/-! ### raise -/
theorem exc_of_in {K : PySem.W.Frag} {h : Heap} {C : Addr} {bmB : List Value} {newId : String} (X : K.In h) (q : PySem.W.excIn K C bmB newId = true) :
    ∃ bm N nm qn bs hdct sn sub ab col dd k0 k1 k2 k3 k5 mN, h.get? C = some (excClassObj nm qn C N bs bm hdct sn sub ab col dd k0 k1 k2 k3 k5 newId) ∧ h.Ns N mN ∧ mN "__init__" = none ∧ OwnTail h bmB bm := by
  unfold PySem.W.excIn at q
  split at q
  · rename_i dd cd sl ho
    split at q
    · rename_i C' bm k0 k1 k2 k3 n k5 hm hs
      simp only [Bool.and_eq_true, beq_iff_eq, Bool.not_eq_true'] at q
      obtain ⟨⟨⟨⟨⟨rfl, rfl⟩, hdel⟩, ht⟩, hok⟩, hni⟩ := q
      obtain ⟨nm, bs, mro, ns, qn, hd, sn, sub, ab, col, del⟩ := cd
      dsimp only at hm hdel hok hni
      subst hm hdel
      have hsl : sl = #[k0, k1, k2, k3, some (.builtin n), k5] := by
        obtain ⟨l⟩ := sl
        simp only at hs
        rw [hs]
      subst hsl
      exact ⟨bm, ns, nm, qn, bs, hd, sn, sub, ab, col, dd, k0, k1, k2, k3, k5, _, X _ _ ho, .of_isNs (PySem.W.isNs_of_in X hok), PySem.W.nsMap_none_of_in X hok hni, PySem.W.tail_of_in X ht⟩
    · cases q
  · cases q
/-- an own class of refusals -/
def ClsX (T : Tx) (x : Str) : Prop := ∃ C, T.mg x = some (.ref C) ∧ PySem.W.excIn T.K C [.type "ValueError", .type "Exception", .type "BaseException", .type "object"] "ValueError.__new__" = true
section
variable {Y : Cy} {T : Tx} {k : Nat} {N G : List Str} {c : List Slot} {e : Expr} {es : List Expr} {pos p cpos : Pos} {ds : List D} {x : Str} {P : Out → Prop} {rest : List Stmt}
theorem ss_raise (S : Sc Y T k N G) (gi : Nat) (hC : ClsX T x) (ha : ArD Y (e :: es) c ds) (hz : RzMN Y T x c) (hn : ds.length ≤ 1000000 := by first | exact of_decide_eq_true rfl | (simp; done)) (hg : G[gi]? = some x := by rfl)
    (he : starEach (e :: es) Y.X.env = (false, eval e Y.X.env) :: starEach es Y.X.env := by rfl) (hpl : (backTo cpos (starEach es Y.X.env)).any (·.1) = false := by rfl) : SsD Y (.Raise (some (.Call (.Name x p) (e :: es) [] cpos)) none pos :: rest) c P := by
  obtain ⟨C, hm, q⟩ := hC
  have gl := S.gl x (List.mem_of_getElem? hg)
  refine ss_cons fun pins s σ H D I ⟨F, E, _⟩ => ?_
  have q' : PySem.W.excIn Y.X.K C [.type "ValueError", .type "Exception", .type "BaseException", .type "object"] "ValueError.__new__" = true := by rw [S.eK]; exact q
  obtain ⟨tl, NN, nm, qn, bs, hdct, sn, sub, ab, col, dd, k0, k1, k2, k3, k5, mN, hC, hN, hni, TL⟩ := exc_of_in (h := Y.X.base) I.ok.mod.kin q'
  refine wpAny_Raise_call_subT (C := C) (nm := nm) (q := qn) (N := NN) (bs := bs) (bm := tl) (hdct := hdct) (sn := sn) (sub := sub) (ab := ab) (col := col) (dd := dd) (k0 := k0) (k1 := k1) (k2 := k2) (k3 := k3) (k5 := k5)
    PySem.F.excBase_ValueError (mN := mN) (TL.hasType PySem.F.excBase_ValueError.hasBase) S.room.hd (by rw [he]; show (false || (backTo cpos (starEach es Y.X.env)).any (·.1)) = false; rw [hpl]; rfl) hni (ld_glob I gl.1 (by rw [S.eM]; exact hm) ⟨rfl, ?_⟩ gl.2.1)
  have h1 := ha cpos pins s σ H (fun vs H1 => ∃ F1, Ext F H F1 H1 ∧ vs.length = ds.length) I ⟨F, E, fun vs F1 H1 e1 r1 => ⟨F1, e1, r1.length⟩⟩
  rw [he] at h1 ⊢
  refine Calls.evalArgs_plain (wpAny_mono h1 (fun us s2 h2 => ?_) fun _ _ y => y)
  obtain ⟨vs, H1, I1, r1, F1, e1, hl⟩ := h2
  exact ⟨rfl, by show us.length ≤ sizeLine; rw [← r1.length, hl]; exact small_le hn, I1.bk _ _ hC, hN.keeps I1.bk, TL.keeps I1.bk, fun h' a M => (hz C hm).made I1 (E.grow e1) M⟩
end
end DL

set_option Elab.async false
set_option linter.all false
set_option maxRecDepth 100000
namespace L2
open PySem PySem.Spec PyProof.Rows
/-! ### defs that are called within an except suite -/
structure RoomH (k : Nat) (A : Around) : Prop where
  dp : A.depth + 3 * k + 5 < recursionLimit
  un : A.units + 16 * k + 200 < cLine
theorem RoomH.mono {j k : Nat} {A : Around} (r : RoomH k A) (h : j ≤ k) : RoomH j A := ⟨by have := r.dp; omega, by have := r.un; omega⟩
theorem RoomH.deeper {k : Nat} {A : Around} (r : RoomH (k + 1) A) (env : Env) : RoomH k (A.deeper env) :=
  ⟨by have := r.dp; show A.depth + 1 + 3 * k + 5 < _; omega, by have := r.un; show A.units + 3 + 16 * k + 200 < _; omega⟩
theorem RoomH.depth {k : Nat} {A : Around} (r : RoomH k A) : A.depth < recursionLimit := by have := r.dp; omega
def cxH (P : Program) (w : World) (K : PySem.W.Frag) (mg : Str → Option Value) (base : Heap) (N : List Str) (qual : Str) (scope : Scope) (f : Addr) (cd : Value) (A : Around) (outer : List Env) (s : Shared) (H : Hp) : Cx :=
  { cxOf CX0 P w K mg base N qual scope f cd A outer s H E0 with calm := false, xe := fun _ _ => False }
structure FnOkH (P : Program) (w : World) (K : PySem.W.Frag) (mg : Str → Option Value) (base : Heap) (k : Nat) (f : Addr) (fd : FuncData) (ps : List Str) (sp : Sp) : Prop where
  len : ∀ vs H Q, sp vs H Q E0 → vs.length = ps.length
  run : ∀ (A : Around) (outer : List Env) (s : Shared) (H : Hp) (args : Args) (us : List Value) (vs : List V) (Q : VK), RoomH k A → Env0 P w K mg base A outer s H → BindsTo s fd args (ps.zip us) → Vals vs us → sp vs H Q E0 →
    codeAny (model P w) A (.call (.ref f) args) (CR CX0 outer P w H s Q E0) s
theorem inv_startH {P : Program} {w : World} {K : PySem.W.Frag} {mg : Str → Option Value} {base : Heap} {N ps : List Str} {qual : Str} {scope : Scope} {f : Addr} {cd : Value} {A : Around} {outer : List Env} {s s1 : Shared} {H : Hp} {us : List Value} {vs : List V}
    (S : FnScope N ps scope) (e0 : Env0 P w K mg base A outer s H) (hl : vs.length = ps.length) (r : Vals vs us)
    (x : InCallC s s.heap.objs.size (bindL (envOfC qual scope s.heap.objs.size f cd).kindOf (ps.zip us) fun _ => none) (cellsFrom (s.heap.objs.size + 1) scope.names []) (bindC (envOfC qual scope s.heap.objs.size f cd).kindOf (ps.zip us) fun _ => none) s1) :
    Inv (cxH P w K mg base N qual scope f cd A outer s H) [] (start N vs) H s1 := by
  have hpl : ps.length ≤ N.length := by have := congrArg List.length S.pre; rw [List.length_take] at this; omega
  obtain ⟨h1, tk, rfl, hk⟩ := x.done
  have noA : ∀ b : Addr, b ∉ (cxH P w K mg base N qual scope f cd A outer s H).ex := fun b z => absurd (show b ∈ ([] : List Addr) from z) (by simp)
  refine ⟨⟨e0.mod, S.kind, rfl, rfl, Nat.le_refl _, fun y z c h1 h2 => ?_, fun y hy => ?_, fun y c _ h => ?_, (fun z => nomatch z), Around.frames_deeper e0.frames, .inr ⟨rfl, rfl⟩, fun b z => absurd z (noA b), e0.bs, e0.bsz, fun b _ _ => noA b, fun b z => absurd z (noA b), e0.funs, e0.frf⟩,
    rfl, e0.bare, Un.kept hk, ⟨_, x.toInCall.ns, fun i y v h1 h2 h3 => ?_⟩, fun y c h => ⟨_, x.cell y c h⟩, e0.hok.fresh (Nat.le_refl _), fun y c h => ?_, fun p hp => absurd (show p ∈ ([] : List (Addr × Obj)) from hp) (by simp), e0.hok.kept hk, ?_⟩
  · exact name_of_addr x.apart (PySem.mem_of_lookup h1) (PySem.mem_of_lookup h2)
  · have hy : scope.names.lookup y = some .cell ∨ scope.names.lookup y = some .free := hy
    rcases hy with hy | hy
    · exact cell_has hy
    · exact absurd rfl (S.nofree _ (PySem.mem_of_lookup hy))
  · exact Nat.le_of_lt (x.above y c (PySem.mem_of_lookup h))
  · have hi : i < vs.length := by
      unfold start at h2
      by_cases hi : i < vs.length
      · exact hi
      · rw [List.getElem?_append_right (by simpa using hi)] at h2
        rw [List.getElem?_replicate] at h2
        split at h2 <;> cases h2
    have ha : vs[i]? = some v := by
      unfold start at h2
      rw [List.getElem?_append_left (by simpa using hi), List.getElem?_map] at h2
      cases e : vs[i]? with
      | none => rw [e] at h2; cases h2
      | some a => rw [e] at h2; cases h2; rfl
    obtain ⟨u, hu, rv⟩ := r.get ha
    have hp : ps[i]? = some y := by
      rw [← S.pre, List.getElem?_take_of_lt (by omega)]; exact h1
    have ndP : ps.Nodup := by rw [← S.pre]; exact S.nd.sublist (List.take_sublist _ _)
    refine ⟨u, rv, ?_⟩
    rcases S.par y (List.mem_of_getElem? hp) with k | k
    · exact .inl ⟨k, bindL_get ndP hp hu k⟩
    · obtain ⟨c, e⟩ := cell_has (n := s.heap.objs.size + 1) k
      refine .inr ⟨.inl k, c, e, ?_⟩
      have q := x.cell y c e
      rw [bindC_get ndP hp hu (by show scope.names.lookup y ≠ _; rw [k]; decide)] at q
      exact q
  · exact e0.hok.fresh (Nat.le_of_lt (x.above y c (PySem.mem_of_lookup h)))
  · unfold start
    show _ = N.length
    rw [List.length_append, List.length_map, List.length_replicate]
    omega

theorem fn_ofH {P : Program} {w : World} {K : PySem.W.Frag} {mg : Str → Option Value} {base : Heap} {k : Nat} {f : Addr} {name qual : Str} {params : Arguments} {body : List Stmt} {scope : Scope} {dV kV doc pm cdv ct oc : Value} {an od : Option Addr}
    {osl : Array (Option Value)} {N ps : List Str} {sp : Sp} (lk : K.lookup f = some ⟨oc, od, .func (PySem.W.fnOf name qual params body scope dV kV doc pm an cdv ct), osl⟩) (hcd : PySem.W.codeIn K cdv qual = true) (S : FnScope N ps scope)
    (len : ∀ vs H Q, sp vs H Q E0 → vs.length = ps.length)
    (hbody : ∀ (A : Around) (outer : List Env) (s : Shared) (H : Hp) (vs : List V) (Q : VK), RoomH k (A.deeper (envOfC qual scope s.heap.objs.size f cdv)) → sp vs H Q E0 →
      ∃ t, PSs (cxH P w K mg base N qual scope f cdv A outer s H) body t ∧ t { nx := fun _ H' => Q .non H', rt := Q } (start N vs) H) :
    FnOkH P w K mg base (k + 1) f (PySem.W.fnOf name qual params body scope dV kV doc pm an cdv ct) ps sp := by
  refine ⟨len, fun A outer s H args us vs Q hr e0 hb r hsp => ?_⟩
  have hl := len _ _ _ hsp
  have KX : K.In s.heap := e0.mod.kin.keeps fun b o e => (e0.bs b o e).1
  have lim : s.heap.NoLimit := e0.mod.nolimit.keeps fun b o e => (e0.bs b o e).1
  have hkind : ∀ y ∈ ps.zip us, scope.names.lookup y.1 = some .local ∨ (scope.names.lookup y.1 = some .cell ∧ ((cellsFrom (s.heap.objs.size + 1) scope.names []).lookup y.1).isSome = true) := fun ⟨n, v⟩ hy => by
    rcases S.par n (List.of_mem_zip hy).1 with q | q
    · exact .inl q
    · exact .inr ⟨q, PySem.W.cellsFrom_some _ _ _ (.inl q)⟩
  refine codeAny_call_function hr.depth (KX _ _ lk) rfl S.co S.gen rfl (PySem.W.codeRec_of KX hcd) (hb _ _ _ _ ?_)
  refine wpAny_newFunctionEnv_cells S.kind hkind fun env he s1 x => ?_
  subst he
  refine ⟨lim.keeps x.toInCall.keep, codeAny_func ?_⟩
  obtain ⟨t, ht, hq⟩ := hbody A outer s H vs Q (hr.deeper _) hsp
  have I : Inv (cxH P w K mg base N qual scope f cdv A outer s H) [] (start N vs) H s1 := inv_startH S e0 hl r x
  refine wpAny_mono (ht [] s1 (start N vs) H _ I hq) (fun fl s' hs => ?_) fun e s' hs => False.elim hs
  have fin : ∀ {σ' : St} {H' : Hp} {v : V} {u : Value}, Inv (cxH P w K mg base N qual scope f cdv A outer s H) [] σ' H' s' → RelV v u → Q v H' → CE outer P w H s Q u s' :=
    fun {σ' H' v u} J rv q => ⟨v, H', J.os, J.bare, J.base, J.hok, rv, q⟩
  cases fl with
  | ret u =>
    obtain ⟨v, σ', H', J, rv, q⟩ := hs
    exact fin J rv q
  | next =>
    obtain ⟨σ', H', J, q⟩ := hs
    exact fin (v := V.non) (u := Value.none) J rfl q
  | brk =>
    obtain ⟨_, _, _, q⟩ := hs
    exact False.elim q
  | cont =>
    obtain ⟨_, _, _, q⟩ := hs
    exact False.elim q

end L2
namespace DL
open PySem L2
structure ScH (Y : Cy) (T : Tx) (k : Nat) (N G : List Str) : Prop extends Sn Y T N G where
  fn : ∀ y, Y.X.fn y = true
  room : RoomH k Y.X.A
/-- what a def promises that is handed an exception of the class named x -/
def spH (T : Tx) (R : Str → D → Prop) : Sp := fun vs H Q _ => ∃ F a C x d, vs = [.ref a] ∧ Same F H ∧ H a = some (.ext (ExcAt C a)) ∧ T.mg x = some (.ref C) ∧ R x d ∧ ∀ v F' H', Ext F H F' H' → Rep T.K F' v d → Q v H'
structure FnH (T : Tx) (k : Nat) (x : Str) (R : Str → D → Prop) : Prop where
  ex : ∃ (f : Addr) (fd : FuncData) (ps : List Str), T.mg x = some (.ref f) ∧ PySem.W.keepIn T.K (.ref f) = true ∧ Binds T.K fd ps [] ∧ FnOkH T.prog T.w T.K T.mg T.base k f fd ps (spH T R)
section
variable {Y : Cy} {T : Tx} {k j : Nat} {N G : List Str} {c : List Slot} {e a b : Expr} {es : List Expr} {pos p : Pos} {d : D} {ds : List D} {R : Str → D → Prop} {x qual y : Str} {P : Out → Prop} {rest : List Stmt}
/-- names' places at the entry of a def that is handed an exception -/
def ctxH (N : List Str) (C : Addr) : List Slot := .exc C :: List.replicate (N.length - 1) Slot.un
theorem env_startH {K : PySem.W.Frag} {F H : Hp} {N : List Str} {a C : Addr} (f : Same F H) (h : H a = some (.ext (ExcAt C a))) : Env K F H F H (L2.start N [.ref a]) (ctxH N C) where
  ext := Ext.refl f
  len := by unfold L2.start ctxH; simp
  sl := fun i => by
    unfold L2.start ctxH
    cases i with
    | zero => exact ⟨a, rfl, h⟩
    | succ i => show SlotOk K H F H _ (slot (List.replicate _ Slot.un) i); rw [slot_un]; exact trivial
  inj := fun i j a h _ _ _ => by
    unfold ctxH at h
    cases i with
    | zero => cases h
    | succ i => have h : isOwn (slot (List.replicate _ Slot.un) i) = true := h; rw [slot_un] at h; cases h
theorem fn_H {ps : List Str} {st : Stmt} (A : At T x st) (B : ScB N ps G (defScope st)) (hb : ∀ f fd, Fun T.K x x st f fd → Binds T.K fd ps []) (hlen : ps.length = 1)
    (body : ∀ (Y : Cy) (S : ScH Y T k N G) (C : Addr) (y : Str) (d : D), T.mg y = some (.ref C) → R y d → SsD Y (defBody st) (ctxH N C) (Ret d)) : FnH T (k + 1) x R := by
  obtain ⟨f, fd, F, hm⟩ := A
  refine ⟨f, fd, ps, hm, F.kp, hb f fd F, ?_⟩
  obtain ⟨oc, od, kV, doc, pm, an, cdv, ct, osl, rfl, lk, hcd⟩ := F.ex
  refine fn_ofH lk hcd B.fs (fun vs H Q h => ?_) fun A outer s H vs Q hr h => ?_
  · obtain ⟨_, _, _, _, _, rfl, _⟩ := h; exact hlen.symm
  · obtain ⟨F0, a, C, y, d, rfl, f0, hH, hC, hR, q⟩ := h
    have S : ScH ⟨cxH T.prog T.w T.K T.mg T.base N x (defScope st) f cdv A outer s H, F0, H⟩ T k N G :=
      ⟨⟨rfl, rfl, rfl, rfl, rfl, rfl, B.fs.nd, B.loc, B.gl⟩, fun _ => rfl, hr⟩
    refine ⟨_, body _ S C y d hC hR, F0, env_startH f0 hH, fun o ho => ?_⟩
    cases o with
    | rt e => cases ho; exact fun v F' H' _ x r' => q v F' H' x r'
    | nx c => cases ho; exact fun σ F' H' _ E' => q .non F' H' E'.ext .non
    | bk c => exact ho.elim
    | ct c => exact ho.elim
    | ro ds => exact ho.elim
    | rs R => exact ho.elim
theorem Env.excv {K : PySem.W.Frag} {F₀ H₀ F H : Hp} {σ : St} (E : Env K F₀ H₀ F H σ c) {i : Nat} {C : Addr} (h : slot c i = .exc C) : ∃ a, σ[i]? = some (some (.ref a)) ∧ H a = some (.ext (ExcAt C a)) := by
  have q := E.sl i
  rw [h] at q
  exact q
def tExc (Y : Cy) (c : List Slot) (C : Addr) : TE := fun σ H Q => ∃ F, EnvY Y F H σ c ∧ ∀ a, H a = some (.ext (ExcAt C a)) → Q (.ref a) H
theorem pe_exc (S : Sn Y T N G) (i : Nat) {x : Str} {C : Addr} (hN : N[i]? = some x) (hs : slot c i = .exc C) : PE Y.X (.Name x pos) (tExc Y c C) := by
  have hx := S.loc x (List.mem_of_getElem? hN)
  rw [← S.n] at hN
  exact PE.imp (pe_var hN (hx.1.elim .inl fun h => .inr (.inl h)) hx.2.1 hx.2.2) fun σ H Q ⟨F, E, q⟩ =>
    let ⟨a, ea, r⟩ := E.excv hs
    ⟨.ref a, ea, q a r⟩
theorem ss_set0 (S : ScH Y T k N G) (i : Nat) {x : Str} {pos' : Pos} (he : EvD Y e c d)
    (hr : SsD Y rest (put c i (.val d)) P) (hi : N[i]? = some x := by rfl) (hlt : i < c.length := by first | exact of_decide_eq_true rfl | decide | omega) (hs : swapsWith e (some (.Name x pos')) pos.line Y.X.env = pure false := by rfl) : SsD Y (.Assign [.Name x pos'] e pos :: rest) c P := by
  have hx := S.loc x (List.mem_of_getElem? hi)
  have hN := S.nd
  rw [← S.n] at hi hN
  refine ss_cons (PS.imp (ps_set hN hi hx.1 he hs (.inl (S.fn x))) fun D σ H ⟨F, E, m⟩ => ⟨F, E, fun v F' H' e' r' => ?_⟩)
  exact m (.nx (put c i (.val d))) hr _ F' H' e'.ff ((E.grow e').set hlt r')
/-- isinstance of an exception -/
theorem isi_exc {C : Addr} {cv : Value} {cV : V} {v : Bool} (Z : ExcK T.K C) (eK : Y.X.K = T.K) (rv : RelV cV cv) (hcv : ∀ u, RelV cV u → u = cv) (e2 : PySem.W.kitOne T.K (.ref C) cv = some v) :
    CallR Y.X (.builtin "isinstance") (fun xs H Q => ∃ a, xs = [.ref a, cV] ∧ H a = some (.ext (ExcAt C a)) ∧ Q (.bl v) H) := by
  intro pins s σ H xs us Q I r h
  obtain ⟨a, rfl, hH, q⟩ := h
  obtain ⟨u, w', rfl, r1, r2⟩ := vals2 r
  cases (show u = Value.ref a from r1)
  cases hcv _ r2
  have ok : ObjOk Y.X.prog Y.X.w H s.heap a (.ext (ExcAt C a)) := I.hok a _ hH
  have Z' : ExcK Y.X.K C := by rw [eK]; exact Z
  exact PySem.W.kia_one (kitx_exc Z') I.kIn ok.1 (by rw [eK]; exact e2) (fun z => nomatch z) fun tk => ⟨.bl v, H, I.tok tk, rfl, q⟩
/-- isinstance(e, C), C an own class -/
theorem ev_isX (S : Sn Y T N G) (i gi gj : Nat) {z : Str} {C C' : Addr} {v : Bool} {pn pz : Pos} (hs : slot c i = .exc C) (Z : ExcK T.K C) (hm2 : T.mg y = some (.ref C')) (e2 : PySem.W.kitOne T.K (.ref C) (.ref C') = some v) (hm : T.mg "isinstance" = none)
    (hi : N[i]? = some z := by rfl) (hg : G[gi]? = some ("isinstance" : Str) := by rfl) (hg2 : G[gj]? = some y := by rfl)
    (hst : starEach [.Name z pz, .Name y pn] Y.X.env = (false, eval (.Name z pz) Y.X.env) :: starEach [.Name y pn] Y.X.env := by rfl) : EvD Y (.Call (.Name "isinstance" p) [.Name z pz, .Name y pn] [] pos) c (.bl v) := by
  have gl := S.gl _ (List.mem_of_getElem? hg)
  have gl2 := S.gl _ (List.mem_of_getElem? hg2)
  refine PE.imp (pe_callB (isi_exc Z S.eK (cV := .ref C') (cv := .ref C') rfl (fun u h => h) e2) gl.1 (by rw [S.eM]; exact hm) bt_isinstance (pa_cons (pe_exc S i hi hs) (pa_cons (pe_glob (v := .ref C') gl2.1 (by rw [S.eM]; exact hm2) rfl gl2.2.1) pa_nil) hst) gl.2.2 gl.2.1 hst rfl) fun σ H Q ⟨F, E, q⟩ => ⟨F, E, fun a ha => ?_⟩
  exact ⟨a, rfl, ha, q _ F H (Ext.refl E.fh) (.bl v)⟩
theorem ev_isXB (S : Sn Y T N G) (i gi gj : Nat) {z : Str} {C : Addr} {ty : String} {v : Bool} {pn pz : Pos} (hs : slot c i = .exc C) (Z : ExcK T.K C) (hm2 : T.mg y = none) (hv : bootBuiltins y = some (.type ty)) (e2 : PySem.W.kitOne T.K (.ref C) (.type ty) = some v) (hm : T.mg "isinstance" = none)
    (hi : N[i]? = some z := by rfl) (hg : G[gi]? = some ("isinstance" : Str) := by rfl) (hg2 : G[gj]? = some y := by rfl)
    (hst : starEach [.Name z pz, .Name y pn] Y.X.env = (false, eval (.Name z pz) Y.X.env) :: starEach [.Name y pn] Y.X.env := by rfl) : EvD Y (.Call (.Name "isinstance" p) [.Name z pz, .Name y pn] [] pos) c (.bl v) := by
  have gl := S.gl _ (List.mem_of_getElem? hg)
  have gl2 := S.gl _ (List.mem_of_getElem? hg2)
  refine PE.imp (pe_callB (isi_exc Z S.eK (cV := .ty ty) (cv := .type ty) rfl (fun u h => h) e2) gl.1 (by rw [S.eM]; exact hm) bt_isinstance (pa_cons (pe_exc S i hi hs) (pa_cons (pe_bltn (v := .ty ty) gl2.1 (by rw [S.eM]; exact hm2) hv rfl gl2.2.2 gl2.2.1) pa_nil) hst) gl.2.2 gl.2.1 hst rfl) fun σ H Q ⟨F, E, q⟩ => ⟨F, E, fun a ha => ?_⟩
  exact ⟨a, rfl, ha, q _ F H (Ext.refl E.fh) (.bl v)⟩
/-- a def is handed the exception -/
theorem ev_callH (S : ScH Y T k N G) (i gi : Nat) {z : Str} {C : Addr} {pz : Pos} (Fn : FnH T j x R) (hj : j ≤ k) (hs : slot c i = .exc C) (hC : T.mg y = some (.ref C)) (hR : R y d) (hi : N[i]? = some z := by rfl) (hg : G[gi]? = some x := by rfl)
    (he : starEach [.Name z pz] Y.X.env = (false, eval (.Name z pz) Y.X.env) :: starEach [] Y.X.env := by rfl) : EvD Y (.Call (.Name x p) [.Name z pz] [] pos) c d := by
  obtain ⟨f, fd, ps, hm, hk, hb, F⟩ := Fn.ex
  have F' : FnOkH Y.X.prog Y.X.w Y.X.K Y.X.mg Y.X.base j f fd ps (spH T R) := by rw [S.eP, S.eW, S.eK, S.eM, S.eB]; exact F
  have gl := S.gl x (List.mem_of_getElem? hg)
  intro pins s σ H Q I ⟨F0, E, q⟩
  refine wpAny_Call_Name_kw (ld_glob I gl.1 (by rw [S.eM]; exact hm) ?_ gl.2.1)
  refine PySem.W.callWith_K (h₀ := Y.X.base) I.ok.mod.kin (by rw [S.eK]; exact hk) (thn (pa_cons (pe_exc S.toSn i hi hs) pa_nil he pos pins s σ H (fun vs H1 => ∃ a, vs = [.ref a] ∧ H1 = H ∧ H a = some (.ext (ExcAt C a))) I ⟨F0, E, fun a ha => ⟨a, rfl, rfl, ha⟩⟩) fun us s1 ⟨vs, H1, I1, r, a, ev, eh, ha⟩ => ⟨I1.kIn, ?_⟩) he rfl
  subst ev eh
  have h : spH T R [.ref a] H1 Q E0 := ⟨F0, a, C, y, d, rfl, E.fh, ha, hC, hR, fun v F' H' ex r => q v F' H' ex (by rw [S.eK]; exact r)⟩
  have hl : us.length = ps.length := by rw [← r.length]; exact F'.len _ _ _ h
  have hb' : Binds Y.X.K fd ps [] := by rw [S.eK]; exact hb
  have hb2 := hb' s1 us I1.kIn (by rw [List.append_nil]; exact hl)
  rw [List.append_nil] at hb2
  refine wpAny_call (codeAny_mono (F'.run Y.X.A Y.X.stack s1 H1 ⟨us, []⟩ us _ _ (S.room.mono hj) I1.env0 hb2 r h) fun r s' hq => ?_)
  cases r with
  | error e => exact False.elim hq
  | ok fl =>
    cases fl with
    | ret u => exact I1.after hq
    | next => exact False.elim hq
    | brk => exact False.elim hq
    | cont => exact False.elim hq
end

/-! ### try .. except C as n -/
theorem _root_.L2.Inv.track {X : Cx} {pins : List (Addr × Obj)} {σ : St} {H : Hp} {s : Shared} {e : Addr} {φ : Heap → Prop} (I : Inv X pins σ H s) (hn : H e = none) (h0 : X.s₀.heap.get? e = none) (hl : e ≠ X.env.locals) (hc : ∀ x c, X.env.cells.lookup x = some c → c ≠ e)
    (hp : ∀ p ∈ X.pn ++ pins, p.1 ≠ e) (hφ : ObjOk X.prog X.w (upd H e (.ext φ)) s.heap e (.ext φ)) : Inv X pins σ (upd H e (.ext φ)) s := by
  have ne : ∀ b u, H b = some u → upd H e (.ext φ) b = some u := fun b u q => by rw [upd_ne (ne_of_none q hn)]; exact q
  refine ⟨I.ok, I.os, I.bare, ⟨I.base.keep, I.base.slot, fun b o q n hx => ?_, I.base.there, fun b xs q => ne _ _ (I.base.tups b xs q), fun b o u q => ne _ _ (I.base.frzs b o u q), fun b ps q => ?_⟩, I.loc, I.cell, ?_, fun x c q => ?_, fun p hp' => ?_, fun b o q => ?_, I.len⟩
  · rw [upd_ne (fun z => by rw [z, h0] at q; cases q)]; exact I.base.free b o q n hx
  · obtain ⟨m, q'⟩ := I.base.tbls b ps q; exact ⟨m, ne _ _ q'⟩
  · rw [upd_ne (Ne.symm hl)]; exact I.free
  · rw [upd_ne (hc x c q)]; exact I.freeC x c q
  · obtain ⟨a1, a2, a3, a4, a5⟩ := I.pin p hp'
    exact ⟨a1, by rw [upd_ne (hp p hp')]; exact a2, a3, a4, a5⟩
  · by_cases hb : b = e
    · subst hb; rw [upd_same] at q; cases q; exact hφ
    · rw [upd_ne hb] at q
      exact (I.hok b o q).stay (fun _ _ _ z => z) (fun c z => ne _ _ z) fun c xs z => ne _ _ z
theorem _root_.L2.Inv.unname {X : Cx} {pins : List (Addr × Obj)} {σ : St} {H : Hp} {s : Shared} {i : Nat} {n : Str} {pos : Pos} {M : Model} {A : Around} {E : Value → Shared → Prop} {Q : Unit → Shared → Prop} (I : Inv X pins σ H s) (hN : X.N.Nodup) (hi : X.N[i]? = some n) (hl : X.env.scope.names.lookup n = some .local)
    (h : ∀ s', Inv X pins (σ.set i none) H s' → Q () s') : wpAny M A (do bindName X.env n .none; unbindBehindTheSuite X.env n pos) Q E s := by
  obtain ⟨m, hn, hv⟩ := id I.loc
  have hcls : (X.env.scope.kind == .class || (X.env.scope.kind == .module && X.env.locals != X.env.globals)) = false := by rw [I.ok.kind]; rfl
  refine wpAny_nameGoes_keeps hl hn hcls fun h' v hn' hs => h _ ?_
  obtain ⟨oL, _, _, hoL, _⟩ := id hn
  have iσ : i < σ.length := by rw [I.len]; exact (List.getElem?_eq_some_iff.mp hi).1
  refine ⟨I.ok, I.os, I.bare, ⟨fun b o e n hb hx => ?_, fun b o e n hb hx => ?_, I.base.free, fun b o e hx => ?_, I.base.tups, I.base.frzs, I.base.tbls⟩, ⟨_, hn', fun j y v' e1 e2 e3 => ?_⟩, fun y c e => ?_, I.free, I.freeC, fun p hp => ?_, fun b ob e => ?_, by simpa using I.len⟩
  · exact (hs.2 b (Nat.ne_of_lt (Nat.lt_of_lt_of_le (Heap.lt_size e) I.ok.above))).trans (I.base.keep b o e n hb hx)
  · obtain ⟨sl, e1⟩ := I.base.slot b o e n hb hx
    exact ⟨sl, (hs.2 b (Nat.ne_of_lt (Nat.lt_of_lt_of_le (Heap.lt_size e) I.ok.above))).trans e1⟩
  · obtain ⟨o', e1⟩ := I.base.there b o e hx
    exact ⟨o', (hs.2 b (Nat.ne_of_lt (Nat.lt_of_lt_of_le (Heap.lt_size e) I.ok.above))).trans e1⟩
  · by_cases hj : j = i
    · subst hj
      rw [List.getElem?_set_self iσ] at e2
      cases e2
    · rw [List.getElem?_set_ne (Ne.symm hj)] at e2
      obtain ⟨u', r', q⟩ := hv j y v' e1 e2 e3
      refine ⟨u', r', ?_⟩
      rcases q with ⟨k, e⟩ | ⟨k, c, e, z⟩
      · refine .inl ⟨k, ?_⟩
        have : y ≠ n := fun e => hj (nodup_ix hN e1 (e ▸ hi))
        simp [this, e]
      · exact .inr ⟨k, c, e, z.sameBut hs (I.cne y c e)⟩
  · obtain ⟨w', z⟩ := I.cell y c e
    exact ⟨w', z.sameBut hs (I.cne y c e)⟩
  · obtain ⟨e, n, ne, nf, d⟩ := I.pin p hp
    exact ⟨(hs.2 p.1 ne).trans e, n, ne, nf, d⟩
  · refine (I.hok b ob e).stay (fun c w' hc q => (hs.2 c ?_).trans q) (fun _ q => q) fun _ _ q => q
    rintro rfl
    rcases hc with rfl | hc
    · rw [I.free] at e; cases e
    · rw [I.free] at hc; cases hc
theorem Ext.track {F H : Hp} {e : Addr} {o : HO} (f : Same F H) (hn : H e = none) : Ext F H F (upd H e o) :=
  ⟨Same.refl F, fun b u q => by rw [upd_ne (ne_of_none (f _ _ q) hn)]; exact f _ _ q, fun b u q => by rw [upd_ne (ne_of_none q hn)]; exact q, fun _ _ z => z⟩
theorem Env.setExc {K : PySem.W.Frag} {F₀ H₀ F H : Hp} {σ : St} {c : List Slot} (E : Env K F₀ H₀ F H σ c) {i : Nat} {a C : Addr} (hi : i < c.length) (r : H a = some (.ext (ExcAt C a))) : Env K F₀ H₀ F H (σ.set i (some (.ref a))) (put c i (.exc C)) where
  ext := E.ext
  len := by rw [List.length_set, put_length]; exact E.len
  sl := fun j => by
    by_cases e : i = j
    · subst e
      rw [slot_put _ _ _ hi, List.getElem?_set_self (by rw [E.len]; exact hi)]
      exact ⟨a, rfl, r⟩
    · rw [slot_put_ne _ _ _ _ e, List.getElem?_set_ne e]
      exact E.sl j
  inj := fun j k a h1 h2 h3 h4 => by
    by_cases e : i = j
    · subst e; rw [slot_put _ _ _ hi] at h1; cases h1
    · by_cases e2 : i = k
      · subst e2; rw [slot_put _ _ _ hi] at h2; cases h2
      · rw [slot_put_ne _ _ _ _ e] at h1
        rw [slot_put_ne _ _ _ _ e2] at h2
        rw [List.getElem?_set_ne e] at h3
        rw [List.getElem?_set_ne e2] at h4
        exact E.inj j k a h1 h2 h3 h4
theorem slot_ge : ∀ (c : List Slot) (i : Nat), c.length ≤ i → slot c i = .un
  | [], _, _ => rfl
  | _ :: r, 0, h => by simp at h
  | _ :: r, i + 1, h => slot_ge r i (by simpa using h)
theorem put_ge (y : Slot) : ∀ (c : List Slot) (i : Nat), c.length ≤ i → put c i y = c
  | [], _, _ => rfl
  | _ :: r, 0, h => by simp at h
  | x :: r, i + 1, h => congrArg (x :: ·) (put_ge y r i (by simpa using h))
theorem Env.unset {K : PySem.W.Frag} {F₀ H₀ F H : Hp} {σ : St} {c : List Slot} (E : Env K F₀ H₀ F H σ c) {i : Nat} : Env K F₀ H₀ F H (σ.set i none) (put c i .un) where
  ext := E.ext
  len := by rw [List.length_set, put_length]; exact E.len
  sl := fun j => by
    by_cases e : i = j
    · subst e
      by_cases hi : i < c.length
      · rw [slot_put _ _ _ hi]; exact trivial
      · rw [put_ge _ _ _ (by omega), slot_ge _ _ (by omega)]; exact trivial
    · rw [slot_put_ne _ _ _ _ e, List.getElem?_set_ne e]
      exact E.sl j
  inj := fun j k a h1 h2 h3 h4 => by
    by_cases e : i = j
    · subst e
      by_cases hi : i < c.length
      · rw [slot_put _ _ _ hi] at h1; cases h1
      · rw [put_ge _ _ _ (by omega), slot_ge _ _ (by omega)] at h1; cases h1
    · by_cases e2 : i = k
      · subst e2
        by_cases hi : i < c.length
        · rw [slot_put _ _ _ hi] at h2; cases h2
        · rw [put_ge _ _ _ (by omega), slot_ge _ _ (by omega)] at h2; cases h2
      · rw [slot_put_ne _ _ _ _ e] at h1
        rw [slot_put_ne _ _ _ _ e2] at h2
        rw [List.getElem?_set_ne e] at h3
        rw [List.getElem?_set_ne e2] at h4
        exact E.inj j k a h1 h2 h3 h4

/-- the context within a try's body -/
abbrev _root_.L2.Cx.tried (X : Cx) (E : Value → Shared → Prop) (pins : List (Addr × Obj)) : Cx := { X with xe := E, pn := X.pn ++ pins }
/-- the context within an except suite -/
abbrev _root_.L2.Cx.caught (X : Cx) (e : Value) (pins : List (Addr × Obj)) : Cx := { X with A := X.A.mark (some e), calm := false, xe := fun _ _ => False, pn := X.pn ++ pins }
section
variable {X : Cx} {pins pins' : List (Addr × Obj)} {σ : St} {H : Hp} {s : Shared} {E : Value → Shared → Prop} {e : Value}
theorem _root_.L2.Inv.tried (I : Inv X pins σ H s) : Inv (X.tried E pins) [] σ H s :=
  ⟨⟨I.ok.mod, I.ok.kind, I.ok.glob, I.ok.blt, I.ok.above, I.ok.inj, I.ok.has, I.ok.cab, I.ok.hd, I.ok.frames, I.ok.stk, I.ok.exf, I.ok.bs, I.ok.bsz, I.ok.noex, I.ok.exfs, I.ok.funs, I.ok.frf⟩, I.os, I.bare, I.base, I.loc, I.cell, I.free, I.freeC, fun p hp => I.pin p (by simpa using hp), I.hok, I.len⟩
theorem _root_.L2.Inv.untried (I : Inv (X.tried E pins) pins' σ H s) : Inv X pins σ H s :=
  ⟨⟨I.ok.mod, I.ok.kind, I.ok.glob, I.ok.blt, I.ok.above, I.ok.inj, I.ok.has, I.ok.cab, I.ok.hd, I.ok.frames, I.ok.stk, I.ok.exf, I.ok.bs, I.ok.bsz, I.ok.noex, I.ok.exfs, I.ok.funs, I.ok.frf⟩, I.os, I.bare, I.base, I.loc, I.cell, I.free, I.freeC, fun p hp => I.pin p (List.mem_append_left _ hp), I.hok, I.len⟩
theorem _root_.L2.Inv.caught (I : Inv X pins σ H s) (hf : (X.A.mark (some e)).frames = some X.stack) : Inv (X.caught e pins) [] σ H s :=
  ⟨⟨I.ok.mod, I.ok.kind, I.ok.glob, I.ok.blt, I.ok.above, I.ok.inj, I.ok.has, I.ok.cab, (fun z => nomatch z), hf, I.ok.stk, I.ok.exf, I.ok.bs, I.ok.bsz, I.ok.noex, I.ok.exfs, I.ok.funs, I.ok.frf⟩, I.os, I.bare, I.base, I.loc, I.cell, I.free, I.freeC, fun p hp => I.pin p (by simpa using hp), I.hok, I.len⟩
theorem _root_.L2.Inv.uncaught (I : Inv (X.caught e pins) pins' σ H s) (hc : X.calm = true → X.A.handled = none) (hf : X.A.frames = some X.stack) : Inv X pins σ H s :=
  ⟨⟨I.ok.mod, I.ok.kind, I.ok.glob, I.ok.blt, I.ok.above, I.ok.inj, I.ok.has, I.ok.cab, hc, hf, I.ok.stk, I.ok.exf, I.ok.bs, I.ok.bsz, I.ok.noex, I.ok.exfs, I.ok.funs, I.ok.frf⟩, I.os, I.bare, I.base, I.loc, I.cell, I.free, I.freeC, fun p hp => I.pin p (List.mem_append_left _ hp), I.hok, I.len⟩
end
section
variable {K : PySem.W.Frag} {F₀ H₀ F H F1 H1 : Hp} {σ σ0 : St} {c c0 : List Slot}
theorem Env.into (E : Env K F₀ H₀ F H σ c) : Env K F H₀ F H σ c := ⟨⟨Same.refl F, E.ext.fh, E.ext.hh, fun _ _ z => z⟩, E.len, E.sl, E.inj⟩
theorem Ext.outof (a : Ext F₀ H₀ F H) (b : Ext F H₀ F1 H1) : Ext F₀ H₀ F1 H1 := ⟨a.ff.trans b.ff, b.fh, b.hh, fun c hc fc => b.fr c hc (a.fr c hc fc)⟩
theorem Env.outof (E : Env K F₀ H₀ F H σ0 c0) (E' : Env K F H₀ F1 H1 σ c) : Env K F₀ H₀ F1 H1 σ c := ⟨E.ext.outof E'.ext, E'.len, E'.sl, E'.inj⟩
end
/-- behind an except suite: the name is gone -/
def Gone (Y : Cy) (rest : List Stmt) (i : Nat) (P : Out → Prop) : Out → Prop
  | .nx c => SsD Y rest (put c i .un) P
  | .bk c => P (.bk (put c i .un))
  | .ct c => P (.ct (put c i .un))
  | .rt d => P (.rt d)
  | .ro _ => False
  | .rs _ => False
theorem ss_try {Y : Cy} {T : Tx} {k : Nat} {N G : List Str} {c : List Slot} {pos px hpos : Pos} {x n : Str} {body suite : List Stmt} {b₀ : Stmt} {rest : List Stmt} {P : Out → Prop} {Ct : Addr} {st : Stmt} (S : Sc Y T k N G) (Z : Fx Y st) (i gi : Nat) (raised : Str → Prop)
    (hlo : (defScope st).names.lookup n = some .local) (hx : T.mg x = some (.ref Ct)) (hmt : ∀ y C, raised y → T.mg y = some (.ref C) → PySem.W.exmOne T.K (.ref C) (.ref Ct) = some true)
    (hb : ∀ (Y' : Cy) (S' : Sc Y' T k N G), (∀ y, raised y → RzN Y' T y c) → SsD Y' body c (Thn Y rest P))
    (hh : ∀ (Yh : Cy) (Sh : ScH Yh T k N G) (y : Str) (C : Addr), raised y → T.mg y = some (.ref C) → SsD Yh (b₀ :: suite) (put c i (.exc C)) (Gone Y rest i P))
    (hi : N[i]? = some n := by rfl) (hg : G[gi]? = some x := by rfl) (hlt : i < c.length := by first | exact of_decide_eq_true rfl | decide | omega) :
    SsD Y (.Try body [.ExceptHandler (some (.Name x px)) (some n) (b₀ :: suite) hpos] [] [] pos :: rest) c P := by
  refine ss_cons fun pins s σ H D I ⟨F, E, m⟩ => wpAny_Try_except ?_
  have gl := S.gl x (List.mem_of_getElem? hg)
  have hl : Y.X.env.scope.names.lookup n = some .local := by rw [Z.sc]; exact hlo
  have hN : Y.X.N.Nodup := by rw [S.n]; exact S.nd
  have hiX : Y.X.N[i]? = some n := by rw [S.n]; exact hi
  have locn := S.loc n (List.mem_of_getElem? hi)
  have frk : ∀ e, (Y.X.A.mark (some e)).frames = some Y.X.stack := fun e => I.ok.frames
  generalize hxe : (fun (e : Value) (s₁ : Shared) => wpAny (model Y.X.prog Y.X.w) Y.X.A (noteFrame e Y.X.env) (fun _ s₂ => wpAny (model Y.X.prog Y.X.w) Y.X.A (setFlight e none) (fun _ s₃ => wpAny (model Y.X.prog Y.X.w) Y.X.A (handleBy e Y.X.env [.ExceptHandler (some (.Name x px)) (some n) (b₀ :: suite) hpos]) (SP Y.X pins D) Y.X.xe s₃) Y.X.xe s₂) Y.X.xe s₁) = xe'
  have hp' : PassesOwn (model Y.X.prog Y.X.w) Y.X.A Y.X.env xe' := by subst hxe; exact PassesOwn.looking
  have S' : Sc ⟨Y.X.tried xe' pins, F, Y.H0⟩ T k N G := ⟨⟨⟨S.eP, S.eW, S.eK, S.eM, S.eB, S.n, S.nd, S.loc, S.gl⟩, S.calm, S.room⟩, S.fn, hp'⟩
  have rz : ∀ y, raised y → RzN ⟨Y.X.tried xe' pins, F, Y.H0⟩ T y c := by
    intro y hy C hC
    refine ⟨fun {pins' σ F0 H F' H' s s' e} I0 E0' ex L => ?_⟩
    have I : Inv Y.X pins σ H s := I0.untried
    have E1 : Env Y.X.K F Y.H0 F0 H σ c := E0'
    obtain ⟨B, a0, fl, kp⟩ := L.fly
    subst hxe
    have stk : Y.X.stack = Y.X.env :: Y.X.outer := Z.stk.1
    have fl' : Heap.FlyingW B (Y.X.env :: Y.X.outer) e (.ref C) a0 s'.heap := by rw [← stk]; exact fl
    refine wpAny_looks_onW (by rw [I.ok.frames, stk]) Z.stk.2 fl' fun h4 held up4 => ?_
    refine wpAny_landsW held fun h5 fl5 up5 => ?_
    obtain ⟨u5, k5, kp5⟩ := un_move L.un kp L.hok fl.2.2.1 L.fu fl5.1 (up4.trans up5)
    have I5 : Inv Y.X pins σ H' { s' with heap := h5 } := I.call' (s' := { s' with heap := h5 }) (ch := []) L.os u5 k5 L.bare (fun _ z => nomatch z)
    obtain ⟨ob, hob, hobc⟩ := fl5.there
    have LT : PySem.W.Looks (model Y.X.prog Y.X.w) h5 (typeOf (.ref e)) (.ref C) := hobc ▸ (PySem.W.Looks.ld hob).andThen .now
    have I5m : Inv (Y.X.caught (.ref e) pins) [] σ H' { s' with heap := h5 } := I5.caught (frk _)
    refine wpAny_handleBy_cons (codeAny_handlers_test (ld_glob (X := Y.X.caught (.ref e) pins) I5m gl.1 (by show Y.X.mg x = _; rw [S.eM]; exact hx) ?_ gl.2.1)) (by intro q; cases q)
    refine (PySem.W.exm_one (K := Y.X.K) I5.kIn LT (by rw [S.eK]; exact hmt y C hy hC)).here ?_
    refine codeAny_handlers_suite_as ?_
    refine PyProof.Rows.lands_againW fl5 fun h6 fl6 up6 => ?_
    have fl5r : h5.FunFrames B Y.X.stack := by rw [stk]; exact fl5.2.2.1
    obtain ⟨u6, k6, kp6⟩ := un_move u5 kp5 k5 fl5r L.fu fl6.1 up6
    have I6 : Inv Y.X pins σ H' { s' with heap := h6 } := I.call' (s' := { s' with heap := h6 }) (ch := []) L.os u6 k6 L.bare (fun _ z => nomatch z)
    have hn : H' e = none := by
      cases q : H' e with
      | none => rfl
      | some u =>
        obtain ⟨o, ho⟩ := (k6 e u q).there
        have := kp6 e o ho (.inl (by rw [q]; exact fun z => nomatch z))
        rw [fl6.2.1] at this; cases this
    have hloc : e ≠ Y.X.env.locals := fun z => by
      obtain ⟨mm, ⟨oL, _, _, hoL, _⟩, _⟩ := I.loc
      have := L.new; rw [z, hoL] at this; cases this
    have hce : ∀ x c, Y.X.env.cells.lookup x = some c → c ≠ e := fun x c q z => by
      obtain ⟨v, o, ho, _⟩ := I.cell x c q
      have := L.new; rw [← z, ho] at this; cases this
    have hpe : ∀ p ∈ Y.X.pn ++ pins, p.1 ≠ e := fun p hp z => by
      have q := (I.pin p hp).1
      have := L.new; rw [← z, q] at this; cases this
    obtain ⟨oe, vs, hoe, hoc, hod, _⟩ := fl6.first
    have I7 : Inv Y.X pins σ (upd H' e (.ext (ExcAt C e))) { s' with heap := h6 } :=
      I6.track hn (new_in I Z.ex L.new) hloc hce hpe ⟨⟨oe, vs, hoe, hoc, hod⟩, ⟨oe, hoe⟩, fun h1 h2 ⟨o, vs, q1, q2, q3⟩ k => ⟨o, vs, k o q1, q2, q3⟩⟩
    have I7m : Inv (Y.X.caught (.ref e) pins) [] σ (upd H' e (.ext (ExcAt C e))) { s' with heap := h6 } := I7.caught (frk _)
    refine store_ok (X := Y.X.caught (.ref e) pins) (v := .ref e) I7m hN hiX locn.1 rfl (fun s8 I8 => ?_) (.inl (S.fn n))
    have E7 : Env Y.X.K F Y.H0 F' (upd H' e (.ext (ExcAt C e))) σ c := (E1.grow ex).grow (Ext.track ex.fh hn)
    have E8 : Env Y.X.K F Y.H0 F' (upd H' e (.ext (ExcAt C e))) (σ.set i (some (.ref e))) (put c i (.exc C)) := E7.setExc hlt upd_same
    have Sh : ScH ⟨Y.X.caught (.ref e) pins, F, Y.H0⟩ T k N G := ⟨⟨S.eP, S.eW, S.eK, S.eM, S.eB, S.n, S.nd, S.loc, S.gl⟩, S.fn, ⟨S.room.dp, S.room.un⟩⟩
    have w := hh _ Sh y C hy hC [] s8 _ _ { nx := fun σ H => ∃ c2 F2, Env Y.X.K F Y.H0 F2 H σ c2 ∧ SsD Y rest (put c2 i .un) P, rt := D.rt, bk := fun σ H => ∃ c2 F2, Env Y.X.K F Y.H0 F2 H σ c2 ∧ P (.bk (put c2 i .un)), ct := fun σ H => ∃ c2 F2, Env Y.X.K F Y.H0 F2 H σ c2 ∧ P (.ct (put c2 i .un)) } I8 ⟨F', E8, fun o ho => ?_⟩
    · refine wpAny_mono w (fun f s9 hs => ?_) fun _ _ z => False.elim z
      have back : ∀ {σ' : St} {H' : Hp}, Inv (Y.X.caught (.ref e) pins) [] σ' H' s9 → Inv Y.X pins σ' H' s9 := fun J => J.uncaught I.ok.hd I.ok.frames
      cases f with
      | next =>
        obtain ⟨σ', H', J, c2, F2, E2, q⟩ := hs
        exact (back J).unname hN hiX hl fun s10 J10 => ⟨_, _, J10, m (.nx (put c2 i .un)) q _ F2 H' E2.ext.ff (E.outof E2.unset)⟩
      | brk =>
        obtain ⟨σ', H', J, c2, F2, E2, q⟩ := hs
        exact (back J).unname hN hiX hl fun s10 J10 => ⟨_, _, J10, m (.bk (put c2 i .un)) q _ F2 H' E2.ext.ff (E.outof E2.unset)⟩
      | cont =>
        obtain ⟨σ', H', J, c2, F2, E2, q⟩ := hs
        exact (back J).unname hN hiX hl fun s10 J10 => ⟨_, _, J10, m (.ct (put c2 i .un)) q _ F2 H' E2.ext.ff (E.outof E2.unset)⟩
      | ret u =>
        obtain ⟨v, σ', H', J, r, q⟩ := hs
        exact (back J).unname hN hiX hl fun s10 J10 => ⟨v, _, _, J10, r, q⟩
    · cases o with
      | nx c2 => exact fun σ2 F2 H2 s2 E2 => ⟨c2, F2, E2, ho⟩
      | bk c2 => exact fun σ2 F2 H2 s2 E2 => ⟨c2, F2, E2, ho⟩
      | ct c2 => exact fun σ2 F2 H2 s2 E2 => ⟨c2, F2, E2, ho⟩
      | rt d => exact fun v F2 H2 s2 x r => m (.rt d) ho v F2 H2 x.ff (E.ext.outof x) r
      | ro ds => exact False.elim ho
      | rs R => exact False.elim ho
  have w := hb _ S' rz [] s σ H D I.tried ⟨F, E.into, fun o ho => ?_⟩
  · refine wpAny_mono w (fun f s1 hs => ?_) fun e s1 z => by subst hxe; exact z
    cases f with
    | next => obtain ⟨σ', H', J, q⟩ := hs; exact wpAny_execs_nil ⟨σ', H', J.untried, q⟩
    | brk => obtain ⟨σ', H', J, q⟩ := hs; exact ⟨σ', H', J.untried, q⟩
    | cont => obtain ⟨σ', H', J, q⟩ := hs; exact ⟨σ', H', J.untried, q⟩
    | ret u => obtain ⟨v, σ', H', J, r, q⟩ := hs; exact ⟨v, σ', H', J.untried, r, q⟩
  · cases o with
    | nx c2 => exact fun σ2 F2 H2 s2 E2 => m (.nx c2) ho σ2 F2 H2 s2 (E.outof E2)
    | bk c2 => exact fun σ2 F2 H2 s2 E2 => m (.bk c2) ho σ2 F2 H2 s2 (E.outof E2)
    | ct c2 => exact fun σ2 F2 H2 s2 E2 => m (.ct c2) ho σ2 F2 H2 s2 (E.outof E2)
    | rt d => exact fun v F2 H2 s2 x r => m (.rt d) ho v F2 H2 s2 (E.ext.outof x) r
    | ro ds => exact fun vs F2 H2 p s2 x r hp => m (.ro ds) ho vs F2 H2 p s2 (E.ext.outof x) r hp
    | rs R => exact fun v F2 H1 H2 s2 x r => m (.rs R) ho v F2 H1 H2 s2 (E.ext.outof x) r
end DL

set_option Elab.async false
set_option linter.all false
set_option maxRecDepth 100000
namespace DL
open PySem L2
/-! ### list comprehensions -/
theorem closure_ex (env : PySem.Env) : ∀ (l : List (Str × NameKind)) (acc : List (Str × Addr)), (∀ x ∈ l, x.2 = .free → ∃ c, env.cells.lookup x.1 = some c) →
    ∃ cl, (forIn l acc (fun (x : Str × NameKind) (cs : List (Str × Addr)) => (if (x.2 == .free) = true then do let a ← cellOf env x.1; pure (ForInStep.yield ((x.1, a) :: cs)) else pure (ForInStep.yield cs) : Sem (ForInStep (List (Str × Addr))))) : Sem (List (Str × Addr))) = pure cl ∧
      (∀ y c, cl.lookup y = some c → acc.lookup y = some c ∨ (env.cells.lookup y = some c ∧ (y, NameKind.free) ∈ l)) ∧ (∀ y, (acc.lookup y).isSome = true ∨ (y, NameKind.free) ∈ l → ∃ c, cl.lookup y = some c)
  | [], acc, _ => ⟨acc, rfl, fun y c h => .inl h, fun y h => by
      rcases h with h | h
      · exact Option.isSome_iff_exists.mp h
      · simp at h⟩
  | (n, kd) :: r, acc, h => by
    by_cases hk : kd = .free
    · subst hk
      obtain ⟨a, ha⟩ := h (n, .free) List.mem_cons_self rfl
      obtain ⟨cl, e, h1, h2⟩ := closure_ex env r ((n, a) :: acc) fun x hx => h x (List.mem_cons_of_mem _ hx)
      refine ⟨cl, ?_, fun y c q => ?_, fun y q => ?_⟩
      · rw [List.forIn_cons]
        have ec : cellOf env n = pure a := by unfold cellOf; rw [ha]
        simp only [beq_self_eq_true, if_true, ec]
        exact e
      · rcases h1 y c q with z | ⟨z1, z2⟩
        · rw [List.lookup_cons] at z
          split at z
          · rename_i b
            have : y = n := by simpa using b
            subst this
            cases z
            exact .inr ⟨ha, List.mem_cons_self⟩
          · exact .inl z
        · exact .inr ⟨z1, List.mem_cons_of_mem _ z2⟩
      · refine h2 y ?_
        rcases q with q | q
        · left; rw [List.lookup_cons]; split
          · rfl
          · exact q
        · rcases List.mem_cons.mp q with z | z
          · cases z; left; rw [List.lookup_cons, beq_self_eq_true]; rfl
          · exact .inr z
    · obtain ⟨cl, e, h1, h2⟩ := closure_ex env r acc fun x hx => h x (List.mem_cons_of_mem _ hx)
      refine ⟨cl, ?_, fun y c q => ?_, fun y q => h2 y ?_⟩
      · rw [List.forIn_cons]
        have : (kd == NameKind.free) = false := by cases kd <;> first | rfl | exact absurd rfl hk
        simp only [this, Bool.false_eq_true, if_false]
        exact e
      · rcases h1 y c q with z | ⟨z1, z2⟩
        · exact .inl z
        · exact .inr ⟨z1, List.mem_cons_of_mem _ z2⟩
      · rcases q with q | q
        · exact .inl q
        · rcases List.mem_cons.mp q with z | z
          · cases z; exact absurd rfl hk
          · exact .inr z
theorem closureFor_ex (scope : Scope) (env : PySem.Env) (h : ∀ x ∈ scope.names, x.2 = .free → ∃ c, env.cells.lookup x.1 = some c) :
    ∃ cl, closureFor scope env = pure cl ∧ (∀ y c, cl.lookup y = some c → env.cells.lookup y = some c ∧ (y, NameKind.free) ∈ scope.names) ∧ ∀ y, (y, NameKind.free) ∈ scope.names → ∃ c, cl.lookup y = some c := by
  obtain ⟨cl, e, h1, h2⟩ := closure_ex env scope.names [] h
  refine ⟨cl, ?_, fun y c q => ?_, fun y q => h2 y (.inr q)⟩
  · have z : closureFor scope env = ((forIn scope.names ([] : List (Str × Addr)) (fun (x : Str × NameKind) (cs : List (Str × Addr)) => (if (x.2 == .free) = true then do let a ← cellOf env x.1; pure (ForInStep.yield ((x.1, a) :: cs)) else pure (ForInStep.yield cs) : Sem (ForInStep (List (Str × Addr))))) : Sem (List (Str × Addr))) >>= fun r => pure r) := rfl
    rw [z, e]
    rfl
  · rcases h1 y c q with z | z
    · cases z
    · exact z

theorem compLoop_any {prog : Program} {w : World} {A : Around} {R : Result → Shared → Prop} {s : Shared} {elt target iter : Expr} {ifs : List Expr} {scope : Scope} {pos : Pos} {it acc : Value} {env : PySem.Env} (I : Nat → Shared → Prop)
    (turn : ∀ n s, I n s → wpAny (model prog w) A (pyNext it) (fun r s₁ => match r with
      | none => R (.ok .next) s₁
      | some v => wpAny (model prog w) A (letOwnedTupleGo target it v) (fun _ s₁' => wpAny (model prog w) A (assign target env v) (fun _ s₂ =>
          wpAny (model prog w) A (forIn ifs true fun c r => if r = true then do let ok ← isTrue c env (eval c env); pure (ForInStep.yield ok) else pure (ForInStep.yield r)) (fun ok s₃ =>
            if ok = true then wpAny (model prog w) A (eval elt env) (fun x s₄ =>
              wpAny (model prog w) A (call (.builtin "list.append") [acc, x]) (fun _ s₅ => ∃ m, m < n ∧ I m s₅) (fun _ _ => False) s₄) (fun _ _ => False) s₃
            else ∃ m, m < n ∧ I m s₃) (fun _ _ => False) s₂) (fun _ _ => False) s₁') (fun _ _ => False) s₁) (fun _ _ => False) s)
    (n : Nat) (h : I n s) :
    codeAny (model prog w) A (.compLoop (.ListComp elt [⟨target, iter, ifs, 0⟩] scope pos) 0 it acc env) R s := by
  refine codeAny_loop rfl I (fun n s hI => ?_) n h
  show wpAny _ A ((compTurn (.ListComp elt [⟨target, iter, ifs, 0⟩] scope pos) 0 it acc env).onRaise (fun x => do noteFrame x env; theTreesLotGoes x)) _ _ s
  refine wpAny_noted ?_
  rw [compTurn_list]
  refine wpAny_bind (wpAny_standAt (wpAny_bind (wpAny_mono (turn n s hI) (fun r s₁ h₁ => ?_) fun _ _ h' => h'.elim)))
  cases r with
  | none => exact wpAny_pure h₁
  | some v =>
    refine wpAny_bind (wpAny_mono h₁ (fun _ s₁' h₁' => ?_) fun _ _ h' => h'.elim)
    refine wpAny_bind (wpAny_mono h₁' (fun _ s₂ h₂ => wpAny_bind (wpAny_mono h₂ (fun ok s₃ h₃ => ?_) fun _ _ h' => h'.elim)) fun _ _ h' => h'.elim)
    cases ok with
    | false => exact wpAny_pure ⟨rfl, h₃⟩
    | true =>
      exact wpAny_bind (wpAny_bind (wpAny_mono h₃ (fun x s₄ h₄ => wpAny_bind (wpAny_mono h₄ (fun _ s₅ h₅ => wpAny_pure (wpAny_pure ⟨rfl, h₅⟩)) fun _ _ h' => h'.elim)) fun _ _ h' => h'.elim))
/-- a comprehension's block -/
def cxC (X : Cx) (N' : List Str) (scope : Scope) (cl : List (Str × Addr)) (C : Addr) (s : Shared) (H : Hp) (ex : List Addr) : Cx :=
  { X with N := N', s₀ := s, H₀ := H, env := compEnvC scope cl C X.env, outer := X.stack, ex := ex, fn := fun x => (cl.lookup x).isNone, pn := [], xe := fun _ _ => False }
/-- what stands of the scopes: tn the targets, fs the names of the def that are used (at the places ix), G the global ones -/
structure CmB (N tn fs : List Str) (ix : List Nat) (G : List Str) (scope osc : Scope) : Prop where
  kd : scope.kind = .function
  okd : osc.kind = .function
  nocell : ∀ x ∈ scope.names, x.2 ≠ .cell
  once : ∀ x ∈ scope.names, x.2 = .local → scope.names.lookup x.1 = some .local
  fr : ∀ x ∈ scope.names, x.2 = .free → osc.names.lookup x.1 = some .cell
  htn : ∀ x ∈ tn, scope.names.lookup x = some .local ∧ (x == ("__debug__" : Str)) = false ∧ (x == ("__classdict__" : Str)) = false
  hfs : ∀ x ∈ fs, scope.names.lookup x = some .free ∧ (x == ("__debug__" : Str)) = false ∧ (x == ("__classdict__" : Str)) = false
  hnd : (tn ++ fs).Nodup
  hix : ix.map (fun i => N[i]?) = fs.map some
  hgl : ∀ x ∈ G, scope.names.lookup x = some .globalImplicit ∧ (x == ("__debug__" : Str)) = false ∧ x ≠ "__name__"
theorem relabel_of {scope : Scope} {env : PySem.Env} {x : Str} : ∀ {names : List (Str × NameKind)} {k : NameKind}, names.lookup x = some k →
    (names.map fun (n, k) => if (k == NameKind.free && env.scope.kind == .function && env.kindOf n == some .cell) then (n, NameKind.cell) else (n, k)).lookup x = some (if (k == NameKind.free && env.scope.kind == .function && env.kindOf x == some .cell) = true then .cell else k)
  | [], _, h => by simp at h
  | (n, k') :: r, k, h => by
    have ih := @relabel_of scope env x r k
    show List.lookup x ((if (k' == NameKind.free && env.scope.kind == .function && env.kindOf n == some .cell) = true then (n, NameKind.cell) else (n, k')) :: _) = _
    cases hx : x == n with
    | true =>
      simp only [List.lookup_cons, hx] at h
      cases h
      have : x = n := by simpa using hx
      subst this
      split
      · rename_i hc; simp [List.lookup_cons, hc]
      · rename_i hc; simp only [List.lookup_cons, hx, if_neg hc]
    | false =>
      simp only [List.lookup_cons, hx] at h
      by_cases hc : (k' == NameKind.free && env.scope.kind == .function && env.kindOf n == some .cell) = true
      · rw [if_pos hc]; simp only [List.lookup_cons, hx]; exact ih h
      · rw [if_neg hc]; simp only [List.lookup_cons, hx]; exact ih h
theorem relabel_back {scope : Scope} {env : PySem.Env} {x : Str} : ∀ {names : List (Str × NameKind)} {k : NameKind},
    (names.map fun (n, k) => if (k == NameKind.free && env.scope.kind == .function && env.kindOf n == some .cell) then (n, NameKind.cell) else (n, k)).lookup x = some k → ∃ k', names.lookup x = some k' ∧ (x, k') ∈ names ∧ (k = k' ∨ k' = .free)
  | [], _, h => by simp at h
  | (n, k') :: r, k, h => by
    have ih := @relabel_back scope env x r k
    have h : List.lookup x ((if (k' == NameKind.free && env.scope.kind == .function && env.kindOf n == some .cell) = true then (n, NameKind.cell) else (n, k')) :: (r.map fun (n, k) => if (k == NameKind.free && env.scope.kind == .function && env.kindOf n == some .cell) then (n, NameKind.cell) else (n, k))) = some k := h
    cases hx : x == n with
    | true =>
      have : x = n := by simpa using hx
      subst this
      refine ⟨k', by simp [List.lookup_cons], List.mem_cons_self, ?_⟩
      by_cases hc : (k' == NameKind.free && env.scope.kind == .function && env.kindOf x == some .cell) = true
      · right
        simp only [Bool.and_eq_true] at hc
        have := hc.1.1
        cases k' <;> first | rfl | exact absurd this (by decide)
      · rw [if_neg hc] at h
        simp [List.lookup_cons] at h
        exact .inl h.symm
    | false =>
      have h' : List.lookup x (r.map fun (n, k) => if (k == NameKind.free && env.scope.kind == .function && env.kindOf n == some .cell) then (n, NameKind.cell) else (n, k)) = some k := by
        by_cases hc : (k' == NameKind.free && env.scope.kind == .function && env.kindOf n == some .cell) = true
        · rw [if_pos hc] at h; simpa only [List.lookup_cons, hx] using h
        · rw [if_neg hc] at h; simpa only [List.lookup_cons, hx] using h
      obtain ⟨k2, a, b, c⟩ := ih h'
      exact ⟨k2, by simp only [List.lookup_cons, hx]; exact a, List.mem_cons_of_mem _ b, c⟩

theorem cxC_kind {X : Cx} {N' : List Str} {scope : Scope} {cl : List (Str × Addr)} {C : Addr} {s : Shared} {H : Hp} {ex : List Addr} {x : Str} {k : NameKind} (h : scope.names.lookup x = some k) :
    (cxC X N' scope cl C s H ex).env.scope.names.lookup x = some (if (k == NameKind.free && X.env.scope.kind == .function && X.env.kindOf x == some .cell) = true then .cell else k) := relabel_of (scope := scope) h
section
variable {X : Cx} {pins : List (Addr × Obj)} {σ : St} {H2 : Hp} {s2 : Shared} {N tn fs G : List Str} {ix : List Nat} {scope osc : Scope} {cl : List (Str × Addr)} {fp : List Addr} {tnn : Nat → Heap → Prop} {J : It} {it D C : Addr} {tg : Expr} {h4 : Heap} {m0 : Str → Option Value}
def capt (n : Nat) (ix : List Nat) (σ : St) : St := List.replicate n none ++ ix.map fun i => (σ[i]?).join
theorem inv_comp (I2 : Inv X pins σ H2 s2) (T : Turn X.prog X.w X.K tg J fp it tnn) (st2 : tnn 0 s2.heap) (f2 : ∀ b ∈ fp, FpOk X pins H2 b) (hsc : X.env.scope = osc) (hN : X.N = N) (B : CmB N tn fs ix G scope osc)
    (hcl1 : ∀ y c, cl.lookup y = some c → X.env.cells.lookup y = some c ∧ (y, NameKind.free) ∈ scope.names) (hcl2 : ∀ y, (y, NameKind.free) ∈ scope.names → ∃ c, cl.lookup y = some c)
    (k : ∀ b u, s2.heap.get? b = some u → h4.get? b = some u) (eD : D = s2.heap.objs.size) (hD : h4.get? D = some { cls := .type "list", data := .seq #[] }) (hns : h4.Ns C m0) (hC : s2.heap.objs.size < C) {t' : Nat} :
    Inv (cxC X (tn ++ fs) scope cl C s2 H2 fp) [] (capt tn.length ix σ) (upd H2 D (.lst [])) { s2 with heap := h4, toks := t' } := by
  have old : ∀ b u, s2.heap.get? b = some u → b ≠ C := fun b u e z => by
    have := Heap.lt_size e; rw [z] at this; exact Nat.lt_irrefl _ (Nat.lt_trans this hC)
  have oldD : ∀ b u, s2.heap.get? b = some u → b ≠ D := fun b u e z => by
    have := Heap.lt_size e; rw [z, eD] at this; exact Nat.lt_irrefl _ this
  have freeOf : ∀ x, ((cxC X (tn ++ fs) scope cl C s2 H2 fp).env.kindOf x = some .cell ∨ (cxC X (tn ++ fs) scope cl C s2 H2 fp).env.kindOf x = some .free) → (x, NameKind.free) ∈ scope.names := fun x hx => by
    have : ∃ k, (cxC X (tn ++ fs) scope cl C s2 H2 fp).env.kindOf x = some k ∧ (k = .cell ∨ k = .free) := by
      rcases hx with h | h
      · exact ⟨_, h, .inl rfl⟩
      · exact ⟨_, h, .inr rfl⟩
    obtain ⟨k, hk, hc⟩ := this
    obtain ⟨k', e1, e2, e3⟩ := relabel_back (scope := scope) (env := X.env) (names := scope.names) hk
    rcases e3 with rfl | rfl
    · rcases hc with rfl | rfl
      · exact absurd rfl (B.nocell _ e2)
      · exact e2
    · exact e2
  have hH : ∀ b, H2 b = none → b ≠ D → upd H2 D (.lst []) b = none := fun b h1 h2 => by rw [upd_ne h2]; exact h1
  refine ⟨⟨I2.ok.mod, ?_, I2.ok.glob, I2.ok.blt, Nat.le_of_lt hC, fun x y c h1 h2 => I2.ok.inj x y c (hcl1 x c h1).1 (hcl1 y c h2).1, fun x hx => hcl2 x (freeOf x hx), fun x c h1 h2 => ?_, I2.ok.hd, I2.ok.frames, .inl rfl, fun b hb => ⟨?_, fun x c e => ?_⟩, I2.bs, Nat.le_trans I2.ok.bsz I2.sz, fun b o e hb => ?_, fun b hb hs => ?_, I2.stack, I2.stkFree⟩,
    rfl, I2.bare, Un.laid k (by rw [eD]; exact Nat.le_refl _) (I2.hok.fresh (by rw [eD]; exact Nat.le_refl _)), ⟨m0, hns, fun i x v e1 e2 e3 => ?_⟩, fun x c e => ?_, ?_, fun x c e => ?_, fun p hp => absurd (show p ∈ ([] : List (Addr × Obj)) from hp) (by simp), ?_, ?_⟩
  · show scope.kind = .function; exact B.kd
  · have h1 : (cl.lookup x).isNone = true := h1
    rw [show cl.lookup x = some c from h2] at h1; cases h1
  · obtain ⟨o, e, _⟩ := T.obj 0 _ st2 b hb; exact old b o e
  · exact (f2 b hb).2.2.2.2.1 x c (hcl1 x c e).1
  · have hb : b ∈ fp := hb
    rcases (f2 b hb).2.2.2.1 with z | z
    · exact I2.ok.noex b o e z
    · exact absurd (Nat.lt_of_lt_of_le (Heap.lt_size (I2.ok.bs b o e).1) z) (Nat.lt_irrefl _)
  · have hb : b ∈ fp := hb
    rcases List.mem_cons.mp (I2.stkSub b hs) with z | z
    · exact (f2 b hb).2.1 z
    · exact (f2 b hb).2.2.1 z
  · -- the captured names
    have hl : tn.length ≤ i := by
      rcases Nat.lt_or_ge i tn.length with z | z
      · unfold capt at e2
        rw [List.getElem?_append_left (by simpa using z), List.getElem?_replicate] at e2
        split at e2 <;> cases e2
      · exact z
    have e1' : fs[i - tn.length]? = some x := by
      have : (tn ++ fs)[i]? = some x := e1
      rwa [List.getElem?_append_right hl] at this
    have e2' : (ix.map fun i => (σ[i]?).join)[i - tn.length]? = some (some v) := by
      unfold capt at e2
      rwa [List.getElem?_append_right (by simpa using hl), List.length_replicate] at e2
    rw [List.getElem?_map] at e2'
    cases qj : ix[i - tn.length]? with
    | none => rw [qj] at e2'; cases e2'
    | some j =>
      rw [qj] at e2'
      have e3' : σ[j]? = some (some v) := by
        have : (σ[j]?).join = some v := by simpa using e2'
        cases q : σ[j]? with
        | none => rw [q] at this; cases this
        | some o => rw [q] at this; have : o = some v := this; rw [this]
      have e4 : X.N[j]? = some x := by
        have z := congrArg (fun l => l[i - tn.length]?) B.hix
        simp only [List.getElem?_map, qj, e1', Option.map_some] at z
        rw [hN]; exact Option.some.inj z
      have hx := B.hfs x (List.mem_of_getElem? e1')
      have hmem : (x, NameKind.free) ∈ scope.names := PySem.mem_of_lookup hx.1
      have hcell : X.env.kindOf x = some .cell := by show X.env.scope.names.lookup x = _; rw [hsc]; exact B.fr _ hmem rfl
      obtain ⟨mm, _, hv⟩ := I2.loc
      obtain ⟨u, ru, lu⟩ := hv j x v e4 e3' (.inr (.inl hcell))
      refine ⟨u, ru, .inr ⟨.inl ?_, ?_⟩⟩
      · show (cxC X (tn ++ fs) scope cl C s2 H2 fp).env.scope.names.lookup x = _
        rw [cxC_kind hx.1]
        have hk : X.env.scope.kind = .function := by rw [hsc]; exact B.okd
        simp [hk, hcell]
      · obtain ⟨c, hc⟩ := hcl2 x hmem
        refine ⟨c, hc, ?_⟩
        rcases lu with ⟨z, _⟩ | ⟨_, c', h1, h2⟩
        · rw [hcell] at z; cases z
        · have := (hcl1 x c hc).1
          rw [h1] at this; cases this
          obtain ⟨o, ho, hd⟩ := h2
          exact ⟨o, k _ _ ho, hd⟩
  · obtain ⟨v, o, ho, hd⟩ := I2.cell x c (hcl1 x c e).1
    exact ⟨v, o, k _ _ ho, hd⟩
  · refine hH C (I2.hok.fresh (Nat.le_of_lt hC)) ?_
    intro z; rw [z, eD] at hC; exact Nat.lt_irrefl _ hC
  · obtain ⟨v, o, ho, hd⟩ := I2.cell x c (hcl1 x c e).1
    exact hH c (I2.freeC x c (hcl1 x c e).1) (oldD c o ho)
  · exact I2.hok.laid (a := D) (o := .lst []) k (by rw [eD]; exact Nat.le_refl _) ⟨Nat.zero_le _, [], 0, .nil, hD⟩
  · show (capt tn.length ix σ).length = (tn ++ fs).length
    have := congrArg List.length B.hix
    simp only [List.length_map] at this
    unfold capt
    simp [this]
end

def capS : Slot → Slot
  | .val d => .val d
  | .thg t => .bor t
  | .bor t => .bor t
  | _ => .un
/-- a comprehension's tests -/
def TsD (Y : Cy) : List Expr → List Slot → Bool → Prop
  | [], _, b => b = true
  | [t], c, b => TeD Y t c b
  | _, _, _ => False
theorem slot_map {α : Type} (f : α → Slot) : ∀ (l : List α) (i : Nat), slot (l.map f) i = (match l[i]? with | some x => f x | none => .un)
  | [], i => by simp [slot]
  | x :: r, 0 => rfl
  | x :: r, i + 1 => by simpa [slot] using slot_map f r i
theorem slot_app_left : ∀ (a b : List Slot) (i : Nat), i < a.length → slot (a ++ b) i = slot a i
  | [], _, _, h => by simp at h
  | _ :: _, _, 0, _ => rfl
  | _ :: r, b, i + 1, h => slot_app_left r b i (by simpa using h)
theorem slot_app_right : ∀ (a b : List Slot) (i : Nat), slot (a ++ b) (a.length + i) = slot b i
  | [], _, i => by simp
  | _ :: r, b, i => by
    have := slot_app_right r b i
    simp only [List.length_cons, List.cons_append]
    rw [show r.length + 1 + i = (r.length + i) + 1 by omega]
    exact this
theorem env_comp {K : PySem.W.Frag} {F₀ H₀ F H : Hp} {σ : St} {c : List Slot} {n : Nat} {ix : List Nat} {D : Addr} {o : HO} (E : Env K F₀ H₀ F H σ c) (hn : H D = none) :
    Env K F H F (upd H D o) (capt n ix σ) (List.replicate n .un ++ ix.map fun i => capS (slot c i)) where
  ext := Ext.track E.fh hn
  len := by unfold capt; simp
  sl := fun j => by
    unfold capt
    by_cases hj : j < n
    · rw [slot_app_left _ _ _ (by simpa using hj), slot_un]; exact trivial
    · have ej : j = (List.replicate n Slot.un).length + (j - n) := by simp; omega
      have e2 : slot (List.replicate n .un ++ ix.map fun i => capS (slot c i)) j = slot (ix.map fun i => capS (slot c i)) (j - n) := by
        have := slot_app_right (List.replicate n .un) (ix.map fun i => capS (slot c i)) (j - n)
        rw [← ej] at this; exact this
      rw [e2, slot_map, List.getElem?_append_right (by simp; omega), List.length_replicate, List.getElem?_map]
      cases q : ix[j - n]? with
      | none => exact trivial
      | some i =>
        show SlotOk K H F (upd H D o) (some ((σ[i]?).join)) (capS (slot c i))
        have z := E.sl i
        cases e : slot c i with
        | val d =>
          rw [e] at z
          obtain ⟨x, ex, r⟩ := z
          exact ⟨x, by rw [ex]; rfl, r⟩
        | thg t =>
          rw [e] at z
          obtain ⟨a, o', ex, h1, _, _, r⟩ := z
          exact ⟨a, o', by rw [ex]; rfl, h1, r⟩
        | bor t =>
          rw [e] at z
          obtain ⟨a, o', ex, h1, r⟩ := z
          exact ⟨a, o', by rw [ex]; rfl, E.ext.hh _ _ h1, r⟩
        | _ => exact trivial
  inj := fun i j a h _ _ _ => by
    exfalso
    have : isOwn (slot (List.replicate n .un ++ ix.map fun i => capS (slot c i)) i) = false := by
      by_cases hj : i < n
      · rw [slot_app_left _ _ _ (by simpa using hj), slot_un]; rfl
      · have ej : i = (List.replicate n Slot.un).length + (i - n) := by simp; omega
        have e2 : slot (List.replicate n .un ++ ix.map fun i => capS (slot c i)) i = slot (ix.map fun i => capS (slot c i)) (i - n) := by
          have := slot_app_right (List.replicate n .un) (ix.map fun i => capS (slot c i)) (i - n)
          rw [← ej] at this; exact this
        rw [e2, slot_map]
        split
        · rename_i x _; cases slot c x <;> rfl
        · rfl
    rw [this] at h; cases h
/-- a list that the slots do not know grows -/
theorem Env.aside {K : PySem.W.Frag} {F₀ H₀ F H : Hp} {σ : St} {c : List Slot} {D : Addr} {vs ws : List V} (E : Env K F₀ H₀ F H σ c) (h0 : H₀ D = none) (hF : F D = none) (hD : H D = some (.lst vs)) (hs : ∀ i a, isOwn (slot c i) = true → σ[i]? = some (some (.ref a)) → a ≠ D) : Env K F₀ H₀ F (upd H D (.lst ws)) σ c where
  ext := ⟨E.ext.ff, fun b u q => by rw [upd_ne (fun z => by rw [z, hF] at q; cases q)]; exact E.ext.fh _ _ q, fun b u q => by rw [upd_ne (fun z => by rw [z, h0] at q; cases q)]; exact E.ext.hh _ _ q, E.ext.fr⟩
  len := E.len
  sl := fun i => by
    have z := E.sl i
    cases e : slot c i with
    | un => exact trivial
    | val d => rw [e] at z; exact z
    | own ds =>
      rw [e] at z
      obtain ⟨a, vs', h1, h2, h3, h4, h5⟩ := z
      exact ⟨a, vs', h1, by rw [upd_ne (hs i a (by rw [e]; rfl) h1)]; exact h2, h3, h4, h5⟩
    | dic ds =>
      rw [e] at z
      obtain ⟨a, vs', h1, h2, h3, h4, h5⟩ := z
      exact ⟨a, vs', h1, by rw [upd_ne (hs i a (by rw [e]; rfl) h1)]; exact h2, h3, h4, h5⟩
    | thg t =>
      rw [e] at z
      obtain ⟨a, vs', h1, h2, h3, h4, h5⟩ := z
      exact ⟨a, vs', h1, by rw [upd_ne (hs i a (by rw [e]; rfl) h1)]; exact h2, h3, h4, h5⟩
    | bor t => rw [e] at z; exact z
    | exc C =>
      rw [e] at z
      obtain ⟨a, h1, h2⟩ := z
      exact ⟨a, h1, by rw [upd_ne (fun q => by rw [q, hD] at h2; cases h2)]; exact h2⟩
  inj := E.inj

theorem ts_run {Y : Cy} {ifs : List Expr} {c : List Slot} {b : Bool} {pins : List (Addr × Obj)} {s : Shared} {σ : St} {F H : Hp} (h : TsD Y ifs c b) (I : Inv Y.X pins σ H s) (E : EnvY Y F H σ c) (hx : Y.X.xe = fun _ _ => False) {Q : Bool → Shared → Prop}
    (q : ∀ s' F' H', Ext F H F' H' → Inv Y.X pins σ H' s' → Q b s') :
    wpAny (model Y.X.prog Y.X.w) Y.X.A (forIn ifs true fun c r => if r = true then do let ok ← isTrue c Y.X.env (eval c Y.X.env); pure (ForInStep.yield ok) else pure (ForInStep.yield r)) Q (fun _ _ => False) s := by
  match ifs, h with
  | [], h =>
    have h : b = true := h
    subst h
    exact wpAny_tests_nil (q s F H (Ext.refl E.fh) I)
  | [t], h =>
    refine wpAny_tests_one ?_
    have w := (show TeD Y t c b from h) pins s σ H (fun v H' => v = b ∧ ∃ F', Ext F H F' H') I ⟨F, E, fun F' H' e => ⟨rfl, F', e⟩⟩
    rw [hx] at w
    refine wpAny_mono w (fun v s' hv => ?_) fun _ _ z => z
    obtain ⟨H', I', rfl, F', e⟩ := hv
    exact q s' F' H' e I'
theorem own_all : ∀ {ts : List Slot}, ts.all (fun s => !isOwn s) = true → ∀ j, isOwn (slot ts j) = false
  | [], _, _ => rfl
  | x :: r, h, 0 => by simp at h; exact h.1
  | x :: r, h, j + 1 => own_all (ts := r) (by simp at h ⊢; exact h.2) j
theorem own_none {ts : List Slot} {ix : List Nat} {c : List Slot} (h : ts.all (fun s => !isOwn s) = true) {j : Nat} : isOwn (slot (ts ++ ix.map fun i => capS (slot c i)) j) = false := by
  refine own_all ?_ j
  rw [List.all_append, h, Bool.true_and, List.all_map]
  rw [List.all_eq_true]
  intro i _
  show (!isOwn (capS (slot c i))) = true
  cases slot c i <;> rfl
theorem comp_coreG {Y : Cy} {T : Tx} {k : Nat} {N G tn fs G' : List Str} {ix : List Nat} {c : List Slot} {tg iter elt : Expr} {ifs : List Expr} {scope osc : Scope} {pos : Pos} {items : List D} (S : Se Y T k N G) (hsc : Y.X.env.scope = osc) (B : CmB N tn fs ix G' scope osc) (hi : ItD Y tg iter c items)
    (rs : List (Option D)) (hlen : rs.length = items.length) (hz : rs.length ≤ 100000)
    (turn : ∀ (Y' : Cy) (S' : Se Y' T k (tn ++ fs) G'), (∀ x ∈ tn, Y'.X.env.scope.names.lookup x = some .local) → ∀ (m : Nat) (d : D) (r : Option D), items[m]? = some d → rs[m]? = some r → ∀ ts : List Slot, ts.length = tn.length →
      ∃ ts' : List Slot, ts'.length = tn.length ∧ ts'.all (fun s => !isOwn s) = true ∧ TgD Y' tg d (ts ++ ix.map fun i => capS (slot c i)) (ts' ++ ix.map fun i => capS (slot c i)) ∧ (match r with
        | some e => TsD Y' ifs (ts' ++ ix.map fun i => capS (slot c i)) true ∧ EvD Y' elt (ts' ++ ix.map fun i => capS (slot c i)) e
        | none => TsD Y' ifs (ts' ++ ix.map fun i => capS (slot c i)) false))
    (hs : ∀ x, foldedSetIterable iter Y.X.env x = pure x := by intro _; rfl)
    {pins : List (Addr × Obj)} {s : Shared} {σ : St} {F H : Hp} (I : Inv Y.X pins σ H s) (E : EnvY Y F H σ c) {use : Option (Value → Sem Unit)} {Qv : Value → Shared → Prop} {cpos : Pos}
    (post : ∀ (D C : Addr) (s' : Shared) (m : Str → Option Value) (F' H' : Hp) (vs : List V), s'.heap.Ns C m → FpOk Y.X pins H' C → (∀ h', Heap.SameBut C s'.heap h' → Inv Y.X pins σ H' { s' with heap := h' }) → Ext F H F' H' → H D = none → H' D = some (.lst vs) → F' D = none → Reps Y.X.K F' vs (rs.filterMap id) →
      compPost (model Y.X.prog Y.X.w) Y.X.A Y.X.xe use Qv (.ref D) C (.ok .next) s') :
    wpAny (model Y.X.prog Y.X.w) Y.X.A (comprehension (.ListComp elt [⟨tg, iter, ifs, 0⟩] scope pos) scope Y.X.env cpos (newList []) (firstAsync [⟨tg, iter, ifs, 0⟩]) (firstIter [⟨tg, iter, ifs, 0⟩] Y.X.env) use) Qv Y.X.xe s := by
  obtain ⟨cl, ecl, hcl1, hcl2⟩ := closureFor_ex scope Y.X.env fun x hx hf => I.ok.has x.1 (.inl (by show Y.X.env.scope.names.lookup x.1 = _; rw [hsc]; exact B.fr x hx hf))
  refine wpAny_comprehension_free (g := ⟨tg, iter, ifs, 0⟩) (gs := []) rfl hs ecl B.kd B.once ?_
  have h1 := hi pins s σ H (fun J H1 => ∃ F1, Ext F H F1 H1 ∧ Yields Y.X.K F1 J items) I ⟨F, E, fun J F1 H1 e1 y => ⟨F1, e1, y⟩⟩
  refine thn h1 fun x s1 h1 => thn h1 fun itv s2 h2 => ?_
  obtain ⟨it, fp, tnn, J, H2, rfl, I2, TT, st2, f2, F2, e2, yl⟩ := h2
  refine wpAny_newObj_type (wpAny_newFunctionEnv B.nocell (by intro y hy; simp at hy) (fun h4 hns hsb => ?_) B.kd)
  dsimp only at hns hsb ⊢
  generalize hH3 : s2.heap.push { cls := .type "list", dict := none, data := .seq ([] : List Value).toArray } = g3 at hns hsb ⊢
  have hC : g3.objs.size = s2.heap.objs.size + 1 := by rw [← hH3, Heap.size_push]
  have hD3 : g3.get? s2.heap.objs.size = some { cls := .type "list", dict := none, data := .seq ([] : List Value).toArray } := by rw [← hH3]; exact Heap.get?_push_size _ rfl
  have kk : ∀ b u, s2.heap.get? b = some u → h4.get? b = some u := fun b u e => hsb.extBut b u (by rw [hC]; exact Nat.ne_of_lt (Nat.lt_succ_of_lt (Heap.lt_size e))) (Heap.get?_push_of_some _ (hH3 ▸ Heap.get?_push_of_some _ e))
  have hD : h4.get? s2.heap.objs.size = some { cls := .type "list", data := .seq #[] } := hsb.extBut _ _ (by rw [hC]; exact Nat.ne_of_lt (Nat.lt_succ_self _)) (Heap.get?_push_of_some _ hD3)
  have hCl : s2.heap.objs.size < g3.objs.size := by rw [hC]; exact Nat.lt_succ_self _
  generalize hDe : s2.heap.objs.size = D at hD hCl ⊢
  generalize g3.objs.size = C at hns hsb hCl ⊢
  have hDn : H2 D = none := I2.hok.fresh (by rw [hDe]; exact Nat.le_refl _)
  have I4 := inv_comp (t' := s2.toks + ([] : List (Str × Value)).length) I2 TT st2 f2 hsc S.n B hcl1 hcl2 kk hDe.symm hD hns (by rw [hDe]; exact hCl)
  generalize hXc : cxC Y.X (tn ++ fs) scope cl C s2 H2 fp = Xc at I4
  have xP : Xc.prog = Y.X.prog := by rw [← hXc]; rfl
  have xW : Xc.w = Y.X.w := by rw [← hXc]; rfl
  have xK : Xc.K = Y.X.K := by rw [← hXc]; rfl
  have xA : Xc.A = Y.X.A := by rw [← hXc]; rfl
  have xE : Xc.xe = fun _ _ => False := by rw [← hXc]; rfl
  have xenv : Xc.env = compEnvC scope cl C Y.X.env := by rw [← hXc]; rfl
  have S' : Se ⟨Xc, F2, H2⟩ T k (tn ++ fs) G' := by
    subst hXc
    refine ⟨⟨S.eP, S.eW, S.eK, S.eM, S.eB, rfl, B.hnd, fun x hx => ?_, fun x hx => ?_⟩, S.calm, S.room⟩
    · rcases List.mem_append.mp hx with h | h
      · have z := B.htn x h
        exact ⟨.inl (lookup_relabel_local z.1), z.2⟩
      · have z := B.hfs x h
        refine ⟨.inr ?_, z.2⟩
        have zz := cxC_kind (X := Y.X) (N' := tn ++ fs) (cl := cl) (C := C) (s := s2) (H := H2) (ex := fp) z.1
        have hk : Y.X.env.scope.kind = .function := by rw [hsc]; exact B.okd
        have hcell : Y.X.env.kindOf x = some .cell := by show Y.X.env.scope.names.lookup x = _; rw [hsc]; exact B.fr _ (PySem.mem_of_lookup z.1) rfl
        rw [hk, hcell] at zz
        exact zz
    · have z := B.hgl x hx
      refine ⟨?_, z.2⟩
      have zz := cxC_kind (X := Y.X) (N' := tn ++ fs) (cl := cl) (C := C) (s := s2) (H := H2) (ex := fp) z.1
      exact zz
  have hloc : ∀ x ∈ tn, (⟨Xc, F2, H2⟩ : Cy).X.env.scope.names.lookup x = some .local := fun x hx => by
    show Xc.env.scope.names.lookup x = _
    rw [xenv]; exact lookup_relabel_local (B.htn x hx).1
  have E2 := E.grow e2
  have E4 : Env Y.X.K F2 H2 F2 (upd H2 D (.lst [])) (capt tn.length ix σ) (List.replicate tn.length .un ++ ix.map fun i => capS (slot c i)) := env_comp E2 hDn
  have fin : ∀ {σ' : St} {F' H' : Hp} {s' : Shared} {vs : List V}, Inv Xc [] σ' H' s' → Ext F2 H2 F' H' → H' D = some (.lst vs) → F' D = none → Reps Y.X.K F' vs (rs.filterMap id) →
      compPost (model Y.X.prog Y.X.w) Y.X.A Y.X.xe use Qv (.ref D) C (.ok .next) s' := by
    intro σ' F' H' s' vs I' ex hv hf r
    obtain ⟨m, hn, _⟩ := id I'.loc
    rw [xenv] at hn
    have b0 : Un (frs Y.X.stack) fp H2 H' s2.heap s'.heap := by have := I'.base; rw [← hXc] at this; exact this
    have nC : ∀ b o, s2.heap.get? b = some o → b ≠ C := fun b o e z => by
      have := Heap.lt_size e; rw [z, hDe] at this; exact Nat.lt_irrefl _ (Nat.lt_trans this hCl)
    have hfC : H' C = none := by have := I'.free; rw [xenv] at this; exact this
    have I9 : ∀ h', Heap.SameBut C s'.heap h' → Inv Y.X pins σ H' { s' with heap := h' } := fun h' hs' => by
      have un : Un (frs Y.X.stack) fp H2 H' s2.heap h' := ⟨fun b o e n hb hx => (hs'.2 b (nC b o e)).trans (b0.keep b o e n hb hx), fun b o e n hb hx => by
          obtain ⟨sl, z⟩ := b0.slot b o e n hb hx
          exact ⟨sl, (hs'.2 b (nC b o e)).trans z⟩, b0.free, fun b o e hx => by
          obtain ⟨o', z⟩ := b0.there b o e hx
          exact ⟨o', (hs'.2 b (nC b o e)).trans z⟩, b0.tups, b0.frzs, b0.tbls⟩
      have hok : HOk Y.X.prog Y.X.w H' h' := by
        have ok' : HOk Y.X.prog Y.X.w H' s'.heap := by rw [← xP, ← xW]; exact I'.hok
        intro b o e
        refine (ok' b o e).stay (fun c w' hc z => (hs'.2 c ?_).trans z) (fun _ z => z) fun _ _ z => z
        rintro rfl
        rcases hc with rfl | hc
        · rw [hfC] at e; cases e
        · rw [hfC] at hc; cases hc
      have os : ({ s' with heap := h' } : Shared).os = s2.os := by have := I'.os; rw [← hXc] at this; exact this
      exact I2.call' (s' := { s' with heap := h' }) (ch := fp) os un hok I'.bare fun b hb => ⟨(f2 b hb).2.2.2.1, (f2 b hb).2.1, (f2 b hb).2.2.2.2.1, (f2 b hb).2.2.2.2.2⟩
    have hD0 : H D = none := by
      cases z : H D with
      | none => rfl
      | some u => rw [e2.hh _ _ z] at hDn; cases hDn
    exact post D C s' m F' H' vs hn (I2.fpOk (by rw [hDe]; exact Nat.le_of_lt hCl) hfC) I9 (e2.trans ex) hD0 hv hf r
  have calm : Xc.calm = true := S'.calm
  have cells : ∀ b ∈ fp, ∀ x c, Xc.env.cells.lookup x = some c → c ≠ b := fun b hb x c e => by
    rw [xenv] at e
    exact (f2 b hb).2.2.2.2.1 x c (hcl1 x c e).1
  have neC : ∀ b ∈ fp, b ≠ Xc.env.locals := fun b hb => by
    rw [xenv]
    obtain ⟨o, e, _⟩ := TT.obj 0 _ st2 b hb
    intro z
    have z : b = C := z
    have := Heap.lt_size e; rw [z, hDe] at this; exact Nat.lt_irrefl _ (Nat.lt_trans this hCl)
  have nfs : ∀ b ∈ fp, b ∉ Xc.fs := fun b hb z => by
    rw [← hXc] at z
    rcases List.mem_cons.mp (I2.stkSub b z) with z | z
    · exact (f2 b hb).2.1 z
    · exact (f2 b hb).2.2.1 z
  have inex : ∀ b ∈ fp, b ∈ Xc.ex := fun b hb => by rw [← hXc]; exact hb
  have stat : ∀ {H' : Hp}, (∀ b ∈ fp, H' b = none) → ∀ b ∈ fp, FpOk Xc [] H' b := fun hn b hb => ⟨hn b hb, neC b hb, nfs b hb, .inl (inex b hb), cells b hb, fun p hp => by rw [← hXc] at hp; exact absurd (show p ∈ ([] : List (Addr × Obj)) from hp) (by simp)⟩
  have TX : Turn Xc.prog Xc.w Xc.K tg J fp it tnn := by rw [xP, xW, xK]; exact TT
  have loop : ∀ s3 : Shared, s3 = { s2 with heap := h4, toks := s2.toks + ([] : List (Str × Value)).length } →
      codeAny (model Y.X.prog Y.X.w) Y.X.A (.compLoop (.ListComp elt [⟨tg, iter, ifs, 0⟩] scope pos) 0 (.ref it) (.ref D) (compEnvC scope cl C Y.X.env)) (compPost (model Y.X.prog Y.X.w) Y.X.A Y.X.xe use Qv (.ref D) C) s3 := by
    rintro s3 rfl
    rw [← xP, ← xW, ← xA, ← xenv]
    refine compLoop_any (fun n s' => ∃ (i : Nat) (σ' : St) (F' H' : Hp) (vs : List V) (ts : List Slot), n = items.length - i ∧ i ≤ items.length ∧ Inv Xc [] σ' H' s' ∧ tnn i s'.heap ∧ (∀ b ∈ fp, H' b = none) ∧ Env Y.X.K F2 H2 F' H' σ' (ts ++ ix.map fun i => capS (slot c i)) ∧ ts.length = tn.length ∧
      H' D = some (.lst vs) ∧ F' D = none ∧ Reps Y.X.K F' vs ((rs.take i).filterMap id)) ?_ items.length ⟨0, _, F2, _, [], _, rfl, Nat.zero_le _, I4, TT.keep _ _ _ st2 fun b hb o e => kk b o e, fun b hb => ?_, E4, by simp, upd_same, ?_, .nil⟩
    · rintro n s' ⟨i, σ', F', H', vs, ts, rfl, hi', I', st', fr', E', hts, hv, hf, rp⟩
      have y := yl i F' H' E'.ext.ff E'.fh
      by_cases hlt : i < items.length
      · obtain ⟨d, hd⟩ : ∃ d, items[i]? = some d := ⟨items[i], List.getElem?_eq_getElem hlt⟩
        obtain ⟨r, hr⟩ : ∃ r, rs[i]? = some r := ⟨rs[i]'(by rw [hlen]; exact hlt), List.getElem?_eq_getElem _⟩
        obtain ⟨go, yy⟩ := y.1 d hd
        obtain ⟨ts', hts', hown, tgd, body⟩ := turn ⟨Xc, F2, H2⟩ S' hloc i d r hd hr ts hts
        refine thn (TX.item Xc rfl rfl rfl calm i [] s' σ' H' _ I' (stat fr') st' go) fun rr s4 ⟨u, hr', h4'⟩ => ?_
        subst hr'
        refine thn h4' fun _ s5 ⟨xv, H5, I5, r5, y5, st5, fr5⟩ => ?_
        obtain ⟨F5, ex5, rep5⟩ := yy xv H5 y5
        have I5' := I5.pinned (stat fr5) (TT.obj _ _ st5)
        have E5 : Env Y.X.K F2 H2 F5 H5 σ' (ts ++ ix.map fun i => capS (slot c i)) := E'.grow ex5
        have tgr := tgd _ s5 σ' H5 xv u (fun σ6 H6 => ∃ F6, Ext F5 H5 F6 H6 ∧ Env Y.X.K F2 H2 F6 H6 σ6 (ts' ++ ix.map fun i => capS (slot c i))) I5' r5 ⟨F5, by show Env Xc.K _ _ _ _ _ _; rw [xK]; exact E5, by show Rep Xc.K _ _ _; rw [xK]; exact rep5, fun σ6 F6 H6 ex6 E6 => ⟨F6, ex6, by have z : Env Xc.K F2 H2 F6 H6 σ6 _ := E6; rw [xK] at z; exact z⟩⟩
        rw [show (⟨Xc, F2, H2⟩ : Cy).X.xe = fun _ _ => False from xE] at tgr
        refine thn tgr fun _ s6 ⟨σ6, H6, I6, F6, ex6, E6⟩ => ?_
        have ne : ∀ {Fa Ha Fb Hb : Hp} {ws : List V}, Ext Fa Ha Fb Hb → Ha D = some (.lst ws) → Fa D = none → Hb D = some (.lst ws) ∧ Fb D = none := fun ex h1 h2 => ⟨ex.hh _ _ h1, ex.fr D (by rw [h1]; exact fun z => nomatch z) h2⟩
        obtain ⟨hv5, hf5⟩ := ne ex5 hv hf
        obtain ⟨hv6, hf6⟩ := ne ex6 hv5 hf5
        have rp6 := (rp.mono ex5.ff).mono ex6.ff
        have E6' : EnvY ⟨Xc, F2, H2⟩ F6 H6 σ6 (ts' ++ ix.map fun i => capS (slot c i)) := by show Env Xc.K _ _ _ _ _ _; rw [xK]; exact E6
        have again : ∀ {s7 : Shared} {σ7 : St} {F7 H7 : Hp} {ws : List V}, Inv Xc ([] ++ pinsAt fp s5.heap) σ7 H7 s7 → Env Y.X.K F2 H2 F7 H7 σ7 (ts' ++ ix.map fun i => capS (slot c i)) → H7 D = some (.lst ws) → F7 D = none → Reps Y.X.K F7 ws ((rs.take (i + 1)).filterMap id) →
            ∃ m, m < items.length - i ∧ ∃ (i : Nat) (σ' : St) (F' H' : Hp) (vs : List V) (ts : List Slot), m = items.length - i ∧ i ≤ items.length ∧ Inv Xc [] σ' H' s7 ∧ tnn i s7.heap ∧ (∀ b ∈ fp, H' b = none) ∧ Env Y.X.K F2 H2 F' H' σ' (ts ++ ix.map fun i => capS (slot c i)) ∧ ts.length = tn.length ∧ H' D = some (.lst vs) ∧ F' D = none ∧ Reps Y.X.K F' vs ((rs.take i).filterMap id) := by
          intro s7 σ7 F7 H7 ws I7 E7 h7 f7 r7
          refine ⟨items.length - (i + 1), by omega, i + 1, σ7, F7, H7, ws, ts', rfl, hlt, I7.unpinned, TT.keep _ _ _ st5 fun b hb o e => (I7.pin (b, o) (List.mem_append_right _ (List.mem_append_right _ (mem_pinsAt hb e)))).1, fun b hb => ?_, E7, hts', h7, f7, r7⟩
          obtain ⟨o, e, dd⟩ := TT.obj _ _ st5 b hb
          exact (I7.pin (b, o) (List.mem_append_right _ (List.mem_append_right _ (mem_pinsAt hb e)))).2.1
        have tk : (rs.take (i + 1)).filterMap id = (rs.take i).filterMap id ++ r.toList := by
          rw [List.take_add_one, hr, List.filterMap_append]
          cases r <;> rfl
        cases r with
        | none =>
          refine ts_run (Y := ⟨Xc, F2, H2⟩) body I6 E6' xE fun s7 F7 H7 ex7 I7 => ?_
          rw [if_neg Bool.false_ne_true]
          obtain ⟨hv7, hf7⟩ := ne ex7 hv6 hf6
          exact again I7 (E6.grow ex7) hv7 hf7 (by rw [tk]; simpa using rp6.mono ex7.ff)
        | some e =>
          refine ts_run (Y := ⟨Xc, F2, H2⟩) body.1 I6 E6' xE fun s7 F7 H7 ex7 I7 => ?_
          rw [if_pos rfl]
          obtain ⟨hv7, hf7⟩ := ne ex7 hv6 hf6
          have el := body.2 _ s7 σ6 H7 (fun v H8 => ∃ F8, Ext F7 H7 F8 H8 ∧ Rep Y.X.K F8 v e) I7 ⟨F7, by show Env Xc.K _ _ _ _ _ _; rw [xK]; exact E6.grow ex7, fun v F8 H8 ex8 r8 => ⟨F8, ex8, by have z : Rep Xc.K F8 v e := r8; rw [xK] at z; exact z⟩⟩
          rw [show (⟨Xc, F2, H2⟩ : Cy).X.xe = fun _ _ => False from xE] at el
          refine thn el fun u8 s8 ⟨v8, H8, I8, r8, F8, ex8, rep8⟩ => ?_
          obtain ⟨hv8, hf8⟩ := ne ex8 hv7 hf7
          have rp8 := (rp6.mono ex7.ff).mono ex8.ff
          have E8 := (E6.grow ex7).grow ex8
          have ln : vs.length < sizeLine := by
            rw [rp.length]
            have l1 : ((rs.take i).filterMap id).length ≤ (rs.take i).length := List.length_filterMap_le _ _
            have l2 : (rs.take i).length ≤ rs.length := by simp; omega
            rw [sizeLine_eq]; omega
          have ap := (mt_append (X := Xc)) _ s8 σ6 H8 (.ref D) [v8] (.ref D) [u8] (fun _ H9 => H9 = upd H8 D (.lst (vs ++ [v8]))) I8 rfl (.cons r8 .nil) ⟨D, vs, v8, rfl, rfl, hv8, ln, rfl⟩
          rw [xE] at ap
          refine thn ap fun _ s9 ⟨v9, H9, I9, _, e9⟩ => ?_
          subst e9
          refine again (ws := vs ++ [v8]) I9 (E8.aside hDn hf8 hv8 fun j a hj ha => ?_) upd_same hf8 (by rw [tk]; exact rp8.append (.cons rep8 .nil))
          rw [own_none hown] at hj; cases hj
      · have ei : i = items.length := by omega
        subst ei
        refine thn (TX.done Xc rfl rfl rfl calm items.length [] s' σ' H' _ I' (stat fr') st' (y.2 (Nat.le_refl _))) fun rr s4 ⟨hr', I4'⟩ => ?_
        subst hr'
        show compPost (model Xc.prog Xc.w) Xc.A Y.X.xe use Qv (.ref D) C (.ok .next) s4
        rw [xP, xW, xA]
        exact fin I4' E'.ext hv hf (by rw [← hlen, List.take_length] at rp; exact rp)
    · rw [upd_ne (fun z => ?_)]
      · exact (f2 b hb).1
      · obtain ⟨o, e, _⟩ := TT.obj 0 _ st2 b hb
        have := Heap.lt_size e; rw [z, hDe] at this; exact Nat.lt_irrefl _ this
    · cases z : F2 D with
      | none => rfl
      | some u => rw [e2.fh _ _ z] at hDn; cases hDn
  exact codeAny_compStart_list (loop _ rfl) (TT.self _ 0 _ _ _ (TT.keep _ _ _ st2 fun b hb o e => kk b o e) (loop _ rfl))
theorem comp_core {Y : Cy} {T : Tx} {k : Nat} {N G tn fs G' : List Str} {ix : List Nat} {c : List Slot} {tg iter elt : Expr} {ifs : List Expr} {scope osc : Scope} {pos : Pos} {items : List D} (S : Se Y T k N G) (hsc : Y.X.env.scope = osc) (B : CmB N tn fs ix G' scope osc) (hi : ItD Y tg iter c items)
    (rs : List (Option D)) (hlen : rs.length = items.length) (hz : rs.length ≤ 100000)
    (turn : ∀ (Y' : Cy) (S' : Se Y' T k (tn ++ fs) G'), (∀ x ∈ tn, Y'.X.env.scope.names.lookup x = some .local) → ∀ (m : Nat) (d : D) (r : Option D), items[m]? = some d → rs[m]? = some r → ∀ ts : List Slot, ts.length = tn.length →
      ∃ ts' : List Slot, ts'.length = tn.length ∧ ts'.all (fun s => !isOwn s) = true ∧ TgD Y' tg d (ts ++ ix.map fun i => capS (slot c i)) (ts' ++ ix.map fun i => capS (slot c i)) ∧ (match r with
        | some e => TsD Y' ifs (ts' ++ ix.map fun i => capS (slot c i)) true ∧ EvD Y' elt (ts' ++ ix.map fun i => capS (slot c i)) e
        | none => TsD Y' ifs (ts' ++ ix.map fun i => capS (slot c i)) false))
    (hs : ∀ x, foldedSetIterable iter Y.X.env x = pure x := by intro _; rfl)
    {pins : List (Addr × Obj)} {s : Shared} {σ : St} {F H : Hp} (I : Inv Y.X pins σ H s) (E : EnvY Y F H σ c) {use : Option (Value → Sem Unit)} {Qv : Value → Shared → Prop} {cpos : Pos}
    (post : ∀ (D C : Addr) (s' : Shared) (m : Str → Option Value) (F' H' : Hp), s'.heap.Ns C m → FpOk Y.X pins H' C → (∀ h', Heap.SameBut C s'.heap h' → Inv Y.X pins σ H' { s' with heap := h' }) → Ext F H F' H' → Rep Y.X.K F' (.ref D) (.lst (rs.filterMap id)) →
      compPost (model Y.X.prog Y.X.w) Y.X.A Y.X.xe use Qv (.ref D) C (.ok .next) s') :
    wpAny (model Y.X.prog Y.X.w) Y.X.A (comprehension (.ListComp elt [⟨tg, iter, ifs, 0⟩] scope pos) scope Y.X.env cpos (newList []) (firstAsync [⟨tg, iter, ifs, 0⟩]) (firstIter [⟨tg, iter, ifs, 0⟩] Y.X.env) use) Qv Y.X.xe s := by
  refine comp_coreG S hsc B hi rs hlen hz turn hs I E fun D C s' m F' H' vs hn fp hI ex hD hv hf r => ?_
  have sm : Same F' (upd F' D (.lst vs)) := fun b u z => by rw [upd_ne (fun w => by rw [w, hf] at z; cases z)]; exact z
  have ex2 : Ext F H (upd F' D (.lst vs)) H' := ⟨ex.ff.trans sm, fun b u z => by
      by_cases hb : b = D
      · subst hb; rw [upd_same] at z; cases z; exact hv
      · rw [upd_ne hb] at z; exact ex.fh _ _ z, ex.hh, fun b h1 h2 => by
      rw [upd_ne (fun w => h1 (by rw [w]; exact hD))]; exact ex.fr b h1 h2⟩
  exact post D C s' m _ H' hn fp hI ex2 (.lst (SqL.of upd_same) (r.mono sm))
end DL

set_option Elab.async false
set_option linter.all false
set_option maxRecDepth 100000
namespace DL
open PySem L2
/-! ### more expressions -/
def rCatS (K : PySem.W.Frag) : R2 := fun x y H Q => ∃ l b xs zs, x = .ref l ∧ y = .ref b ∧ SqL K H l xs ∧ SqL K H b zs ∧ xs.length + zs.length ≤ sizeLine ∧ ∀ p, H p = none → Q (.ref p) (upd H p (.lst (xs ++ zs)))
theorem op_catS {X : Cx} : OpR X (binaryOp .Add) (rCatS X.K) := by
  intro pins s σ H x y v u Q I rx ry h
  obtain ⟨l, b, xs, zs, rfl, rfl, hH, hB, hz, q⟩ := h
  cases rx
  cases ry
  obtain ⟨its, r, ⟨⟨cls, dd, data, sl⟩, n, e, hc, hdd, hd⟩, z1⟩ := I.list hH
  obtain ⟨its2, r2, ⟨⟨cls2, dd2, data2, sl2⟩, n2, e2, hc2, hdd2, hd2⟩, z2⟩ := I.list hB
  simp only at hc hd hc2 hd2
  subst hc hd hc2 hd2
  have l1 := r.length
  have l2 := r2.length
  refine concat_meets ⟨_, e, rfl⟩ ⟨_, e2, rfl⟩ noFill_list_add seq_list_add PySem.F.slot_list_add PySem.F.entry_list_add (PySem.F.args_list_add_2 _ _) (PyProof.Rows.list_addW l b its.toArray its2.toArray n n2 dd dd2 sl sl2 (by rw [List.size_toArray, List.size_toArray]; omega)) ⟨e, e2, ?_⟩
  have ea : its.toArray ++ its2.toArray = (its ++ its2).toArray := by simp
  rw [ea]
  exact ⟨.ref _, _, I.lnew (t' := s.toks) (r.append r2) (by rw [List.length_append]; omega), rfl, q _ I.fresh⟩
section
variable {Y : Cy} {T : Tx} {k : Nat} {N G : List Str} {c : List Slot} {a b e : Expr} {es : List Expr} {pos : Pos} {d d1 d2 : D} {ds es' xs ys : List D} {P : Out → Prop} {rest : List Stmt}
theorem ev_catL (ha : EvD Y a c (.lst xs)) (hb : EvD Y b c (.lst ys)) (hz : xs.length + ys.length ≤ 1000000 := by first | exact of_decide_eq_true rfl | (simp; done)) : EvD Y (.BinOp a .Add b pos) c (.lst (xs ++ ys)) :=
  ev_op2 (t := tC .non) (ta := tC .non) (tb := tC .non) (pe_op op_catS ha hb) fun x y F H Q f rx ry q => by
    obtain ⟨p1, vs, rfl, h1, r1⟩ := inv_lst rx
    obtain ⟨p2, ws, rfl, h2, r2⟩ := inv_lst ry
    exact ⟨p1, p2, vs, ws, rfl, rfl, f.seq h1, f.seq h2, by rw [r1.length, r2.length]; exact small_le hz, fun p hp => q (.ref p) _ _ (Ext.new f hp (.lst (vs ++ ws))) (.lst (SqL.of upd_same) ((r1.append r2).mono (Ext.new f hp _).ff))⟩
/-- a constant of the module: a tuple of ints -/
def CstT (T : Tx) (x : Str) (l : List Int) : Prop := ∃ a, T.mg x = some (.ref a) ∧ ∃ (o : Obj) (its : Array Value) (n : Nat), T.K.lookup a = some o ∧ o.cls = .type "tuple" ∧ o.data = .seq its n ∧ its.size ≤ sizeLine ∧ Vals (l.map V.int) its.toList
theorem ev_cstT (S : Sn Y T N G) (gi : Nat) {x : Str} {l : List Int} (h : CstT T x l) (hg : G[gi]? = some x := by rfl) : EvD Y (.Name x pos) c (.tup (l.map D.int)) := by
  obtain ⟨a, hm, o, its, n, h1, h2, h3, h4, h5⟩ := h
  have gl := S.gl x (List.mem_of_getElem? hg)
  refine PE.imp (pe_glob (v := .ref a) gl.1 (by rw [S.eM]; exact hm) rfl gl.2.1) fun σ H Q ⟨F, E, q⟩ => q _ F H (Ext.refl E.fh) (.tup (.inr ⟨o, its, n, by rw [S.eK]; exact h1, h2, h3, h4, h5⟩) (Reps.ints l))
end
end DL
namespace DL
open PySem L2
theorem bt_ValueError : bootBuiltins "ValueError" = some (.type "ValueError") := by decide +kernel
end DL
namespace DL
open PySem L2
/-! ### defs that may refuse: where they don't; with a default -/
theorem FnX.toD {T : Tx} {k : Nat} {x : Str} {R : List D → Rs → Prop} {R' : List D → D → Prop} (h : FnX T k x R) (i : ∀ ds d, R' ds d → R ds (.ok d)) : FnD T k x R' := by
  obtain ⟨f, fd, ps, hm, hk, hb, F⟩ := h.ex
  have conv : ∀ {vs : List V} {H : Hp} {Q : VK} {E : XK}, spD T.K R' vs H Q E → spX T R vs H Q E0 := fun {vs H Q E} ⟨F0, ds, d, f0, r, hR, q⟩ => ⟨F0, ds, .ok d, f0, r, i ds d hR, q⟩
  refine ⟨f, fd, ps, hm, hk, hb, ⟨fun vs H Q E z => F.len vs H Q E0 (conv z), fun A outer s H args us vs Q E hr he hb hv hs => ?_⟩⟩
  refine codeAny_mono (F.run A outer s H args us vs Q E0 hr he hb hv (conv hs)) fun r s' hq => ?_
  cases r with
  | error e => obtain ⟨_, _, _, _, _, z⟩ := hq; exact z.elim
  | ok fl => cases fl <;> exact hq
structure FnXd (T : Tx) (k : Nat) (x : Str) (i : Int) (R : List D → Rs → Prop) : Prop where
  ex : ∃ (f : Addr) (fd : FuncData) (ps : List Str) (tk : Tok), T.mg x = some (.ref f) ∧ PySem.W.keepIn T.K (.ref f) = true ∧ Binds T.K fd ps [.int i tk] ∧ FnOk T.prog T.w T.K T.mg T.base (CXE T.prog T.w) k f fd ps (spX T R)
end DL

set_option Elab.async false
set_option linter.all false
set_option maxRecDepth 100000
namespace DL
open PySem PySem.Spec PyProof.Rows L2
section
variable {Y : Cy} {T : Tx} {k j : Nat} {N G : List Str} {c : List Slot} {e : Expr} {es : List Expr} {x y : Str} {pos p : Pos}
/-- isinstance with a tuple of our own classes -/
theorem vals_rfsT : ∀ {Cs : List Addr} {its : List Value}, Vals (Cs.map V.ref) its → its = Cs.map Value.ref
  | [], its, h => by cases h; rfl
  | a :: Cs, its, h => by
    cases h with
    | cons h1 h2 =>
      rw [vals_rfsT h2, show _ = Value.ref a from h1]
      rfl
theorem isi_excT {C : Addr} {Cs : List Addr} {v : Bool} (Z : ExcK T.K C) (eK : Y.X.K = T.K) (e2 : PySem.W.kitAny T.K (.ref C) (Cs.map Value.ref) = some v) :
    CallR Y.X (.builtin "isinstance") (fun xs H Q => ∃ a b, xs = [.ref a, .ref b] ∧ H a = some (.ext (ExcAt C a)) ∧ H b = some (.tup (Cs.map V.ref)) ∧ Q (.bl v) H) := by
  intro pins s σ H xs us Q I r h
  obtain ⟨a, b, rfl, hH, hb, q⟩ := h
  obtain ⟨u, w', rfl, r1, r2⟩ := vals2 r
  cases (show u = Value.ref a from r1)
  cases (show w' = Value.ref b from r2)
  have ok : ObjOk Y.X.prog Y.X.w H s.heap a (.ext (ExcAt C a)) := I.hok a _ hH
  obtain ⟨_, its, r3, ob, g1, g2, n, g3⟩ := (show ObjOk Y.X.prog Y.X.w H s.heap b (.tup (Cs.map V.ref)) from I.hok b _ hb)
  have Z' : ExcK Y.X.K C := by rw [eK]; exact Z
  cases vals_rfsT r3
  obtain ⟨oc, od, oda, os⟩ := ob
  cases g2
  cases g3
  exact PySem.W.kia_tup (kitx_exc Z') I.kIn ok.1 g1 (by rw [eK]; exact e2) (fun z => nomatch z) fun tk => ⟨.bl v, H, I.tok tk, rfl, q⟩
/-- names of our own classes -/
def GlA (Y : Cy) (es : List Expr) (Cs : List Addr) : Prop := ∃ t : TA, PA Y.X es t ∧ ∀ σ H (Q : List V → Hp → Prop), Q (Cs.map V.ref) H → t σ H Q
theorem gla_nil : GlA Y [] [] := ⟨tNil, pa_nil, fun _ _ _ q => q⟩
theorem gla_cons (S : Sn Y T N G) (gj : Nat) {C' : Addr} {Cs : List Addr} {pn : Pos} (hm2 : T.mg y = some (.ref C')) (h : GlA Y es Cs) (hg : G[gj]? = some y := by rfl)
    (hst : starEach (.Name y pn :: es) Y.X.env = (false, eval (.Name y pn) Y.X.env) :: starEach es Y.X.env := by rfl) : GlA Y (.Name y pn :: es) (C' :: Cs) := by
  obtain ⟨t, h1, h2⟩ := h
  have gl2 := S.gl _ (List.mem_of_getElem? hg)
  exact ⟨_, pa_cons (pe_glob (v := .ref C') gl2.1 (by rw [S.eM]; exact hm2) rfl gl2.2.1) h1 hst, fun σ H Q q => h2 σ H _ q⟩
theorem any_nil {K : PySem.W.Frag} {t : Value} : PySem.W.kitAny K t (([] : List Addr).map Value.ref) = some false := rfl
theorem any_f {K : PySem.W.Frag} {t : Value} {C : Addr} {Cs : List Addr} {v : Bool} (h : PySem.W.kitOne K t (.ref C) = some false) (r : PySem.W.kitAny K t (Cs.map Value.ref) = some v) : PySem.W.kitAny K t ((C :: Cs).map Value.ref) = some v := by
  show PySem.W.kitAny K t (.ref C :: Cs.map Value.ref) = some v
  unfold PySem.W.kitAny
  rw [h]
  exact r
theorem ev_isXT (S : Sn Y T N G) (i gi : Nat) {z : Str} {C : Addr} {Cs : List Addr} {v : Bool} {pz pt : Pos} {x1} (hs : slot c i = .exc C) (Z : ExcK T.K C) (h : GlA Y es Cs) (hl : Cs.length ≤ 1000) (e2 : PySem.W.kitAny T.K (.ref C) (Cs.map Value.ref) = some v) (hm : T.mg "isinstance" = none)
    (hi : N[i]? = some z := by rfl) (hg : G[gi]? = some ("isinstance" : Str) := by rfl)
    (hst : starEach [.Name z pz, .Tuple es x1 pt] Y.X.env = (false, eval (.Name z pz) Y.X.env) :: starEach [.Tuple es x1 pt] Y.X.env := by rfl) (hst2 : starEach [.Tuple es x1 pt] Y.X.env = (false, eval (.Tuple es x1 pt) Y.X.env) :: starEach [] Y.X.env := by rfl) :
    EvD Y (.Call (.Name "isinstance" p) [.Name z pz, .Tuple es x1 pt] [] pos) c (.bl v) := by
  have gl := S.gl _ (List.mem_of_getElem? hg)
  obtain ⟨t, h1, h2⟩ := h
  refine PE.imp (pe_callB (isi_excT Z S.eK e2) gl.1 (by rw [S.eM]; exact hm) bt_isinstance (pa_cons (pe_exc S i hi hs) (pa_cons (pe_tup h1) pa_nil hst2) hst) gl.2.2 gl.2.1 hst rfl) fun σ H Q ⟨F, E, q⟩ => ⟨F, E, fun a ha => ?_⟩
  refine h2 σ H _ ⟨by rw [List.length_map]; exact small_le (by omega), fun b hb => ?_⟩
  have ne : a ≠ b := fun w => by rw [w, hb] at ha; cases ha
  exact ⟨a, b, rfl, by rw [upd_ne ne]; exact ha, upd_same, q _ _ _ (Ext.new E.fh hb (.tup _)) (.bl v)⟩
/-- an if without an else, the ways behind it in one -/
def Jn (J : List Slot → Prop) (P : Out → Prop) : Out → Prop
  | .nx c => J c
  | o => P o
theorem ss_ifJ {t : Expr} {sa rest : List Stmt} {v : Bool} {P : Out → Prop} (J : List Slot → Prop) (ht : TeD Y t c v) (ha : v = true → SsD Y sa c (Jn J P)) (hb : v = false → J c) (hr : ∀ c', J c' → SsD Y rest c' P) : SsD Y (.If t sa [] pos :: rest) c P := by
  refine ss_if ht (fun h => PSs.imp (ha h) fun D σ H ⟨F, E, m⟩ => ⟨F, E, fun o ho => m o ?_⟩) (fun h => ss_nil (hr c (hb h)))
  cases o with
  | nx c' => exact hr c' ho
  | rt d => exact ho
  | bk c' => exact ho
  | ct c' => exact ho
  | ro ds => exact ho
  | rs R => exact ho
end
end DL

set_option Elab.async false
set_option linter.all false
set_option maxRecDepth 100000
namespace DL
open PySem L2
section
variable {Y : Cy} {T : Tx} {k j : Nat} {N G : List Str} {c c' c'' : List Slot} {a b e tg : Expr} {es : List Expr} {pos p : Pos} {rest : List Stmt} {P : Out → Prop} {d d1 d2 d3 : D} {ds : List D} {R : List D → D → Prop} {x : Str}
end

section
variable {Y : Cy} {T : Tx} {k j : Nat} {N G : List Str} {c c' c'' : List Slot} {a b e tg : Expr} {es : List Expr} {pos p : Pos} {rest : List Stmt} {P : Out → Prop} {d d1 d2 d3 : D} {ds : List D} {R : List D → D → Prop} {x : Str}
/-! targets in a row -/
/-! a list taken apart -/
/-! a, b = x, y -/
theorem swap_at {env : PySem.Env} {sc : Scope} {ts : List Expr} {v : Expr} {r : Sem (Option (List Str))} (h : env.scope = sc) (hs : ∀ env : PySem.Env, swappedStores ts v { env with scope := sc } = r) : swappedStores ts v env = r := by
  subst h
  exact hs env
theorem ss_par (S : Sc Y T k N G) (i j : Nat) {x y : Str} {px py pt pt2 : Pos} {kt k2 : Nat} (ha : ArD Y [a, b] c [d1, d2]) (hx : Y.X.env.scope.names.lookup x = some .local) (hy : Y.X.env.scope.names.lookup y = some .local)
    (hw : swappedStores [.Tuple [.Name x px, .Name y py] kt pt] (.Tuple [a, b] k2 pt2) Y.X.env = pure (some [x, y])) (hr : SsD Y rest (put (put c i (.val d1)) j (.val d2)) P) (hij : i ≠ j := by decide) (hi : N[i]? = some x := by rfl) (hj : N[j]? = some y := by rfl)
    (hlt : i < c.length := by first | exact of_decide_eq_true rfl | decide | omega) (hlt2 : j < c.length := by first | exact of_decide_eq_true rfl | decide | omega)
    (hs : swapsWithSole [.Tuple [.Name x px, .Name y py] kt pt] (.Tuple [a, b] k2 pt2) pos.line Y.X.env = pure false := by rfl) : SsD Y (.Assign [.Tuple [.Name x px, .Name y py] kt pt] (.Tuple [a, b] k2 pt2) pos :: rest) c P := by
  have hN := S.nd
  rw [← S.n] at hi hj hN
  refine ss_cons (PS.imp (ps_par S.calm hN hi hj hij hx hy ha hw hs) fun D σ H ⟨F, E, m⟩ => ⟨F, E, fun vs F' H' e' r' => ?_⟩)
  obtain ⟨v1, v2, rfl, r1, r2⟩ := inv2 r'
  exact ⟨v1, v2, rfl, m (.nx _) hr _ F' H' e'.ff (((E.grow e').set hlt r1).set (by rw [put_length]; exact hlt2) r2)⟩
/-! a list comprehension without a test -/
theorem ev_lto {xs ys : List D} (h : EvD Y e c (.lst xs)) (he : xs = ys) : EvD Y e c (.lst ys) := he ▸ h
/-! tuple(list) -/
/-! min(list) -/
/-! all -/
end
end DL

set_option Elab.async false
set_option linter.all false
set_option maxRecDepth 100000
namespace DL
open PySem
section
variable {prog : Program} {w : World} {A : Around} {E : Value → Shared → Prop} {s : Shared}
/-- the zip at z, ready: its two iterators i1 and i2 stand in the pair at U, what it handed out in the pair at V -/
structure ZipT (g : Heap) (z U V i1 i2 t1 t2 : Addr) (k : Nat) (f : Value) : Prop where
  zz : IsZip g z U V f
  uu : IsPair g U (.ref i1) (.ref i2)
  vv : ∃ a b, IsPair g V a b
  j1 : g.IsTupleIter i1 t1 k
  j2 : g.IsTupleIter i2 t2 k
/-- five places, all apart -/
structure Five (z U V i1 i2 : Addr) : Prop where
  uz : U ≠ z
  vz : V ≠ z
  az : i1 ≠ z
  bz : i2 ≠ z
  uv : U ≠ V
  ua : U ≠ i1
  ub : U ≠ i2
  va : V ≠ i1
  vb : V ≠ i2
  ab : i1 ≠ i2
end
end DL

namespace DL
open PySem L2
section
variable {Y : Cy} {T : Tx} {k : Nat} {N G : List Str} {c : List Slot} {a b : Expr} {pos : Pos} {xs ys : List D}
end
end DL

set_option Elab.async false
set_option linter.all false
set_option maxRecDepth 100000
namespace DL
open PySem L2
/-! lists of our own, that are written -/
section
variable {K : PySem.W.Frag} {F₀ H₀ F H : Hp} {σ : St} {c : List Slot} {i : Nat} {a p : Addr} {vs : List V} {ds : List D}
theorem none_of {F H : Hp} {p : Addr} (s : Same F H) (h : H p = none) : F p = none := by
  cases q : F p with
  | none => rfl
  | some o => rw [s p o q] at h; cases h
theorem Env.own_new (E : Env K F₀ H₀ F H σ c) (hi : i < c.length) (hp : H p = none) (r : Reps K F vs ds) : Env K F₀ H₀ F (upd H p (.lst vs)) (σ.set i (some (.ref p))) (put c i (.own ds)) where
  ext := ⟨E.ext.ff, fun b u q => by rw [upd_ne (ne_of_none (E.ext.fh b u q) hp)]; exact E.ext.fh b u q, fun b u q => by rw [upd_ne (ne_of_none (E.ext.hh b u q) hp)]; exact E.ext.hh b u q, E.ext.fr⟩
  len := by rw [List.length_set, put_length]; exact E.len
  sl := fun j => by
    by_cases e : i = j
    · subst e
      rw [slot_put _ _ _ hi, List.getElem?_set_self (by rw [E.len]; exact hi)]
      exact ⟨p, vs, rfl, upd_same, none_of E.ext.fh hp, none_of E.ext.hh hp, r⟩
    · rw [slot_put_ne _ _ _ _ e, List.getElem?_set_ne e]
      have q := E.sl j
      generalize slot c j = s at q ⊢
      cases s with
      | un => trivial
      | val d => exact q
      | own ds' => obtain ⟨b, ws, h, h1, h2, h3, r'⟩ := q; exact ⟨b, ws, h, by rw [upd_ne (ne_of_none h1 hp)]; exact h1, h2, h3, r'⟩
      | dic ds' => obtain ⟨b, ws, h, h1, h2, h3, r'⟩ := q; exact ⟨b, ws, h, by rw [upd_ne (ne_of_none h1 hp)]; exact h1, h2, h3, r'⟩
      | thg ds' => obtain ⟨b, ws, h, h1, h2, h3, r'⟩ := q; exact ⟨b, ws, h, by rw [upd_ne (ne_of_none h1 hp)]; exact h1, h2, h3, r'⟩
      | bor t => exact q
      | exc C => obtain ⟨b, h, h1⟩ := q; exact ⟨b, h, by rw [upd_ne (ne_of_none h1 hp)]; exact h1⟩
  inj := by
    have key : ∀ k, i ≠ k → isOwn (slot c k) = true → σ[k]? = some (some (V.ref p)) → False := fun k hk h2 h4 => by
      have q := E.sl k
      cases hs : slot c k with
      | own ds' =>
        rw [hs] at q
        obtain ⟨b, ws, h, h1, _⟩ := q
        rw [h4] at h
        cases h
        rw [hp] at h1
        cases h1
      | dic ds' =>
        rw [hs] at q
        obtain ⟨b, ws, h, h1, _⟩ := q
        rw [h4] at h
        cases h
        rw [hp] at h1
        cases h1
      | thg ds' =>
        rw [hs] at q
        obtain ⟨b, ws, h, h1, _⟩ := q
        rw [h4] at h
        cases h
        rw [hp] at h1
        cases h1
      | bor t => rw [hs] at h2; cases h2
      | un => rw [hs] at h2; cases h2
      | val d => rw [hs] at h2; cases h2
      | exc C => rw [hs] at h2; cases h2
    intro j k b h1 h2 h3 h4
    by_cases e : i = j
    · subst e
      by_cases e2 : i = k
      · exact e2
      · rw [List.getElem?_set_self (by rw [E.len]; exact hi)] at h3
        cases h3
        rw [List.getElem?_set_ne e2] at h4
        rw [slot_put_ne _ _ _ _ e2] at h2
        exact (key k e2 h2 h4).elim
    · by_cases e2 : i = k
      · subst e2
        rw [List.getElem?_set_self (by rw [E.len]; exact hi)] at h4
        cases h4
        rw [List.getElem?_set_ne e] at h3
        rw [slot_put_ne _ _ _ _ e] at h1
        exact (key j e h1 h3).elim
      · rw [slot_put_ne _ _ _ _ e] at h1
        rw [slot_put_ne _ _ _ _ e2] at h2
        rw [List.getElem?_set_ne e] at h3
        rw [List.getElem?_set_ne e2] at h4
        exact E.inj j k b h1 h2 h3 h4
theorem Env.own_at (E : Env K F₀ H₀ F H σ c) (hs : slot c i = .own ds) : ∃ a vs, σ[i]? = some (some (.ref a)) ∧ H a = some (.lst vs) ∧ F a = none ∧ H₀ a = none ∧ Reps K F vs ds := by
  have q := E.sl i
  rw [hs] at q
  exact q
theorem own_lt : ∀ {c : List Slot} {i : Nat} {ds : List D}, slot c i = .own ds → i < c.length
  | [], _, _, h => by cases h
  | _ :: _, 0, _, _ => by simp
  | _ :: r, i + 1, _, h => by simpa using own_lt (c := r) (i := i) h
theorem Env.own_set (E : Env K F₀ H₀ F H σ c) {ds' : List D} {vs' ws : List V} (hs : slot c i = .own ds) (hσ : σ[i]? = some (some (.ref a))) (h1 : H a = some (.lst ws)) (h2 : F a = none) (h3 : H₀ a = none) (r : Reps K F vs' ds') :
    Env K F₀ H₀ F (upd H a (.lst vs')) σ (put c i (.own ds')) where
  ext := ⟨E.ext.ff, fun b u q => by rw [upd_ne (ne_of_none q h2)]; exact E.ext.fh b u q, fun b u q => by rw [upd_ne (ne_of_none q h3)]; exact E.ext.hh b u q, E.ext.fr⟩
  len := by rw [put_length]; exact E.len
  sl := fun j => by
    by_cases e : i = j
    · subst e
      rw [slot_put _ _ _ (own_lt hs)]
      exact ⟨a, vs', hσ, upd_same, h2, h3, r⟩
    · rw [slot_put_ne _ _ _ _ e]
      have q := E.sl j
      cases hj : slot c j with
      | un => trivial
      | val d => rw [hj] at q; exact q
      | own ds2 =>
        rw [hj] at q
        obtain ⟨b, us, h, g1, g2, g3, r'⟩ := q
        have hb : b ≠ a := fun z => e (E.inj i j a (by rw [hs]; rfl) (by rw [hj]; rfl) hσ (by rw [← z]; exact h))
        exact ⟨b, us, h, by rw [upd_ne hb]; exact g1, g2, g3, r'⟩
      | dic ds2 =>
        rw [hj] at q
        obtain ⟨b, us, h, g1, g2, g3, r'⟩ := q
        have hb : b ≠ a := fun z => e (E.inj i j a (by rw [hs]; rfl) (by rw [hj]; rfl) hσ (by rw [← z]; exact h))
        exact ⟨b, us, h, by rw [upd_ne hb]; exact g1, g2, g3, r'⟩
      | thg ds2 =>
        rw [hj] at q
        obtain ⟨b, us, h, g1, g2, g3, r'⟩ := q
        have hb : b ≠ a := fun z => e (E.inj i j a (by rw [hs]; rfl) (by rw [hj]; rfl) hσ (by rw [← z]; exact h))
        exact ⟨b, us, h, by rw [upd_ne hb]; exact g1, g2, g3, r'⟩
      | bor t => rw [hj] at q; exact q
      | exc C =>
        rw [hj] at q
        obtain ⟨b, h, g1⟩ := q
        have hb : b ≠ a := fun z => by rw [z, h1] at g1; cases g1
        exact ⟨b, h, by rw [upd_ne hb]; exact g1⟩
  inj := fun j k b h1 h2 h3 h4 => by
    have own : ∀ l, isOwn (slot (put c i (.own ds')) l) = true → isOwn (slot c l) = true := fun l hl => by
      by_cases e : i = l
      · subst e; rw [hs]; rfl
      · rw [slot_put_ne _ _ _ _ e] at hl; exact hl
    exact E.inj j k b (own j h1) (own k h2) h3 h4
theorem Env.freeze (E : Env K F₀ H₀ F H σ c) (hs : slot c i = .own ds) : ∃ F', Same F F' ∧ Env K F₀ H₀ F' H σ (put c i (.val (.lst ds))) := by
  obtain ⟨a, vs, hσ, h1, h2, h3, r⟩ := E.own_at hs
  have sm : Same F (upd F a (.lst vs)) := fun b u q => by rw [upd_ne (ne_of_none q h2)]; exact q
  refine ⟨upd F a (.lst vs), sm, ⟨E.ext.ff.trans sm, fun b u q => ?_, E.ext.hh, fun b hb fb => ?_⟩, by rw [put_length]; exact E.len, fun j => ?_, fun j k b q1 q2 q3 q4 => ?_⟩
  · by_cases e : b = a
    · subst e; rw [upd_same] at q; cases q; exact h1
    · rw [upd_ne e] at q; exact E.ext.fh b u q
  · by_cases e : b = a
    · subst e; exact absurd h3 hb
    · rw [upd_ne e]; exact E.ext.fr b hb fb
  · by_cases e : i = j
    · subst e
      rw [slot_put _ _ _ (own_lt hs)]
      exact ⟨.ref a, hσ, .lst (SqL.of upd_same) (r.mono sm)⟩
    · rw [slot_put_ne _ _ _ _ e]
      have q := E.sl j
      cases hj : slot c j with
      | un => trivial
      | val d => rw [hj] at q; obtain ⟨x, h, r'⟩ := q; exact ⟨x, h, r'.mono sm⟩
      | own ds2 =>
        rw [hj] at q
        obtain ⟨b, us, h, g1, g2, g3, r'⟩ := q
        have hb : b ≠ a := fun z => e (E.inj i j a (by rw [hs]; rfl) (by rw [hj]; rfl) hσ (by rw [← z]; exact h))
        exact ⟨b, us, h, g1, by rw [upd_ne hb]; exact g2, g3, r'.mono sm⟩
      | dic ds2 =>
        rw [hj] at q
        obtain ⟨b, us, h, g1, g2, g3, r'⟩ := q
        have hb : b ≠ a := fun z => e (E.inj i j a (by rw [hs]; rfl) (by rw [hj]; rfl) hσ (by rw [← z]; exact h))
        exact ⟨b, us, h, g1, by rw [upd_ne hb]; exact g2, g3, r'.mono sm⟩
      | thg ds2 =>
        rw [hj] at q
        obtain ⟨b, us, h, g1, g2, g3, r'⟩ := q
        have hb : b ≠ a := fun z => e (E.inj i j a (by rw [hs]; rfl) (by rw [hj]; rfl) hσ (by rw [← z]; exact h))
        exact ⟨b, us, h, g1, by rw [upd_ne hb]; exact g2, g3, r'.mono sm⟩
      | bor t => rw [hj] at q; obtain ⟨b, o, h, g1, r2⟩ := q; exact ⟨b, o, h, g1, r2.mono sm⟩
      | exc C => rw [hj] at q; exact q
  · have own : ∀ l, isOwn (slot (put c i (.val (.lst ds))) l) = true → isOwn (slot c l) = true := fun l hl => by
      by_cases e : i = l
      · subst e; rw [hs]; rfl
      · rw [slot_put_ne _ _ _ _ e] at hl; exact hl
    exact E.inj j k b (own j q1) (own k q2) q3 q4
end
section
variable {Y : Cy} {T : Tx} {k : Nat} {N G : List Str} {c : List Slot} {a b e : Expr} {es : List Expr} {pos p1 p2 p3 : Pos} {rest : List Stmt} {P : Out → Prop} {d : D} {ds : List D} {x : Str}
/-- e makes a new list -/
def OwD (Y : Cy) (e : Expr) (c : List Slot) (ds : List D) : Prop := PE Y.X e fun σ H Q => ∃ F, EnvY Y F H σ c ∧ ∀ vs F1 H1 p, Ext F H F1 H1 → Reps Y.X.K F1 vs ds → H1 p = none → Q (.ref p) (upd H1 p (.lst vs))
theorem ow_lst (h : ArD Y es c ds) (hz : ds.length ≤ 1000000 := by first | exact of_decide_eq_true rfl | (simp; done)) : OwD Y (.List es p2) c ds :=
  PE.imp (pe_lst h) fun σ H Q ⟨F, E, q⟩ => ⟨F, E, fun vs F1 H1 e1 r1 => ⟨by rw [r1.length]; exact small_le hz, fun p hp => q vs F1 H1 p e1 r1 hp⟩⟩
/-- x = [..]: a list of our own -/
theorem ss_own (S : Sc Y T k N G) (i : Nat) {y : Str} {pos' : Pos} (h : OwD Y e c ds) (hr : SsD Y rest (put c i (.own ds)) P) (hi : N[i]? = some y := by rfl)
    (hlt : i < c.length := by first | exact of_decide_eq_true rfl | decide | omega) (hs : swapsWith e (some (.Name y pos')) pos.line Y.X.env = pure false := by rfl) : SsD Y (.Assign [.Name y pos'] e pos :: rest) c P := by
  have hx := S.loc y (List.mem_of_getElem? hi)
  have hN := S.nd
  rw [← S.n] at hi hN
  refine ss_cons (PS.imp (ps_set hN hi hx.1 h hs (.inl (S.fn y))) fun D σ H ⟨F, E, m⟩ => ⟨F, E, fun vs F1 H1 p e1 r1 hp => ?_⟩)
  exact m (.nx _) hr _ F1 _ e1.ff ((E.grow e1).own_new hlt hp r1)
/-- our own list is no longer written -/
theorem ss_freeze {sts : List Stmt} (i : Nat) (hs : slot c i = .own ds) (h : SsD Y sts (put c i (.val (.lst ds))) P) : SsD Y sts c P :=
  PSs.imp h fun D σ H ⟨F, E, m⟩ => by
    obtain ⟨F', sm, E'⟩ := E.freeze hs
    exact ⟨F', E', fun o ho => (m o ho).grow sm⟩
/-! max(list), sum(list) -/
end
end DL

set_option Elab.async false
set_option linter.all false
set_option maxRecDepth 100000
namespace DL
open PySem L2
section
variable {Y : Cy} {T : Tx} {k : Nat} {N G : List Str} {c : List Slot} {tg iter elt : Expr} {ifs : List Expr} {pos p1 p2 : Pos} {rest : List Stmt} {P : Out → Prop} {ds items : List D} {x : Str} {tn fs G' : List Str} {ix : List Nat} {scope osc : Scope}
theorem swapC_at {env : PySem.Env} {sc : Scope} {v : Expr} {t : Option Expr} {n : Nat} {r : Sem Bool} (h : env.scope = sc) (hs : ∀ env : PySem.Env, swapsWith v t n { env with scope := sc } = r) : swapsWith v t n env = r := by
  subst h
  exact hs env
/-- x = [.. for ..]: the list is stored ahead of the comprehension's own names' end -/
theorem ss_setC (S : Sc Y T k N G) (i : Nat) (hsc : Y.X.env.scope = osc) (B : CmB N tn fs ix G' scope osc) (hi : ItD Y tg iter c items)
    (rs : List (Option D)) (hlen : rs.length = items.length) (hz : rs.length ≤ 100000)
    (turn : ∀ (Y' : Cy) (S' : Se Y' T k (tn ++ fs) G'), (∀ x ∈ tn, Y'.X.env.scope.names.lookup x = some .local) → ∀ (m : Nat) (d : D) (r : Option D), items[m]? = some d → rs[m]? = some r → ∀ ts : List Slot, ts.length = tn.length →
      ∃ ts' : List Slot, ts'.length = tn.length ∧ ts'.all (fun s => !isOwn s) = true ∧ TgD Y' tg d (ts ++ ix.map fun i => capS (slot c i)) (ts' ++ ix.map fun i => capS (slot c i)) ∧ (match r with
        | some e => TsD Y' ifs (ts' ++ ix.map fun i => capS (slot c i)) true ∧ EvD Y' elt (ts' ++ ix.map fun i => capS (slot c i)) e
        | none => TsD Y' ifs (ts' ++ ix.map fun i => capS (slot c i)) false))
    (hw : swapsWith (.ListComp elt [⟨tg, iter, ifs, 0⟩] scope p2) (some (.Name x p1)) pos.line Y.X.env = pure true)
    (hr : SsD Y rest (put c i (.val (.lst (rs.filterMap id)))) P)
    (hs : ∀ x, foldedSetIterable iter Y.X.env x = pure x := by intro _; rfl) (hix : N[i]? = some x := by rfl) (hlt : i < c.length := by first | exact of_decide_eq_true rfl | decide | omega) :
    SsD Y (.Assign [.Name x p1] (.ListComp elt [⟨tg, iter, ifs, 0⟩] scope p2) pos :: rest) c P := by
  have hx := S.loc x (List.mem_of_getElem? hix)
  have hN := S.nd
  rw [← S.n] at hix hN
  refine ss_cons fun pins s σ H D I ⟨F, E, m⟩ => ?_
  rw [exec_Assign_Name_used _ _ _ _ hw]
  refine wpAny_bind (wpAny_standAt (wpAny_bind ?_))
  rw [arm_evalThenUse_ListComp]
  refine wpAny_bind (wpAny_mono (comp_core (pos := p2) S.toSe hsc B hi rs hlen hz turn hs I E (use := some (assign (.Name x p1) Y.X.env)) (Qv := fun _ s3 => SP Y.X pins D .next s3) (fun D' C s' mm F' H' hn fp hI ex r => ?_)) (fun _ s3 q => wpAny_pure (wpAny_pure q)) fun _ _ q => q)
  have I1 : Inv Y.X pins σ H' s' := hI s'.heap (Heap.SameBut.refl ..)
  obtain ⟨o, es, ep, ho, r'⟩ := id hn
  have I2 : Inv Y.X (pins ++ [(C, o)]) σ H' s' := I1.pins_of fun q hq => by
    rcases List.mem_append.mp hq with hq | hq
    · have := I1.pin q (List.mem_append_right _ hq)
      exact this
    · have : q = (C, o) := by simpa using hq
      subst this
      exact ⟨ho, fp.1, fp.2.1, fp.2.2.1, fun v z => by rw [r'.1] at z; cases z⟩
  show wpAny _ _ (do standAt p1; bindName Y.X.env x (.ref D')) _ _ s'
  refine wpAny_bind (wpAny_standAt (wpAny_bindName (store_ok I2 hN hix hx.1 (show RelV (.ref D') (.ref D') from rfl) (fun s2 I3 => ?_) (.inl (S.fn x)))))
  have hp := I3.pin (C, o) (by simp)
  refine ⟨mm, ⟨o, es, ep, hp.1, r'⟩, fun h' hs' => ?_⟩
  have I3' : Inv Y.X pins (σ.set i (some (.ref D'))) H' s2 := I3.pins_of fun q hq => I3.pin q (List.mem_append_right _ (List.mem_append_left _ hq))
  have I4 : Inv Y.X pins (σ.set i (some (.ref D'))) H' { s2 with heap := h' } := I3'.turned (it := C) (t' := s2.toks) (fun b o hb e => (hs'.2 b hb).trans e) fp.1 fp.2.1 fp.2.2.2.1 fp.2.2.2.2.1 fp.2.2.2.2.2
  exact ⟨_, H', I4, m (.nx _) hr _ F' H' ex.ff ((E.grow ex).set hlt r)⟩
/-- .. without a test -/
theorem ss_setCM (S : Sc Y T k N G) (i : Nat) (hsc : Y.X.env.scope = osc) (B : CmB N tn fs ix G' scope osc) (hi : ItD Y tg iter c items)
    (hlen : ds.length = items.length) (hz : ds.length ≤ 100000)
    (turn : ∀ (Y' : Cy) (S' : Se Y' T k (tn ++ fs) G'), (∀ x ∈ tn, Y'.X.env.scope.names.lookup x = some .local) → ∀ (m : Nat) (d r : D), items[m]? = some d → ds[m]? = some r → ∀ ts : List Slot, ts.length = tn.length →
      ∃ ts' : List Slot, ts'.length = tn.length ∧ ts'.all (fun s => !isOwn s) = true ∧ TgD Y' tg d (ts ++ ix.map fun i => capS (slot c i)) (ts' ++ ix.map fun i => capS (slot c i)) ∧ EvD Y' elt (ts' ++ ix.map fun i => capS (slot c i)) r)
    (hw : swapsWith (.ListComp elt [⟨tg, iter, [], 0⟩] scope p2) (some (.Name x p1)) pos.line Y.X.env = pure true)
    (hr : SsD Y rest (put c i (.val (.lst ds))) P)
    (hs : ∀ x, foldedSetIterable iter Y.X.env x = pure x := by intro _; rfl) (hix : N[i]? = some x := by rfl) (hlt : i < c.length := by first | exact of_decide_eq_true rfl | decide | omega) :
    SsD Y (.Assign [.Name x p1] (.ListComp elt [⟨tg, iter, [], 0⟩] scope p2) pos :: rest) c P := by
  have e : (ds.map some).filterMap id = ds := by rw [List.filterMap_map]; simp
  refine ss_setC S i hsc B hi (ds.map some) (by rw [List.length_map]; exact hlen) (by rw [List.length_map]; exact hz) (fun Y' S' hl m d r hd hr ts hts => ?_) hw (by rw [e]; exact hr) hs hix hlt
  rw [List.getElem?_map] at hr
  cases hq : ds[m]? with
  | none => rw [hq] at hr; cases hr
  | some q =>
    rw [hq] at hr
    cases hr
    obtain ⟨ts', h1, h2, h3, h4⟩ := turn Y' S' hl m d q hd hq ts hts
    exact ⟨ts', h1, h2, h3, rfl, h4⟩
end
end DL

set_option Elab.async false
set_option linter.all false
set_option maxRecDepth 100000
namespace DL
open PySem L2
/-! ### sorted(list of whole numbers) -/
section
variable {Y : Cy} {T : Tx} {k : Nat} {N G : List Str} {c : List Slot} {e : Expr} {pos : Pos}
end
end DL

set_option Elab.async false
set_option linter.all false
set_option maxRecDepth 100000
namespace DMX
open PySem PySem.Spec PyProof.Rows L2
section
open PySem.SeqAt
open PySem.AutoSeq1 (wpAny_loadPart')
open PySem.MeetsSeq PySem.MeetsSeq2 PySem.MeetsSeq3
end
end DMX
namespace DL
open PySem L2
/-! ### max of a list of tuples (whole number, thing): two of them have unlike first numbers, or are alike -/
section
variable {prog : Program} {w : World} {A : Around} {R : Result → Shared → Prop} {it S : Addr} {fp wr : List Addr} {n : Nat} {P : Nat → Value → Prop} {St : Nat → Heap → Prop} {bt : Nat → Nat → Bool} {h₀ : Heap}
end
section
variable {Y : Cy} {T : Tx} {k : Nat} {N G : List Str} {c : List Slot} {e : Expr} {pos : Pos}
end
end DL

set_option Elab.async false
set_option linter.all false
set_option maxRecDepth 100000
namespace DL
open PySem L2
/-! ### texts -/
def tx (l : List Nat) : Str := ⟨l.toArray⟩
section
variable {Y : Cy} {T : Tx} {k : Nat} {N G : List Str} {c : List Slot} {a b e : Expr} {es : List Expr} {pos p2 : Pos} {d d1 d2 : D} {ds : List D} {x y : Str} {P : Out → Prop} {rest : List Stmt}
/-! f-strings -/
inductive FvK | int (i : Int) | str (x : Str) | rep (x : Str)
theorem fv_int {i : Int} (h : EvD Y e c (.int i)) (hz : i.natAbs.log2 < 1920) : EvD Y (.FormattedValue e (-1) none pos) c (.str (toString i)) := by
  intro pins s σ H Q I ⟨F, E, q⟩
  refine wpAny_FormattedValue_plain (thn (h pins s σ H (fun v H1 => v = .int i ∧ ∃ F1, Ext F H F1 H1) I ⟨F, E, fun v F1 H1 e1 r1 => ⟨inv_int r1, F1, e1⟩⟩) fun u s1 ⟨v, H1, I1, r1, ev, F1, e1⟩ => ?_)
  subst ev
  obtain ⟨t, rfl⟩ := r1
  exact wpAny_formatField_int hz ⟨.str _, H1, I1.tok _, ⟨_, rfl⟩, q _ F1 H1 e1 (.str _)⟩
/-- the parts of an f-string, from the left -/
def JsD (Y : Cy) (es : List Expr) (c : List Slot) (acc z : Str) : Prop := ∀ (pins : List (Addr × Obj)) (s : Shared) (σ : St) (F H : Hp) (Q : Str → Shared → Prop), Inv Y.X pins σ H s → EnvY Y F H σ c →
  (∀ s' F' H', Ext F H F' H' → Inv Y.X pins σ H' s' → Q z s') → Joins (model Y.X.prog Y.X.w) Y.X.A Y.X.xe (evalEach es Y.X.env) acc Q s
theorem js_nil {acc : Str} : JsD Y [] c acc acc := fun pins s σ F H Q I E q => q s F H (Ext.refl E.fh) I
theorem js_cons {acc z : Str} (h : EvD Y e c (.str x)) (hz : (acc ++ x).length ≤ 1000000) (hr : JsD Y es c (acc ++ x) z) (he : evalEach (e :: es) Y.X.env = eval e Y.X.env :: evalEach es Y.X.env := by rfl) : JsD Y (e :: es) c acc z := by
  intro pins s σ F H Q I E q
  rw [he]
  refine thn (h pins s σ H (fun v H1 => v = .str x ∧ ∃ F1, Ext F H F1 H1) I ⟨F, E, fun v F1 H1 e1 r1 => ⟨inv_str r1, F1, e1⟩⟩) fun u s1 ⟨v, H1, I1, r1, ev, F1, e1⟩ => ?_
  subst ev
  obtain ⟨t, rfl⟩ := r1
  exact ⟨x, t, rfl, small_le hz, hr pins s1 σ F1 H1 Q I1 (E.grow e1) fun s' F' H' e' I' => q s' F' H' (e1.trans e') I'⟩
theorem ev_js {z : Str} {e1 e2 : Expr} (h : JsD Y (e1 :: e2 :: es) c Str.empty z) (hz : z.length ≤ 1000000) : EvD Y (.JoinedStr (e1 :: e2 :: es) pos) c (.str z) := by
  intro pins s σ H Q I ⟨F, E, q⟩
  exact wpAny_JoinedStr (h pins s σ F H _ I E fun s' F' H' e' I' => ⟨small_le hz, .str z, H', I'.tok _, ⟨_, rfl⟩, q _ F' H' e' (.str _)⟩)
end
end DL

set_option Elab.async false
set_option linter.all false
set_option maxRecDepth 100000
namespace DL
open PySem L2
/-! ### n.bit_length() -/
def bits (a : Int) : Nat := Builtin.Int.intBits a
section
variable {Y : Cy} {c : List Slot} {a : Expr} {pos apos : Pos}
end
end DL

set_option Elab.async false
set_option linter.all false
set_option maxRecDepth 100000
/-! ### sorted(list of spots): the order is told by the spots alone -/
namespace DGX
open PySem PySem.Spec PySem.W PyProof.Rows
/-- how a sort goes if the answers are these -/
def runP {α : Type} (lt : Nat → Nat → Bool) : KasT α → α
  | .ret a => a
  | .ask i j k => runP lt (k (lt i j))
def AskOk {α : Type} (n : Nat) : KasT α → (α → Prop) → Prop
  | .ret a, R => R a
  | .ask i j k, R => i < n ∧ j < n ∧ ∀ b, AskOk n (k b) R
theorem ask_bind {α β : Type} {n : Nat} {f : α → KasT β} {R : β → Prop} {R' : α → Prop} (hf : ∀ a, R' a → AskOk n (f a) R) : ∀ t : KasT α, AskOk n t R' → AskOk n (t.bind f) R
  | .ret a, h => hf a h
  | .ask i j k, h => ⟨h.1, h.2.1, fun b => ask_bind hf (k b) (h.2.2 b)⟩
theorem runP_ok {α : Type} {n : Nat} {lt : Nat → Nat → Bool} {R : α → Prop} : ∀ t : KasT α, AskOk n t R → R (runP lt t)
  | .ret _, h => h
  | .ask i j k, h => runP_ok (k (lt i j)) (h.2.2 _)
theorem run_wp {α : Type} {n : Nat} {lt : Nat → Nat → Bool} {R : α → Prop} {cmp : Nat → Nat → (Bool → Shared → Prop) → Shared → Prop} {G : α → Shared → Prop} {z : Shared} (hc : ∀ i j C, i < n → j < n → C (lt i j) z → cmp i j C z) :
    ∀ t : KasT α, AskOk n t R → G (runP lt t) z → t.kasWp cmp G z
  | .ret _, _, g => g
  | .ask i j k, h, g => hc i j _ h.1 h.2.1 (run_wp hc (k (lt i j)) (h.2.2 _) g)
def Gd (n : Nat) (p : Array Nat) : Prop := p.Perm (List.toArray (List.range n))
section
variable {n : Nat} {p : Array Nat}
theorem Gd.lt (h : Gd n p) (n0 : 0 < n) (x : Nat) : p.getD x 0 < n := by
  by_cases hx : x < p.size
  · have e : p.getD x 0 = p[x] := by simp [Array.getD, hx]
    have m : p[x] ∈ List.toArray (List.range n) := h.mem_iff.mp (Array.getElem_mem hx)
    rw [e]
    simpa using m
  · have e : p.getD x 0 = 0 := by simp [Array.getD, hx]
    omega
theorem Gd.rev (h : Gd n p) (i j : Nat) : Gd n (kas_rev p i j) := (foldl_swaps_perm _ _ _ _).trans h
theorem Gd.bub (h : Gd n p) (i j : Nat) : Gd n (bubble p i j) := (bubble_perm _ _ _).trans h
theorem ok_asc (h : Gd n p) (n0 : 0 < n) : ∀ f m, AskOk n (kas_asc p f m) (fun _ => True)
  | 0, _ => trivial
  | f + 1, m => ⟨h.lt n0 _, h.lt n0 _, fun b => by
    cases b with
    | true => exact trivial
    | false => exact ok_asc h n0 f (m + 1)⟩
theorem ok_desc (n0 : 0 < n) : ∀ (f : Nat) (p : Array Nat) (m q : Nat), Gd n p → AskOk n (kas_desc f p m q) (fun r => Gd n r.1)
  | 0, _, _, _, h => h
  | f + 1, p, m, q, h => ⟨h.lt n0 _, h.lt n0 _, fun b => by
    cases b with
    | true =>
      show AskOk n (if q > 0 then kas_desc f (kas_rev p (m - (q + 1)) m) (m + 1) 0 else kas_desc f p (m + 1) 0) _
      split
      · exact ok_desc n0 f _ _ _ (h.rev _ _)
      · exact ok_desc n0 f _ _ _ h
    | false =>
      refine ⟨h.lt n0 _, h.lt n0 _, fun d => ?_⟩
      cases d with
      | true => exact h
      | false => exact ok_desc n0 f _ _ _ h⟩
theorem ok_tail3 (h : Gd n p) (n0 : 0 < n) (m r : Nat) : AskOk n (kas_tail3 m r p) (fun x => Gd n x.2) := by
  unfold kas_tail3
  refine ask_bind (R' := fun _ => True) (fun x _ => ?_) _ (ok_asc (h.rev 0 m) n0 _ _)
  exact h.rev 0 m
theorem ok_descPart (h : Gd n p) (n0 : 0 < n) (m r : Nat) : AskOk n (kas_descPart m r p) (fun x => Gd n x.2) :=
  ask_bind (R' := fun x => Gd n x.1) (fun x hx => by
    split
    · exact ok_tail3 (hx.rev _ _) n0 _ _
    · exact ok_tail3 hx n0 _ _) _ (ok_desc n0 _ _ _ _ h)
theorem ok_count (h : Gd n p) (n0 : 0 < n) (r : Nat) : AskOk n (kas_count r p) (fun x => Gd n x.2) :=
  ask_bind (R' := fun _ => True) (fun m _ => by
    split
    · exact h
    · split
      · refine ⟨h.lt n0 _, h.lt n0 _, fun b => ?_⟩
        cases b with
        | true => exact h
        | false => exact ok_descPart (h.rev _ _) n0 _ _
      · exact ok_descPart h n0 _ _) _ (ok_asc h n0 _ _)
theorem ok_place (h : Gd n p) (n0 : 0 < n) (k : Nat) : ∀ f l r, AskOk n (kas_place p k f l r) (fun _ => True)
  | 0, _, _ => trivial
  | f + 1, l, r => by
    unfold kas_place
    split
    · exact trivial
    · refine ⟨h.lt n0 _, h.lt n0 _, fun b => ?_⟩
      cases b with
      | true => exact ok_place h n0 k f _ _
      | false => exact ok_place h n0 k f _ _
theorem ok_bin (n0 : 0 < n) : ∀ (f : Nat) (p : Array Nat) (k : Nat), Gd n p → AskOk n (kas_bin f p k) (Gd n)
  | 0, _, _, h => h
  | f + 1, p, k, h => ask_bind (R' := fun _ => True) (fun l _ => ok_bin n0 f _ _ (h.bub _ _)) _ (ok_place h n0 k _ _ _)
theorem ok_sort (n0 : 0 < n) : AskOk n (kas_sort n) (Gd n) :=
  ask_bind (R' := fun x => Gd n x.2) (fun x hx => by
    split
    · exact ok_bin n0 _ _ _ hx
    · exact hx) _ (ok_count (Array.Perm.refl _) n0 n)
end
/-- the places in their order -/
def ord (n : Nat) (lt : Nat → Nat → Bool) : List Nat := (runP lt (kas_sort n)).toList
theorem ord_ok {n : Nat} (n0 : 0 < n) (lt : Nat → Nat → Bool) : (ord n lt).length = n ∧ ∀ i ∈ ord n lt, i < n := by
  have g := runP_ok (lt := lt) _ (ok_sort n0)
  refine ⟨?_, fun i hi => ?_⟩
  · have := g.size_eq
    simpa [ord] using this
  · have m : i ∈ runP lt (kas_sort n) := by simpa [ord] using hi
    have := g.mem_iff.mp m
    simpa using this
/-- but for one place -/
def But (a : Addr) (h h' : Heap) : Prop := ∀ b o, b ≠ a → h.get? b = some o → h'.get? b = some o
section
variable {prog : Program} {w : World} {A : Around} {E : Value → Shared → Prop} {s : Shared}
theorem srt_tree {a : Addr} {vs : List Value} {ep : Nat} {P : PySem.Fin → Shared → Prop} {κ : SortKind} {lt : Nat → Nat → Bool} (ho : s.heap.get? a = some (seqObj "list" vs.toArray ep)) (h2 : 2 ≤ vs.length) (h64 : vs.length < 64)
    (hk : ∀ (z : Shared) (Q : SortKind → Shared → Prop), But a s.heap z.heap → Q κ z → wpAny (model prog w) A (keyKind' vs.toArray) Q E z)
    (hc : ∀ (z : Shared) (i j : Nat) (C : Bool → Shared → Prop), But a s.heap z.heap → i < vs.length → j < vs.length → C (lt i j) z → wpAny (model prog w) A (keyLt' κ (vs.getD i Value.none) (vs.getD j Value.none)) C (fun _ _ => False) z)
    (done : P (.done (.ret .none)) { s with heap := sortedHeap s.heap a vs (List.toArray ((ord vs.length lt).map fun i => vs.getD i Value.none)) }) :
    wpAny (model prog w) A (Builtin.«list.sort» ⟨[.ref a], []⟩) P E s := by
  have la : a < s.heap.objs.size := Heap.lt_size ho
  have z64 : (64 : Nat) ≤ sizeLine := by rw [sizeLine_eq]; omega
  have sv : vs.toArray.size = vs.length := List.size_toArray ..
  obtain ⟨e1, o1⟩ : ∃ e1, (s.heap.update a (Obj.mapSeq fun _ => (#[] : Array Value))).get? a = some (seqObj "list" #[] e1) := ⟨_, get?_update_seq ho fun _ => #[]⟩
  rw [list_sort_plain]
  refine wpAny_bind (listItems_at ho rfl (wpAny_bind (listUpdate_at ho rfl ?_ (by rw [sv]; omega) (Nat.zero_le _))))
  refine wpAny_bind (seqEpoch_at o1 rfl (wpAny_bind (wpAny_newTuple ?_ (by show vs.length ≤ _; omega))))
  refine wpAny_bind (wpAny_newList (wpAny_holding ?_) (Nat.zero_le _))
  have o6 : (((s.heap.update a (Obj.mapSeq fun _ => (#[] : Array Value))).push (seqObj "tuple" vs.toArray 0)).push (seqObj "list" #[] 0)).get? a = some (seqObj "list" #[] e1) :=
    Heap.get?_push_of_some _ (Heap.get?_push_of_some _ o1)
  have bt : But a s.heap (((s.heap.update a (Obj.mapSeq fun _ => (#[] : Array Value))).push (seqObj "tuple" vs.toArray 0)).push (seqObj "list" #[] 0)) := fun b o hb e =>
    Heap.get?_push_of_some _ (Heap.get?_push_of_some _ ((Heap.get?_update_other _ _ (Ne.symm hb)).trans e))
  show wpAny (model prog w) A _ P E { s with heap := ((s.heap.update a (Obj.mapSeq fun _ => (#[] : Array Value))).push (seqObj "tuple" vs.toArray 0)).push (seqObj "list" #[] 0) }
  dsimp only
  have n2 : ¬ vs.toArray.size < 2 := by rw [sv]; omega
  rw [if_neg n2, if_neg n2]
  refine wpAny_bind (hk { s with heap := ((s.heap.update a (Obj.mapSeq fun _ => (#[] : Array Value))).push (seqObj "tuple" vs.toArray 0)).push (seqObj "list" #[] 0) } _ bt ?_)
  refine wpAny_bind (wpAny_mono (kat_run (κ := κ) (ks := vs) (vs := vs) (G := fun p z => p = runP lt (kas_sort vs.length) ∧ z = { s with heap := ((s.heap.update a (Obj.mapSeq fun _ => (#[] : Array Value))).push (seqObj "tuple" vs.toArray 0)).push (seqObj "list" #[] 0) })
    (Q := fun st z => (arrOf st).map (·.2) = List.toArray ((ord vs.length lt).map fun i => vs.getD i Value.none) ∧ failedOf st = none ∧ z = { s with heap := ((s.heap.update a (Obj.mapSeq fun _ => (#[] : Array Value))).push (seqObj "tuple" vs.toArray 0)).push (seqObj "list" #[] 0) })
    rfl h2 h64 (fun q st z _ har hf hg => ?_) ?_) ?_ fun _ _ e => e)
  · obtain ⟨rfl, rfl⟩ := hg
    exact ⟨kat_snds rfl har, hf, rfl⟩
  · exact run_wp (fun i j C hi hj hC => hc _ i j C bt hi hj hC) _ (ok_sort (by omega)) ⟨rfl, rfl⟩
  · rintro ⟨⟨⟩, st⟩ z ⟨hout, hf, rfl⟩
    dsimp only
    rw [hout]
    have so : (List.toArray ((ord vs.length lt).map fun i => vs.getD i Value.none)).size = vs.length := by rw [List.size_toArray, List.length_map]; exact (ord_ok (by omega) lt).1
    refine wpAny_bind (seqEpoch_at o6 rfl (wpAny_bind (listUpdate_at o6 rfl ?_ (Nat.zero_le _) (by rw [so]; omega))))
    rw [hf]
    simp only [bne_self_eq_false, Bool.false_eq_true, if_false]
    exact wpAny_pure done
theorem srt_call {l : Addr} {vs : List Value} {Q : Value → Shared → Prop} {κ : SortKind} {lt : Nat → Nat → Bool} (hl : s.heap.IsList l vs.toArray) (h2 : 2 ≤ vs.length) (h64 : vs.length < 64)
    (hk : ∀ (z : Shared) (Q : SortKind → Shared → Prop), (∀ b o, s.heap.get? b = some o → z.heap.get? b = some o) → Q κ z → ∀ E, wpAny (model prog w) A.in1.in1 (keyKind' vs.toArray) Q E z)
    (hc : ∀ (z : Shared) (i j : Nat) (C : Bool → Shared → Prop), (∀ b o, s.heap.get? b = some o → z.heap.get? b = some o) → i < vs.length → j < vs.length → C (lt i j) z → wpAny (model prog w) A.in1.in1 (keyLt' κ (vs.getD i Value.none) (vs.getD j Value.none)) C (fun _ _ => False) z)
    (done : Q (.ref (s.heap.objs.size + 1)) { s with heap := sortedAll s.heap vs (List.toArray ((ord vs.length lt).map fun i => vs.getD i Value.none)) }) :
    wpAny (model prog w) A (call (.builtin "sorted") [.ref l]) Q E s := by
  have z64 : (64 : Nat) ≤ sizeLine := by rw [sizeLine_eq]; omega
  refine Calls.call_function_entry kind_sorted plain_sorted entry_sorted (args_sorted1 _) ?_
  unfold Builtin.«sorted»
  refine wpAny_bind (m := checkCount "sorted" 1 1 _) (wpAny_pure (wpAny_bind (collect_list hl ?_ (by omega))))
  refine wpAny_bind (wpAny_newList ?_ (by omega))
  have z1 : ((s.heap.push (seqObj "list" #[] 0)).update s.heap.objs.size (Obj.mapSeq (· ++ vs.toArray))).objs.size = s.heap.objs.size + 1 := by rw [Heap.size_update, size_push']
  have oN : (((s.heap.push (seqObj "list" #[] 0)).update s.heap.objs.size (Obj.mapSeq (· ++ vs.toArray))).push (seqObj "list" vs.toArray 0)).get? (s.heap.objs.size + 1) = some (seqObj "list" vs.toArray 0) := by
    rw [← z1]
    exact Heap.get?_push_size _ rfl
  have up : ∀ b o, s.heap.get? b = some o → b ≠ s.heap.objs.size + 1 ∧ (((s.heap.push (seqObj "list" #[] 0)).update s.heap.objs.size (Obj.mapSeq (· ++ vs.toArray))).push (seqObj "list" vs.toArray 0)).get? b = some o := fun b o e => by
    have hlt : b < s.heap.objs.size := Heap.lt_size e
    exact ⟨Nat.ne_of_lt (Nat.lt_succ_of_lt hlt), Heap.get?_push_of_some _ ((Heap.get?_update_other _ _ (Ne.symm (Nat.ne_of_lt hlt))).trans (Heap.get?_push_of_some _ e))⟩
  show wpAny _ _ _ _ _ { s with heap := ((s.heap.push (seqObj "list" #[] 0)).update s.heap.objs.size (Obj.mapSeq (· ++ vs.toArray))).push (seqObj "list" vs.toArray 0) }
  rw [z1]
  refine wpAny_bind (wpAny_holding (wpAny_call_entry slot_list_sort ⟨_, oN, rfl⟩ entry_list_sort (srt_tree (κ := κ) (lt := lt) oN h2 h64 (fun z Q' bt q => hk z Q' (fun b o e => bt b o (up b o e).1 (up b o e).2) q _) (fun z i j C bt hi hj hC => hc z i j C (fun b o e => bt b o (up b o e).1 (up b o e).2) hi hj hC) ⟨_, rfl, ?_⟩) (args_list_sort _)))
  exact wpAny_pure ⟨_, rfl, done⟩
end
end DGX

set_option Elab.async false
set_option linter.all false
set_option maxRecDepth 100000
namespace DL
open PySem L2
/-! ### a def that hands back a list of its own -/
def spO (K : PySem.W.Frag) (R : List D → List D → Prop) : Sp := fun vs H Q _ => ∃ F ds l, Same F H ∧ Reps K F vs ds ∧ R ds l ∧ ∀ ws F' H' p, Ext F H F' H' → Reps K F' ws l → H' p = none → Q (.ref p) (upd H' p (.lst ws))
structure FnO (T : Tx) (k : Nat) (x : Str) (R : List D → List D → Prop) : Prop where
  ex : ∃ (f : Addr) (fd : FuncData) (ps : List Str), T.mg x = some (.ref f) ∧ PySem.W.keepIn T.K (.ref f) = true ∧ Binds T.K fd ps [] ∧ FnOk T.prog T.w T.K T.mg T.base CX0 k f fd ps (spO T.K R)
def RetO (l : List D) : Out → Prop
  | .ro e => e = l
  | _ => False
section
variable {Y : Cy} {T : Tx} {k j : Nat} {N G ps : List Str} {c : List Slot} {e : Expr} {es : List Expr} {pos p : Pos} {d : D} {ds l : List D} {R : List D → List D → Prop} {x qual : Str} {P : Out → Prop} {rest : List Stmt}
theorem ow_call (S : Se Y T k N G) (gi : Nat) (Fn : FnO T j x R) (hj : j ≤ k) (ha : ArD Y (e :: es) c ds) (hR : R ds l) (hg : G[gi]? = some x := by rfl)
    (he : starEach (e :: es) Y.X.env = (false, eval e Y.X.env) :: starEach es Y.X.env := by rfl) (hpl : (backTo pos (starEach es Y.X.env)).any (·.1) = false := by rfl) : OwD Y (.Call (.Name x p) (e :: es) [] pos) c l := by
  obtain ⟨f, fd, ps, hm, hk, hb, F⟩ := Fn.ex
  have F' : FnOk Y.X.prog Y.X.w Y.X.K Y.X.mg Y.X.base CX0 j f fd ps (spO Y.X.K R) := by rw [S.eP, S.eW, S.eK, S.eM, S.eB]; exact F
  have gl := S.gl x (List.mem_of_getElem? hg)
  refine PE.imp (pe_call F' (S.room.mono hj) gl.1 (by rw [S.eM]; exact hm) (by rw [S.eK]; exact hk) (by rw [S.eK]; exact hb) .nil pass0 ha gl.2.1 he hpl) fun σ H Q ⟨F, E, q⟩ => ⟨F, E, fun vs F1 H1 e1 r1 => ?_⟩
  show spO Y.X.K R (vs ++ []) H1 Q E0
  rw [List.append_nil]
  exact ⟨F1, ds, l, e1.fh, r1, hR, fun ws F2 H2 p e2 r2 hn => q ws F2 H2 p (e1.trans e2) r2 hn⟩
theorem ss_retO (h : OwD Y e c ds) (hp : P (.ro ds)) : SsD Y (.Return (some e) pos :: rest) c P :=
  ss_cons (PS.imp (ps_ret h) fun D σ H ⟨F, E, m⟩ => ⟨F, E, fun vs F1 H1 p x r hn => m (.ro ds) hp vs F1 H1 p x.ff (E.ext.trans x) r hn⟩)
theorem fn_O {st : Stmt} (A : At T x st) (B : ScB N ps G (defScope st)) (hb : ∀ f fd, Fun T.K x x st f fd → Binds T.K fd ps []) (hlen : ∀ ds l, R ds l → ds.length = ps.length)
    (body : ∀ (Y : Cy) (S : Sc Y T k N G) (Z : Fx Y st) (ds l : List D), R ds l → SsD Y (defBody st) (ctx0 N ds) (RetO l)) : FnO T (k + 1) x R := by
  obtain ⟨f, fd, F, hm⟩ := A
  refine ⟨f, fd, ps, hm, F.kp, hb f fd F, ?_⟩
  refine F.ok B.fs (fun vs H Q E h => ?_) fun cdv A outer s H vs Q E hr h => ?_
  · obtain ⟨F0, ds, l, _, r, hR, _⟩ := h
    rw [r.length]; exact hlen ds l hR
  · obtain ⟨F0, ds, l, f0, r, hR, q⟩ := h
    have S : Sc ⟨(cxOf CX0 T.prog T.w T.K T.mg T.base N x (defScope st) f cdv A outer s H E).nox, F0, H⟩ T k N G :=
      ⟨⟨⟨rfl, rfl, rfl, rfl, rfl, rfl, B.fs.nd, B.loc, B.gl⟩, rfl, hr⟩, fun _ => rfl, PassesOwn.never⟩
    refine ⟨_, body _ S ⟨rfl, rfl, rfl, rfl⟩ ds l hR, F0, env_start f0 r, fun o ho => ?_⟩
    cases o with
    | ro e => cases ho; exact fun vs F' H' p _ x r' hn => q vs F' H' p x r' hn
    | rt e => exact False.elim ho
    | nx c => exact False.elim ho
    | bk c => exact False.elim ho
    | ct c => exact False.elim ho
    | rs R => exact False.elim ho
/-- a new list, never written -/
theorem ev_ow (h : OwD Y e c ds) : EvD Y e c (.lst ds) := PE.imp h fun σ H Q ⟨F, E, q⟩ => ⟨F, E, fun vs F1 H1 p e1 r1 hn => by
  have x := Ext.new e1.fh hn (.lst vs)
  exact q (.ref p) _ _ (e1.trans x) (.lst (SqL.of upd_same) (r1.mono x.ff))⟩
theorem ow_callB (S : Se Y T k N G) (gi : Nat) {id : String} {x : Str} {p : Pos} {r : List V → Hp → VK → Prop} (hc : CallR Y.X (.builtin id) r) (hg : G[gi]? = some x) (hm : T.mg x = none) (hv : bootBuiltins x = some (.builtin id)) (ha : ArD Y (e :: es) c ds)
    (hr : ∀ vs F H Q, Same F H → Reps Y.X.K F vs ds → (∀ ws F' H' p, Ext F H F' H' → Reps Y.X.K F' ws l → H' p = none → Q (.ref p) (upd H' p (.lst ws))) → r vs H Q)
    (he : starEach (e :: es) Y.X.env = (false, eval e Y.X.env) :: starEach es Y.X.env) (hpl : (backTo pos (starEach es Y.X.env)).any (·.1) = false) : OwD Y (.Call (.Name x p) (e :: es) [] pos) c l :=
  PE.imp (pe_callB hc (S.gl x (List.mem_of_getElem? hg)).1 (by rw [S.eM]; exact hm) hv ha (S.gl x (List.mem_of_getElem? hg)).2.2 (S.gl x (List.mem_of_getElem? hg)).2.1 he hpl) fun σ H Q ⟨F, E, q⟩ => ⟨F, E, fun vs F1 H1 e1 r1 => hr vs F1 H1 Q e1.fh r1 fun ws F2 H2 p e2 r2 hn => q ws F2 H2 p (e1.trans e2) r2 hn⟩
end
/-! ### sorted(list of (whole number, (whole number, whole number))) -/
abbrev triD (t : Int × Int × Int) : D := .tup [.int t.1, .tup [.int t.2.1, .int t.2.2]]
def triLt (s t : Int × Int × Int) : Bool := if s.1 = t.1 then (if s.2 = t.2 then false else HT.lexLt [s.2.1, s.2.2] [t.2.1, t.2.2]) else decide (s.1 < t.1)
def triO (l : List (Int × Int × Int)) : List Nat := DGX.ord l.length fun i j => triLt (l.getD i (0, 0, 0)) (l.getD j (0, 0, 0))
def triS (l : List (Int × Int × Int)) : List (Int × Int × Int) := (triO l).map fun i => l.getD i (0, 0, 0)
theorem triS_ok {l : List (Int × Int × Int)} (h : l ≠ []) : (triS l).length = l.length ∧ ∀ t ∈ triS l, t ∈ l := by
  have o := DGX.ord_ok (n := l.length) (List.length_pos_iff.mpr h) fun i j => triLt (l.getD i (0, 0, 0)) (l.getD j (0, 0, 0))
  refine ⟨by unfold triS; rw [List.length_map]; exact o.1, fun t ht => ?_⟩
  obtain ⟨i, hi, rfl⟩ := List.mem_map.mp ht
  have hl := o.2 i hi
  rw [List.getD_eq_getElem?_getD, List.getElem?_eq_getElem hl]
  exact List.getElem_mem hl
/-- where a spot lies -/
structure TriAt (h : Heap) (u : Value) (t : Int × Int × Int) (a b : Addr) (t1 t2 t3 : Tok) : Prop where
  u : u = .ref a
  ta : PyProof.Rows.IsTup h a #[.int t.1 t1, .ref b]
  tb : PyProof.Rows.IsTup h b #[.int t.2.1 t2, .int t.2.2 t3]
  rd : ∃ as, Reads h (.ref b) (toPy (.tup [.int t.2.1, .int t.2.2])) as
theorem TriAt.up {h h' : Heap} {u : Value} {t : Int × Int × Int} {a b : Addr} {t1 t2 t3 : Tok} (x : TriAt h u t a b t1 t2 t3) (k : ∀ b o, h.get? b = some o → h'.get? b = some o) : TriAt h' u t a b t1 t2 t3 := by
  have tu : ∀ {a : Addr} {its : Array Value}, PyProof.Rows.IsTup h a its → PyProof.Rows.IsTup h' a its := fun {a its} h => by
    obtain ⟨o, e1, e2, e3⟩ := h
    exact ⟨o, k _ _ e1, e2, e3⟩
  obtain ⟨as, r⟩ := x.rd
  exact ⟨x.u, tu x.ta, tu x.tb, as, PyProof.Rows.Reads.keeps k r⟩
section
variable {X : Cx} {pins : List (Addr × Obj)} {σ : St} {F H : Hp} {s : Shared}
theorem tri_at (I : Inv X pins σ H s) (f : Same F H) {v : V} {u : Value} {t : Int × Int × Int} (r : Rep X.K F v (triD t)) (ru : RelV v u) : ∃ a b t1 t2 t3, TriAt s.heap u t a b t1 t2 t3 := by
  obtain ⟨a, ws, rfl, ht, rw'⟩ := inv_tup r
  obtain ⟨v1, v2, rfl, r1, r2⟩ := inv2 rw'
  obtain ⟨its, rv, it, _⟩ := I.tuple (sqT_same f ht)
  cases inv_int r1
  cases (show u = Value.ref a from ru)
  obtain ⟨b, ws2, rfl, ht2, rw2⟩ := inv_tup r2
  obtain ⟨v3, v4, rfl, r3, r4⟩ := inv2 rw2
  obtain ⟨its2, rv2, it2, _⟩ := I.tuple (sqT_same f ht2)
  cases inv_int r3
  cases inv_int r4
  cases rv with
  | cons c1 c2 =>
    obtain ⟨t1, rfl⟩ := c1
    cases c2 with
    | cons c3 c4 =>
      cases c4
      cases c3
      cases rv2 with
      | cons d1 d2 =>
        obtain ⟨t2, rfl⟩ := d1
        cases d2 with
        | cons d3 d4 =>
          cases d4
          obtain ⟨t3, rfl⟩ := d3
          obtain ⟨as, ra⟩ := reads_of I f r2 (show RelV (.ref b) (.ref b) from rfl)
          exact ⟨a, b, t1, t2, t3, rfl, it, it2, as, ra⟩
theorem tri_tups {h : Heap} {F : Hp} (k : ∀ b o, s.heap.get? b = some o → h.get? b = some o) (I : Inv X pins σ H s) (f : Same F H) : ∀ {vs : List V} {its : List Value} {l : List (Int × Int × Int)}, Reps X.K F vs (l.map triD) → Vals vs its →
    ∃ fs, PySem.W.KatTups h its fs ∧ (∀ v ∈ fs, ∃ i t, v = Value.int i t) ∧ fs.length = l.length
  | _, _, [], r, w => by
    cases r
    cases w
    exact ⟨[], .nil, fun _ z => (nomatch z), rfl⟩
  | _, _, t :: l, r, w => by
    cases r with
    | cons r1 r2 =>
      cases w with
      | cons w1 w2 =>
        obtain ⟨fs, h1, h2, h3⟩ := tri_tups k I f r2 w2
        obtain ⟨a, b, t1, t2, t3, x⟩ := tri_at I f r1 w1
        have x := x.up k
        cases x.u
        obtain ⟨o, e1, e2, n, e3⟩ := x.ta
        refine ⟨.int t.1 t1 :: fs, .cons e1 e2 e3 rfl h1, fun v hv => ?_, by simp [h3]⟩
        rcases List.mem_cons.mp hv with rfl | hv
        · exact ⟨_, _, rfl⟩
        · exact h2 v hv
end
theorem eqD_pair (a b c d : Int) : eqD (.tup [.int a, .int b]) (.tup [.int c, .int d]) = decide ((a, b) = (c, d)) := by
  have e : eqD (.tup [.int a, .int b]) (.tup [.int c, .int d]) = ((a == c) && ((b == d) && true)) := rfl
  rw [e, Bool.eq_iff_iff]
  simp
theorem call_sortT {X : Cx} (hu : X.A.units + 80 < cLine) : CallR X (.builtin "sorted") (fun xs H Q => ∃ (F : Hp) (p : Addr) (vs : List V) (l : List (Int × Int × Int)), xs = [.ref p] ∧ Same F H ∧ SqL X.K F p vs ∧ Reps X.K F vs (l.map triD) ∧ 2 ≤ l.length ∧ l.length < 64 ∧
    ∀ p' : Addr, H p' = none → Q (.ref p') (upd H p' (.lst ((triO l).map fun i => vs.getD i .non)))) := by
  intro pins s σ H xs us Q I r h
  obtain ⟨F, p, vs, l, rfl, f, hp, rs, h2, h64, q⟩ := h
  obtain ⟨u, rfl, ru⟩ := vals1 r
  cases (show u = Value.ref p from ru)
  obtain ⟨its, rv, pl, hz⟩ := I.list (f.seq hp)
  have n1 : vs.length = l.length := by rw [rs.length, List.length_map]
  have n2 := rv.length
  have n3 : its.length = l.length := by omega
  have at_ : ∀ i, i < its.length → ∃ a b t1 t2 t3, TriAt s.heap (its.getD i Value.none) (l.getD i (0, 0, 0)) a b t1 t2 t3 := fun i hi => by
    have hv : i < vs.length := by omega
    have hl : i < l.length := by omega
    obtain ⟨u', hu', r'⟩ := rv.get (i := i) (x := vs[i]) (List.getElem?_eq_getElem hv)
    obtain ⟨d, hd, rd⟩ := rs.get' (List.getElem?_eq_getElem hv)
    rw [List.getElem?_map, List.getElem?_eq_getElem hl] at hd
    cases hd
    have e1 : its.getD i Value.none = u' := by rw [List.getD_eq_getElem?_getD, hu']; rfl
    have e2 : l.getD i (0, 0, 0) = l[i] := by rw [List.getD_eq_getElem?_getD, List.getElem?_eq_getElem hl]; rfl
    rw [e1, e2]
    exact tri_at I f rd r'
  have u2 : X.A.in1.in1.units ≤ X.A.units + 2 := Nat.le_refl _
  have hT : (Value.type "int" != Value.type "tuple") = true := by decide
  refine DGX.srt_call (κ := PyProof.Rows.tuples' true) (lt := fun i j => triLt (l.getD i (0, 0, 0)) (l.getD j (0, 0, 0))) pl.isList (by omega) (by omega) (fun z Q' k q E' => ?_) (fun z i j C k hi hj hC => ?_) ?_
  · obtain ⟨fs, k1, k2, k3⟩ := tri_tups k I f rs rv
    refine PySem.W.kat_kind (T := Value.type "int") k1 (by omega) (fun v hv => ?_) (by decide) (by rw [hT]; exact q)
    obtain ⟨i, t, rfl⟩ := k2 v hv
    exact PySem.W.Looks.of_pure rfl
  · obtain ⟨a, b, t1, t2, t3, x⟩ := at_ i hi
    obtain ⟨a', b', u1, u2', u3, y⟩ := at_ j hj
    have x := x.up k
    have y := y.up k
    rw [x.u, y.u]
    generalize l.getD i (0, 0, 0) = ti at x hC
    generalize l.getD j (0, 0, 0) = tj at y hC
    obtain ⟨ox, ex1, ex2, nx, ex3⟩ := x.ta
    obtain ⟨oy, ey1, ey2, ny, ey3⟩ := y.ta
    refine PySem.W.kat_lt ex1 ex3 ey1 ey3 (PySem.W.kat_cons (SeqAt.EqAt.int_int ti.1 t1 tj.1 u1 _ _ _ _ ?_))
    unfold triLt at hC
    by_cases e1 : ti.1 = tj.1
    · rw [if_pos e1] at hC
      rw [show (ti.1 == tj.1) = true by simpa using e1]
      obtain ⟨as, ra⟩ := x.rd
      obtain ⟨bs, rb⟩ := y.rd
      have kk := SeqAt.eqAt_reads _ _ X.A.in1.in1 z _ _ as bs ra rb rfl rfl (by
        show X.A.in1.in1.units + min 1 1 < cLine
        omega)
      have ev : PyData.eqv (toPy (.tup [.int ti.2.1, .int ti.2.2])) (toPy (.tup [.int tj.2.1, .int tj.2.2])) = decide (ti.2 = tj.2) := eqD_pair ti.2.1 ti.2.2 tj.2.1 tj.2.2
      rw [ev] at kk
      refine PySem.W.kat_yes (PySem.W.kat_cons (kk _ _ _ _ ?_))
      by_cases e2 : ti.2 = tj.2
      · rw [if_pos e2] at hC
        rw [decide_eq_true e2]
        exact PySem.W.kat_yes (PySem.W.kat_nil hC)
      · rw [if_neg e2] at hC
        rw [decide_eq_false e2]
        refine PySem.W.kat_no (PySem.W.kat_one _ _ ?_)
        exact HT.lt_tupInts x.tb y.tb (.cons _ _ (.cons _ _ .nil)) (.cons _ _ (.cons _ _ .nil)) (by omega) hC
    · rw [if_neg e1] at hC
      rw [show (ti.1 == tj.1) = false by simpa using e1]
      exact PySem.W.kat_no (PyProof.Rows.oneLt_int hC)
  · obtain ⟨e, he⟩ := PyProof.Rows.sortedAll_at s.heap its (List.toArray ((triO l).map fun i => its.getD i Value.none))
    have et : DGX.ord its.length (fun i j => triLt (l.getD i (0, 0, 0)) (l.getD j (0, 0, 0))) = triO l := by unfold triO; rw [n3]
    rw [et]
    have o := DGX.ord_ok (n := l.length) (by omega) fun i j => triLt (l.getD i (0, 0, 0)) (l.getD j (0, 0, 0))
    refine ⟨.ref _, upd H _ (.lst ((triO l).map fun i => vs.getD i .non)), I.laid (t' := s.toks) (fun _ _ => PyProof.Rows.sortedAll_old) (Nat.le_succ _) ⟨?_, (triO l).map fun i => its.getD i Value.none, e, ?_, he⟩, rfl, q _ (I.hok.fresh (Nat.le_succ _))⟩
    · rw [List.length_map]
      have : (triO l).length = l.length := o.1
      have : (64 : Nat) ≤ sizeLine := by decide
      omega
    · have hm : ∀ i ∈ triO l, i < its.length := fun i hi => by rw [n3]; exact o.2 i hi
      generalize triO l = L at hm
      induction L with
      | nil => exact .nil
      | cons i L ih =>
        refine .cons ?_ (ih fun j hj => hm j (List.mem_cons_of_mem _ hj))
        have hi := hm i (List.mem_cons_self ..)
        have hv : i < vs.length := by omega
        obtain ⟨u', hu', r'⟩ := rv.get (i := i) (x := vs[i]) (List.getElem?_eq_getElem hv)
        show RelV (vs.getD i .non) (its.getD i Value.none)
        rw [List.getD_eq_getElem?_getD, List.getD_eq_getElem?_getD, hu', List.getElem?_eq_getElem hv]
        exact r'
theorem bt_sorted' : bootBuiltins "sorted" = some (.builtin "sorted") := by decide +kernel
theorem ow_sortT {Y : Cy} {T : Tx} {k : Nat} {N G : List Str} {c : List Slot} {e : Expr} {pos : Pos} (S : Se Y T k N G) (gi : Nat) {l : List (Int × Int × Int)} {p : Pos} (ha : ArD Y [e] c [.lst (l.map triD)]) (h2 : 2 ≤ l.length) (h64 : l.length < 64)
    (hm : T.mg "sorted" = none) (hg : G[gi]? = some ("sorted" : Str) := by rfl) (he : starEach [e] Y.X.env = (false, eval e Y.X.env) :: starEach [] Y.X.env := by rfl) : OwD Y (.Call (.Name "sorted" p) [e] [] pos) c ((triS l).map triD) :=
  ow_callB S gi (call_sortT (by have := S.room.un; omega)) hg hm bt_sorted' ha (fun vs F H Q f r q => by
    obtain ⟨v, rfl, rv⟩ := inv1 r
    obtain ⟨p, ws, rfl, hp, rs⟩ := inv_lst rv
    refine ⟨F, p, ws, l, rfl, f, hp, rs, h2, h64, fun p' hn => q _ F H p' (Ext.refl f) ?_ hn⟩
    have o := DGX.ord_ok (n := l.length) (by omega) fun i j => triLt (l.getD i (0, 0, 0)) (l.getD j (0, 0, 0))
    have hm : ∀ i ∈ triO l, i < l.length := o.2
    unfold triS
    rw [List.map_map]
    generalize triO l = L at hm
    induction L with
    | nil => exact .nil
    | cons i L ih =>
      refine .cons ?_ (ih fun j hj => hm j (List.mem_cons_of_mem _ hj))
      have hi := hm i (List.mem_cons_self ..)
      obtain ⟨v, hv, r'⟩ := rs.get (i := i) (d := triD l[i]) (by rw [List.getElem?_map, List.getElem?_eq_getElem hi]; rfl)
      show Rep Y.X.K F (ws.getD i .non) (triD (l.getD i (0, 0, 0)))
      rw [List.getD_eq_getElem?_getD, List.getD_eq_getElem?_getD, hv, List.getElem?_eq_getElem hi]
      exact r') he rfl
end DL

set_option Elab.async false
set_option linter.all false
set_option maxRecDepth 100000
/-! ### what sorted tells is in order -/
namespace DGX
open PySem PySem.Spec PySem.W PyProof.Rows
structure Lo (n : Nat) (lt : Nat → Nat → Bool) : Prop where
  as : ∀ i j, lt i j = true → lt j i = false
  tr : ∀ i j k, lt j i = false → lt k j = false → lt k i = false
  tot : ∀ i j, i < n → j < n → i ≠ j → lt i j = false → lt j i = true
theorem runP_bind {α β : Type} (lt : Nat → Nat → Bool) (f : α → KasT β) : ∀ t : KasT α, runP lt (t.bind f) = runP lt (f (runP lt t))
  | .ret a => rfl
  | .ask i j k => runP_bind lt f (k (lt i j))
section
variable {n : Nat} {lt : Nat → Nat → Bool} {p : Array Nat} {k : Nat}
def Srt (lt : Nat → Nat → Bool) (p : Array Nat) (k : Nat) : Prop := ∀ i j, i < j → j < k → lt (p.getD j 0) (p.getD i 0) = false
def Dsc (lt : Nat → Nat → Bool) (p : Array Nat) (k : Nat) : Prop := ∀ i j, i < j → j < k → lt (p.getD j 0) (p.getD i 0) = true
theorem Lo.st (L : Lo n lt) {a b c : Nat} (h1 : lt b a = true) (h2 : lt c b = true) : lt c a = true := by
  cases h : lt c a with
  | true => rfl
  | false =>
    have := L.tr a c b h (L.as _ _ h2)
    rw [h1] at this
    cases this
theorem Srt.push (L : Lo n lt) (h : Srt lt p k) (k1 : 1 ≤ k) (e : lt (p.getD k 0) (p.getD (k - 1) 0) = false) : Srt lt p (k + 1) := by
  intro i j hij hj
  by_cases hk : j < k
  · exact h i j hij hk
  · have q : j = k := by omega
    subst q
    by_cases hi : i = j - 1
    · rw [hi]; exact e
    · exact L.tr _ _ _ (h i (j - 1) (by omega) (by omega)) e
theorem Dsc.push (L : Lo n lt) (h : Dsc lt p k) (k1 : 1 ≤ k) (e : lt (p.getD k 0) (p.getD (k - 1) 0) = true) : Dsc lt p (k + 1) := by
  intro i j hij hj
  by_cases hk : j < k
  · exact h i j hij hk
  · have q : j = k := by omega
    subst q
    by_cases hi : i = j - 1
    · rw [hi]; exact e
    · exact L.st (h i (j - 1) (by omega) (by omega)) e
theorem asc_is (L : Lo n lt) : ∀ f m, 1 ≤ m → Srt lt p m → m ≤ runP lt (kas_asc p f m) ∧ runP lt (kas_asc p f m) ≤ m + f ∧ Srt lt p (runP lt (kas_asc p f m)) ∧ (runP lt (kas_asc p f m) < m + f → lt (p.getD (runP lt (kas_asc p f m)) 0) (p.getD (runP lt (kas_asc p f m) - 1) 0) = true)
  | 0, m, h1, hs => ⟨Nat.le_refl _, Nat.le_refl _, hs, fun h => absurd h (Nat.lt_irrefl _)⟩
  | f + 1, m, h1, hs => by
    have e : runP lt (kas_asc p (f + 1) m) = runP lt (if lt (p.getD m 0) (p.getD (m - 1) 0) = true then .ret m else kas_asc p f (m + 1)) := rfl
    rw [e]
    by_cases c : lt (p.getD m 0) (p.getD (m - 1) 0) = true
    · rw [if_pos c]
      exact ⟨Nat.le_refl _, Nat.le_add_right _ _, hs, fun _ => c⟩
    · rw [if_neg c]
      obtain ⟨a, b, d, g⟩ := asc_is L f (m + 1) (by omega) (hs.push L h1 (by simpa using c))
      exact ⟨by omega, by omega, d, fun h => g (by omega)⟩
theorem getD_q (p : Array Nat) (i : Nat) : p.getD i 0 = (p[i]?).getD 0 := by simp
theorem Gd.size (G : Gd n p) : p.size = n := by simpa using G.size_eq
theorem Gd.inj (G : Gd n p) {i j : Nat} (hi : i < n) (hj : j < n) (e : p.getD i 0 = p.getD j 0) : i = j := by
  have s := G.size
  have nd : p.toList.Nodup := G.toList.nodup_iff.mpr List.nodup_range
  have e1 : p.getD i 0 = p.toList[i]'(by simpa [s] using hi) := by simp [Array.getD, s, hi]
  have e2 : p.getD j 0 = p.toList[j]'(by simpa [s] using hj) := by simp [Array.getD, s, hj]
  rw [e1, e2] at e
  exact (List.getElem_inj nd).mp e
theorem Gd.tot (G : Gd n p) (L : Lo n lt) {i j : Nat} (hi : i < n) (hj : j < n) (ne : i ≠ j) (h : lt (p.getD i 0) (p.getD j 0) = false) : lt (p.getD j 0) (p.getD i 0) = true :=
  L.tot _ _ (G.lt (by omega) _) (G.lt (by omega) _) (fun z => ne (G.inj hi hj z)) h
theorem desc_is (L : Lo n lt) (G : Gd n p) : ∀ f m, 1 ≤ m → m + f ≤ n → Dsc lt p m → ∃ r, runP lt (kas_desc f p m 0) = (p, r, 0) ∧ m ≤ r ∧ r ≤ m + f ∧ Dsc lt p r
  | 0, m, h1, hn, hs => ⟨m, rfl, Nat.le_refl _, Nat.le_refl _, hs⟩
  | f + 1, m, h1, hn, hs => by
    have e : runP lt (kas_desc (f + 1) p m 0) = runP lt (if lt (p.getD m 0) (p.getD (m - 1) 0) = true then (if 0 > 0 then kas_desc f (kas_rev p (m - (0 + 1)) m) (m + 1) 0 else kas_desc f p (m + 1) 0)
      else .ask (p.getD (m - 1) 0) (p.getD m 0) fun d => if d = true then .ret (p, m, 0) else kas_desc f p (m + 1) (0 + 1)) := rfl
    rw [e]
    by_cases c : lt (p.getD m 0) (p.getD (m - 1) 0) = true
    · rw [if_pos c, if_neg (by omega)]
      obtain ⟨r, a, b, d, g⟩ := desc_is L G f (m + 1) (by omega) (by omega) (hs.push L h1 c)
      exact ⟨r, a, by omega, by omega, g⟩
    · rw [if_neg c]
      have d := G.tot L (i := m) (j := m - 1) (by omega) (by omega) (by omega) (by simpa using c)
      show ∃ r, runP lt (if lt (p.getD (m - 1) 0) (p.getD m 0) = true then _ else _) = _ ∧ _
      rw [if_pos d]
      exact ⟨m, rfl, Nat.le_refl _, by omega, hs⟩
theorem rev_at {m : Nat} (hm : m ≤ p.size) (i : Nat) : (kas_rev p 0 m).getD i 0 = if i < m then p.getD (m - 1 - i) 0 else p.getD i 0 := by
  have h := getElem?_mirror_all (xs := p) (i := 0) (j := m) hm i
  rw [getD_q, getD_q, getD_q]
  have e : kas_rev p 0 m = mirror p 0 m ((m - 0) / 2) := rfl
  rw [e, h]
  by_cases q : i < m
  · rw [if_pos ⟨Nat.zero_le _, q⟩, if_pos q, show 0 + m - 1 - i = m - 1 - i by omega]
  · rw [if_neg (fun z => q z.2), if_neg q]
theorem count_is (L : Lo n lt) (G : Gd n p) (n1 : 1 ≤ n) : 1 ≤ (runP lt (kas_count n p)).1 ∧ (runP lt (kas_count n p)).1 ≤ n ∧ Srt lt (runP lt (kas_count n p)).2 (runP lt (kas_count n p)).1 := by
  unfold kas_count
  rw [runP_bind]
  have s := G.size
  obtain ⟨a, b, d, g⟩ := asc_is (p := p) L (n - 1) 1 (Nat.le_refl _) (fun i j h h' => absurd h (by omega))
  generalize runP lt (kas_asc p (n - 1) 1) = m at a b d g ⊢
  by_cases e : m = n
  · subst e
    rw [if_pos (by simp)]
    exact ⟨a, Nat.le_refl _, d⟩
  · rw [if_neg (by simpa using e)]
    by_cases m1 : m > 1
    · rw [if_pos m1]
      have c : lt (p.getD 0 0) (p.getD (m - 1) 0) = true := G.tot L (by omega) (by omega) (by omega) (d 0 (m - 1) (by omega) (by omega))
      have e2 : runP lt (KasT.ask (p.getD 0 0) (p.getD (m - 1) 0) fun c => if c = true then .ret (m, p) else kas_descPart m n (kas_rev p 0 m)) = (m, p) := by
        show runP lt (if lt (p.getD 0 0) (p.getD (m - 1) 0) = true then KasT.ret (m, p) else kas_descPart m n (kas_rev p 0 m)) = (m, p)
        rw [if_pos c]
        rfl
      rw [e2]
      exact ⟨a, by show m ≤ n; omega, d⟩
    · rw [if_neg m1]
      have e1 : m = 1 := by omega
      subst e1
      have c := g (by omega)
      unfold kas_descPart
      rw [runP_bind]
      obtain ⟨r, er, r1, r2, hr⟩ := desc_is L G (n - (1 + 1)) (1 + 1) (by omega) (by omega) (fun i j h h' => by
        have hi : i = 0 := by omega
        have hj : j = 1 := by omega
        rw [hi, hj]; exact c)
      rw [er]
      have e3 : (if (p, r, 0).2.2 > 0 then kas_tail3 (p, r, 0).2.1 n (kas_rev (p, r, 0).1 ((p, r, 0).2.1 - ((p, r, 0).2.2 + 1)) (p, r, 0).2.1) else kas_tail3 (p, r, 0).2.1 n (p, r, 0).1) = kas_tail3 r n p := if_neg (Nat.lt_irrefl 0)
      rw [e3]
      unfold kas_tail3
      rw [runP_bind]
      have sr : Srt lt (kas_rev p 0 r) r := by
        intro i j h h'
        rw [rev_at (by omega), rev_at (by omega), if_pos h', if_pos (by omega)]
        exact L.as _ _ (hr _ _ (by omega) (by omega))
      obtain ⟨a', b', d', _⟩ := asc_is (p := kas_rev p 0 r) L (n - r) r (by omega) sr
      exact ⟨by show 1 ≤ runP lt (kas_asc (kas_rev p 0 r) (n - r) r); omega, by show runP lt (kas_asc (kas_rev p 0 r) (n - r) r) ≤ n; omega, d'⟩
theorem place_is (L : Lo n lt) (hs : Srt lt p k) : ∀ f l r, l ≤ r → r ≤ k → r - l ≤ f → (∀ i, i < l → lt (p.getD k 0) (p.getD i 0) = false) → (∀ i, r ≤ i → i < k → lt (p.getD k 0) (p.getD i 0) = true) →
    runP lt (kas_place p k f l r) ≤ k ∧ (∀ i, i < runP lt (kas_place p k f l r) → lt (p.getD k 0) (p.getD i 0) = false) ∧ (∀ i, runP lt (kas_place p k f l r) ≤ i → i < k → lt (p.getD k 0) (p.getD i 0) = true)
  | 0, l, r, h1, h2, h3, a, b => ⟨by show l ≤ k; omega, a, fun i hi => b i (by have : l ≤ i := hi; omega)⟩
  | f + 1, l, r, h1, h2, h3, a, b => by
    unfold kas_place
    by_cases q : l ≥ r
    · rw [if_pos q]
      exact ⟨by show l ≤ k; omega, a, fun i hi => b i (by have : l ≤ i := hi; omega)⟩
    · rw [if_neg q]
      obtain ⟨c, hc⟩ : ∃ c, lt (p.getD k 0) (p.getD ((l + r) / 2) 0) = c := ⟨_, rfl⟩
      show runP lt (if lt (p.getD k 0) (p.getD ((l + r) / 2) 0) = true then kas_place p k f l ((l + r) / 2) else kas_place p k f ((l + r) / 2 + 1) r) ≤ k ∧ (∀ i, i < runP lt (if lt (p.getD k 0) (p.getD ((l + r) / 2) 0) = true then kas_place p k f l ((l + r) / 2) else kas_place p k f ((l + r) / 2 + 1) r) → _) ∧ (∀ i, runP lt (if lt (p.getD k 0) (p.getD ((l + r) / 2) 0) = true then kas_place p k f l ((l + r) / 2) else kas_place p k f ((l + r) / 2 + 1) r) ≤ i → _)
      rw [hc]
      cases c with
      | true =>
        rw [if_pos rfl]
        refine place_is L hs f l ((l + r) / 2) (by omega) (by omega) (by omega) a fun i hi hk => ?_
        cases e : lt (p.getD k 0) (p.getD i 0) with
        | true => rfl
        | false =>
          by_cases ei : i = (l + r) / 2
          · rw [ei, hc] at e; cases e
          · have := L.tr _ _ _ (hs ((l + r) / 2) i (by omega) hk) e
            rw [hc] at this
            cases this
      | false =>
        rw [if_neg (by simp)]
        refine place_is L hs f ((l + r) / 2 + 1) r (by omega) (by omega) (by omega) (fun i hi => ?_) b
        by_cases ei : i = (l + r) / 2
        · rw [ei]; exact hc
        · exact L.tr _ _ _ (hs i ((l + r) / 2) (by omega) (by omega)) hc
theorem bub_at {l : Nat} (hk : k < p.size) (hl : l ≤ k) (i : Nat) : (bubble p k (k - l)).getD i 0 = if i = l then p.getD k 0 else if l < i ∧ i ≤ k then p.getD (i - 1) 0 else p.getD i 0 := by
  have h := getElem?_bubble (xs := p) hk (k - l) (by omega) i
  rw [show k - (k - l) = l by omega] at h
  rw [getD_q, getD_q, getD_q, getD_q, h]
  split
  · rfl
  · split <;> rfl
theorem bin_is (L : Lo n lt) : ∀ f (p : Array Nat) k, Gd n p → Srt lt p k → k + f = n → Srt lt (runP lt (kas_bin f p k)) n
  | 0, p, k, G, hs, e => by
    have e : k = n := e
    rw [← e]
    exact hs
  | f + 1, p, k, G, hs, e => by
    unfold kas_bin
    rw [runP_bind]
    obtain ⟨a, b, d⟩ := place_is L hs k 0 k (Nat.zero_le _) (Nat.le_refl _) (by omega) (fun i hi => absurd hi (by omega)) (fun i h h' => absurd h' (by omega))
    generalize runP lt (kas_place p k k 0 k) = l at a b d ⊢
    refine bin_is L f _ (k + 1) (G.bub _ _) (fun i j hij hj => ?_) (by omega)
    have s := G.size
    rw [bub_at (by omega) a, bub_at (by omega) a]
    by_cases j1 : j = l
    · rw [if_pos j1, if_neg (by omega), if_neg (by omega)]
      exact b i (by omega)
    · rw [if_neg j1]
      by_cases j2 : l < j ∧ j ≤ k
      · rw [if_pos j2]
        by_cases i1 : i = l
        · rw [if_pos i1]
          exact L.as _ _ (d (j - 1) (by omega) (by omega))
        · rw [if_neg i1]
          by_cases i2 : l < i ∧ i ≤ k
          · rw [if_pos i2]
            exact hs _ _ (by omega) (by omega)
          · rw [if_neg i2]
            exact hs _ _ (by omega) (by omega)
      · rw [if_neg j2, if_neg (by omega), if_neg (by omega)]
        exact hs _ _ hij (by omega)
theorem sort_is (L : Lo n lt) (n1 : 1 ≤ n) : Srt lt (runP lt (kas_sort n)) n := by
  unfold kas_sort
  rw [runP_bind]
  have G0 : Gd n (List.toArray (List.range n)) := Array.Perm.refl _
  have G := runP_ok (lt := lt) _ (ok_count G0 n1 n)
  obtain ⟨a, b, d⟩ := count_is L G0 n1
  generalize runP lt (kas_count n (List.toArray (List.range n))) = r at G a b d ⊢
  by_cases h : r.1 < n
  · rw [if_pos h, show max r.1 1 = r.1 by omega]
    exact bin_is L _ _ _ G d (by omega)
  · rw [if_neg h]
    have e : r.1 = n := by omega
    rw [← e]
    exact d
theorem ord_srt (L : Lo n lt) (n1 : 1 ≤ n) : (ord n lt).Pairwise (fun i j => lt j i = false) := by
  have h := sort_is L n1
  have G := runP_ok (lt := lt) _ (ok_sort (n := n) n1)
  have s := G.size
  unfold ord
  rw [List.pairwise_iff_getElem]
  intro i j hi hj hij
  have hj' : j < n := by simpa [s] using hj
  have e := h i j hij hj'
  simpa [Array.getD, s, hj', show i < n by omega] using e
end
end DGX
namespace DL
open PySem L2
theorem triLt_iff (s t : Int × Int × Int) : triLt s t = true ↔ s.1 < t.1 ∨ (s.1 = t.1 ∧ (s.2.1 < t.2.1 ∨ (s.2.1 = t.2.1 ∧ s.2.2 < t.2.2))) := by
  obtain ⟨a, b, c⟩ := s
  obtain ⟨a', b', c'⟩ := t
  unfold triLt
  by_cases h : a = a'
  · subst h
    by_cases h2 : b = b'
    · subst h2
      by_cases h3 : c = c'
      · subst h3
        simp
      · simp [HT.lexLt, h3]
    · simp [HT.lexLt, h2]
  · simp [h]
theorem triLt_no (s t : Int × Int × Int) : triLt s t = false ↔ ¬ (s.1 < t.1 ∨ (s.1 = t.1 ∧ (s.2.1 < t.2.1 ∨ (s.2.1 = t.2.1 ∧ s.2.2 < t.2.2)))) := by
  rw [← triLt_iff, Bool.not_eq_true]
theorem tri_lo {l : List (Int × Int × Int)} (nd : l.Nodup) : DGX.Lo l.length (fun i j => triLt (l.getD i (0, 0, 0)) (l.getD j (0, 0, 0))) where
  as := fun i j h => by
    rw [triLt_iff] at h
    rw [triLt_no]
    omega
  tr := fun i j k h1 h2 => by
    rw [triLt_no] at h1 h2 ⊢
    omega
  tot := fun i j hi hj ne h => by
    rw [triLt_no] at h
    rw [triLt_iff]
    have n2 : l.getD i (0, 0, 0) ≠ l.getD j (0, 0, 0) := fun e => by
      have e1 : l.getD i (0, 0, 0) = l[i] := by simp [hi]
      have e2 : l.getD j (0, 0, 0) = l[j] := by simp [hj]
      rw [e1, e2] at e
      exact ne ((List.getElem_inj nd).mp e)
    have n3 : ¬ ((l.getD i (0, 0, 0)).1 = (l.getD j (0, 0, 0)).1 ∧ (l.getD i (0, 0, 0)).2.1 = (l.getD j (0, 0, 0)).2.1 ∧ (l.getD i (0, 0, 0)).2.2 = (l.getD j (0, 0, 0)).2.2) := fun e => n2 (Prod.ext e.1 (Prod.ext e.2.1 e.2.2))
    omega
theorem triS_srt {l : List (Int × Int × Int)} (h : l ≠ []) (nd : l.Nodup) : (triS l).Pairwise (fun x y => triLt y x = false) := by
  unfold triS triO
  rw [List.pairwise_map]
  exact DGX.ord_srt (tri_lo nd) (List.length_pos_iff.mpr h)
theorem tri_uq : ∀ {a b : List (Int × Int × Int)}, a.Perm b → a.Pairwise (fun x y => triLt y x = false) → b.Pairwise (fun x y => triLt y x = false) → a = b
  | [], b, h, _, _ => (List.nil_perm.mp h).symm
  | x :: a, [], h, _, _ => by simpa using h.length_eq
  | x :: a, y :: b, h, ha, hb => by
    have e : x = y := by
      have m1 : x ∈ y :: b := h.mem_iff.mp List.mem_cons_self
      have m2 : y ∈ x :: a := h.mem_iff.mpr List.mem_cons_self
      rcases List.mem_cons.mp m1 with m1 | m1
      · exact m1
      · rcases List.mem_cons.mp m2 with m2 | m2
        · exact m2.symm
        · have h1 := (List.pairwise_cons.mp hb).1 x m1
          have h2 := (List.pairwise_cons.mp ha).1 y m2
          rw [triLt_no] at h1 h2
          exact Prod.ext (by omega) (Prod.ext (by omega) (by omega))
    subst e
    rw [tri_uq (List.Perm.cons_inv h) (List.pairwise_cons.mp ha).2 (List.pairwise_cons.mp hb).2]
end DL

set_option Elab.async false
set_option linter.all false
set_option maxRecDepth 100000
/-! ### list(reversed(list)) -/
namespace DBX
open PySem PySem.Spec PyProof.Rows
open Sem (wp)
section
variable {prog : Program} {w : World} {A : Around} {E : Value → Shared → Prop} {s : Shared}
end
end DBX
namespace DL
open PySem L2
section
variable {Y : Cy} {T : Tx} {k : Nat} {N G : List Str} {c : List Slot} {e a b b' tg : Expr} {pos p1 p2 p3 : Pos} {d : D} {ds : List D} {P : Out → Prop} {rest : List Stmt} {x : Str}
end
end DL

set_option Elab.async false
set_option linter.all false
set_option maxRecDepth 100000
namespace DL
open PySem L2
/-! ### x in a list of tuples, max of three whole numbers -/
section
variable {Y : Cy} {T : Tx} {k : Nat} {N G : List Str} {c : List Slot} {a b : Expr} {pos : Pos} {d : D} {ds : List D}
end
end DL

set_option Elab.async false
set_option linter.all false
set_option maxRecDepth 100000
namespace DL
open PySem L2
/-! ### enumerate of a list that lies still -/
structure EnumT (g : Heap) (e it a : Addr) (i : Nat) : Prop where
  ee : ∃ old, IsEnum g e it i old
  ii : g.IsListIter it a i
section
variable {Y : Cy} {T : Tx} {k : Nat} {N G : List Str} {c : List Slot} {a : Expr} {pos : Pos} {xs : List D}
end
/-! ### any(list of truths), l[i:j] -/
section
variable {Y : Cy} {T : Tx} {k : Nat} {N G : List Str} {c : List Slot} {e a b b2 : Expr} {pos p2 : Pos} {ds : List D}
theorem reps_drop32 {K : PySem.W.Frag} {F : Hp} : ∀ (n : Nat) {vs : List V} {ds : List D}, Reps K F vs ds → Reps K F (vs.drop n) (ds.drop n)
  | 0, _, _, r => r
  | n + 1, _, _, .nil => .nil
  | n + 1, _, _, .cons _ t => reps_drop32 n t
theorem reps_take32 {K : PySem.W.Frag} {F : Hp} : ∀ (n : Nat) {vs : List V} {ds : List D}, Reps K F vs ds → Reps K F (vs.take n) (ds.take n)
  | 0, _, _, _ => .nil
  | n + 1, _, _, .nil => .nil
  | n + 1, _, _, .cons h t => .cons h (reps_take32 n t)
theorem po_D32 {e : Expr} {i : Int} (h : EvD Y e c (.int i)) : PO Y.X (some e) (fun σ H Q => ∃ F, EnvY Y F H σ c ∧ ∀ F' H', Ext F H F' H' → Q (some i) H') := by
  have := po_some h
  intro pins s σ H Q I ⟨F, E, q⟩
  exact this pins s σ H Q I ⟨F, E, fun v F1 H1 e1 r1 => ⟨i, inv_int r1, q F1 H1 e1⟩⟩
end
end DL

set_option Elab.async false
set_option linter.all false
set_option maxRecDepth 100000
namespace DL
open PySem L2
/-! ### zip of two lists -/
structure ZipL (g : Heap) (z U V i1 i2 l1 l2 : Addr) (k : Nat) (f : Value) : Prop where
  zz : IsZip g z U V f
  uu : IsPair g U (.ref i1) (.ref i2)
  vv : ∃ a b, IsPair g V a b
  j1 : g.IsListIter i1 l1 k
  j2 : g.IsListIter i2 l2 k
section
variable {Y : Cy} {T : Tx} {k : Nat} {N G : List Str} {c : List Slot} {a b : Expr} {pos p2 : Pos} {xs ys ds : List D} {d : D}
/-! ### l[::n] -/
/-! ### x not in a list of tuples -/
end
end DL

set_option Elab.async false
set_option linter.all false
set_option maxRecDepth 100000
namespace DL
open PySem L2
/-! dicts of our own, their keys whole numbers -/
section
variable {K : PySem.W.Frag} {F₀ H₀ F H : Hp} {σ : St} {c : List Slot} {i : Nat} {a p : Addr} {kv : List (Key × V)} {kvs : List (Int × D)}
end
section
variable {Y : Cy} {T : Tx} {k : Nat} {N G : List Str} {c : List Slot} {a b e : Expr} {es : List Expr} {pos p1 p2 p3 : Pos} {rest : List Stmt} {P : Out → Prop} {d : D} {kvs : List (Int × D)} {x : Str}
theorem dic_units (S : Se Y T k N G) : Y.X.A.units + 1 < cLine := Nat.lt_of_le_of_lt (Nat.add_le_add_left (by decide : 1 ≤ 64) _) S.room.units
end
end DL

set_option Elab.async false
set_option linter.all false
set_option maxRecDepth 100000
namespace DL
open PySem L2
/-! ### a def that hands back a tuple of a whole number and two new lists -/
def spG (K : PySem.W.Frag) (R : List D → (PySem.W.Frag → Hp → Hp → V → Hp → Prop) → Prop) : Sp := fun vs H Q _ => ∃ F ds r, Same F H ∧ Reps K F vs ds ∧ R ds r ∧ ∀ v F' H1 H', Ext F H F' H1 → r K F' H1 v H' → Q v H'
structure FnG (T : Tx) (k : Nat) (x : Str) (R : List D → (PySem.W.Frag → Hp → Hp → V → Hp → Prop) → Prop) : Prop where
  ex : ∃ (f : Addr) (fd : FuncData) (ps : List Str), T.mg x = some (.ref f) ∧ PySem.W.keepIn T.K (.ref f) = true ∧ Binds T.K fd ps [] ∧ FnOk T.prog T.w T.K T.mg T.base CX0 k f fd ps (spG T.K R)
section
variable {Y : Cy} {T : Tx} {k j : Nat} {N G ps : List Str} {c : List Slot} {e e1 e2 e3 : Expr} {es : List Expr} {pos p : Pos} {d : D} {ds l l1 l2 : List D} {R : List D → (PySem.W.Frag → Hp → Hp → V → Hp → Prop) → Prop} {r : PySem.W.Frag → Hp → Hp → V → Hp → Prop} {x qual : Str} {P : Out → Prop} {rest : List Stmt}
theorem ow_to {l l' : List D} (h : OwD Y e c l) (q : l = l') : OwD Y e c l' := q ▸ h
/-- a tuple with two lists of our own is at hand -/
structure At3 (Y : Cy) (i : Nat) (c : List Slot) (F H : Hp) (σ : St) (p a b : Addr) (x : Int) (ws1 ws2 : List V) : Prop where
  E : EnvY Y F H σ (put c i .un)
  s : σ[i]? = some (some (.ref p))
  hp : H p = some (.tup [.int x, .ref a, .ref b])
  ha : H a = some (.lst ws1)
  hb : H b = some (.lst ws2)
  fp : F p = none
  fa : F a = none
  fb : F b = none
  op : Y.H0 p = none
  oa : Y.H0 a = none
  ob : Y.H0 b = none
  ab : a ≠ b
  pa : p ≠ a
  pb : p ≠ b
/-- all but a -/
def wo (H : Hp) (a : Addr) : Hp := fun z => if z = a then none else H z
theorem wo_at (H : Hp) (a : Addr) : wo H a a = none := if_pos rfl
theorem wo_ne {H : Hp} {a z : Addr} (h : z ≠ a) : wo H a z = H z := if_neg h
theorem wo_upd {H : Hp} {a : Addr} {o : HO} (h : H a = some o) : upd (wo H a) a o = H := by
  funext z
  by_cases hz : z = a
  · subst hz; rw [upd_same, h]
  · rw [upd_ne hz, wo_ne hz]
end
end DL

set_option linter.all false
namespace STB
open PySem
/-! ### the walk i, 5 i + 1, .. goes through all slots -/
def aa : Nat → Nat
  | 0 => 0
  | n + 1 => 5 * aa n + 1
theorem five (n : Nat) : 5 ^ n = 4 * aa n + 1 := by
  induction n with
  | zero => rfl
  | succ n ih => rw [Nat.pow_succ, ih]; show _ = 4 * (5 * aa n + 1) + 1; omega
theorem aa_add (m d : Nat) : aa (m + d) = aa m + 5 ^ m * aa d := by
  induction d with
  | zero => simp [aa]
  | succ d ih =>
    show 5 * aa (m + d) + 1 = aa m + 5 ^ m * (5 * aa d + 1)
    rw [ih, five m]
    grind
theorem aa_two (d : Nat) : aa (2 * d) = 2 * (aa d * (2 * aa d + 1)) := by
  rw [show 2 * d = d + d by omega, aa_add, five d]
  grind
theorem aa_par (d : Nat) : aa d % 2 = d % 2 := by
  induction d with
  | zero => rfl
  | succ d ih => show (5 * aa d + 1) % 2 = _; omega
theorem odd_dvd {k x y : Nat} (h : 2 ^ k ∣ x * y) (hy : y % 2 = 1) : 2 ^ k ∣ x := by
  have c : Nat.Coprime (2 ^ k) y := by
    apply Nat.Coprime.pow_left
    unfold Nat.Coprime
    have : Nat.gcd 2 y ∣ 2 := Nat.gcd_dvd_left 2 y
    have h2 : Nat.gcd 2 y ≤ 2 := Nat.le_of_dvd (by decide) this
    have h3 : Nat.gcd 2 y ∣ y := Nat.gcd_dvd_right 2 y
    have h0 : 0 < Nat.gcd 2 y := Nat.gcd_pos_of_pos_left _ (by decide)
    rcases Nat.lt_or_ge (Nat.gcd 2 y) 2 with q | q
    · omega
    · have e : Nat.gcd 2 y = 2 := by omega
      rw [e] at h3
      omega
  exact c.dvd_of_dvd_mul_right h
theorem aa_dvd : ∀ (k d : Nat), 2 ^ k ∣ aa d → 2 ^ k ∣ d
  | 0, d, _ => by simp
  | k + 1, d, h => by
    have h2 : 2 ∣ aa d := Nat.dvd_trans ⟨2 ^ k, by rw [Nat.pow_succ]; omega⟩ h
    have p := aa_par d
    obtain ⟨e, rfl⟩ : ∃ e, d = 2 * e := ⟨d / 2, by omega⟩
    rw [aa_two, Nat.pow_succ, Nat.mul_comm (2 ^ k) 2] at h
    have h3 : 2 ^ k ∣ aa e * (2 * aa e + 1) := Nat.dvd_of_mul_dvd_mul_left (by decide) h
    have h4 := aa_dvd k e (odd_dvd h3 (by omega))
    rw [Nat.pow_succ, Nat.mul_comm (2 ^ k) 2]
    exact Nat.mul_dvd_mul_left 2 h4
def wk (M i : Nat) : Nat → Nat
  | 0 => i
  | n + 1 => (5 * wk M i n + 1) % M
theorem wk_is (M i n : Nat) : wk M i n % M = (i + aa n * (4 * i + 1)) % M := by
  induction n with
  | zero => simp [wk, aa]
  | succ n ih =>
    show ((5 * wk M i n + 1) % M) % M = (i + (5 * aa n + 1) * (4 * i + 1)) % M
    rw [Nat.mod_mod, Nat.add_mod, Nat.mul_mod, ih, ← Nat.mul_mod, ← Nat.add_mod]
    congr 1
    grind
theorem wk_inj {k i m n : Nat} (hmn : m < n) (hn : n < 2 ^ k) (h : wk (2 ^ k) i m % 2 ^ k = wk (2 ^ k) i n % 2 ^ k) : False := by
  rw [wk_is, wk_is] at h
  obtain ⟨d, rfl⟩ : ∃ d, n = m + d := ⟨n - m, by omega⟩
  rw [aa_add] at h
  have e : i + (aa m + 5 ^ m * aa d) * (4 * i + 1) = (i + aa m * (4 * i + 1)) + 5 ^ m * aa d * (4 * i + 1) := by grind
  rw [e] at h
  have dv : 2 ^ k ∣ 5 ^ m * aa d * (4 * i + 1) := by
    have h' : (i + aa m * (4 * i + 1) + 5 ^ m * aa d * (4 * i + 1) - (i + aa m * (4 * i + 1))) % 2 ^ k = 0 := Nat.sub_mod_eq_zero_of_mod_eq h.symm
    rw [Nat.add_sub_cancel_left] at h'
    exact Nat.dvd_of_mod_eq_zero h'
  have d1 := odd_dvd dv (by omega)
  rw [Nat.mul_comm] at d1
  have d2 := odd_dvd d1 (by rw [five]; omega)
  have d3 := aa_dvd k d d2
  have := Nat.le_of_dvd (by omega) d3
  omega
theorem pigeonS : ∀ (M : Nat) (l : List Nat), l.Nodup → (∀ x ∈ l, x < M) → l.length ≤ M
  | 0, l, _, h => by
    cases l with
    | nil => exact Nat.le_refl _
    | cons x t => exact absurd (h x (List.mem_cons_self)) (by omega)
  | M + 1, l, nd, h => by
    have ih := pigeonS M (l.erase M) (nd.erase M) fun x hx => by
      have q := (List.Nodup.mem_erase_iff nd).mp hx
      have := h x q.2
      omega
    have e := List.length_erase (l := l) (a := M)
    split at e <;> omega
theorem wk_lt {k i : Nat} (hi : i < 2 ^ k) : ∀ n, wk (2 ^ k) i n < 2 ^ k
  | 0 => hi
  | n + 1 => Nat.mod_lt _ (Nat.two_pow_pos k)
/-- every slot is met within 2 ^ k turns -/
theorem wk_all {k i j : Nat} (hi : i < 2 ^ k) (hj : j < 2 ^ k) : ∃ n, n < 2 ^ k ∧ wk (2 ^ k) i n = j := by
  apply Classical.byContradiction
  intro no
  have nd : (j :: (List.range (2 ^ k)).map (wk (2 ^ k) i)).Nodup := by
    rw [List.nodup_cons]
    refine ⟨fun h => ?_, ?_⟩
    · obtain ⟨n, hn, e⟩ := List.mem_map.mp h
      exact no ⟨n, List.mem_range.mp hn, e⟩
    · unfold List.Nodup
      rw [List.pairwise_map]
      refine List.Pairwise.imp_of_mem ?_ List.nodup_range
      intro a b ha hb hne e
      have ha := List.mem_range.mp ha
      have hb := List.mem_range.mp hb
      rcases Nat.lt_or_gt_of_ne hne with q | q
      · exact wk_inj q hb (by rw [e])
      · exact wk_inj q ha (by rw [e])
  have q := pigeonS (2 ^ k) _ nd fun x hx => by
    rcases List.mem_cons.mp hx with rfl | hx
    · exact hj
    · obtain ⟨n, _, rfl⟩ := List.mem_map.mp hx
      exact wk_lt hi n
  rw [List.length_cons, List.length_map, List.length_range] at q
  omega
/-! ### the leaps -/
def lp (mask i q : Nat) : Nat → Nat × Nat
  | 0 => (i, q)
  | n + 1 => SetTable.leap mask (lp mask i q n).1 (lp mask i q n).2
theorem lp_q (mask i q n : Nat) : (lp mask i q n).2 = q / 32 ^ n := by
  induction n with
  | zero => simp [lp]
  | succ n ih =>
    show (lp mask i q n).2 / 32 = _
    rw [ih, Nat.pow_succ, Nat.div_div_eq_div_mul]
theorem lp_lt {mask i q : Nat} (hi : i ≤ mask) : ∀ n, (lp mask i q n).1 ≤ mask
  | 0 => hi
  | n + 1 => by
    show ((lp mask i q n).1 * 5 + 1 + (lp mask i q n).2 / 32) % (mask + 1) ≤ mask
    have := Nat.mod_lt ((lp mask i q n).1 * 5 + 1 + (lp mask i q n).2 / 32) (show 0 < mask + 1 by omega)
    omega
theorem lp_wk {k mask i q : Nat} (hM : mask + 1 = 2 ^ k) (hq : q < 2 ^ 64) (n : Nat) : (lp mask i q (13 + n)).1 = wk (2 ^ k) (lp mask i q 13).1 n := by
  induction n with
  | zero => rfl
  | succ n ih =>
    show ((lp mask i q (13 + n)).1 * 5 + 1 + (lp mask i q (13 + n)).2 / 32) % (mask + 1) = (5 * wk (2 ^ k) (lp mask i q 13).1 n + 1) % 2 ^ k
    have e : (lp mask i q (13 + n)).2 = 0 := by
      rw [lp_q]
      refine Nat.div_eq_of_lt (Nat.lt_of_lt_of_le hq ?_)
      calc 2 ^ 64 ≤ 32 ^ 13 := by decide
        _ ≤ 32 ^ (13 + n) := Nat.pow_le_pow_right (by decide) (by omega)
    rw [e, hM, ih, Nat.mul_comm]
theorem lp_all {k mask i q j : Nat} (hM : mask + 1 = 2 ^ k) (hi : i ≤ mask) (hq : q < 2 ^ 64) (hj : j ≤ mask) : ∃ n, n < mask + 14 ∧ (lp mask i q n).1 = j := by
  have h13 := lp_lt (q := q) hi 13
  obtain ⟨n, hn, e⟩ := wk_all (k := k) (i := (lp mask i q 13).1) (j := j) (by omega) (by omega)
  exact ⟨13 + n, by omega, by rw [lp_wk hM hq]; exact e⟩
theorem lp_shift (mask i q n : Nat) : lp mask i q (n + 1) = lp mask (SetTable.leap mask i q).1 (SetTable.leap mask i q).2 n := by
  induction n with
  | zero => rfl
  | succ n ih =>
    show SetTable.leap mask (lp mask i q (n + 1)).1 (lp mask i q (n + 1)).2 = _
    rw [ih]
    rfl
theorem runEnd_le {mask i : Nat} (h : i ≤ mask) : i ≤ SetTable.runEnd mask i ∧ SetTable.runEnd mask i ≤ mask ∧ SetTable.runEnd mask i - i ≤ 9 := by
  unfold SetTable.runEnd
  split <;> omega
/-! ### a clean table is laid -/
theorem free_some {mask : Nat} {owner : Array (Option Nat)} : ∀ (fuel i q : Nat), i ≤ mask → (∃ n, n < fuel ∧ (owner.getD (lp mask i q n).1 (some 0)).isNone = true) → ∃ j, SetTable.layClean.free mask owner fuel i q = some j ∧ j ≤ mask ∧ (owner.getD j (some 0)).isNone = true
  | 0, i, q, hi, ⟨n, hn, _⟩ => by omega
  | fuel + 1, i, q, hi, ⟨n, hn, he⟩ => by
    rw [SetTable.layClean.free.eq_def]
    have re := runEnd_le hi
    cases hf : List.find? (fun k => (owner.getD (i + k) (some 0)).isNone) (List.range (SetTable.runEnd mask i + 1 - i)) with
    | some k =>
      have h1 := List.mem_range.mp (List.mem_of_find?_eq_some hf)
      have h2 := List.find?_some hf
      simp only [hf]
      exact ⟨i + k, rfl, by omega, h2⟩
    | none =>
      have hn0 : n ≠ 0 := fun z => by
        subst z
        have := List.find?_eq_none.mp hf 0 (List.mem_range.mpr (by omega))
        exact this he
      obtain ⟨m, rfl⟩ : ∃ m, n = m + 1 := ⟨n - 1, by omega⟩
      rw [lp_shift] at he
      have hl : (SetTable.leap mask i q).1 ≤ mask := by
        have := Nat.mod_lt (i * 5 + 1 + q / 32) (show 0 < mask + 1 by omega)
        show (i * 5 + 1 + q / 32) % (mask + 1) ≤ mask
        omega
      simp only [hf]
      exact free_some fuel _ _ hl ⟨m, by omega, he⟩
structure OwnerOk (mask : Nat) (owner : Array (Option Nat)) (ps : List Nat) : Prop where
  sz : owner.size = mask + 1
  nd : ps.Nodup
  le : ∀ x ∈ ps, x ≤ mask
  at' : ∀ j, j ≤ mask → (j ∈ ps → ∃ i, owner[j]? = some (some i) ∧ i < ps.length) ∧ (j ∉ ps → owner[j]? = some none)
theorem subLen : ∀ (l m : List Nat), l.Nodup → (∀ x ∈ l, x ∈ m) → l.length ≤ m.length := by
  intro l
  induction l with
  | nil => intro m _ _; exact Nat.zero_le _
  | cons x l ih =>
    intro m nd hs
    rw [List.nodup_cons] at nd
    have hx := hs x (List.mem_cons_self)
    have := ih (m.erase x) nd.2 fun y hy => by
      have hm := hs y (List.mem_cons_of_mem _ hy)
      have ne : y ≠ x := fun z => nd.1 (z ▸ hy)
      exact (List.mem_erase_of_ne ne).mpr hm
    rw [List.length_erase_of_mem hx] at this
    have : 0 < m.length := List.length_pos_of_mem hx
    rw [List.length_cons]
    omega
theorem room {mask : Nat} {ps : List Nat} (h : ps.length ≤ mask) : ∃ e, e ≤ mask ∧ e ∉ ps := by
  apply Classical.byContradiction
  intro no
  have := subLen (List.range (mask + 1)) ps List.nodup_range fun x hx => by
    apply Classical.byContradiction
    intro q
    exact no ⟨x, by have := List.mem_range.mp hx; omega, q⟩
  rw [List.length_range] at this
  omega
theorem bits_lt (h : Int) : SetTable.bits h < 2 ^ 64 := by
  unfold SetTable.bits
  have h1 := Int.emod_nonneg h (show (2 ^ 64 : Int) ≠ 0 by decide)
  have h2 := Int.emod_lt_of_pos h (show (0 : Int) < 2 ^ 64 by decide)
  omega
abbrev layF (mask : Nat) : Option (Array (Option Nat) × Nat) → Int → Option (Array (Option Nat) × Nat) := fun acc h => do
  let __x ← acc
  match __x with
    | (owner, k) => do
      let j ← SetTable.layClean.free mask owner (SetTable.turns mask) (SetTable.bits h % (mask + 1)) (SetTable.bits h)
      pure (owner.setIfInBounds j (some k), k + 1)
theorem lay_fold {k mask : Nat} (hM : mask + 1 = 2 ^ k) : ∀ (l : List Int) (owner : Array (Option Nat)) (ps : List Nat), OwnerOk mask owner ps → ps.length + l.length ≤ mask + 1 →
    ∃ owner' ps', List.foldl (layF mask) (some (owner, ps.length)) l = some (owner', ps'.length) ∧ OwnerOk mask owner' ps' ∧ ps'.length = ps.length + l.length
  | [], owner, ps, O, _ => ⟨owner, ps, rfl, O, rfl⟩
  | h :: l, owner, ps, O, hl => by
    rw [List.length_cons] at hl
    obtain ⟨e, he, hn⟩ := room (mask := mask) (ps := ps) (by omega)
    have hi : SetTable.bits h % (mask + 1) ≤ mask := by have := Nat.mod_lt (SetTable.bits h) (show 0 < mask + 1 by omega); omega
    obtain ⟨n, hn', en⟩ := lp_all (j := e) hM hi (bits_lt h) he
    have fe := (O.at' e he).2 hn
    obtain ⟨j, hj, jl, je⟩ := free_some (owner := owner) (SetTable.turns mask) _ (SetTable.bits h) hi ⟨n, by show n < mask + 15; omega, by
      rw [en]
      show (owner.getD e (some 0)).isNone = true
      rw [Array.getD_eq_getD_getElem?, fe]; rfl⟩
    have jn : j ∉ ps := fun hm => by
      obtain ⟨i, hi', _⟩ := (O.at' j jl).1 hm
      rw [Array.getD_eq_getD_getElem?, hi'] at je
      cases je
    have O' : OwnerOk mask (owner.setIfInBounds j (some ps.length)) (ps ++ [j]) := by
      refine ⟨by rw [Array.size_setIfInBounds]; exact O.sz, ?_, ?_, ?_⟩
      · rw [List.nodup_append]
        refine ⟨O.nd, by simp, fun a ha b hb z => ?_⟩
        rw [List.mem_singleton.mp hb] at z
        exact jn (z ▸ ha)
      · intro x hx
        rcases List.mem_append.mp hx with hx | hx
        · exact O.le x hx
        · rw [List.mem_singleton.mp hx]; exact jl
      · intro x hx
        have oa := O.at' x hx
        rw [Array.getElem?_setIfInBounds]
        by_cases e2 : j = x
        · subst e2
          rw [if_pos rfl, if_pos (by rw [O.sz]; omega)]
          exact ⟨fun _ => ⟨ps.length, rfl, by simp⟩, fun z => absurd (List.mem_append_right _ (List.mem_singleton.mpr rfl)) z⟩
        · rw [if_neg e2]
          refine ⟨fun hm => ?_, fun hm => oa.2 fun z => hm (List.mem_append_left _ z)⟩
          rcases List.mem_append.mp hm with hm | hm
          · obtain ⟨i, h1, h2⟩ := oa.1 hm
            exact ⟨i, h1, by rw [List.length_append]; omega⟩
          · exact absurd (List.mem_singleton.mp hm).symm e2
    obtain ⟨owner', ps', h1, h2, h3⟩ := lay_fold hM l _ (ps ++ [j]) O' (by rw [List.length_append]; simp; omega)
    refine ⟨owner', ps', ?_, h2, by rw [h3, List.length_append]; simp; omega⟩
    rw [List.foldl_cons]
    have st : layF mask (some (owner, ps.length)) h = some (owner.setIfInBounds j (some ps.length), (ps ++ [j]).length) := by
      show (do let j ← SetTable.layClean.free mask owner (SetTable.turns mask) (SetTable.bits h % (mask + 1)) (SetTable.bits h); pure (owner.setIfInBounds j (some ps.length), ps.length + 1)) = _
      rw [hj, List.length_append]
      rfl
    rw [st]
    exact h1
/-- a table is sound: slots in rising order, none gone -/
structure Tab (t : SetTable) (n : Nat) : Prop where
  pow : ∃ k, 3 ≤ k ∧ t.mask + 1 = 2 ^ k
  dm : t.dummies = #[]
  sz : t.place.size = n
  up : List.Pairwise (· < ·) t.place.toList
  le : ∀ x ∈ t.place.toList, x ≤ t.mask
/-- and not too full -/
structure Good (t : SetTable) (n : Nat) : Prop extends Tab t n where
  full : n * 5 < t.mask * 3
def live (owner : Array (Option Nat)) (mask : Nat) : List (Nat × Nat) := List.filterMap (fun j => Option.map (fun x => (j, x)) (owner.getD j none)) (List.range (mask + 1))
theorem laid_good {k mask finger moves : Nat} {led plain : Bool} {hashes : Array Int} (hk : 3 ≤ k) (hM : mask + 1 = 2 ^ k) (hn : hashes.size * 5 < mask * 3) :
    ∃ t order, SetTable.laid mask finger moves led plain hashes = some (t, order) ∧ Good t hashes.size ∧ t.mask = mask ∧ order.size = hashes.size ∧ ∀ i ∈ order.toList, i < hashes.size := by
  have O0 : OwnerOk mask (Array.replicate (mask + 1) none) [] := ⟨by simp, List.nodup_nil, fun _ h => (by cases h), fun j hj => ⟨fun h => (by cases h), fun _ => by rw [Array.getElem?_replicate, if_pos (by omega)]⟩⟩
  obtain ⟨owner, ps, h1, O, h3⟩ := lay_fold hM hashes.toList _ [] O0 (by simp; omega)
  have hlc : SetTable.layClean mask hashes = some owner := by
    unfold SetTable.layClean
    rw [← Array.foldl_toList]
    show Option.map (fun x => x.fst) (List.foldl (layF mask) (some (Array.replicate (mask + 1) none, 0)) hashes.toList) = some owner
    have h1' : List.foldl (layF mask) (some (Array.replicate (mask + 1) none, 0)) hashes.toList = some (owner, ps.length) := h1
    rw [h1']
    rfl
  have hlen : ps.length = hashes.size := by rw [h3]; simp
  unfold SetTable.laid
  rw [hlc]
  show ∃ t order, some (({ mask := mask, place := (List.map (fun x => x.fst) (live owner mask)).toArray, dummies := #[], finger := finger, led := led, moves := moves, plain := plain } : SetTable), (List.map (fun x => x.snd) (live owner mask)).toArray) = some (t, order) ∧ _
  have mem : ∀ q ∈ live owner mask, q.1 ≤ mask ∧ owner[q.1]? = some (some q.2) := by
    intro q hq
    unfold live at hq
    rw [List.mem_filterMap] at hq
    obtain ⟨j, hj, e⟩ := hq
    have hj := List.mem_range.mp hj
    cases ho : owner.getD j none with
    | none => rw [ho] at e; cases e
    | some x =>
      rw [ho] at e
      cases e
      refine ⟨by show j ≤ mask; omega, ?_⟩
      show owner[j]? = some (some x)
      rw [Array.getD_eq_getD_getElem?] at ho
      cases h : owner[j]? with
      | none => rw [h] at ho; cases ho
      | some y => rw [h] at ho; rw [← ho]; rfl
  have up : List.Pairwise (fun a b => a.1 < b.1) (live owner mask) := by
    unfold live
    refine List.Pairwise.filterMap _ ?_ List.pairwise_lt_range
    intro a a' h b hb b' hb'
    cases ha : owner.getD a none with
    | none => rw [ha] at hb; cases hb
    | some x =>
      cases ha' : owner.getD a' none with
      | none => rw [ha'] at hb'; cases hb'
      | some x' => rw [ha] at hb; rw [ha'] at hb'; cases hb; cases hb'; exact h
  have up1 : List.Pairwise (· < ·) ((live owner mask).map (fun x => x.fst)) := List.pairwise_map.mpr up
  have nd1 : ((live owner mask).map (fun x => x.fst)).Nodup := up1.imp fun h => Nat.ne_of_lt h
  have inp : ∀ q ∈ live owner mask, q.1 ∈ ps ∧ q.2 < ps.length := fun q hq => by
    obtain ⟨m1, m2⟩ := mem q hq
    have oa := O.at' q.1 m1
    by_cases h : q.1 ∈ ps
    · obtain ⟨i, hi, hl⟩ := oa.1 h
      rw [m2] at hi
      cases hi
      exact ⟨h, hl⟩
    · rw [oa.2 h] at m2
      cases m2
  have len : ((live owner mask).map (fun x => x.fst)).length = ps.length := by
    apply Nat.le_antisymm
    · refine subLen _ _ nd1 fun x hx => ?_
      obtain ⟨q, hq, rfl⟩ := List.mem_map.mp hx
      exact (inp q hq).1
    · refine subLen _ _ O.nd fun x hx => ?_
      obtain ⟨i, hi, _⟩ := (O.at' x (O.le x hx)).1 hx
      refine List.mem_map.mpr ⟨(x, i), ?_, rfl⟩
      unfold live
      rw [List.mem_filterMap]
      refine ⟨x, List.mem_range.mpr (by have := O.le x hx; omega), ?_⟩
      rw [Array.getD_eq_getD_getElem?, hi]
      rfl
  rw [List.length_map] at len
  refine ⟨_, _, rfl, ⟨⟨⟨k, hk, hM⟩, rfl, by show (List.map (fun x => x.fst) (live owner mask)).toArray.size = _; simp; omega, up1, fun x hx => ?_⟩, hn⟩, rfl, by simp; omega, fun i hi => ?_⟩
  · obtain ⟨q, hq, rfl⟩ := List.mem_map.mp (show x ∈ (live owner mask).map (fun x => x.fst) from hx)
    exact (mem q hq).1
  · have hi : i ∈ (live owner mask).map (fun x => x.snd) := by simpa using hi
    obtain ⟨q, hq, rfl⟩ := List.mem_map.mp hi
    have := (inp q hq).2
    omega
/-! ### where a slot stands among the rising ones -/
theorem go_is {xs : Array Nat} {j : Nat} (up : List.Pairwise (· < ·) xs.toList) : ∀ (fuel lo hi : Nat), lo ≤ hi → hi ≤ xs.size → hi - lo ≤ fuel → (∀ i (h : i < xs.size), i < lo → xs[i] < j) → (∀ i (h : i < xs.size), hi ≤ i → j ≤ xs[i]) →
    SetTable.below.go xs j fuel lo hi ≤ xs.size ∧ (∀ i (h : i < xs.size), i < SetTable.below.go xs j fuel lo hi → xs[i] < j) ∧ (∀ i (h : i < xs.size), SetTable.below.go xs j fuel lo hi ≤ i → j ≤ xs[i])
  | 0, lo, hi, h1, h2, h3, h4, h5 => by
    have e : lo = hi := by omega
    subst e
    rw [SetTable.below.go.eq_def]
    exact ⟨h2, h4, h5⟩
  | fuel + 1, lo, hi, h1, h2, h3, h4, h5 => by
    rw [SetTable.below.go.eq_def]
    by_cases hlt : lo < hi
    · simp only [hlt, if_true]
      have mid : (lo + hi) / 2 < xs.size := by omega
      have gd : xs.getD ((lo + hi) / 2) j = xs[(lo + hi) / 2] := by rw [Array.getD_eq_getD_getElem?, Array.getElem?_eq_getElem mid]; rfl
      have mono : ∀ i i' (h : i < xs.size) (h' : i' < xs.size), i < i' → xs[i] < xs[i'] := fun i i' h h' hl => by
        have := List.pairwise_iff_getElem.mp up i i' (by simpa using h) (by simpa using h') hl
        simpa using this
      rw [gd]
      split
      · rename_i hc
        refine go_is up fuel _ _ (by omega) h2 (by omega) (fun i h hx => ?_) h5
        by_cases e : i = (lo + hi) / 2
        · subst e; exact hc
        · have := mono i _ h mid (by omega); omega
      · rename_i hc
        refine go_is up fuel _ _ (by omega) (by omega) (by omega) h4 (fun i h hx => ?_)
        by_cases e : i = (lo + hi) / 2
        · subst e; omega
        · have := mono _ i mid h (by omega); omega
    · simp only [hlt, if_false]
      have e : lo = hi := by omega
      subst e
      exact ⟨h2, h4, h5⟩
theorem below_is {xs : Array Nat} (j : Nat) (up : List.Pairwise (· < ·) xs.toList) : SetTable.below xs j ≤ xs.size ∧ (∀ i (h : i < xs.size), i < SetTable.below xs j → xs[i] < j) ∧ (∀ i (h : i < xs.size), SetTable.below xs j ≤ i → j ≤ xs[i]) :=
  go_is up _ _ _ (Nat.zero_le _) (Nat.le_refl _) (by omega) (fun i h hi => by omega) (fun i h hi => by omega)
theorem has_empty (j : Nat) : SetTable.has #[] j = false := by
  unfold SetTable.has
  simp
theorem slot_cases {t : SetTable} {n : Nat} (T : Tab t n) (j : Nat) : (t.slot j = .empty ∧ j ∉ t.place.toList) ∨ ∃ i, t.slot j = .live i ∧ i < n := by
  unfold SetTable.slot
  simp only []
  obtain ⟨h1, h2, h3⟩ := below_is j T.up
  by_cases e : (t.place[SetTable.below t.place j]? == some j) = true
  · refine .inr ⟨_, if_pos e, ?_⟩
    have e : t.place[SetTable.below t.place j]? = some j := by simpa using e
    have := (Array.getElem?_eq_some_iff.mp e).1
    rw [T.sz] at this
    exact this
  · refine .inl ⟨?_, fun hm => ?_⟩
    · rw [if_neg e, T.dm, has_empty]
      rfl
    · obtain ⟨i, hi, e2⟩ := List.getElem_of_mem hm
      have hi : i < t.place.size := by simpa using hi
      have e2 : t.place[i] = j := by simpa using e2
      have hb : SetTable.below t.place j = i := by
        have mono : ∀ i i' (h : i < t.place.size) (h' : i' < t.place.size), i < i' → t.place[i] < t.place[i'] := fun i i' h h' hl => by
          have := List.pairwise_iff_getElem.mp T.up i i' (by simpa using h) (by simpa using h') hl
          simpa using this
        rcases Nat.lt_trichotomy i (SetTable.below t.place j) with q | q | q
        · have := h2 i hi q; omega
        · exact q.symm
        · have hbl : SetTable.below t.place j < t.place.size := by omega
          have a1 := h3 _ hbl (Nat.le_refl _)
          have a2 := mono _ i hbl hi q
          omega
      rw [hb, Array.getElem?_eq_getElem hi, e2] at e
      exact e (by simp)
theorem slot_free {t : SetTable} {n : Nat} (T : Tab t n) (h : n ≤ t.mask) : ∃ e, e ≤ t.mask ∧ t.slot e = .empty := by
  obtain ⟨e, he, hn⟩ := room (mask := t.mask) (ps := t.place.toList) (by rw [Array.length_toList, T.sz]; exact h)
  refine ⟨e, he, ?_⟩
  rcases slot_cases T e with q | ⟨i, q, _⟩
  · exact q.1
  · exfalso
    unfold SetTable.slot at q
    simp only [] at q
    by_cases e2 : (t.place[SetTable.below t.place e]? == some e) = true
    · have e3 : t.place[SetTable.below t.place e]? = some e := by simpa using e2
      exact hn (List.mem_of_getElem? (by rw [Array.getElem?_toList]; exact e3))
    · rw [if_neg e2, T.dm, has_empty] at q
      cases q
/-- a slot is taken -/
theorem put_tab {t : SetTable} {n j : Nat} (T : Tab t n) (hj : j ≤ t.mask) (he : t.slot j = .empty) : Tab (t.put j).1 (n + 1) ∧ (t.put j).1.mask = t.mask ∧ (t.put j).2 ≤ n := by
  obtain ⟨h1, h2, h3⟩ := below_is j T.up
  have hn : j ∉ t.place.toList := by
    rcases slot_cases T j with q | ⟨i, q, _⟩
    · exact q.2
    · rw [q] at he; cases he
  have tl : (SetTable.insertAt t.place (SetTable.below t.place j) j).toList = t.place.toList.take (SetTable.below t.place j) ++ j :: t.place.toList.drop (SetTable.below t.place j) := by
    unfold SetTable.insertAt
    simp
    exact List.take_of_length_le (by rw [List.length_drop, Array.length_toList]; exact Nat.le_refl _)
  have ht : ∀ y ∈ t.place.toList.take (SetTable.below t.place j), y < j := fun y hy => by
    obtain ⟨i, hi, rfl⟩ := List.getElem_of_mem hy
    rw [List.length_take] at hi
    rw [List.getElem_take]
    have := h2 i (by simp at hi; omega) (by omega)
    simpa using this
  have hd : ∀ y ∈ t.place.toList.drop (SetTable.below t.place j), j < y := fun y hy => by
    have hm := List.mem_of_mem_drop hy
    obtain ⟨i, hi, rfl⟩ := List.getElem_of_mem hy
    rw [List.length_drop] at hi
    rw [List.getElem_drop] at hm ⊢
    have a := h3 (SetTable.below t.place j + i) (by simp at hi; omega) (by omega)
    have a : j ≤ t.place.toList[SetTable.below t.place j + i] := by simpa using a
    have b : t.place.toList[SetTable.below t.place j + i] ≠ j := fun z => hn (z ▸ hm)
    omega
  refine ⟨⟨T.pow, ?_, ?_, ?_, ?_⟩, rfl, by rw [← T.sz]; exact h1⟩
  · show (if SetTable.has t.dummies j = true then _ else t.dummies) = #[]
    rw [T.dm, has_empty]
    rfl
  · show (SetTable.insertAt t.place (SetTable.below t.place j) j).size = n + 1
    rw [← Array.length_toList, tl]
    have := T.sz
    rw [← Array.length_toList] at this
    have h1' : SetTable.below t.place j ≤ t.place.toList.length := by simpa using h1
    rw [List.length_append, List.length_cons, List.length_take, List.length_drop]
    omega
  · show List.Pairwise (· < ·) (SetTable.insertAt t.place (SetTable.below t.place j) j).toList
    rw [tl, List.pairwise_append, List.pairwise_cons]
    refine ⟨T.up.take, ⟨hd, T.up.drop⟩, fun a ha b hb => ?_⟩
    rcases List.mem_cons.mp hb with rfl | hb
    · exact ht a ha
    · exact Nat.lt_trans (ht a ha) (hd b hb)
  · show ∀ x ∈ (SetTable.insertAt t.place (SetTable.below t.place j) j).toList, x ≤ t.mask
    rw [tl]
    intro x hx
    rcases List.mem_append.mp hx with hx | hx
    · exact T.le x (List.mem_of_mem_take hx)
    · rcases List.mem_cons.mp hx with rfl | hx
      · exact hj
      · exact T.le x (List.mem_of_mem_drop hx)
/-! ### the search -/
def pr (t : SetTable) (h : Int) : Nat → SetTable.Probe
  | 0 => t.probeStart h
  | n + 1 => t.advance (pr t h n)
structure PrOk (t : SetTable) (p : SetTable.Probe) : Prop where
  i : p.i ≤ t.mask
  jm : p.j + p.more ≤ t.mask
  dm : p.dummy = none
theorem adv_ok {t : SetTable} {p : SetTable.Probe} (P : PrOk t p) : PrOk t (t.advance p) := by
  unfold SetTable.advance
  split
  · exact ⟨P.i, by show p.j + 1 + (p.more - 1) ≤ t.mask; have := P.jm; omega, P.dm⟩
  · have hl : (p.i * 5 + 1 + p.perturb / 32) % (t.mask + 1) ≤ t.mask := by have := Nat.mod_lt (p.i * 5 + 1 + p.perturb / 32) (show 0 < t.mask + 1 by omega); omega
    have re := runEnd_le hl
    exact ⟨hl, by show (p.i * 5 + 1 + p.perturb / 32) % (t.mask + 1) + (SetTable.runEnd t.mask ((p.i * 5 + 1 + p.perturb / 32) % (t.mask + 1)) - (p.i * 5 + 1 + p.perturb / 32) % (t.mask + 1)) ≤ t.mask; omega, P.dm⟩
theorem pr_ok (t : SetTable) (h : Int) : ∀ n, PrOk t (pr t h n)
  | 0 => by
    have hl : SetTable.bits h % (t.mask + 1) ≤ t.mask := by have := Nat.mod_lt (SetTable.bits h) (show 0 < t.mask + 1 by omega); omega
    have re := runEnd_le hl
    exact ⟨hl, by show SetTable.bits h % (t.mask + 1) + (SetTable.runEnd t.mask (SetTable.bits h % (t.mask + 1)) - SetTable.bits h % (t.mask + 1)) ≤ t.mask; omega, rfl⟩
  | n + 1 => adv_ok (pr_ok t h n)
theorem pr_run {t : SetTable} {h : Int} {m j i q : Nat} : ∀ (r : Nat), pr t h m = ⟨j, r, i, q, none⟩ → pr t h (m + r) = ⟨j + r, 0, i, q, none⟩
  | 0, e => e
  | r + 1, e => by
    have s : pr t h (m + 1) = ⟨j + 1, r, i, q, none⟩ := by
      show t.advance (pr t h m) = _
      rw [e]
      unfold SetTable.advance
      rw [if_pos (by show r + 1 > 0; omega)]
      rfl
    have := pr_run (m := m + 1) (j := j + 1) r s
    rw [show m + (r + 1) = m + 1 + r by omega, this, show j + 1 + r = j + (r + 1) by omega]
theorem pr_block (t : SetTable) (h : Int) : ∀ n : Nat, ∃ m, m ≤ 10 * n ∧ pr t h m = ⟨(lp t.mask (SetTable.bits h % (t.mask + 1)) (SetTable.bits h) n).1, SetTable.runEnd t.mask (lp t.mask (SetTable.bits h % (t.mask + 1)) (SetTable.bits h) n).1 - (lp t.mask (SetTable.bits h % (t.mask + 1)) (SetTable.bits h) n).1, (lp t.mask (SetTable.bits h % (t.mask + 1)) (SetTable.bits h) n).1, (lp t.mask (SetTable.bits h % (t.mask + 1)) (SetTable.bits h) n).2, none⟩
  | 0 => ⟨0, Nat.le_refl _, rfl⟩
  | n + 1 => by
    obtain ⟨m, hm, e⟩ := pr_block t h n
    have hi : SetTable.bits h % (t.mask + 1) ≤ t.mask := by have := Nat.mod_lt (SetTable.bits h) (show 0 < t.mask + 1 by omega); omega
    have hl := lp_lt (q := SetTable.bits h) hi n
    have re := runEnd_le hl
    have rn := pr_run _ e
    refine ⟨m + (SetTable.runEnd t.mask (lp t.mask (SetTable.bits h % (t.mask + 1)) (SetTable.bits h) n).1 - (lp t.mask (SetTable.bits h % (t.mask + 1)) (SetTable.bits h) n).1) + 1, by omega, ?_⟩
    show t.advance (pr t h _) = _
    rw [rn]
    unfold SetTable.advance
    rw [if_neg (by show ¬ 0 > 0; omega)]
    rfl
theorem pr_end {t : SetTable} {n : Nat} (T : Tab t n) (hn : n ≤ t.mask) (h : Int) : ∃ N, N ≤ 10 * (t.mask + 13) ∧ t.slot (pr t h N).j = .empty := by
  obtain ⟨k, _, hM⟩ := T.pow
  obtain ⟨e, he, hs⟩ := slot_free T hn
  have hi : SetTable.bits h % (t.mask + 1) ≤ t.mask := by have := Nat.mod_lt (SetTable.bits h) (show 0 < t.mask + 1 by omega); omega
  obtain ⟨b, hb, eb⟩ := lp_all (j := e) hM hi (bits_lt h) he
  obtain ⟨m, hm, e2⟩ := pr_block t h b
  refine ⟨m, by omega, ?_⟩
  rw [e2]
  show t.slot (lp t.mask (SetTable.bits h % (t.mask + 1)) (SetTable.bits h) b).1 = _
  rw [eb]
  exact hs
theorem probe_is {t : SetTable} {n : Nat} (T : Tab t n) (hashAt : Nat → Int) (h : Int) {N : Nat} (hN : t.slot (pr t h N).j = .empty) : ∀ (fuel m : Nat), m ≤ N → N - m < fuel →
    (∃ m', m ≤ m' ∧ m' ≤ N ∧ SetTable.probe.go t hashAt h fuel (pr t h m) = some (.empty (pr t h m').j none) ∧ t.slot (pr t h m').j = .empty ∧ (pr t h m').j ≤ t.mask) ∨
    (∃ m' i, m ≤ m' ∧ m' < N ∧ SetTable.probe.go t hashAt h fuel (pr t h m) = some (.candidate (pr t h m').j i (pr t h (m' + 1))) ∧ t.slot (pr t h m').j = .live i ∧ i < n)
  | 0, m, _, hf => by omega
  | fuel + 1, m, hm, hf => by
    have P := pr_ok t h m
    rcases slot_cases T (pr t h m).j with ⟨q, _⟩ | ⟨i, q, hi⟩
    · refine .inl ⟨m, Nat.le_refl _, hm, ?_, q, by have := P.jm; omega⟩
      rw [SetTable.probe.go.eq_def]
      simp only [q, P.dm]
    · have hlt : m < N := by
        apply Classical.byContradiction
        intro z
        have : m = N := by omega
        subst this
        rw [hN] at q
        cases q
      by_cases hh : (hashAt i == h) = true
      · refine .inr ⟨m, i, Nat.le_refl _, hlt, ?_, q, hi⟩
        rw [SetTable.probe.go.eq_def]
        simp only [q, hh, if_true]
        rfl
      · have st : SetTable.probe.go t hashAt h (fuel + 1) (pr t h m) = SetTable.probe.go t hashAt h fuel (pr t h (m + 1)) := by
          rw [SetTable.probe.go.eq_def]
          simp only [q, hh]
          rfl
        rw [st]
        rcases probe_is T hashAt h hN fuel (m + 1) (by omega) (by omega) with ⟨m', a, b, c⟩ | ⟨m', i', a, b, c⟩
        · exact .inl ⟨m', by omega, b, c⟩
        · exact .inr ⟨m', i', by omega, b, c⟩
end STB

set_option Elab.async false
set_option linter.all false
set_option maxRecDepth 100000
namespace SPT
open PySem PySem.Spec PyProof.Rows
/-- a spot lies at a -/
structure Pt (h : Heap) (t : Int × Int × Int) (a b : Addr) (t1 t2 t3 : Tok) : Prop where
  ta : ∃ o n, h.get? a = some o ∧ o.cls = .type "tuple" ∧ o.data = .seq #[.int t.1 t1, .ref b] n
  tb : ∃ o n, h.get? b = some o ∧ o.cls = .type "tuple" ∧ o.data = .seq #[.int t.2.1 t2, .int t.2.2 t3] n
def PtAt (h : Heap) (t : Int × Int × Int) (u : Value) : Prop := ∃ a b t1 t2 t3, u = .ref a ∧ Pt h t a b t1 t2 t3
section
variable {prog : Program} {w : World} {A : Around} {E : Value → Shared → Prop} {s : Shared} {t : Int × Int × Int} {u : Value}
theorem look_hash : typeLookup (.type "tuple") "__hash__" = pure (some (.builtin "tuple.__hash__")) := by rw [typeLookup_type, builtinLookup_eq_fast]; kernel_rfl
theorem look_eq : typeLookup (.type "tuple") "__eq__" = pure (some (.builtin "tuple.__eq__")) := by rw [typeLookup_type, builtinLookup_eq_fast]; kernel_rfl
theorem wp_each {M : Model} {α β : Type} {f : α → β → Sem (ForInStep β)} {b : β} {Q : β → Shared → Prop} : ∀ (l : List α), (∀ x ∈ l, ∀ Q' : ForInStep β → Shared → Prop, Q' (.yield b) s → wpAny M A (f x b) Q' E s) → Q b s → wpAny M A (forIn l b f) Q E s
  | [], _, q => by rw [List.forIn_nil]; exact wpAny_pure q
  | x :: l, h, q => by
    rw [List.forIn_cons]
    exact wpAny_bind (h x (List.mem_cons_self) _ (wp_each l (fun y hy => h y (List.mem_cons_of_mem _ hy)) q))
theorem mem_two {α : Type} {x y z : α} (h : z ∈ #[x, y].toList) : z = x ∨ z = y := by simpa using h
theorem hv_int (d : Nat) (i : Int) (k : Tok) : hashByValue d (.int i k) = pure true := by rw [hashByValue.eq_def]
theorem hv_flat {d : Nat} {b : Addr} {o : Obj} {n : Nat} {x y : Int} {t2 t3 : Tok} {Q : Bool → Shared → Prop} (h1 : s.heap.get? b = some o) (h2 : o.cls = .type "tuple") (h3 : o.data = .seq #[.int x t2, .int y t3] n) (q : Q true s) : wpAny (model prog w) A (hashByValue (d + 1) (.ref b)) Q E s := by
  rw [hashByValue.eq_def]
  refine wpAny_bind (wpAny_specialOf (T := "tuple") ⟨o, h1, h2⟩ look_hash ?_)
  refine wpAny_bind (wpAny_seqItems h1 h3 ?_)
  show wpAny _ A (forIn #[Value.int x t2, Value.int y t3] _ _ >>= _) Q E s
  rw [← Array.forIn_toList]
  refine wpAny_bind (wp_each _ (fun z hz Q' q' => ?_) (wpAny_pure q))
  rcases mem_two hz with rfl | rfl
  · rw [hv_int]; exact wpAny_bind (wpAny_pure (wpAny_pure q'))
  · rw [hv_int]; exact wpAny_bind (wpAny_pure (wpAny_pure q'))
theorem hv_pt {Q : Bool → Shared → Prop} (x : PtAt s.heap t u) (q : Q true s) : wpAny (model prog w) A (hashByValue 8 u) Q E s := by
  obtain ⟨a, b, t1, t2, t3, rfl, ⟨o, n, h1, h2, h3⟩, ⟨o', n', g1, g2, g3⟩⟩ := x
  rw [hashByValue.eq_def]
  refine wpAny_bind (wpAny_specialOf (T := "tuple") ⟨o, h1, h2⟩ look_hash ?_)
  refine wpAny_bind (wpAny_seqItems h1 h3 ?_)
  show wpAny _ A (forIn #[Value.int t.1 t1, Value.ref b] _ _ >>= _) Q E s
  rw [← Array.forIn_toList]
  refine wpAny_bind (wp_each _ (fun z hz Q' q' => ?_) (wpAny_pure q))
  rcases mem_two hz with rfl | rfl
  · rw [hv_int]; exact wpAny_bind (wpAny_pure (wpAny_pure q'))
  · exact wpAny_bind (hv_flat g1 g2 g3 (wpAny_pure q'))
theorem eq_int (d : Nat) (i : Int) (k : Tok) : eqIsQuiet d (.int i k) = pure true := by rw [eqIsQuiet.eq_def]
theorem eq_flat {d : Nat} {b : Addr} {o : Obj} {n : Nat} {x y : Int} {t2 t3 : Tok} {Q : Bool → Shared → Prop} (h1 : s.heap.get? b = some o) (h2 : o.cls = .type "tuple") (h3 : o.data = .seq #[.int x t2, .int y t3] n) (q : Q true s) : wpAny (model prog w) A (eqIsQuiet (d + 1) (.ref b)) Q E s := by
  rw [eqIsQuiet.eq_def]
  refine wpAny_bind (wpAny_specialOf (T := "tuple") ⟨o, h1, h2⟩ look_eq ?_)
  refine wpAny_bind (wpAny_isInstance (T := "tuple") ⟨o, h1, h2⟩ isSubtype_tuple_tuple ?_)
  refine wpAny_bind (wpAny_seqItems h1 h3 ?_)
  show wpAny _ A (forIn #[Value.int x t2, Value.int y t3] _ _ >>= _) Q E s
  rw [← Array.forIn_toList]
  refine wpAny_bind (wp_each _ (fun z hz Q' q' => ?_) (wpAny_pure q))
  rcases mem_two hz with rfl | rfl
  · rw [eq_int]; exact wpAny_bind (wpAny_pure (wpAny_pure q'))
  · rw [eq_int]; exact wpAny_bind (wpAny_pure (wpAny_pure q'))
theorem eq_pt {Q : Bool → Shared → Prop} (x : PtAt s.heap t u) (q : Q true s) : wpAny (model prog w) A (eqIsQuiet 8 u) Q E s := by
  obtain ⟨a, b, t1, t2, t3, rfl, ⟨o, n, h1, h2, h3⟩, ⟨o', n', g1, g2, g3⟩⟩ := x
  rw [eqIsQuiet.eq_def]
  refine wpAny_bind (wpAny_specialOf (T := "tuple") ⟨o, h1, h2⟩ look_eq ?_)
  refine wpAny_bind (wpAny_isInstance (T := "tuple") ⟨o, h1, h2⟩ isSubtype_tuple_tuple ?_)
  refine wpAny_bind (wpAny_seqItems h1 h3 ?_)
  show wpAny _ A (forIn #[Value.int t.1 t1, Value.ref b] _ _ >>= _) Q E s
  rw [← Array.forIn_toList]
  refine wpAny_bind (wp_each _ (fun z hz Q' q' => ?_) (wpAny_pure q))
  rcases mem_two hz with rfl | rfl
  · rw [eq_int]; exact wpAny_bind (wpAny_pure (wpAny_pure q'))
  · exact wpAny_bind (eq_flat g1 g2 g3 (wpAny_pure q'))
theorem oc_int (d : Nat) (i : Int) (k : Tok) : ofAClassStatement d (.int i k) = pure false := by rw [ofAClassStatement.eq_def]
theorem oc_flat {d : Nat} {b : Addr} {o : Obj} {n : Nat} {x y : Int} {t2 t3 : Tok} {Q : Bool → Shared → Prop} (h1 : s.heap.get? b = some o) (h2 : o.cls = .type "tuple") (h3 : o.data = .seq #[.int x t2, .int y t3] n) (q : Q false s) : wpAny (model prog w) A (ofAClassStatement (d + 1) (.ref b)) Q E s := by
  rw [ofAClassStatement.eq_def]
  refine wpAny_bind (wpAny_typeOf (T := "tuple") ⟨o, h1, h2⟩ ?_)
  refine wpAny_bind (wpAny_pure ?_)
  refine wpAny_bind (wpAny_seqItems h1 h3 ?_)
  show wpAny _ A (forIn #[Value.int x t2, Value.int y t3] _ _ >>= _) Q E s
  rw [← Array.forIn_toList]
  refine wpAny_bind (wp_each _ (fun z hz Q' q' => ?_) (wpAny_pure q))
  rcases mem_two hz with rfl | rfl
  · rw [oc_int]; exact wpAny_bind (wpAny_pure (wpAny_pure q'))
  · rw [oc_int]; exact wpAny_bind (wpAny_pure (wpAny_pure q'))
theorem oc_pt {Q : Bool → Shared → Prop} (x : PtAt s.heap t u) (q : Q false s) : wpAny (model prog w) A (ofAClassStatement 8 u) Q E s := by
  obtain ⟨a, b, t1, t2, t3, rfl, ⟨o, n, h1, h2, h3⟩, ⟨o', n', g1, g2, g3⟩⟩ := x
  rw [ofAClassStatement.eq_def]
  refine wpAny_bind (wpAny_typeOf (T := "tuple") ⟨o, h1, h2⟩ ?_)
  refine wpAny_bind (wpAny_pure ?_)
  refine wpAny_bind (wpAny_seqItems h1 h3 ?_)
  show wpAny _ A (forIn #[Value.int t.1 t1, Value.ref b] _ _ >>= _) Q E s
  rw [← Array.forIn_toList]
  refine wpAny_bind (wp_each _ (fun z hz Q' q' => ?_) (wpAny_pure q))
  rcases mem_two hz with rfl | rfl
  · rw [oc_int]; exact wpAny_bind (wpAny_pure (wpAny_pure q'))
  · exact wpAny_bind (oc_flat g1 g2 g3 (wpAny_pure q'))
/-- nothing is seen of a search among spots -/
theorem seen_pt {l : List Value} {Q : Bool → Shared → Prop} (x : PtAt s.heap t u) (hl : ∀ y ∈ l, ∃ t', PtAt s.heap t' y) (q : Q false s) : wpAny (model prog w) A (searchCouldBeSeen u l) Q E s := by
  unfold searchCouldBeSeen
  refine wpAny_bind (wp_each l (fun y hy Q' q' => ?_) (wpAny_pure q))
  obtain ⟨t', y'⟩ := hl y hy
  refine wpAny_ite_split (fun _ => wpAny_pure q') (fun _ => ?_)
  exact wpAny_bind (eq_pt x (wpAny_bind (eq_pt y' (wpAny_bind (oc_pt x (wpAny_bind (oc_pt y' (wpAny_pure q'))))))))
/-- spots are equal or not -/
theorem reads_pt {h : Heap} (x : PtAt h t u) : ∃ as, Reads h u (.tuple [.int t.1, .tuple [.int t.2.1, .int t.2.2]]) as := by
  obtain ⟨a, b, t1, t2, t3, rfl, ⟨o, n, h1, h2, h3⟩, ⟨o', n', g1, g2, g3⟩⟩ := x
  exact ⟨_, .tuple h1 h2 h3 (.cons (.int _ _) (.cons (.tuple g1 g2 g3 (.cons (.int _ _) (.cons (.int _ _) .nil))) .nil))⟩
theorem eqb_pt {t' : Int × Int × Int} {u' : Value} {Q : Bool → Shared → Prop} (hu : A.units + 64 < cLine) (x : PtAt s.heap t u) (y : PtAt s.heap t' u') (ne : t ≠ t') (q : Q false s) : wpAny (model prog w) A (eqBool u u') Q E s := by
  obtain ⟨as, ra⟩ := reads_pt x
  obtain ⟨bs, rb⟩ := reads_pt y
  refine SeqAt.eqBoolOverData prog w A E s u u' _ _ as bs Q ra rb rfl rfl ?_ ?_
  · show A.units + 2 < cLine
    omega
  · have e : PyData.eqv (.tuple [.int t.1, .tuple [.int t.2.1, .int t.2.2]]) (.tuple [.int t'.1, .tuple [.int t'.2.1, .int t'.2.2]]) = false := by
      have e : PyData.eqv (.tuple [.int t.1, .tuple [.int t.2.1, .int t.2.2]]) (.tuple [.int t'.1, .tuple [.int t'.2.1, .int t'.2.2]]) = ((t.1 == t'.1) && (((t.2.1 == t'.2.1) && ((t.2.2 == t'.2.2) && true)) && true)) := rfl
      rw [e]
      apply Bool.eq_false_iff.mpr
      intro z
      apply ne
      simp at z
      exact Prod.ext z.1 (Prod.ext z.2.1 z.2.2)
    rw [e]
    exact q
/-- a spot's hash -/
theorem hash_pt {Q : Int → Shared → Prop} (hu : A.units + 64 < cLine) (x : PtAt s.heap t u) (q : ∀ h tk, Q h { s with toks := tk }) : wpAny (model prog w) A (pyHash u) Q E s := by
  obtain ⟨a, b, t1, t2, t3, rfl, ⟨o, n, h1, h2, h3⟩, ⟨o', n', g1, g2, g3⟩⟩ := x
  show wpAny (model prog w) A (pyHashByItsType (.ref a)) Q E s
  refine W.pyHash_slot (T := "tuple") ⟨o, h1, h2⟩ F.slot_tuple_hash F.entry_tuple_hash (F.args_tuple_hash_1 _) (by decide) (.inr (by omega)) ?_
  show wpAny (model prog w) A.in1 ((pure (.ref a, []) : Sem (Value × List Value)) >>= fun x => Builtin.Tuple.tupleItemsOf x.1 >>= fun its => forIn its #[] (fun x hs => pyHash x >>= fun h => pure (ForInStep.yield (hs.push h))) >>= fun hs => retInt (Builtin.Tuple.tupleHashOf hs.toList)) _ E s
  refine wpAny_bind (wpAny_pure (wpAny_bind (wpAny_tupleItemsOf h1 h3 ?_)))
  rw [← Array.forIn_toList]
  show wpAny (model prog w) A.in1 (forIn [Value.int t.1 t1, Value.ref b] (#[] : Array Int) _ >>= _) _ E s
  rw [List.forIn_cons]
  refine wpAny_bind (wpAny_bind (wpAny_bind (wpAny_pyHash_int (wpAny_pure ?_))))
  show wpAny (model prog w) A.in1 (forIn [Value.ref b] (#[].push (hashInt t.fst)) _) _ E _
  rw [List.forIn_cons]
  have k : IsTupleKey (intKind prog w) s.heap [t.2.1, t.2.2] b := ⟨o', _, n', g1, g2, g3, .cons (by simp [intKind, Value.isInt]) (.cons (by simp [intKind, Value.isInt]) .nil)⟩
  refine wpAny_bind (wpAny_bind (wpAny_pyHash_tuple (knd := intKind prog w) (by show A.units + 1 < cLine; omega) k (wpAny_pure ?_)))
  show wpAny (model prog w) A.in1 (forIn [] ((#[].push (hashInt t.fst)).push _) _) _ E _
  rw [List.forIn_nil]
  refine wpAny_pure ?_
  unfold retInt
  refine wpAny_bind (wpAny_mkInt (wpAny_pure ?_))
  exact ⟨_, _, rfl, q _ _⟩
end
end SPT

set_option Elab.async false
set_option linter.all false
set_option maxRecDepth 100000
namespace DL
open PySem L2
abbrev ptD (t : Int × Int × Int) : D := .tup [.int t.1, .tup [.int t.2.1, .int t.2.2]]
section
variable {X : Cx} {pins : List (Addr × Obj)} {σ : St} {F H : Hp} {s : Shared}
theorem pt_at (I : Inv X pins σ H s) (f : Same F H) {v : V} {u : Value} {t : Int × Int × Int} (r : Rep X.K F v (ptD t)) (ru : RelV v u) : SPT.PtAt s.heap t u := by
  obtain ⟨a, ws, rfl, ht, rw'⟩ := inv_tup r
  obtain ⟨v1, v2, rfl, r1, r2⟩ := inv2 rw'
  obtain ⟨its, rv, it, _⟩ := I.tuple (sqT_same f ht)
  cases inv_int r1
  cases (show u = Value.ref a from ru)
  obtain ⟨b, ws2, rfl, ht2, rw2⟩ := inv_tup r2
  obtain ⟨v3, v4, rfl, r3, r4⟩ := inv2 rw2
  obtain ⟨its2, rv2, it2, _⟩ := I.tuple (sqT_same f ht2)
  cases inv_int r3
  cases inv_int r4
  cases rv with
  | cons c1 c2 =>
    obtain ⟨t1, rfl⟩ := c1
    cases c2 with
    | cons c3 c4 =>
      cases c4
      cases c3
      cases rv2 with
      | cons d1 d2 =>
        obtain ⟨t2, rfl⟩ := d1
        cases d2 with
        | cons d3 d4 =>
          cases d4
          obtain ⟨t3, rfl⟩ := d3
          obtain ⟨o, e1, e2, n, e3⟩ := it
          obtain ⟨o', g1, g2, n', g3⟩ := it2
          exact ⟨a, b, t1, t2, t3, rfl, ⟨o, n, e1, e2, e3⟩, ⟨o', n', g1, g2, g3⟩⟩
end
end DL

set_option Elab.async false
set_option linter.all false
set_option maxRecDepth 100000
namespace SPT
open PySem PySem.Spec PyProof.Rows STB
theorem fits_of {t : SetTable} {n : Nat} (T : Tab t n) (h : n ≤ t.mask) : t.fits n = true := by
  unfold SetTable.fits SetTable.fill
  rw [T.sz, T.dm]
  simp [h]
theorem gave_of {t : SetTable} {n : Nat} (T : Tab t n) : t.gaveWay = false := by
  obtain ⟨k, hk, hM⟩ := T.pow
  unfold SetTable.gaveWay
  have : 2 ^ k % 2 = 0 := by
    obtain ⟨j, rfl⟩ : ∃ j, k = j + 1 := ⟨k - 1, by omega⟩
    rw [Nat.pow_succ]; omega
  have e : t.mask % 2 = 1 := by omega
  rw [e]
  rfl
section
variable {prog : Program} {w : World} {A : Around} {E : Value → Shared → Prop} {s : Shared} {t : SetTable} {S : Addr} {oS : Obj} {es : Array (Int × Value)} {ep : Nat} {x : Value} {tx : Int × Int × Int} {h : Int}
def sh (es : Array (Int × Value)) (i : Nat) : Int := (Option.map (fun x => x.fst) es[i]?).getD 0
theorem search_free {N : Nat} (hu : A.units + 64 < cLine) (hS : s.heap.get? S = some oS) (hd : oS.data = .set es ep t) (T : Tab t es.size) (hn : es.size ≤ t.mask) (X : PtAt s.heap tx x) (hes : ∀ e ∈ es.toList, ∃ t', PtAt s.heap t' e.2 ∧ t' ≠ tx)
    (hN : t.slot (pr t h N).j = .empty) (hN2 : N ≤ 10 * (t.mask + 13)) {Q : SetFound → Shared → Prop} (q : ∀ j, t.slot j = .empty → j ≤ t.mask → Q (.free j false) s) :
    ∀ (fuel m : Nat) (stand : Option SetTable.Probe), stand.getD (t.probeStart h) = pr t h m → m ≤ N → N - m < fuel → wpAny (model prog w) A (setSearchFrom S x h true fuel stand) Q E s
  | 0, m, stand, hst, hm, hf => by omega
  | fuel + 1, m, stand, hst, hm, hf => by
    rw [setSearchFrom.eq_def]
    refine wpAny_bind (wpAny_setState_of hS hd (fits_of T hn) ?_)
    refine wpAny_ite_split (fun z => by rw [gave_of T] at z; cases z) (fun _ => ?_)
    rcases probe_is T (sh es) h hN (10 * SetTable.turns t.mask) m hm (by show N - m < 10 * (t.mask + 15); omega) with ⟨m', a1, a2, a3, a4, a5⟩ | ⟨m', i, a1, a2, a3, a4, a5⟩
    · have e : ∀ g : Nat → Int, g = sh es → SetTable.probe.go t g h (10 * SetTable.turns t.mask) (pr t h m) = some (SetTable.Met.empty (pr t h m').j none) := fun g hg => by rw [hg]; exact a3
      rw [hst]
      unfold SetTable.probe
      rw [e]
      · exact wpAny_pure (q _ a4 a5)
      · rfl
    · have e : ∀ g : Nat → Int, g = sh es → SetTable.probe.go t g h (10 * SetTable.turns t.mask) (pr t h m) = some (SetTable.Met.candidate (pr t h m').j i (pr t h (m' + 1))) := fun g hg => by rw [hg]; exact a3
      rw [hst]
      unfold SetTable.probe
      rw [e]
      rotate_left
      · rfl
      obtain ⟨⟨hv, y⟩, hi⟩ : ∃ p, es[i]? = some p := ⟨es[i], Array.getElem?_eq_getElem a5⟩
      obtain ⟨t', Yp, ne⟩ := hes (hv, y) (List.mem_of_getElem? (i := i) (by rw [Array.getElem?_toList]; exact hi))
      have Yp : PtAt s.heap t' y := Yp
      have rest : wpAny (model prog w) A (match es[i]? with
                  | some (fst, y) => do
                    let equal ← holding [y] (eqBool y x)
                    let __x ← setState S
                    match __x with
                      | (es', fst, t') =>
                        if (true && equal) = true then pure (SetFound.there none)
                        else
                          match t'.sameMemory t.moves t.mask with
                          | some same =>
                            have __do_jp := fun still =>
                              match still with
                              | none => do
                                rule "set.search.anew"
                                setSearchFrom S x h true fuel none
                              | some i' =>
                                if equal = true then pure (SetFound.there (some i'))
                                else setSearchFrom S x h true fuel (some (pr t h (m' + 1)));
                            match if same = true then t'.slot (pr t h m').j else SetTable.Slot.empty with
                            | SetTable.Slot.live i' =>
                              match es'[i']? with
                              | some (fst, y') => do
                                let __do_lift ← isSame y' y
                                let still ← pure (if __do_lift = true then some i' else none)
                                __do_jp still
                              | none => do
                                let still ← pure none
                                __do_jp still
                            | x => do
                              let still ← pure none
                              __do_jp still
                          | x => unsupported "set.changed-during-lookup:is-the-new-block-at-the-old-address"
                  | x => unsupported "internal:set-entry") Q E s := by
        rw [hi]
        refine wpAny_bind (wpAny_holding (eqb_pt hu Yp X ne ?_))
        refine wpAny_bind (wpAny_setState_of hS hd (fits_of T hn) ?_)
        have sm : t.sameMemory t.moves t.mask = some true := by unfold SetTable.sameMemory; rw [if_pos (by simp)]
        simp only [Bool.and_false, Bool.false_eq_true, if_false, sm, if_true, a4, hi]
        refine wpAny_bind ?_
        have sam : isSame y y = pure true := by
          obtain ⟨a, b, t1, t2, t3, e, _⟩ := Yp
          rw [e]
          show (if (a == a) = true then (pure true : Sem Bool) else _) = pure true
          rw [if_pos (by simp)]
        rw [sam]
        refine wpAny_pure ?_
        refine wpAny_bind (wpAny_pure ?_)
        exact search_free hu hS hd T hn X hes hN hN2 q fuel (m' + 1) _ rfl (by omega) (by omega)
      refine wpAny_ite_split (fun _ => ?_) (fun _ => rest)
      refine wpAny_bind (seen_pt X (fun y hy => ?_) ?_)
      · obtain ⟨e, he, rfl⟩ := List.mem_map.mp hy
        have he := (Array.mem_filter.mp (Array.mem_toList_iff.mp he)).1
        obtain ⟨t', p, _⟩ := hes e (Array.mem_toList_iff.mpr he)
        exact ⟨t', p⟩
      · refine wpAny_ite_split (fun z => by cases z) (fun _ => rest)
end
end SPT

set_option Elab.async false
set_option linter.all false
set_option maxRecDepth 100000
namespace SPT
open PySem PySem.Spec PyProof.Rows STB
theorem above_go {n : Nat} : ∀ (fuel k : Nat), 3 ≤ k → n < 2 ^ k * 2 ^ fuel → 2 ^ k ≤ max 8 (2 * n) → ∃ k', 3 ≤ k' ∧ SetTable.sizeAbove.go n fuel (2 ^ k) = 2 ^ k' ∧ n < 2 ^ k' ∧ 2 ^ k' ≤ max 8 (2 * n)
  | 0, k, hk, h, h2 => ⟨k, hk, by rw [SetTable.sizeAbove.go.eq_def], by simpa using h, h2⟩
  | fuel + 1, k, hk, h, h2 => by
    rw [SetTable.sizeAbove.go.eq_def]
    by_cases q : 2 ^ k ≤ n
    · simp only [q, if_true]
      rw [show 2 ^ k * 2 = 2 ^ (k + 1) by rw [Nat.pow_succ]]
      refine above_go fuel (k + 1) (by omega) ?_ ?_
      · rw [Nat.pow_succ] at h ⊢
        rw [Nat.mul_assoc, Nat.mul_comm 2 (2 ^ fuel)]
        exact h
      · rw [Nat.pow_succ]; omega
    · simp only [q, if_false]
      exact ⟨k, hk, rfl, by omega, h2⟩
theorem above {n : Nat} (h : n < 100000000) : ∃ k, 3 ≤ k ∧ SetTable.sizeAbove n = 2 ^ k ∧ n < 2 ^ k ∧ 2 ^ k ≤ max 8 (2 * n) := by
  have := above_go (n := n) 64 3 (Nat.le_refl _) (Nat.lt_of_lt_of_le h (by decide)) (by omega)
  exact this
theorem ins_mem {α : Type} {xs : Array α} {p : Nat} {x e : α} (hp : p ≤ xs.size) : e ∈ (SetTable.insertAt xs p x).toList → e ∈ xs.toList ∨ e = x := by
  unfold SetTable.insertAt
  intro h
  simp at h
  rcases h with h | h | h
  · exact .inl (List.mem_of_mem_take h)
  · exact .inr h
  · exact .inl (List.mem_of_mem_drop (List.mem_of_mem_take h))
theorem ins_size {α : Type} {xs : Array α} {p : Nat} {x : α} (hp : p ≤ xs.size) : (SetTable.insertAt xs p x).size = xs.size + 1 := by
  unfold SetTable.insertAt
  simp
  omega
section
variable {prog : Program} {w : World} {A : Around} {E : Value → Shared → Prop} {s : Shared} {t : SetTable} {S : Addr} {oS : Obj} {es : Array (Int × Value)} {ep : Nat} {x : Value} {tx : Int × Int × Int} {h : Int}
/-- the set's object -/
structure SetO (h : Heap) (S : Addr) (es : Array (Int × Value)) (t : SetTable) : Prop where
  ex : ∃ ep, h.get? S = some { cls := .type "set", dict := none, data := .set es ep t, slots := #[] }
theorem store_to {es' : Array (Int × Value)} {t' : SetTable} {Q : Unit → Shared → Prop} (O : SetO s.heap S es t) (hz : es'.size ≤ 1000000) (q : ∀ h', Heap.SameBut S s.heap h' → SetO h' S es' t' → Q () { s with heap := h' }) : wpAny (model prog w) A (storeSet S es' t') Q E s := by
  obtain ⟨ep, hS⟩ := O.ex
  refine wpAny_storeSet_of hS rfl (q _ ?_ ⟨ep + 1, ?_⟩) (by rw [sizeLine_eq]; omega)
  · exact ⟨by simp, fun b hb => Heap.get?_update_other _ _ (Ne.symm hb)⟩
  · rw [Heap.get?_update_self _ hS rfl]
    rfl
theorem relay_to {Q : Unit → Shared → Prop} {wanted : Nat} (O : SetO s.heap S es t) (hf : t.fits es.size = true) (hw : wanted < 100000) (hn : es.size * 4 ≤ wanted) (q : ∀ h' es' t', Heap.SameBut S s.heap h' → SetO h' S es' t' → Good t' es'.size → es'.size = es.size → (∀ e ∈ es'.toList, e ∈ es.toList) → t'.mask < max 8 (2 * wanted) → Q () { s with heap := h' }) :
    wpAny (model prog w) A (setRelay S wanted) Q E s := by
  obtain ⟨ep, hS⟩ := O.ex
  obtain ⟨k, hk, e1, e2, e3⟩ := above (n := wanted) (by omega)
  unfold setRelay
  refine wpAny_bind (wpAny_setState_of hS rfl hf ?_)
  refine wpAny_ite_split (fun z => absurd z (by rw [e1, sizeLine_eq]; omega)) (fun _ => ?_)
  have h8 : 2 ^ 3 ≤ 2 ^ k := Nat.pow_le_pow_right (by decide) hk
  have hM : SetTable.sizeAbove wanted - 1 + 1 = 2 ^ k := by rw [e1]; omega
  obtain ⟨t', order, hl, G, hm, ho, hi⟩ := laid_good (mask := SetTable.sizeAbove wanted - 1) (finger := t.finger) (moves := t.movedTo (SetTable.sizeAbove wanted - 1)) (led := t.led) (plain := t.plain) (hashes := Array.map (fun x => x.fst) es) hk hM (by rw [Array.size_map, e1]; omega)
  have hr : t.relaid (Array.map (fun x => x.fst) es) wanted = some (t', order) := hl
  rw [hr]
  rw [Array.size_map] at G ho hi
  have sz : (Array.filterMap (fun x => es[x]?) order).size = es.size := by
    rw [← ho, ← Array.length_toList, Array.toList_filterMap, ← Array.length_toList]
    have : ∀ l : List Nat, (∀ i ∈ l, i < es.size) → (l.filterMap fun x => es[x]?).length = l.length := by
      intro l
      induction l with
      | nil => intro _; rfl
      | cons a l ih =>
        intro hl
        rw [List.filterMap_cons, Array.getElem?_eq_getElem (hl a (List.mem_cons_self))]
        show _ + 1 = _ + 1
        rw [ih fun i hi => hl i (List.mem_cons_of_mem _ hi)]
    exact this _ hi
  show wpAny (model prog w) A ((if ((Array.filterMap (fun x => es[x]?) order).size != es.size) = true then (do let __r ← unsupported "internal:set-table-lost-an-element"; pure (Array.filterMap (fun x => es[x]?) order, t')) else pure (Array.filterMap (fun x => es[x]?) order, t')) >>= fun y => storeSet S y.1 y.2) Q E s
  rw [if_neg (by rw [sz]; simp)]
  refine wpAny_bind (wpAny_pure (store_to O (by rw [sz]; omega) fun h' sb O' => q h' _ t' sb O' (by rw [sz]; exact G) sz (fun e he => ?_) (by rw [hm, e1]; omega)))
  rw [Array.toList_filterMap, List.mem_filterMap] at he
  obtain ⟨i, _, e⟩ := he
  exact List.mem_of_getElem? (i := i) (by rw [Array.getElem?_toList]; exact e)
/-- a spot that is not there is put to the set -/
theorem add_new {Q : Bool → Shared → Prop} (hu : A.units + 64 < cLine) (O : SetO s.heap S es t) (G : Good t es.size) (hsz : es.size < 4000) (hmk : t.mask < 9000) (X : PtAt s.heap tx x) (hes : ∀ e ∈ es.toList, ∃ t', PtAt s.heap t' e.2 ∧ t' ≠ tx)
    (q : ∀ h' tk es' t', Heap.SameBut S s.heap h' → SetO h' S es' t' → Good t' es'.size → es'.size = es.size + 1 → (∀ e ∈ es'.toList, e ∈ es.toList ∨ e.2 = x) → t'.mask < max (t.mask + 1) (8 * (es.size + 1)) → Q true { s with heap := h', toks := tk }) :
    wpAny (model prog w) A (setAdd S x) Q E s := by
  unfold setAdd
  refine wpAny_holding (wpAny_bind (hash_pt hu X fun h tk => ?_))
  have X' : PtAt ({ s with toks := tk } : Shared).heap tx x := X
  unfold setAddHashed
  refine wpAny_holding ?_
  show wpAny (model prog w) A (setAddHashedIn S x h (99999 + 1)) Q E _
  rw [setAddHashedIn.eq_def]
  obtain ⟨ep, hS⟩ := O.ex
  have hn : es.size ≤ t.mask := by have := G.full; omega
  have hf := fits_of G.toTab hn
  refine wpAny_bind (wpAny_setState_of (s := { s with toks := tk }) hS rfl hf ?_)
  have nb : byScan x es = false := by
    obtain ⟨a, b, t1, t2, t3, e, _⟩ := X
    rw [e]
    rfl
  refine wpAny_ite_split (fun z => by rw [nb] at z; cases z) (fun _ => ?_)
  obtain ⟨N, hN2, hN⟩ := pr_end G.toTab hn h
  refine wpAny_bind ?_
  unfold setSearch
  refine search_free (s := { s with toks := tk }) hu hS rfl G.toTab hn X' hes hN hN2 (fun j hj hl => ?_) 100000 0 none rfl (Nat.zero_le _) (by omega)
  refine wpAny_bind (wpAny_setState_of (s := { s with toks := tk }) hS rfl hf ?_)
  obtain ⟨T', m', p'⟩ := put_tab G.toTab hl hj
  have e0 : t.put j = ((t.put j).1, (t.put j).2) := rfl
  generalize (t.put j).1 = t1 at T' m' e0
  generalize (t.put j).2 = p at p' e0
  simp only []
  rw [e0]
  have tail : wpAny (model prog w) A (storeSet S (SetTable.insertAt es p (h, x)) t1 >>= fun _ => if (!false && t1.tooFull) = true then (do let __r ← setRelay S (SetTable.grown (es.size + 1)); pure true) else pure true) Q E { s with toks := tk } := by
    refine wpAny_bind (store_to (s := { s with toks := tk }) O (by rw [ins_size p']; omega) fun h1 sb1 O1 => ?_)
    have T1 : Tab t1 (SetTable.insertAt es p (h, x)).size := by rw [ins_size p']; exact T'
    refine wpAny_ite_split (fun z => ?_) (fun z => ?_)
    · have gr : SetTable.grown (es.size + 1) = (es.size + 1) * 4 := by unfold SetTable.grown; rw [if_neg (by omega)]
      rw [gr]
      refine wpAny_bind (relay_to (s := { s with heap := h1, toks := tk }) O1 (fits_of T1 (by rw [ins_size p', m']; have := G.full; omega)) (by omega) (by rw [ins_size p']; omega) fun h2 es2 t2 sb2 O2 G2 s2 in2 mk2 => wpAny_pure ?_)
      refine q h2 tk es2 t2 ⟨sb2.1.trans sb1.1, fun b hb => (sb2.2 b hb).trans (sb1.2 b hb)⟩ O2 G2 (by rw [s2, ins_size p']) (fun e he => ?_) (by omega)
      rcases ins_mem p' (in2 e he) with r | r
      · exact .inl r
      · exact .inr (by rw [r])
    · refine wpAny_pure (q h1 tk _ t1 sb1 O1 ⟨T1, ?_⟩ (ins_size p') (fun e he => ?_) (by rw [m']; omega))
      · have z : t1.tooFull = false := by
          cases hh : t1.tooFull with
          | false => rfl
          | true => rw [hh] at z; exact absurd rfl z
        unfold SetTable.tooFull SetTable.fill at z
        have z := of_decide_eq_false z
        rw [T1.dm, T1.sz] at z
        simp at z
        exact z
      · rcases ins_mem p' he with r | r
        · exact .inl r
        · exact .inr (by rw [r])
  refine wpAny_ite_split (fun _ => wpAny_bind (hv_pt X' ?_)) (fun _ => wpAny_bind (wpAny_pure ?_))
  · exact tail
  · exact tail
end
end SPT

set_option Elab.async false
set_option linter.all false
set_option maxRecDepth 100000
namespace SPT
open PySem PySem.Spec PyProof.Rows STB
theorem PtAt.up {h h' : Heap} {t : Int × Int × Int} {u : Value} {S : Addr} {oS : Obj} (x : PtAt h t u) (hS : h.get? S = some oS) (hc : oS.cls ≠ .type "tuple") (k : ∀ b o, b ≠ S → h.get? b = some o → h'.get? b = some o) : PtAt h' t u := by
  obtain ⟨a, b, t1, t2, t3, e, ⟨o, n, h1, h2, h3⟩, ⟨o', n', g1, g2, g3⟩⟩ := x
  have na : a ≠ S := fun z => by rw [z, hS] at h1; cases h1; exact hc h2
  have nb : b ≠ S := fun z => by rw [z, hS] at g1; cases g1; exact hc g2
  exact ⟨a, b, t1, t2, t3, e, ⟨o, n, k a o na h1, h2, h3⟩, ⟨o', n', k b o' nb g1, g2, g3⟩⟩
section
variable {prog : Program} {w : World} {A : Around} {E : Value → Shared → Prop} {S I l : Addr} {items : Array Value} {ts : List (Int × Int × Int)}
theorem loop_to {R : Result → Shared → Prop} (hh : A.handled = none) (hu : A.units + 66 < cLine) (nd : ts.Nodup) (hsz : items.size = ts.length) (small : ts.length < 1000) (lI : l ≠ I) (SI : S ≠ I) (Sl : S ≠ l) : ∀ (r i : Nat) (s : Shared) (es : Array (Int × Value)) (t : SetTable), i + r = items.size →
    s.heap.IsListIter I l i → s.heap.IsList l items → SetO s.heap S es t → Good t es.size → es.size = i → t.mask < 8 * (i + 1) → (∀ (k : Nat) t' v, ts[k]? = some t' → items[k]? = some v → PtAt s.heap t' v) → (∀ e ∈ es.toList, ∃ k : Nat, k < i ∧ items[k]? = some e.2) →
    (∀ h' tk es' t', (∀ b o, b ≠ S → b ≠ I → s.heap.get? b = some o → h'.get? b = some o) → SetO h' S es' t' → t'.fits es'.size = true → es'.size = items.size → R (.ok (.ret .none)) { s with heap := h', toks := tk }) →
    codeAny (model prog w) A (.builtin "set.update.loop" ⟨[.ref S, .ref I], []⟩) R s := by
  intro r
  induction r with
  | zero =>
    intro i s es t hir hI hl O G hes hm hp hin goal
    have W := Walks.list (prog := prog) (w := w) (A := A.in1) hh I l lI items
    refine codeAny_builtin F.entry_set_update_loop ?_
    rw [Around.under_plainId F.plain_set_update_loop _]
    show wpAny (model prog w) A.in1 (pyNext (.ref I) >>= fun y => match y with
      | some x => do
        let _ ← holding [x] (setAdd S x)
        again (Code.builtin "set.update.loop" ⟨[.ref S, .ref I], []⟩)
      | x => ret Value.none) _ _ s
    refine wpAny_bind ?_
    have e : i = items.size := by omega
    subst e
    refine W.done s _ _ ⟨hI, hl⟩ fun h' tk kk => wpAny_pure ?_
    obtain ⟨ep, hS⟩ := O.ex
    have hn : es.size ≤ t.mask := by have := G.full; omega
    refine goal h' tk es t (fun b o _ hb e => kk b o (by simpa using hb) e) ⟨ep, kk S _ (by simpa using SI) hS⟩ (fits_of G.toTab hn) hes
  | succ r ih =>
    intro i s es t hir hI hl O G hes hm hp hin goal
    have W := Walks.list (prog := prog) (w := w) (A := A.in1) hh I l lI items
    refine codeAny_builtin F.entry_set_update_loop ?_
    rw [Around.under_plainId F.plain_set_update_loop _]
    show wpAny (model prog w) A.in1 (pyNext (.ref I) >>= fun y => match y with
      | some x => do
        let _ ← holding [x] (setAdd S x)
        again (Code.builtin "set.update.loop" ⟨[.ref S, .ref I], []⟩)
      | x => ret Value.none) _ _ s
    refine wpAny_bind ?_
    refine W.item i s _ _ (by omega) ⟨hI, hl⟩ fun v h1 tk1 hv st1 kk => ?_
    obtain ⟨ep, hS⟩ := O.ex
    obtain ⟨oI, i1, i2, i3⟩ := id hI
    have O1 : SetO h1 S es t := ⟨ep, kk S _ (by simpa using SI) hS⟩
    have hp1 : ∀ (k : Nat) t' v, ts[k]? = some t' → items[k]? = some v → PtAt h1 t' v := fun k t' v q1 q2 => (hp k t' v q1 q2).up i1 (by rw [i2]; decide) fun b o hb e => kk b o (by simpa using hb) e
    obtain ⟨tv, htv⟩ : ∃ tv, ts[i]? = some tv := ⟨ts[i]'(by omega), List.getElem?_eq_getElem _⟩
    refine wpAny_bind (wpAny_holding (add_new (s := { s with heap := h1, toks := tk1 }) (A := A.in1) (by show A.units + 1 + 64 < cLine; omega) O1 G (by omega) (by omega) (hp1 i tv v htv hv) (fun e he => ?_) fun h2 tk2 es2 t2 sb2 O2 G2 s2 in2 mk2 => ?_))
    · obtain ⟨k, hk, ek⟩ := hin e he
      obtain ⟨t', ht'⟩ : ∃ t', ts[k]? = some t' := ⟨ts[k]'(by omega), List.getElem?_eq_getElem _⟩
      refine ⟨t', hp1 k t' e.2 ht' ek, fun z => ?_⟩
      subst z
      have h1 := List.getElem?_eq_some_iff.mp ht'
      have h2 := List.getElem?_eq_some_iff.mp htv
      exact List.pairwise_iff_getElem.mp nd k i h1.1 h2.1 hk (h1.2.trans h2.2.symm)
    · have hS1 := kk S _ (by simpa using SI) hS
      have up2 : ∀ b o, b ≠ S → h1.get? b = some o → h2.get? b = some o := fun b o hb e => (sb2.2 b hb).trans e
      refine wpAny_pure ⟨plainId_quiet F.plain_set_update_loop _, ?_⟩
      refine ih (i + 1) { s with heap := h2, toks := tk2 } es2 t2 (by omega) (st1.1.at fun o e => up2 I o (Ne.symm SI) e) (st1.2.at fun o e => up2 l o (Ne.symm Sl) e) O2 G2 (by omega) (by omega) (fun k t' v q1 q2 => (hp1 k t' v q1 q2).up hS1 (by show (Value.type "set" : Value) ≠ Value.type "tuple"; decide) up2) (fun e he => ?_) fun h3 tk3 es3 t3 k3 O3 f3 s3 => ?_
      · rcases in2 e he with q | q
        · obtain ⟨k, hk, ek⟩ := hin e q
          exact ⟨k, by omega, ek⟩
        · exact ⟨i, by omega, by rw [q]; exact hv⟩
      · exact goal h3 tk3 es3 t3 (fun b o hb hb2 e => k3 b o hb hb2 (up2 b o hb (kk b o (by simpa using hb2) e))) O3 f3 s3
/-- set(list of different spots) -/
theorem set_spots {s : Shared} {Q : Value → Shared → Prop} (hh : A.handled = none) (hu : A.units + 70 < cLine) (nd : ts.Nodup) (hsz : items.size = ts.length) (small : ts.length < 1000) (hl : s.heap.IsList l items) (hp : ∀ (k : Nat) t' v, ts[k]? = some t' → items[k]? = some v → PtAt s.heap t' v)
    (goal : ∀ h' tk es t, (∀ b o, s.heap.get? b = some o → h'.get? b = some o) → SetO h' s.heap.objs.size es t → t.fits es.size = true → es.size = items.size → Q (.ref s.heap.objs.size) { s with heap := h', toks := tk }) :
    wpAny (model prog w) A (call (.type "set") [.ref l]) Q E s := by
  have ll : l < s.heap.objs.size := by obtain ⟨o, e, _⟩ := id hl; exact Heap.lt_size e
  have tc := F.called_set
  obtain ⟨c0, tl0, hmro⟩ := tc.mro
  refine wpAny_call (codeAny_of_tree ?_)
  show wpAny (model prog w) _ (pure (Fin.again (Code.builtin "type.__call__" ⟨[.type "set", .ref l], []⟩))) _ _ s
  refine wpAny_pure ⟨Code.quiet_builtin _ (by decide +kernel), codeAny_builtin F.entry_type_call ?_⟩
  rw [Around.under_plain (weight_type_call_type _ _ _) rfl]
  show wpAny (model prog w) A.in1 (Builtin.«type.__call__» ⟨[.type "set", .ref l], []⟩) _ _ s
  unfold Builtin.«type.__call__»
  refine wpAny_ite_split (fun z => by rw [tc.notType] at z; cases z) (fun _ => ?_)
  refine wpAny_ite_split (fun z => by rw [tc.canCreate] at z; cases z) (fun _ => ?_)
  refine wpAny_bind (wpAny_of_eq (F.typeCall_set_1 _) ?_)
  refine wpAny_bind (wpAny_of_eq hmro ?_)
  refine wpAny_ite_split (fun z => by cases z) (fun _ => ?_)
  refine wpAny_bind (wpAny_of_eq tc.made ?_)
  refine wpAny_bind (wpAny_pure ?_)
  refine wpAny_bind (wpAny_holding (wpAny_call (codeAny_mono (code_set_new_1 (Q₁ := fun obj z => obj = .ref s.heap.objs.size ∧ ∃ led, z = { s with heap := s.heap.push { cls := .type "set", data := .set #[] 0 (SetTable.fresh 0 0 led) } }) (E := fun e s' => False) _ fun led => ⟨rfl, led, rfl⟩) fun r s1 hr => ?_)))
  cases r with
  | error e => exact False.elim hr
  | ok f =>
  cases f with
  | next => exact False.elim hr
  | brk => exact False.elim hr
  | cont => exact False.elim hr
  | ret v =>
  obtain ⟨rfl, led, rfl⟩ := (show v = Value.ref s.heap.objs.size ∧ ∃ led, s1 = { s with heap := s.heap.push { cls := .type "set", data := .set #[] 0 (SetTable.fresh 0 0 led) } } from hr)
  have oS : (s.heap.push { cls := .type "set", data := .set #[] 0 (SetTable.fresh 0 0 led) }).get? s.heap.objs.size = some { cls := .type "set", data := .set #[] 0 (SetTable.fresh 0 0 led) } := Heap.get?_push_size _ rfl
  have up : ∀ b o, s.heap.get? b = some o → (s.heap.push { cls := .type "set", data := .set #[] 0 (SetTable.fresh 0 0 led) }).get? b = some o := fun b o e => Heap.get?_push_of_some _ e
  have ty : ({ s with heap := s.heap.push { cls := .type "set", data := .set #[] 0 (SetTable.fresh 0 0 led) } } : Shared).TypeIs (.ref s.heap.objs.size) "set" := ⟨_, oS, rfl⟩
  refine wpAny_bind (wpAny_isInstance ty tc.sub ?_)
  refine wpAny_ite_split (fun z => by cases z) (fun _ => ?_)
  refine wpAny_bind (wpAny_holding ?_)
  unfold callSpecial?
  refine wpAny_bind (wpAny_specialOf ty tc.init.lookup ?_)
  refine wpAny_holding (wpAny_bind (wpAny_of_eq (tc.init.bind _) ?_))
  refine wpAny_bind (wpAny_call (codeAny_call_builtin tc.init.plain F.entry_set_init (check_set_init_1 ty ?_)))
  show wpAny (model prog w) A.in1.in1 (Builtin.«set.__init__» ⟨[.ref s.heap.objs.size, .ref l], []⟩) _ _ _
  unfold Builtin.«set.__init__»
  refine wpAny_bind ?_
  show wpAny (model prog w) A.in1.in1 (pure ()) _ _ _
  refine wpAny_pure ?_
  refine wpAny_bind ?_
  unfold typeNameOfCut shownTypeOf
  refine wpAny_bind (wpAny_bind (wpAny_typeOf ty ?_))
  show wpAny (model prog w) A.in1.in1 (pure (Value.type "set")) _ _ _
  refine wpAny_pure ?_
  show wpAny (model prog w) A.in1.in1 (pure _) _ _ _
  refine wpAny_pure ?_
  refine wpAny_bind ?_
  show wpAny (model prog w) A.in1.in1 (pure ()) _ _ _
  refine wpAny_pure ?_
  refine wpAny_bind (wpAny_pure ?_)
  unfold setUsed
  refine wpAny_bind (wpAny_bind (wpAny_setState_of oS rfl rfl (wpAny_pure ?_)))
  show wpAny (model prog w) A.in1.in1 (Builtin.Frozenset.updateFrom "set.__init__" s.heap.objs.size (.ref l) >>= fun _ => ret Value.none) _ _ _
  unfold Builtin.Frozenset.updateFrom
  refine wpAny_bind (wpAny_bind ?_)
  have hl1 := hl.push { cls := .type "set", data := .set #[] 0 (SetTable.fresh 0 0 led) }
  have tl : ({ s with heap := s.heap.push { cls := .type "set", data := .set #[] 0 (SetTable.fresh 0 0 led) } } : Shared).TypeIs (.ref l) "list" := by
    obtain ⟨o, e1, e2, _⟩ := hl1
    exact ⟨o, e1, e2⟩
  unfold Builtin.Frozenset.isAnySet orM
  refine wpAny_bind (wpAny_isInstance tl F.sub_list_set ?_)
  show wpAny (model prog w) A.in1.in1 (isInstance (.ref l) (.type "frozenset")) _ _ _
  refine wpAny_isInstance tl F.sub_list_frozenset ?_
  show wpAny (model prog w) A.in1.in1 (typeOf (.ref l) >>= _) _ _ _
  refine wpAny_bind (wpAny_typeOf tl ?_)
  show wpAny (model prog w) A.in1.in1 (pyIter (.ref l) >>= fun it => runValue (Code.builtin "set.update.loop" ⟨[.ref s.heap.objs.size, it], []⟩) >>= fun _ => pure ()) _ _ _
  refine wpAny_bind (wpAny_pyIter_list hl1 (wpAny_bind (wpAny_runValue ?_)))
  have sz1 : (s.heap.push { cls := .type "set", data := .set #[] 0 (SetTable.fresh 0 0 led) }).objs.size = s.heap.objs.size + 1 := Heap.size_push _ _
  have up1 : ∀ b o, s.heap.get? b = some o → ((s.heap.push { cls := .type "set", data := .set #[] 0 (SetTable.fresh 0 0 led) }).push { cls := .type "list_iterator", data := .fields #[.ref l, .int 0 0] }).get? b = some o := fun b o e => Heap.get?_push_of_some _ (up b o e)
  have G0 : Good (SetTable.fresh 0 0 led) (#[] : Array (Int × Value)).size := ⟨⟨⟨3, by decide, rfl⟩, rfl, rfl, List.Pairwise.nil, fun x hx => by cases hx⟩, by show 0 * 5 < 7 * 3; decide⟩
  have hI0 : (s.heap.push { cls := .type "set", data := .set #[] 0 (SetTable.fresh 0 0 led) }).objs.size = s.heap.objs.size + 1 := sz1
  refine loop_to (A := A.in1.in1) hh (by show A.units + 1 + 1 + 66 < cLine; omega) nd hsz small (I := (s.heap.push { cls := .type "set", data := .set #[] 0 (SetTable.fresh 0 0 led) }).objs.size) (l := l) (S := s.heap.objs.size) ?n1 ?n2 ?n3 items.size 0 _ #[] (SetTable.fresh 0 0 led) (by omega) ⟨_, Heap.get?_push_size _ rfl, rfl, rfl⟩ (hl1.push _) ⟨0, Heap.get?_push_of_some _ oS⟩ G0 rfl (by show 7 < 8 * (0 + 1); decide) ?pts (fun e he => by cases he) fun h' tk es' t' kp O' f' s' => ?fin
  case n1 => rw [sz1]; exact Nat.ne_of_lt (Nat.lt_succ_of_lt ll)
  case n2 => rw [sz1]; exact Nat.ne_of_lt (Nat.lt_succ_self _)
  case n3 => exact Nat.ne_of_gt ll
  case pts =>
    intro k t' v q1 q2
    obtain ⟨a, b, t1, t2, t3, e, ⟨o, n, h1, h2, h3⟩, ⟨o', n', g1, g2, g3⟩⟩ := hp k t' v q1 q2
    exact ⟨a, b, t1, t2, t3, e, ⟨o, n, up1 a o h1, h2, h3⟩, ⟨o', n', up1 b o' g1, g2, g3⟩⟩
  case fin =>
    refine wpAny_pure (wpAny_pure ?_)
    refine wpAny_pure ?_
    refine wpAny_pure ?_
    exact goal h' tk es' t' (fun b o e => kp b o (Nat.ne_of_lt (Heap.lt_size e)) (by rw [sz1]; exact Nat.ne_of_lt (Nat.lt_succ_of_lt (Heap.lt_size e))) (up1 b o e)) O' f' s'
end
end SPT

set_option Elab.async false
set_option linter.all false
set_option maxRecDepth 100000
namespace DL
open PySem L2
/-! ### len(set(list of different spots)) -/
/-- a set with n members lies at q -/
def SetN (q : Addr) (n : Nat) : Heap → Prop := fun h => ∃ es t, SPT.SetO h q es t ∧ t.fits es.size = true ∧ es.size = n
theorem call_setT {X : Cx} (hh : X.A.handled = none) (hu : X.A.units + 80 < cLine) : CallR X (.type "set") (fun xs H Q => ∃ (F : Hp) (p : Addr) (vs : List V) (l : List (Int × Int × Int)), xs = [.ref p] ∧ Same F H ∧ SqL X.K F p vs ∧ Reps X.K F vs (l.map ptD) ∧ l.Nodup ∧ l.length < 1000 ∧
    ∀ p' : Addr, H p' = none → Q (.ref p') (upd H p' (.ext (SetN p' l.length)))) := by
  intro pins s σ H xs us Q I r h
  obtain ⟨F, p, vs, l, rfl, f, hp, rs, nd, sm, q⟩ := h
  obtain ⟨u, rfl, ru⟩ := vals1 r
  cases (show u = Value.ref p from ru)
  obtain ⟨its, rv, pl, hz⟩ := I.list (f.seq hp)
  have n1 : vs.length = l.length := by rw [rs.length, List.length_map]
  have n2 := rv.length
  have hsz : its.toArray.size = l.length := by rw [List.size_toArray]; omega
  refine SPT.set_spots (ts := l) (items := its.toArray) hh (by omega) nd hsz sm pl.isList (fun k t' v q1 q2 => ?_) fun h' tk es t kp O ft es' => ?_
  · have q2 : its[k]? = some v := by simpa using q2
    obtain ⟨w', hw, rw'⟩ := rs.get (i := k) (d := ptD t') (by rw [List.getElem?_map, q1]; rfl)
    obtain ⟨u', hu', ru'⟩ := rv.get hw
    rw [q2] at hu'
    cases hu'
    exact pt_at I f rw' ru'
  · have hn : H s.heap.objs.size = none := I.hok.fresh (Nat.le_refl _)
    obtain ⟨ep, hS⟩ := O.ex
    refine ⟨.ref s.heap.objs.size, _, I.laid (a := s.heap.objs.size) (o := .ext (SetN s.heap.objs.size l.length)) (t' := tk) kp (Nat.le_refl _) ⟨⟨es, t, O, ft, by rw [es', hsz]⟩, ⟨_, hS⟩, fun h1 h2 a1 k1 => ?_⟩, rfl, q _ hn⟩
    obtain ⟨es1, t1, ⟨ep1, e1⟩, x2, x3⟩ := a1
    exact ⟨es1, t1, ⟨ep1, k1 _ e1⟩, x2, x3⟩
theorem call_lenS {X : Cx} : CallR X (.builtin "len") (fun xs H Q => ∃ (p : Addr) (n : Nat), xs = [.ref p] ∧ H p = some (.ext (SetN p n)) ∧ n < 1000 ∧ Q (.int n) H) := by
  intro pins s σ H xs us Q I r h
  obtain ⟨p, n, rfl, hp, hn, q⟩ := h
  obtain ⟨u, rfl, ru⟩ := vals1 r
  cases (show u = Value.ref p from ru)
  obtain ⟨⟨es, t, ⟨ep, e⟩, ft, es'⟩, _, _⟩ := (show ObjOk X.prog X.w H s.heap p (.ext (SetN p n)) from I.hok p _ hp)
  refine call_len_set e ⟨rfl, rfl, rfl⟩ rfl ft (by omega) ?_
  exact ⟨.int n, H, I.tok _, ⟨s.toks + 1, by rw [es']⟩, q⟩
theorem bt_set : bootBuiltins "set" = some (.type "set") := by decide +kernel
section
variable {Y : Cy} {T : Tx} {k : Nat} {N G : List Str} {c : List Slot} {e : Expr} {pos p1 p2 p3 : Pos}
theorem ev_lenset (S : Se Y T k N G) (gi gj : Nat) {l : List (Int × Int × Int)} (ha : EvD Y e c (.lst (l.map ptD))) (nd : l.Nodup) (sm : l.length < 1000) (hm1 : T.mg "len" = none) (hm2 : T.mg "set" = none) (hg1 : G[gi]? = some ("len" : Str) := by rfl) (hg2 : G[gj]? = some ("set" : Str) := by rfl)
    (he1 : starEach [.Call (.Name "set" p2) [e] [] p3] Y.X.env = (false, eval (.Call (.Name "set" p2) [e] [] p3) Y.X.env) :: starEach [] Y.X.env := by rfl) (he2 : starEach [e] Y.X.env = (false, eval e Y.X.env) :: starEach [] Y.X.env := by rfl) :
    EvD Y (.Call (.Name "len" p1) [.Call (.Name "set" p2) [e] [] p3] [] pos) c (.int (l.length : Int)) := by
  have g1 := S.gl _ (List.mem_of_getElem? hg1)
  have g2 := S.gl _ (List.mem_of_getElem? hg2)
  refine PE.imp (pe_callB call_lenS g1.1 (by rw [S.eM]; exact hm1) bt_len (pa_cons (pe_callTy (call_setT S.room.hd (by have := S.room.un; omega)) g2.1 (by rw [S.eM]; exact hm2) bt_set (ar_cons ha ar_nil he2 : ArD Y [e] c [.lst (l.map ptD)]) g2.2.2 g2.2.1 he2 rfl) pa_nil he1) g1.2.2 g1.2.1 he1 rfl) fun σ H Q ⟨F, E, q⟩ => ⟨F, E, fun vs F1 H1 e1 r1 => ?_⟩
  obtain ⟨v, rfl, rv⟩ := inv1 r1
  obtain ⟨p, ws, rfl, hp, rs⟩ := inv_lst rv
  refine ⟨F1, p, ws, l, rfl, e1.fh, hp, rs, nd, sm, fun p' hn => ⟨p', l.length, rfl, upd_same, sm, ?_⟩⟩
  have X : Ext F1 H1 F1 (upd H1 p' (.ext (SetN p' l.length))) := ⟨Same.refl _, fun b u q => by rw [upd_ne (ne_of_none (e1.fh b u q) hn)]; exact e1.fh b u q, fun b u q => by rw [upd_ne (ne_of_none q hn)]; exact q, fun _ _ z => z⟩
  exact q _ F1 _ (e1.trans X) (.int _)
end
end DL

set_option Elab.async false
set_option linter.all false
set_option maxRecDepth 100000
namespace SPT
open PySem PySem.Spec PyProof.Rows
section
variable {prog : Program} {w : World} {A : Around} {E : Value → Shared → Prop} {s : Shared} {t : Int × Int × Int} {u : Value}
def hashT (prog : Program) (w : World) (t : Int × Int × Int) : Int := reduceHash (Builtin.Tuple.tupleHashOf [hashInt t.1, tupleKeyHash (intKind prog w) [t.2.1, t.2.2]])
theorem hash_pt5 {Q : Int → Shared → Prop} (hu : A.units + 64 < cLine) (x : PtAt s.heap t u) (q : Q (hashT prog w t) { s with toks := s.toks + 5 }) : wpAny (model prog w) A (pyHash u) Q E s := by
  obtain ⟨a, b, t1, t2, t3, rfl, ⟨o, n, h1, h2, h3⟩, ⟨o', n', g1, g2, g3⟩⟩ := x
  show wpAny (model prog w) A (pyHashByItsType (.ref a)) Q E s
  refine W.pyHash_slot (T := "tuple") ⟨o, h1, h2⟩ F.slot_tuple_hash F.entry_tuple_hash (F.args_tuple_hash_1 _) (by decide) (.inr (by omega)) ?_
  show wpAny (model prog w) A.in1 ((pure (.ref a, []) : Sem (Value × List Value)) >>= fun x => Builtin.Tuple.tupleItemsOf x.1 >>= fun its => forIn its #[] (fun x hs => pyHash x >>= fun h => pure (ForInStep.yield (hs.push h))) >>= fun hs => retInt (Builtin.Tuple.tupleHashOf hs.toList)) _ E s
  refine wpAny_bind (wpAny_pure (wpAny_bind (wpAny_tupleItemsOf h1 h3 ?_)))
  rw [← Array.forIn_toList]
  show wpAny (model prog w) A.in1 (forIn [Value.int t.1 t1, Value.ref b] (#[] : Array Int) _ >>= _) _ E s
  rw [List.forIn_cons]
  refine wpAny_bind (wpAny_bind (wpAny_bind (wpAny_pyHash_int (wpAny_pure ?_))))
  show wpAny (model prog w) A.in1 (forIn [Value.ref b] (#[].push (hashInt t.fst)) _) _ E _
  rw [List.forIn_cons]
  have k : IsTupleKey (intKind prog w) s.heap [t.2.1, t.2.2] b := ⟨o', _, n', g1, g2, g3, .cons (by simp [intKind, Value.isInt]) (.cons (by simp [intKind, Value.isInt]) .nil)⟩
  refine wpAny_bind (wpAny_bind (wpAny_pyHash_tuple (knd := intKind prog w) (by show A.units + 1 < cLine; omega) k (wpAny_pure ?_)))
  show wpAny (model prog w) A.in1 (forIn [] ((#[].push (hashInt t.fst)).push _) _) _ E _
  rw [List.forIn_nil]
  refine wpAny_pure ?_
  unfold retInt
  refine wpAny_bind (wpAny_mkInt (wpAny_pure ?_))
  exact ⟨_, _, rfl, q⟩
theorem eqb_same {u' : Value} {Q : Bool → Shared → Prop} (hu : A.units + 64 < cLine) (x : PtAt s.heap t u) (y : PtAt s.heap t u') (q : Q true s) : wpAny (model prog w) A (eqBool u u') Q E s := by
  obtain ⟨as, ra⟩ := reads_pt x
  obtain ⟨bs, rb⟩ := reads_pt y
  refine SeqAt.eqBoolOverData prog w A E s u u' _ _ as bs Q ra rb rfl rfl ?_ ?_
  · show A.units + 2 < cLine
    omega
  · have e : PyData.eqv (.tuple [.int t.1, .tuple [.int t.2.1, .int t.2.2]]) (.tuple [.int t.1, .tuple [.int t.2.1, .int t.2.2]]) = true := by
      have e : PyData.eqv (.tuple [.int t.1, .tuple [.int t.2.1, .int t.2.2]]) (.tuple [.int t.1, .tuple [.int t.2.1, .int t.2.2]]) = ((t.1 == t.1) && (((t.2.1 == t.2.1) && ((t.2.2 == t.2.2) && true)) && true)) := rfl
      rw [e]
      simp
    rw [e]
    exact q
theorem pt_inj {h : Heap} {x y : Int × Int × Int} {a : Addr} (hx : PtAt h x (.ref a)) (hy : PtAt h y (.ref a)) : x = y := by
  obtain ⟨a1, b1, t1, t2, t3, e1, ⟨o, n, h1, h2, h3⟩, ⟨o', n', g1, g2, g3⟩⟩ := hx
  obtain ⟨a2, b2, r1, r2, r3, e2, ⟨p, m, k1, k2, k3⟩, ⟨p', m', j1, j2, j3⟩⟩ := hy
  cases e1
  cases e2
  rw [h1] at k1
  cases k1
  rw [h3] at k3
  have z : #[Value.int x.1 t1, Value.ref b1] = #[Value.int y.1 r1, Value.ref b2] := by injection k3
  have z1 : x.1 = y.1 := by simp at z; exact z.1.1
  have z2 : b1 = b2 := by simp at z; exact z.2
  subst z2
  rw [g1] at j1
  cases j1
  rw [g3] at j3
  have y1 : #[Value.int x.2.1 t2, Value.int x.2.2 t3] = #[Value.int y.2.1 r2, Value.int y.2.2 r3] := by injection j3
  simp at y1
  exact Prod.ext z1 (Prod.ext y1.1.1 y1.2.1)
theorem PtAt.keepD {h h' : Heap} {t : Int × Int × Int} {u : Value} {S : Addr} {oS : Obj} {es ep} (x : PtAt h t u) (hS : h.get? S = some oS) (hc : oS.data = .dict es ep) (k : Heap.SameBut S h h') : PtAt h' t u := by
  obtain ⟨a, b, t1, t2, t3, e, ⟨o, n, h1, h2, h3⟩, ⟨o', n', g1, g2, g3⟩⟩ := x
  have na : a ≠ S := fun z => by rw [z, hS] at h1; cases h1; rw [hc] at h3; cases h3
  have nb : b ≠ S := fun z => by rw [z, hS] at g1; cases g1; rw [hc] at g3; cases g3
  exact ⟨a, b, t1, t2, t3, e, ⟨o, n, (k.2 a na).trans h1, h2, h3⟩, ⟨o', n', (k.2 b nb).trans g1, g2, g3⟩⟩
end
/-- spots as keys -/
def sptKind (prog : Program) (w : World) : HeapKind prog w (Int × Int × Int) where
  is := fun h t a => PtAt h t (.ref a)
  hash := hashT prog w
  draws := fun _ => 5
  room := fun A => A.units + 64 < cLine
  inj := fun hx hy => pt_inj hx hy
  keeps := fun x ho hd hs => x.keepD ho hd hs
  pyHash := fun hu hk h => hash_pt5 hu hk h
  eqBool := fun {A E s x y a b Q} hu hx hy h => by
    by_cases e : x = y
    · subst e
      rw [decide_eq_true rfl] at h
      exact eqb_same hu hx hy h
    · rw [decide_eq_false e] at h
      exact eqb_pt hu hx hy e h
  quiet := fun hk h => eq_pt hk h
end SPT

set_option Elab.async false
set_option linter.all false
set_option maxRecDepth 100000
namespace SPT
open PySem PySem.Spec PyProof.Rows
/-- a dict lies at d, its rows es -/
def DictE (h : Heap) (d : Addr) (es : Array DictEntry) (ep : Nat) : Prop := ∃ o, h.get? d = some o ∧ o.ExactDict ∧ o.data = .dict es ep
section
variable {prog : Program} {w : World} {A : Around} {E : Value → Shared → Prop} {s : Shared} {d it : Addr} {es : Array DictEntry} {ep i : Nat}
theorem DictE.typeIs (x : DictE s.heap d es ep) : s.TypeIs (.ref d) "dict" := let ⟨o, ho, hc, _⟩ := x; ⟨o, ho, hc.1⟩
theorem DictE.at {h h' : Heap} (x : DictE h d es ep) (e : ∀ o, h.get? d = some o → h'.get? d = some o) : DictE h' d es ep := let ⟨o, ho, r⟩ := x; ⟨o, e o ho, r⟩
theorem DictE.lt {h : Heap} (x : DictE h d es ep) : d < h.objs.size := let ⟨o, ho, _⟩ := x; Heap.lt_size ho
theorem iter_dictE {Q : Value → Shared → Prop} (hd : (d == sysModules) = false) (hm : DictE s.heap d es ep)
    (hQ : Q (.ref s.heap.objs.size) { s with heap := s.heap.push { cls := .type "dict_keyiterator", data := .fields #[.ref d, .int 0 0, .int es.size 0, .int ep 0] } }) :
    wpAny (model prog w) A (pyIter (.ref d)) Q E s := by
  have hT := hm.typeIs
  obtain ⟨o, ho, hc, hdat⟩ := hm
  refine wpAny_pyIter_slot hT F.slot_dict_iter (wpAny_call_entry F.slot_dict_iter hT F.entry_dict_iter ?_ (F.args_dict_iter_1 _))
  unfold Builtin.«dict.__iter__»
  refine wpAny_bind ?_
  unfold Builtin.Dict.dictSlotNone
  refine wpAny_bind (wpAny_notOrdered_dict hT (wpAny_pure ?_))
  show wpAny _ _ (Builtin.Dict.showsAll d >>= _) _ _ s
  unfold Builtin.Dict.showsAll
  rw [if_neg (by rw [hd]; exact Bool.false_ne_true)]
  refine wpAny_bind (wpAny_pure (wpAny_bind (wpAny_dictEntries ho hdat (wpAny_bind (wpAny_dictEpoch ho hdat ?_)))))
  refine wpAny_bind (wpAny_newObj_type (wpAny_pure ⟨_, rfl, "dict_keyiterator", _, ⟨_, Heap.get?_push_size _ rfl, rfl⟩, F.slot_dict_keyiterator_next.lookup, ?_⟩))
  simpa [rawInt] using hQ
theorem next_item {x : DictEntry} {Q : Option Value → Shared → Prop} (hit : s.heap.IsKeyIter it d i es.size ep) (hm : DictE s.heap d es ep) (hx : es[i]? = some x)
    (hQ : ∀ h', h'.IsKeyIter it d (i + 1) es.size ep → Heap.SameBut it s.heap h' → Q (some x.key) { s with heap := h' }) : wpAny (model prog w) A (pyNext (.ref it)) Q E s := by
  obtain ⟨o, ho, hc, hd⟩ := id hit
  obtain ⟨od, hod, hcd, hdd⟩ := id hm
  unfold pyNext
  refine wpAny_bind (wpAny_attempt (wpAny_callSpecial?_slot (name := Str.ofString "__next__") hit.typeIs F.slot_dict_keyiterator_next
    (wpAny_call_entry F.slot_dict_keyiterator_next hit.typeIs F.entry_dict_keyiterator_next ?_ (F.args_dict_keyiterator_next_1 _))))
  refine wpAny_bind (wpAny_pure (wpAny_bind (wpAny_bind ?_)))
  first | refine wpAny_bind (wpAny_typeNameOfWhole_keyiter hit.typeIs (wpAny_pure ?_)) | refine wpAny_bind (wpAny_typeNameOf_keyiter hit.typeIs (wpAny_pure ?_))
  refine wpAny_bind (wpAny_fieldsOf ho hd ?_)
  have hown : Builtin.Dict_items.ownsTuple "dict_keyiterator" = false := by decide
  simp only [hown, Bool.false_eq_true, if_false]
  show wpAny _ _ (if (Value.ref d == Value.none) = true then _ else _) _ _ s
  rw [if_neg (show ¬ ((Value.ref d == Value.none) = true) from Bool.false_ne_true)]
  refine wpAny_bind (wpAny_pure (wpAny_bind (wpAny_dictEntries hod hdd ?_)))
  rw [if_neg (by simp)]
  refine wpAny_bind (wpAny_pure (wpAny_bind (wpAny_dictEpoch hod hdd ?_)))
  rw [if_neg (by simp)]
  refine wpAny_pure ?_
  simp only [show ¬ ((i : Int) < 0) from by omega, if_false, Int.toNat_natCast, hx]
  refine wpAny_bind ?_
  first | refine wpAny_bind (wpAny_typeNameOfWhole_keyiter hit.typeIs (wpAny_pure ?_)) | refine wpAny_bind (wpAny_typeNameOf_keyiter hit.typeIs (wpAny_pure ?_))
  refine wpAny_bind (wpAny_isOneOf_keyiter hit.typeIs ?_)
  show wpAny _ _ (setField (.ref it) 1 (rawInt ((i : Int) + 1)) >>= _) _ _ s
  refine wpAny_bind (wpAny_setField ho hd (by simp) ?_)
  have hit' : (s.heap.update it (Obj.mapFields (·.setIfInBounds 1 (rawInt ((i : Int) + 1))))).IsKeyIter it d (i + 1) es.size ep :=
    ⟨_, Heap.get?_update_self _ ho (Obj.isFreed_of_fields (Obj.data_mapFields hd _)), (Obj.cls_mapFields ..).trans hc, by rw [Obj.data_mapFields hd]; simp [rawInt]⟩
  refine wpAny_bind (wpAny_holding ?_)
  refine wpAny_bind (wpAny_isOneOf_keyiter (s := { s with heap := s.heap.update it (Obj.mapFields (·.setIfInBounds 1 (rawInt ((i : Int) + 1)))) }) hit'.typeIs ?_)
  show wpAny _ _ (pure x.key) _ _ _
  exact wpAny_pure (wpAny_pure ⟨_, rfl, wpAny_pure (hQ _ hit' (Heap.SameBut.update ..))⟩)
theorem next_end {Q : Option Value → Shared → Prop} (hh : A.handled = none) (hit : s.heap.IsKeyIter it d i es.size ep) (hm : DictE s.heap d es ep) (hx : es[i]? = none)
    (hQ : ∀ h', Heap.ExtBut it s.heap h' → Q none { s with heap := h' }) : wpAny (model prog w) A (pyNext (.ref it)) Q E s := by
  obtain ⟨o, ho, hc, hd⟩ := id hit
  obtain ⟨od, hod, hcd, hdd⟩ := id hm
  unfold pyNext
  refine wpAny_bind (wpAny_attempt (wpAny_callSpecial?_slot (name := Str.ofString "__next__") hit.typeIs F.slot_dict_keyiterator_next
    (wpAny_call_entry F.slot_dict_keyiterator_next hit.typeIs F.entry_dict_keyiterator_next ?_ (F.args_dict_keyiterator_next_1 _))))
  refine wpAny_bind (wpAny_pure (wpAny_bind (wpAny_bind ?_)))
  first | refine wpAny_bind (wpAny_typeNameOfWhole_keyiter hit.typeIs (wpAny_pure ?_)) | refine wpAny_bind (wpAny_typeNameOf_keyiter hit.typeIs (wpAny_pure ?_))
  refine wpAny_bind (wpAny_fieldsOf ho hd ?_)
  have hown : Builtin.Dict_items.ownsTuple "dict_keyiterator" = false := by decide
  simp only [hown, Bool.false_eq_true, if_false]
  show wpAny _ _ (if (Value.ref d == Value.none) = true then _ else _) _ _ s
  rw [if_neg (show ¬ ((Value.ref d == Value.none) = true) from Bool.false_ne_true)]
  refine wpAny_bind (wpAny_pure (wpAny_bind (wpAny_dictEntries hod hdd ?_)))
  rw [if_neg (by simp)]
  refine wpAny_bind (wpAny_pure (wpAny_bind (wpAny_dictEpoch hod hdd ?_)))
  rw [if_neg (by simp)]
  refine wpAny_pure ?_
  simp only [show ¬ ((i : Int) < 0) from by omega, if_false, Int.toNat_natCast, hx]
  refine wpAny_bind ?_
  first | refine wpAny_bind (wpAny_typeNameOfWhole_keyiter hit.typeIs (wpAny_pure ?_)) | refine wpAny_bind (wpAny_typeNameOf_keyiter hit.typeIs (wpAny_pure ?_))
  show wpAny _ _ (setField (.ref it) 0 .none >>= _) _ _ s
  refine wpAny_bind (wpAny_setField ho hd (by simp) ?_)
  show wpAny _ _ (newExc (.type "StopIteration") [] >>= _) _ _ _
  refine wpAny_bind ?_
  simp only [newExc, newTuple]
  refine wpAny_bind (wpAny_newObj_type ?_ (by size_fits))
  refine wpAny_bind (m := firstArgMember _ _) (wpAny_of_eq (a := Value.none) (by first | rfl | (simp only [firstArgMember]; rfl)) ?_)
  refine wpAny_newObj_type ?_ (by size_fits)
  simp only [raiseNew]
  refine wpAny_bind (wpAny_handled ?_)
  rw [show A.in1.handled = none from hh]
  refine wpAny_bind (wpAny_pure (wpAny_throw ?_))
  refine wpAny_bind (wpAny_isInstance (T := "StopIteration") (b := true) ⟨_, Heap.get?_push_size _ rfl, rfl⟩ isSubtype_stop ?_)
  exact wpAny_pure (hQ _ (((Heap.SameBut.update ..).extBut.push _).push _))
theorem walk_dictE (hh : A.handled = none) (I d : Addr) (hne : d ≠ I) (es : Array DictEntry) (ep : Nat) :
    Walks prog w A I [I, d] [I] es.size (fun i v => ∃ x, es[i]? = some x ∧ v = x.key) (fun i h => h.IsKeyIter I d i es.size ep ∧ DictE h d es ep) where
  sub := fun b hb => by simp at hb; simp [hb]
  frame := fun _ _ _ st hk => ⟨st.1.at fun o e => hk I (by simp) o e, st.2.at fun o e => hk d (by simp) o e⟩
  item := fun i s Q E hi st hQ => by
    obtain ⟨x, hx⟩ : ∃ x, es[i]? = some x := ⟨es[i], by simp [hi]⟩
    refine next_item st.1 st.2 hx fun h' hit' hs' => ?_
    exact hQ x.key h' s.toks ⟨x, hx, rfl⟩ ⟨hit', st.2.at fun o e => hs'.extBut _ _ hne e⟩ fun b o hb e => hs'.extBut b o (fun h => hb (by simp [h])) e
  done := fun s Q E st hQ => next_end hh st.1 st.2 (by simp) fun h' he' => hQ h' s.toks fun b o hb e => he' b o (fun h => hb (by simp [h])) e
  self := fun _ _ _ _ st hQ => wpAny_pyIter_keyiter st.1 hQ
theorem src_dictE (lo : (d == sysModules) = false) : PySem.W.KdlSrc prog w "dict" d d es.size (fun i v => ∃ x, es[i]? = some x ∧ v = x.key) (fun h => DictE h d es ep) where
  type := fun _ hm => hm.typeIs
  there := fun _ hm => ⟨hm.lt, hm.lt⟩
  keep := fun _ _ hm hk => hm.at fun o e => hk d (.inl rfl) o e
  notList := by decide
  notTuple := by decide
  hint := fun _ _ _ _ hm hq => PySem.W.kdl_hint_dict hm.typeIs hq
  iter := fun _ _ hh hm => ⟨_, _, (fun _ _ hq => iter_dictE lo hm hq), walk_dictE hh _ d (Nat.ne_of_lt hm.lt) es ep, ⟨⟨_, Heap.get?_push_size _ rfl, rfl, rfl⟩, hm.at fun o e => Heap.get?_push_of_some _ e⟩⟩
end
end SPT

set_option Elab.async false
set_option linter.all false
set_option maxRecDepth 100000
namespace DL
open PySem L2
/-! dicts whose keys are spots, their values True -/
abbrev Row3 := (Int × Int × Int) × Addr × Value
def hash0 (t : Int × Int × Int) : Int := reduceHash (Builtin.Tuple.tupleHashOf [hashInt t.1, reduceHash (Builtin.Tuple.tupleHashOf [hashInt t.2.1, hashInt t.2.2])])
def row0 (x : Row3) : DictEntry := ⟨hash0 x.1, .ref x.2.1, x.2.2⟩
def TObj (a : Addr) (xs : List Row3) (h : Heap) : Prop := (a == sysModules) = false ∧ ∃ o es ep, h.get? a = some o ∧ o.ExactDict ∧ o.data = .dict es ep ∧ es.toList = xs.map row0 ∧ (xs.map (·.1)).Nodup
structure TKs (K : PySem.W.Frag) (F : Hp) (xs : List Row3) (ks : List (Int × Int × Int)) : Prop where
  ks : xs.map (·.1) = ks
  rp : ∀ x ∈ xs, Rep K F (.ref x.2.1) (ptD x.1)
  sz : xs.length ≤ 1000000
theorem TKs.mono {K : PySem.W.Frag} {F F' : Hp} {xs : List Row3} {ks : List (Int × Int × Int)} (e : Same F F') (h : TKs K F xs ks) : TKs K F' xs ks := ⟨h.ks, fun x hx => (h.rp x hx).mono e, h.sz⟩
def DctT (ks : List (Int × Int × Int)) : Thing := ⟨fun K F a o => ∃ xs, o = .ext (TObj a xs) ∧ TKs K F xs ks ∧ ∃ h, TObj a xs h, fun e ⟨xs, h1, h2, h3⟩ => ⟨xs, h1, h2.mono e, h3⟩⟩
theorem TObj.ok {P : Program} {w : World} {H : Hp} {h : Heap} {a : Addr} {xs : List Row3} (x : TObj a xs h) : ObjOk P w H h a (.ext (TObj a xs)) := by
  refine ⟨x, let ⟨_, o, _, _, e, _⟩ := x; ⟨o, e⟩, fun h1 h2 y k => ?_⟩
  obtain ⟨z, o, es, ep, e1, e2⟩ := y
  exact ⟨z, o, es, ep, k o e1, e2⟩
theorem mem_key {xs : List Row3} (t : Int × Int × Int) : (atKey xs t).isSome = decide (t ∈ xs.map (·.1)) := by
  unfold atKey
  rw [Option.isSome_map, Bool.eq_iff_iff, List.find?_isSome]
  simp
section
variable {X : Cx} {pins : List (Addr × Obj)} {σ : St} {F H : Hp} {s : Shared} {a : Addr} {xs : List Row3} {ks : List (Int × Int × Int)} {t : Int × Int × Int}
theorem dct_heap (I : Inv X pins σ H s) (f : Same F H) (e : H a = some (.ext (TObj a xs))) (r : TKs X.K F xs ks) : (a == sysModules) = false ∧ s.heap.DictOfH (SPT.sptKind X.prog X.w) a xs := by
  obtain ⟨⟨z, o, es, ep, e1, e2, e3, e4, e5⟩, _⟩ := I.hok a _ e
  exact ⟨z, o, es, ep, e1, e2, e3, e4, fun x hx => pt_at I f (r.rp x hx) rfl, e5⟩
def tTNin (ta tb : TE) (K : PySem.W.Frag) : TE := fun σ H Q => ta σ H fun y H1 => tb σ H1 fun x H2 => ∃ F a xs ks t, x = .ref a ∧ Same F H2 ∧ H2 a = some (.ext (TObj a xs)) ∧ TKs K F xs ks ∧ Rep K F y (ptD t) ∧ Q (.bl (!decide (t ∈ ks))) H2
theorem pc_tnin {ea eb : Expr} {ta tb : TE} (hu : X.A.units + 70 < cLine) (ha : PE X ea ta) (hb : PE X eb tb) : PC X .NotIn ea eb (tTNin ta tb X.K) := by
  intro pins s σ H Q I h
  refine thn (ha pins s σ H _ I h) fun iv s1 ⟨y, H1, I1, ry, q1⟩ => thn (hb pins s1 σ H1 _ I1 q1) fun u s2 ⟨x, H2, I2, rx, F, a, xs, ks, t, ex, f, e, r, rt, q2⟩ => ?_
  subst ex
  obtain rfl : u = Value.ref a := rx
  obtain ⟨hd, dd⟩ := dct_heap I2 f e r
  have kp := pt_at I2 f rt ry
  obtain ⟨b, vs, rfl, _, _⟩ := inv_tup rt
  obtain rfl : iv = Value.ref b := ry
  refine PyProof.Rows.wpAny_notIn_heap (knd := SPT.sptKind X.prog X.w) (by show X.A.units + 1 + 64 < cLine; omega) kp hd dd ⟨.bl (!decide (t ∈ ks)), H2, I2.tok _, ?_, q2⟩
  show _ = _
  rw [mem_key, r.ks]
def sTPut (td ty tv : TE) (K : PySem.W.Frag) : TS := fun D σ H => tv σ H fun v H1 => td σ H1 fun x H2 => ty σ H2 fun y H3 => v = .bl true ∧ ∃ F a xs ks t, x = .ref a ∧ Same F H3 ∧ H3 a = some (.ext (TObj a xs)) ∧ F a = none ∧ TKs K F xs ks ∧ xs.length < 1000000 ∧ Rep K F y (ptD t) ∧ t ∉ ks ∧
  ∀ xs', TKs K F xs' (ks ++ [t]) → (∃ h, TObj a xs' h) → D.nx σ (upd H3 a (.ext (TObj a xs')))
theorem put_rows (r : TKs X.K F xs ks) (ht : t ∉ ks) {b : Addr} (rt : Rep X.K F (.ref b) (ptD t)) (hz : xs.length < 1000000) : storedH xs t b (.bool true) = xs ++ [(t, b, .bool true)] ∧ TKs X.K F (xs ++ [(t, b, .bool true)]) (ks ++ [t]) := by
  have e : atKey xs t = none := by
    have := mem_key (xs := xs) t
    rw [r.ks, decide_eq_false ht] at this
    cases h : atKey xs t with
    | none => rfl
    | some x => rw [h] at this; cases this
  refine ⟨storedH_new e _ _, by rw [List.map_append, r.ks]; rfl, fun x hx => ?_, by rw [List.length_append, List.length_singleton]; omega⟩
  rcases List.mem_append.mp hx with hx | hx
  · exact r.rp x hx
  · cases List.mem_singleton.mp hx
    exact rt
theorem ps_tput {o i value : Expr} {pos pos' : Pos} {td ty tv : TE} (hu : X.A.units + 70 < cLine) (ho : PE X o td) (hi : PE X i ty) (hv : PE X value tv) (hs : swapsWith value (some (.Subscript o i pos')) pos.line X.env = pure false) :
    PS X (.Assign [.Subscript o i pos'] value pos) (sTPut td ty tv X.K) := by
  intro pins s σ H D I h
  refine wpAny_Assign_Subscript (thn (hv pins s σ H _ I h) fun r s1 ⟨v, H1, I1, rv, q1⟩ => thn (ho pins s1 σ H1 _ I1 q1) fun u s2 ⟨x, H2, I2, rx, q2⟩ => thn (hi pins s2 σ H2 _ I2 q2) fun iv s3 ⟨y, H3, I3, ry, ev, F, a, xs, ks, t, ex, f, e, fa, rk, hz, rt, ht, q3⟩ => ?_) hs
  subst ex ev
  obtain rfl : u = Value.ref a := rx
  obtain rfl : r = Value.bool true := rv
  obtain ⟨hd, dd⟩ := dct_heap I3 f e rk
  have kp := pt_at I3 f rt ry
  obtain ⟨b, vs, rfl, _, _⟩ := inv_tup rt
  obtain rfl : iv = Value.ref b := ry
  obtain ⟨e1, r1⟩ := put_rows rk ht rt hz
  refine wpAny_setItem_heap (hsz := small_le (by omega)) (knd := SPT.sptKind X.prog X.w) (by show X.A.units + 1 + 64 < cLine; omega) kp dd fun h' dd' hs => ?_
  rw [e1] at dd'
  obtain ⟨q, es, ep, hq, h2, h3, h4, _, h5⟩ := dd'
  have tob : TObj a (xs ++ [(t, b, .bool true)]) h' := ⟨hd, q, es, ep, hq, h2, h3, h4, h5⟩
  exact ⟨σ, _, I3.write (x := a) (e := a) (by rw [e]; exact True.intro) (.inl rfl) (fun b q hb z => (hs.2 b hb).trans z) ⟨q, hq⟩ (TObj.ok tob), q3 _ r1 ⟨_, tob⟩⟩
/-- {e: True} -/
def tTNew (ty : TE) (K : PySem.W.Frag) : TE := fun σ H Q => ∀ p, H p = none → ty σ (upd H p (.ext (TObj p []))) fun y H1 => ∃ F t, Same F H1 ∧ H1 p = some (.ext (TObj p [])) ∧ Rep K F y (ptD t) ∧ ∀ xs, TKs K F xs [t] → (∃ h, TObj p xs h) → Q (.ref p) (upd H1 p (.ext (TObj p xs)))
theorem pe_tnew {e : Expr} {pos : Pos} {ty : TE} {kk : Nat} {p2 : Pos} (hu : X.A.units + 70 < cLine) (he : PE X e ty) : PE X (.Dict [some e] [.Constant (.bool true) kk p2] pos) (tTNew ty X.K) := by
  intro pins s σ H Q I h
  have hn := I.hok.fresh (Nat.le_refl s.heap.objs.size)
  have big : sysModules < s.heap.objs.size := Nat.lt_trans (by decide) (show mainGlobals < s.heap.objs.size from (I.mod.glob.keeps I.bk).lt)
  have hd : (s.heap.objs.size == sysModules) = false := beq_eq_false_iff_ne.mpr (Ne.symm (Nat.ne_of_lt big))
  have I1 := I.laid (a := s.heap.objs.size) (o := .ext (TObj s.heap.objs.size [])) (h' := s.heap.push { cls := .type "dict", data := .dict #[] }) (t' := s.toks) (fun _ _ q => Heap.get?_push_of_some _ q) (Nat.le_refl _) (TObj.ok ⟨hd, _, #[], 0, Heap.get?_push_size _ rfl, ⟨rfl, rfl, rfl⟩, rfl, rfl, List.nodup_nil⟩)
  refine wpAny_Dict_any rfl rfl (by simp) (by simp) (pairTrees_cons_walk (thn (he pins _ σ _ _ I1 (h _ hn)) fun iv s2 ⟨y, H2, I2, ry, F, t, f, e2, rt, q2⟩ => ?_))
  refine thn (pe_bl (X := X) (b := true) (j := kk) (pos := p2) pins s2 σ H2 (fun v H3 => v = .bl true ∧ H3 = H2) I2 ⟨rfl, rfl⟩) fun r s3 ⟨v, H3, I3, rv, ev, eH⟩ => ?_
  subst ev eH
  obtain rfl : r = Value.bool true := rv
  refine pairTrees_nil_walk ?_
  have r0 : TKs X.K F [] [] := ⟨rfl, (fun _ hx => by cases hx), by decide⟩
  obtain ⟨hd3, dd⟩ := dct_heap I3 f e2 r0
  have kp := pt_at I3 f rt ry
  obtain ⟨b, vs, rfl, _, _⟩ := inv_tup rt
  obtain rfl : iv = Value.ref b := ry
  obtain ⟨e1, r1⟩ := put_rows r0 (t := t) (by simp) rt (by decide)
  unfold storeAll
  rw [List.forIn_cons]
  refine wpAny_bind (wpAny_bind (wpAny_dictSet_heap (hsz := by simp) (knd := SPT.sptKind X.prog X.w) (by show X.A.units + 64 < cLine; omega) kp dd fun h' dd' hs => wpAny_pure ?_))
  show wpAny _ _ (forIn [] _ _) _ _ _
  rw [List.forIn_nil]
  rw [e1] at dd'
  obtain ⟨q, es, ep, hq, h2, h3, h4, _, h5⟩ := dd'
  have tob : TObj s.heap.objs.size ([] ++ [(t, b, .bool true)]) h' := ⟨hd3, q, es, ep, hq, h2, h3, h4, h5⟩
  exact wpAny_pure ⟨.ref s.heap.objs.size, _, I3.write (x := s.heap.objs.size) (e := s.heap.objs.size) (by rw [e2]; exact True.intro) (.inl rfl) (fun b q hb z => (hs.2 b hb).trans z) ⟨q, hq⟩ (TObj.ok tob), rfl, q2 _ r1 ⟨_, tob⟩⟩
theorem vals_refs : ∀ xs : List Row3, Vals (xs.map fun x => V.ref x.2.1) (xs.map fun x => Value.ref x.2.1)
  | [] => .nil
  | _ :: r => .cons rfl (vals_refs r)
/-- list(x) -/
theorem call_list_dct (hh : X.A.handled = none) : CallR X (.type "list") (fun vs H Q => ∃ F a xs ks, vs = [.ref a] ∧ Same F H ∧ H a = some (.ext (TObj a xs)) ∧ TKs X.K F xs ks ∧ ∀ p, H p = none → Q (.ref p) (upd H p (.lst (xs.map fun x => .ref x.2.1)))) := by
  intro pins s σ H vs us Q I r h
  obtain ⟨F, a, xs, ks, rfl, f, e, rk, q⟩ := h
  obtain ⟨u, rfl, ru⟩ := vals1 r
  obtain rfl : u = Value.ref a := ru
  obtain ⟨⟨z, o, es, ep, e1, e2, e3, e4, e5⟩, _⟩ := I.hok a _ e
  have hs : es.size = xs.length := by rw [← Array.length_toList, e4, List.length_map]
  refine PySem.W.kdl_call (SPT.src_dictE (es := es) (ep := ep) z) hh ⟨o, e1, e2, e3⟩ (by rw [hs]; exact small_le rk.sz) fun h' tk acc c kp hl it => ?_
  have key : Vals (xs.map fun x => V.ref x.2.1) acc.toList := by
    have ea : acc.toList = xs.map fun x => Value.ref x.2.1 := by
      apply List.ext_getElem?
      intro j
      rw [List.getElem?_map, Array.getElem?_toList]
      cases hj : acc[j]? with
      | none =>
        have : acc.size ≤ j := by simpa using hj
        rw [it.1, hs] at this
        rw [List.getElem?_eq_none this]
        rfl
      | some v =>
        obtain ⟨x, hx, rfl⟩ := it.2 j v hj
        rw [← Array.getElem?_toList, e4, List.getElem?_map] at hx
        cases hy : xs[j]? with
        | none => rw [hy] at hx; cases hx
        | some y => rw [hy] at hx; cases hx; rfl
    rw [ea]
    exact vals_refs xs
  refine ⟨.ref s.heap.objs.size, _, I.laid (t' := tk) (o := .lst (xs.map fun x => .ref x.2.1)) kp (Nat.le_refl _) ?_, rfl, q _ (I.hok.fresh (Nat.le_refl _))⟩
  exact ⟨by rw [List.length_map]; exact small_le rk.sz, acc.toList, c, key, by rw [Array.toArray_toList]; exact hl⟩
end
end DL

set_option Elab.async false
set_option linter.all false
set_option maxRecDepth 100000
namespace DL
open PySem L2
/-! statements over a dict of spots of our own; a def that reads one; list.extend; a written dict -/
theorem tobj_exc {a C : Addr} {xs : List Row3} (h : ∃ h, TObj a xs h) (e : HO.ext (TObj a xs) = HO.ext (ExcAt C a)) : False := by
  obtain ⟨h, t⟩ := h
  have e2 : TObj a xs = ExcAt C a := by injection e
  have t2 : ExcAt C a h := by rw [← e2]; exact t
  obtain ⟨_, o, es, ep, h1, _, h3, _⟩ := t
  obtain ⟨o', vs, g1, _, g3⟩ := t2
  rw [h1] at g1
  cases g1
  rw [h3] at g3
  cases g3
section
variable {K : PySem.W.Frag} {F₀ H₀ F H : Hp} {σ : St} {c : List Slot} {i : Nat} {a p : Addr} {t t' : Thing} {ks ks' : List (Int × Int × Int)} {o o' : HO}
theorem Env.thg_at (E : Env K F₀ H₀ F H σ c) (hs : slot c i = .thg t) : ∃ a o, σ[i]? = some (some (.ref a)) ∧ H a = some o ∧ F a = none ∧ H₀ a = none ∧ ThgOk t K F a o := by
  have q := E.sl i
  rw [hs] at q
  exact q
theorem Env.bor_at (E : Env K F₀ H₀ F H σ c) (hs : slot c i = .bor t) : ∃ a o, σ[i]? = some (some (.ref a)) ∧ H a = some o ∧ ThgOk t K F a o := by
  have q := E.sl i
  rw [hs] at q
  obtain ⟨a, o, h1, h2, h3⟩ := q
  exact ⟨a, o, h1, E.ext.hh _ _ h2, h3⟩
theorem thg_lt : ∀ {c : List Slot} {i : Nat} {t : Thing}, slot c i = .thg t → i < c.length
  | [], _, _, h => by cases h
  | _ :: _, 0, _, _ => by simp
  | _ :: r, i + 1, _, h => by simpa using thg_lt (c := r) (i := i) h
/-- a dict of our own is written -/
theorem Env.thg_set (E : Env K F₀ H₀ F H σ c) (hs : slot c i = .thg t) (hσ : σ[i]? = some (some (.ref a))) (h1 : H a = some o) (hne : ∀ C, o ≠ .ext (ExcAt C a)) (h2 : F a = none) (h3 : H₀ a = none) (r : ThgOk t' K F a o') :
    Env K F₀ H₀ F (upd H a o') σ (put c i (.thg t')) where
  ext := ⟨E.ext.ff, fun b u q => by rw [upd_ne (ne_of_none q h2)]; exact E.ext.fh b u q, fun b u q => by rw [upd_ne (ne_of_none q h3)]; exact E.ext.hh b u q, E.ext.fr⟩
  len := by rw [put_length]; exact E.len
  sl := fun j => by
    by_cases e : i = j
    · subst e
      rw [slot_put _ _ _ (thg_lt hs)]
      exact ⟨a, o', hσ, upd_same, h2, h3, r⟩
    · rw [slot_put_ne _ _ _ _ e]
      have q := E.sl j
      cases hj : slot c j with
      | un => trivial
      | val d => rw [hj] at q; exact q
      | own ds2 =>
        rw [hj] at q
        obtain ⟨b, us, h, g1, g2, g3, r'⟩ := q
        have hb : b ≠ a := fun z => e (E.inj i j a (by rw [hs]; rfl) (by rw [hj]; rfl) hσ (by rw [← z]; exact h))
        exact ⟨b, us, h, by rw [upd_ne hb]; exact g1, g2, g3, r'⟩
      | dic ds2 =>
        rw [hj] at q
        obtain ⟨b, us, h, g1, g2, g3, r'⟩ := q
        have hb : b ≠ a := fun z => e (E.inj i j a (by rw [hs]; rfl) (by rw [hj]; rfl) hσ (by rw [← z]; exact h))
        exact ⟨b, us, h, by rw [upd_ne hb]; exact g1, g2, g3, r'⟩
      | thg ds2 =>
        rw [hj] at q
        obtain ⟨b, us, h, g1, g2, g3, r'⟩ := q
        have hb : b ≠ a := fun z => e (E.inj i j a (by rw [hs]; rfl) (by rw [hj]; rfl) hσ (by rw [← z]; exact h))
        exact ⟨b, us, h, by rw [upd_ne hb]; exact g1, g2, g3, r'⟩
      | bor t => rw [hj] at q; exact q
      | exc C =>
        rw [hj] at q
        obtain ⟨b, h, g1⟩ := q
        have hb : b ≠ a := fun z => by
          subst z
          rw [h1] at g1
          exact hne C (by injection g1)
        exact ⟨b, h, by rw [upd_ne hb]; exact g1⟩
  inj := fun j k b h1 h2 h3 h4 => by
    have own : ∀ l, isOwn (slot (put c i (.thg t')) l) = true → isOwn (slot c l) = true := fun l hl => by
      by_cases e : i = l
      · subst e; rw [hs]; rfl
      · rw [slot_put_ne _ _ _ _ e] at hl; exact hl
    exact E.inj j k b (own j h1) (own k h2) h3 h4
/-- a new thing gets its name -/
theorem Env.thg_put {H1 F1 : Hp} (E : Env K F₀ H₀ F H σ c) (hp : H p = none) (x : Ext F (upd H p o) F1 H1) (hi : i < c.length) (r : ThgOk t K F1 p o') : Env K F₀ H₀ F1 (upd H1 p o') (σ.set i (some (.ref p))) (put c i (.thg t)) := by
  have Fp : F p = none := none_of E.ext.fh hp
  have H0p : H₀ p = none := none_of E.ext.hh hp
  have X : Ext F H F (upd H p o) := ⟨Same.refl _, fun b u q => by rw [upd_ne (ne_of_none (E.ext.fh b u q) hp)]; exact E.ext.fh b u q, fun b u q => by rw [upd_ne (ne_of_none q hp)]; exact q, fun _ _ z => z⟩
  have E1 := (E.grow X).grow x
  have F1p : F1 p = none := x.fr p (by rw [upd_same]; exact fun z => nomatch z) Fp
  have ap : ∀ j b, (isOwn (slot c j) = true ∨ ∃ C, slot c j = .exc C) → σ[j]? = some (some (V.ref b)) → b ≠ p := fun j b hj hb z => by
    have q := E.sl j
    subst z
    cases hs : slot c j with
    | un => rw [hs] at hj; rcases hj with hj | ⟨C, hj⟩ <;> cases hj
    | val d => rw [hs] at hj; rcases hj with hj | ⟨C, hj⟩ <;> cases hj
    | bor d => rw [hs] at hj; rcases hj with hj | ⟨C, hj⟩ <;> cases hj
    | own ds' => rw [hs] at q; obtain ⟨b', ws, h, h1, _⟩ := q; rw [hb] at h; cases h; rw [hp] at h1; cases h1
    | dic ds' => rw [hs] at q; obtain ⟨b', ws, h, h1, _⟩ := q; rw [hb] at h; cases h; rw [hp] at h1; cases h1
    | thg ds' => rw [hs] at q; obtain ⟨b', ws, h, h1, _⟩ := q; rw [hb] at h; cases h; rw [hp] at h1; cases h1
    | exc C => rw [hs] at q; obtain ⟨b', h, h1⟩ := q; rw [hb] at h; cases h; rw [hp] at h1; cases h1
  refine ⟨⟨E1.ext.ff, fun b u q => by rw [upd_ne (ne_of_none q F1p)]; exact E1.ext.fh b u q, fun b u q => by rw [upd_ne (ne_of_none q H0p)]; exact E1.ext.hh b u q, E1.ext.fr⟩, by rw [List.length_set, put_length]; exact E1.len, fun j => ?_, fun j k b h1 h2 h3 h4 => ?_⟩
  · by_cases e : i = j
    · subst e
      rw [slot_put _ _ _ hi, List.getElem?_set_self (by rw [E.len]; exact hi)]
      exact ⟨p, o', rfl, upd_same, F1p, H0p, r⟩
    · rw [slot_put_ne _ _ _ _ e, List.getElem?_set_ne e]
      have q := E1.sl j
      have apj := ap j
      generalize slot c j = s at q apj ⊢
      cases s with
      | un => trivial
      | val d => exact q
      | bor d => exact q
      | own ds' => obtain ⟨b, ws, h, h1, h2, h3, r'⟩ := q; exact ⟨b, ws, h, by rw [upd_ne (apj b (.inl rfl) h)]; exact h1, h2, h3, r'⟩
      | dic ds' => obtain ⟨b, ws, h, h1, h2, h3, r'⟩ := q; exact ⟨b, ws, h, by rw [upd_ne (apj b (.inl rfl) h)]; exact h1, h2, h3, r'⟩
      | thg ds' => obtain ⟨b, ws, h, h1, h2, h3, r'⟩ := q; exact ⟨b, ws, h, by rw [upd_ne (apj b (.inl rfl) h)]; exact h1, h2, h3, r'⟩
      | exc C => obtain ⟨b, h, h1⟩ := q; exact ⟨b, h, by rw [upd_ne (apj b (.inr ⟨C, rfl⟩) h)]; exact h1⟩
  · by_cases e : i = j
    · subst e
      by_cases e2 : i = k
      · exact e2
      · rw [List.getElem?_set_self (by rw [E.len]; exact hi)] at h3
        cases h3
        rw [List.getElem?_set_ne e2] at h4
        rw [slot_put_ne _ _ _ _ e2] at h2
        exact absurd rfl (ap k _ (.inl h2) h4)
    · by_cases e2 : i = k
      · subst e2
        rw [List.getElem?_set_self (by rw [E.len]; exact hi)] at h4
        cases h4
        rw [List.getElem?_set_ne e] at h3
        rw [slot_put_ne _ _ _ _ e] at h1
        exact absurd rfl (ap j _ (.inl h1) h3)
      · rw [slot_put_ne _ _ _ _ e] at h1
        rw [slot_put_ne _ _ _ _ e2] at h2
        rw [List.getElem?_set_ne e] at h3
        rw [List.getElem?_set_ne e2] at h4
        exact E.inj j k b h1 h2 h3 h4
end
section
variable {Y : Cy} {T : Tx} {k : Nat} {N G : List Str} {c : List Slot} {a b e : Expr} {es : List Expr} {pos p1 p2 p3 : Pos} {rest : List Stmt} {P : Out → Prop} {d : D} {ds : List D} {ks : List (Int × Int × Int)} {t : Int × Int × Int} {x : Str}
theorem tdc_units (S : Se Y T k N G) : Y.X.A.units + 70 < cLine := by have := S.room.un; omega
/-- x = {e: True} -/
theorem ss_tnew (S : Sc Y T k N G) (i : Nat) {y : Str} {pos' : Pos} {kk : Nat} (he : EvD Y e c (ptD t)) (hr : SsD Y rest (put c i (.thg (DctT [t]))) P) (hi : N[i]? = some y := by rfl)
    (hlt : i < c.length := by first | exact of_decide_eq_true rfl | decide | omega) (hs : swapsWith (.Dict [some e] [.Constant (.bool true) kk p2] p3) (some (.Name y pos')) pos.line Y.X.env = pure false := by rfl) : SsD Y (.Assign [.Name y pos'] (.Dict [some e] [.Constant (.bool true) kk p2] p3) pos :: rest) c P := by
  have hx := S.loc y (List.mem_of_getElem? hi)
  have hN := S.nd
  rw [← S.n] at hi hN
  refine ss_cons (PS.imp (ps_set hN hi hx.1 (pe_tnew (tdc_units S.toSe) he) hs (.inl (S.fn y))) fun D σ H ⟨F, E, m⟩ p hp => ?_)
  have X : Ext F H F (upd H p (.ext (TObj p []))) := ⟨Same.refl _, fun b u q => by rw [upd_ne (ne_of_none (E.ext.fh b u q) hp)]; exact E.ext.fh b u q, fun b u q => by rw [upd_ne (ne_of_none q hp)]; exact q, fun _ _ z => z⟩
  refine ⟨F, E.grow X, fun v F1 H1 x r1 => ⟨F1, t, x.fh, x.hh p _ upd_same, r1, fun xs rk ht => ?_⟩⟩
  exact m (.nx _) hr _ F1 _ x.ff (E.thg_put (o' := .ext (TObj p xs)) hp x hlt ⟨xs, rfl, rk, ht⟩)
/-- e not in x -/
theorem te_tnin (S : Se Y T k N G) (i : Nat) {y : Str} {q1 : Pos} (hs : slot c i = .thg (DctT ks) ∨ slot c i = .bor (DctT ks)) (ha : EvD Y a c (ptD t)) (hi : N[i]? = some y := by rfl) : TeD Y (.Compare a [.NotIn] [.Name y q1] pos) c (!decide (t ∈ ks)) := by
  have hx := S.loc y (List.mem_of_getElem? hi)
  rw [← S.n] at hi
  refine PT.imp (pt_cmp (pc_tnin (tdc_units S) ha (pe_var hi (hx.1.elim .inl fun h => .inr (.inl h)) hx.2.1 hx.2.2))) fun σ H Q ⟨F, E, q⟩ => ⟨F, E, fun v F1 H1 e1 r1 => ?_⟩
  have E1 := E.grow e1
  obtain ⟨l, o, hσ, g1, g2⟩ : ∃ l o, σ[i]? = some (some (.ref l)) ∧ H1 l = some o ∧ ThgOk (DctT ks) Y.X.K F1 l o := by
    rcases hs with hs | hs
    · obtain ⟨l, o, h1, h2, _, _, h3⟩ := E1.thg_at hs
      exact ⟨l, o, h1, h2, h3⟩
    · exact E1.bor_at hs
  obtain ⟨xs, rfl, rk, _⟩ := g2
  exact ⟨.ref l, hσ, F1, l, xs, ks, t, rfl, e1.fh, g1, rk, r1, _, rfl, q F1 H1 e1⟩
/-- x[e] = True -/
theorem ss_tput (S : Sc Y T k N G) (i : Nat) {y : Str} {q1 q2 : Pos} {kk : Nat} (hs : slot c i = .thg (DctT ks)) (hb : EvD Y b c (ptD t)) (ht : t ∉ ks) (hz : ks.length < 1000000) (hr : SsD Y rest (put c i (.thg (DctT (ks ++ [t])))) P) (hi : N[i]? = some y := by rfl)
    (hsw : swapsWith (.Constant (.bool true) kk p1) (some (.Subscript (.Name y q1) b q2)) pos.line Y.X.env = pure false := by rfl) : SsD Y (.Assign [.Subscript (.Name y q1) b q2] (.Constant (.bool true) kk p1) pos :: rest) c P := by
  have hx := S.loc y (List.mem_of_getElem? hi)
  rw [← S.n] at hi
  refine ss_cons (PS.imp (ps_tput (tdc_units S.toSe) (pe_var hi (hx.1.elim .inl fun h => .inr (.inl h)) hx.2.1 hx.2.2) hb pe_bl hsw) fun D σ H ⟨F, E, m⟩ => ?_)
  obtain ⟨l, o, hσ, g1, g2, g3, xs, rfl, rk, hO⟩ := E.thg_at hs
  refine ⟨.ref l, hσ, F, E, fun v F1 H1 e1 r1 => ⟨rfl, ?_⟩⟩
  have E1 := E.grow e1
  obtain ⟨l', o', hσ', k1, k2, k3, xs', rfl, rk', hO'⟩ := E1.thg_at hs
  rw [hσ] at hσ'
  cases hσ'
  have ln : xs'.length = ks.length := by rw [← rk'.ks, List.length_map]
  refine ⟨F1, l, xs', ks, t, rfl, e1.fh, k1, k2, rk', by omega, r1, ht, fun ys ry hy => ?_⟩
  exact m (.nx _) hr _ F1 _ e1.ff (E1.thg_set (o' := .ext (TObj l ys)) hs hσ k1 (fun C z => tobj_exc hO' z) k2 k3 ⟨ys, rfl, ry, hy⟩)
theorem tk_reps {K : PySem.W.Frag} {F : Hp} : ∀ {xs : List Row3} {ks : List (Int × Int × Int)}, xs.map (·.1) = ks → (∀ x ∈ xs, Rep K F (.ref x.2.1) (ptD x.1)) → Reps K F (xs.map fun x => .ref x.2.1) (ks.map ptD)
  | [], _, h, _ => by subst h; exact .nil
  | x :: r, _, h, hr => by
    subst h
    exact .cons (hr x (List.mem_cons_self ..)) (tk_reps rfl fun y hy => hr y (List.mem_cons_of_mem _ hy))
theorem bt_listT : bootBuiltins "list" = some (.type "list") := by decide +kernel
/-- list(x) -/
theorem ow_listDct (S : Se Y T k N G) (gi i : Nat) {y : Str} {p q1 : Pos} (hs : slot c i = .thg (DctT ks)) (hm : T.mg "list" = none) (hg : G[gi]? = some ("list" : Str) := by rfl) (hi : N[i]? = some y := by rfl) (he : starEach [.Name y q1] Y.X.env = (false, eval (.Name y q1) Y.X.env) :: starEach [] Y.X.env := by rfl) :
    OwD Y (.Call (.Name "list" p) [.Name y q1] [] pos) c (ks.map ptD) := by
  have hx := S.loc y (List.mem_of_getElem? hi)
  rw [← S.n] at hi
  have gl := S.gl _ (List.mem_of_getElem? hg)
  refine PE.imp (pe_callTy (call_list_dct S.room.hd) gl.1 (by rw [S.eM]; exact hm) bt_listT (pa_cons (pe_var hi (hx.1.elim .inl fun h => .inr (.inl h)) hx.2.1 hx.2.2) pa_nil he) gl.2.2 gl.2.1 he rfl) fun σ H Q ⟨F, E, q⟩ => ?_
  obtain ⟨l, o, hσ, g1, g2, g3, xs, rfl, rk, hO⟩ := E.thg_at hs
  exact ⟨.ref l, hσ, F, l, xs, ks, rfl, E.fh, g1, rk, fun p hp => q _ F H p (Ext.refl E.fh) (tk_reps rk.ks rk.rp) hp⟩
/-! ### a def whose last argument is read, not written -/
def spB (K : PySem.W.Frag) (R : List D → Thing → D → Prop) : Sp := fun vs H Q _ => ∃ F ws a o ds t d, vs = ws ++ [.ref a] ∧ Same F H ∧ Reps K F ws ds ∧ H a = some o ∧ ThgOk t K F a o ∧ R ds t d ∧ ∀ v F' H', Ext F H F' H' → Rep K F' v d → Q v H'
structure FnB (T : Tx) (k : Nat) (x : Str) (R : List D → Thing → D → Prop) : Prop where
  ex : ∃ (f : Addr) (fd : FuncData) (ps : List Str), T.mg x = some (.ref f) ∧ PySem.W.keepIn T.K (.ref f) = true ∧ Binds T.K fd ps [] ∧ FnOk T.prog T.w T.K T.mg T.base CX0 k f fd ps (spB T.K R)
theorem ev_callB3 {j : Nat} {R : List D → Thing → D → Prop} {e1 e2 : Expr} {d1 d2 : D} {th : Thing} {y : Str} {p q1 : Pos} (S : Se Y T k N G) (gi i : Nat) (Fn : FnB T j x R) (hj : j ≤ k) (h1 : EvD Y e1 c d1) (h2 : EvD Y e2 c d2) (hs : slot c i = .thg th) (hR : R [d1, d2] th d) (hg : G[gi]? = some x := by rfl) (hi : N[i]? = some y := by rfl)
    (hs1 : starEach [e1, e2, .Name y q1] Y.X.env = (false, eval e1 Y.X.env) :: starEach [e2, .Name y q1] Y.X.env := by rfl) (hs2 : starEach [e2, .Name y q1] Y.X.env = (false, eval e2 Y.X.env) :: starEach [.Name y q1] Y.X.env := by rfl) (hs3 : starEach [.Name y q1] Y.X.env = (false, eval (.Name y q1) Y.X.env) :: starEach [] Y.X.env := by rfl)
    (hpl : (backTo pos (starEach [e2, .Name y q1] Y.X.env)).any (·.1) = false := by rfl) : EvD Y (.Call (.Name x p) [e1, e2, .Name y q1] [] pos) c d := by
  obtain ⟨f, fd, ps, hm, hk, hb, F⟩ := Fn.ex
  have F' : FnOk Y.X.prog Y.X.w Y.X.K Y.X.mg Y.X.base CX0 j f fd ps (spB Y.X.K R) := by rw [S.eP, S.eW, S.eK, S.eM, S.eB]; exact F
  have gl := S.gl x (List.mem_of_getElem? hg)
  have hx := S.loc y (List.mem_of_getElem? hi)
  rw [← S.n] at hi
  refine PE.imp (pe_call F' (S.room.mono hj) gl.1 (by rw [S.eM]; exact hm) (by rw [S.eK]; exact hk) (by rw [S.eK]; exact hb) .nil pass0 (pa_cons h1 (pa_cons h2 (pa_cons (pe_var hi (hx.1.elim .inl fun h => .inr (.inl h)) hx.2.1 hx.2.2) pa_nil hs3) hs2) hs1) gl.2.1 hs1 hpl) fun σ H Q ⟨F, E, q⟩ => ⟨F, E, fun v1 F1 H1 x1 r1 => ?_⟩
  have E1 := E.grow x1
  refine ⟨F1, E1, fun v2 F2 H2 x2 r2 => ?_⟩
  have E2 := E1.grow x2
  obtain ⟨l, o, hσ, g1, g2, g3, rt⟩ := E2.thg_at hs
  refine ⟨.ref l, hσ, ?_⟩
  exact ⟨F2, [v1, v2], l, o, [d1, d2], th, d, rfl, x2.fh, .cons (r1.mono x2.ff) (.cons r2 .nil), g1, rt, hR, fun v F3 H3 x3 r3 => q v F3 H3 (x1.trans (x2.trans x3)) r3⟩
def ctxB (N : List Str) (ds : List D) (t : Thing) : List Slot := ds.map Slot.val ++ (.bor t :: List.replicate (N.length - (ds.length + 1)) Slot.un)
theorem startB_sl {K : PySem.W.Frag} {F H H0 : Hp} {n : Nat} {a : Addr} {o : HO} {t : Thing} (h1 : H0 a = some o) (h2 : ThgOk t K F a o) : ∀ {vs : List V} {ds : List D}, Reps K F vs ds → ∀ i, SlotOk K H0 F H ((vs ++ [V.ref a]).map some ++ List.replicate n none)[i]? (slot (ds.map Slot.val ++ (.bor t :: List.replicate n Slot.un)) i)
  | _, _, .nil, 0 => ⟨a, o, rfl, h1, h2⟩
  | _, _, .nil, i + 1 => by
    show SlotOk K H0 F H _ (slot (List.replicate n Slot.un) i)
    rw [slot_un]; exact trivial
  | _, _, .cons r t', 0 => ⟨_, rfl, r⟩
  | _, _, .cons r t', i + 1 => by
    have q := startB_sl (H := H) (n := n) h1 h2 t' i
    simpa [slot] using q
theorem startB_own {n : Nat} {t : Thing} : ∀ (ds : List D) (i : Nat), isOwn (slot (ds.map Slot.val ++ (.bor t :: List.replicate n Slot.un)) i) = false
  | [], 0 => rfl
  | [], i + 1 => by
    show isOwn (slot (List.replicate n Slot.un) i) = false
    rw [slot_un]; rfl
  | _ :: _, 0 => rfl
  | _ :: r, i + 1 => startB_own r i
theorem env_startB {K : PySem.W.Frag} {F H : Hp} {N : List Str} {vs : List V} {ds : List D} {a : Addr} {o : HO} {t : Thing} (f : Same F H) (r : Reps K F vs ds) (h1 : H a = some o) (h2 : ThgOk t K F a o) : Env K F H F H (L2.start N (vs ++ [.ref a])) (ctxB N ds t) where
  ext := Ext.refl f
  len := by
    unfold L2.start ctxB
    simp [r.length]
  sl := fun i => by
    unfold L2.start ctxB
    have e : (vs ++ [V.ref a]).length = ds.length + 1 := by rw [List.length_append, r.length]; rfl
    rw [e]
    exact startB_sl h1 h2 r i
  inj := fun i j a h _ _ _ => by
    unfold ctxB at h
    rw [startB_own] at h
    cases h
theorem fn_B {ps : List Str} {R : List D → Thing → D → Prop} {st : Stmt} (A : At T x st) (B : ScB N ps G (defScope st)) (hb : ∀ f fd, Fun T.K x x st f fd → Binds T.K fd ps []) (hlen : ∀ ds t d, R ds t d → ds.length + 1 = ps.length)
    (body : ∀ (Y : Cy) (S : Sc Y T k N G) (Z : Fx Y st) (ds : List D) (t : Thing) (d : D), R ds t d → SsD Y (defBody st) (ctxB N ds t) (Ret d)) : FnB T (k + 1) x R := by
  obtain ⟨f, fd, F, hm⟩ := A
  refine ⟨f, fd, ps, hm, F.kp, hb f fd F, ?_⟩
  refine F.ok B.fs (fun vs H Q E h => ?_) fun cdv A outer s H vs Q E hr h => ?_
  · obtain ⟨F0, ws, a, o, ds, t, d, rfl, _, r, _, _, hR, _⟩ := h
    rw [List.length_append, r.length]; exact hlen ds t d hR
  · obtain ⟨F0, ws, a, o, ds, t, d, rfl, f0, r, h1, h2, hR, q⟩ := h
    have S : Sc ⟨(cxOf CX0 T.prog T.w T.K T.mg T.base N x (defScope st) f cdv A outer s H E).nox, F0, H⟩ T k N G :=
      ⟨⟨⟨rfl, rfl, rfl, rfl, rfl, rfl, B.fs.nd, B.loc, B.gl⟩, rfl, hr⟩, fun _ => rfl, PassesOwn.never⟩
    refine ⟨_, body _ S ⟨rfl, rfl, rfl, rfl⟩ ds t d hR, F0, env_startB f0 r h1 h2, fun o ho => ?_⟩
    cases o with
    | rt e => cases ho; exact fun v F' H' _ x r' => q v F' H' x r'
    | nx c => cases ho; exact fun σ F' H' _ E' => q .non F' H' E'.ext .non
    | ro e => exact False.elim ho
    | bk c => exact False.elim ho
    | ct c => exact False.elim ho
    | rs R => exact False.elim ho
/-- [.. for .. if ..] as a new list -/
theorem ow_comp {tn fs G' : List Str} {ix : List Nat} {tg iter elt : Expr} {ifs : List Expr} {scope osc : Scope} {items : List D} (S : Se Y T k N G) (hsc : Y.X.env.scope = osc) (B : CmB N tn fs ix G' scope osc) (hi : ItD Y tg iter c items)
    (rs : List (Option D)) (hlen : rs.length = items.length) (hz : rs.length ≤ 100000)
    (turn : ∀ (Y' : Cy) (S' : Se Y' T k (tn ++ fs) G'), (∀ x ∈ tn, Y'.X.env.scope.names.lookup x = some .local) → ∀ (m : Nat) (d : D) (r : Option D), items[m]? = some d → rs[m]? = some r → ∀ ts : List Slot, ts.length = tn.length →
      ∃ ts' : List Slot, ts'.length = tn.length ∧ ts'.all (fun s => !isOwn s) = true ∧ TgD Y' tg d (ts ++ ix.map fun i => capS (slot c i)) (ts' ++ ix.map fun i => capS (slot c i)) ∧ (match r with
        | some e => TsD Y' ifs (ts' ++ ix.map fun i => capS (slot c i)) true ∧ EvD Y' elt (ts' ++ ix.map fun i => capS (slot c i)) e
        | none => TsD Y' ifs (ts' ++ ix.map fun i => capS (slot c i)) false))
    (hs : ∀ x, foldedSetIterable iter Y.X.env x = pure x := by intro _; rfl) : OwD Y (.ListComp elt [⟨tg, iter, ifs, 0⟩] scope pos) c (rs.filterMap id) := by
  intro pins s σ H Q I ⟨F, E, q⟩
  rw [eval_ListComp]
  refine comp_coreG S hsc B hi rs hlen hz turn hs I E (use := none) (Qv := EP Y.X pins σ Q) fun D C s' m F' H' vs hn _ hI ex hD hv hf r => ⟨m, hn, fun h' hs' => ⟨.ref D, H', hI h' hs', rfl, ?_⟩⟩
  have w := q vs F' (wo H' D) D ⟨ex.ff, fun b u z => by rw [wo_ne (fun w => by rw [w, hf] at z; cases z)]; exact ex.fh b u z, fun b u z => by rw [wo_ne (fun w => by rw [w, hD] at z; cases z)]; exact ex.hh b u z, ex.fr⟩ r (wo_at H' D)
  rw [wo_upd hv] at w
  exact w
/-- x.extend(e), e a new list -/
theorem ss_ext (S : Sc Y T k N G) (i : Nat) {ds2 : List D} {y : Str} (hs : slot c i = .own ds) (he : OwD Y e c ds2) (hr : SsD Y rest (put c i (.own (ds ++ ds2))) P) (hz : ds.length + ds2.length ≤ 1000000) (hi : N[i]? = some y := by rfl)
    (hbase : attributeBase (.Name y p1) "extend" Y.X.env (eval (.Name y p1) Y.X.env) = eval (.Name y p1) Y.X.env := by rfl) (hfew : ((backTo p3 (starEach [e] Y.X.env)).all (fun x => !x.1) && (backToKw p3 (keywordEach [] Y.X.env)).all (fun x => x.1.isSome)
      && decide ([e].length + ([] : List Keyword).length + (if ([] : List Keyword).isEmpty then 0 else 1) < 30)) = true := by rfl) (hline : (p2.endLine == p3.line) = true := by rfl) (hst : starEach [e] Y.X.env = (false, eval e Y.X.env) :: starEach [] Y.X.env := by rfl)
    (hsw : swapsWith (.Call (.Attribute (.Name y p1) "extend" p2) [e] [] p3) none pos.line Y.X.env = pure false := by rfl) :
    SsD Y (.Expr (.Call (.Attribute (.Name y p1) "extend" p2) [e] [] p3) pos :: rest) c P := by
  have hx := S.loc y (List.mem_of_getElem? hi)
  rw [← S.n] at hi
  refine ss_cons (PS.imp (ps_expr (pe_bm PySem.F.plainAttrs_list PySem.F.slot_list_extend PySem.F.type_list_extend mt_extend (pe_var hi (hx.1.elim .inl fun h => .inr (.inl h)) hx.2.1 hx.2.2) (pa_cons he pa_nil hst) hbase hfew hline hst rfl) hsw) fun D σ H ⟨F, E, m⟩ => ?_)
  obtain ⟨l, vs, hσ, h1, h2, h3, r⟩ := E.own_at hs
  refine ⟨.ref l, hσ, .inl ⟨rfl, vs, .inl (.inl h1)⟩, F, E, fun ws F1 H1 b e1 r1 hb => ?_⟩
  have X : Ext F1 H1 F1 (upd H1 b (.lst ws)) := ⟨Same.refl _, fun b' u q => by rw [upd_ne (ne_of_none (e1.fh b' u q) hb)]; exact e1.fh b' u q, fun b' u q => by rw [upd_ne (ne_of_none q hb)]; exact q, fun _ _ z => z⟩
  have E1 := (E.grow e1).grow X
  obtain ⟨l', vs', hσ', g1, g2, g3, r'⟩ := E1.own_at hs
  rw [hσ] at hσ'
  cases hσ'
  refine ⟨l, b, vs', ws, rfl, rfl, g1, upd_same, ?_, ?_⟩
  · rw [r'.length, r1.length]; exact small_le hz
  · exact m (.nx _) hr _ F1 _ e1.ff (E1.own_set hs hσ g1 g2 g3 (r'.append r1))
/-- {..}[e] -/
theorem ev_dgetT {o : Expr} {trs : List (TE × TE)} {kvs : List (Key × V)} {j v : Int} (S : Se Y T k N G) (ho : PE Y.X o (tDisp trs)) (hps : ∀ σ H (Q : List (V × V) → Hp → Prop), Q (kvs.map fun kv => (kV kv.1, kv.2)) H → tPairs trs σ H Q) (hl : kvs.length ≤ 15) (hb : EvD Y b c (.int j)) (hv : valV (mergeK [] kvs) (Sum.inl j) = some (.int v)) (hp : NoSl b) : EvD Y (.Subscript o b pos) c (.int v) := by
  refine PE.imp (pe_dget (dic_units S) ho hb hp) fun σ H Q ⟨F, E, q⟩ q0 hq0 => hps _ _ _ ?_
  refine ⟨upd_same, kvs, rfl, hl, ?_⟩
  have X : Ext F H F (upd (upd H q0 (.dK [])) q0 (.dK (mergeK [] kvs))) := by
    have sm : Same H (upd (upd H q0 (.dK [])) q0 (.dK (mergeK [] kvs))) := fun z u w => by rw [upd_ne (ne_of_none w hq0), upd_ne (ne_of_none w hq0)]; exact w
    exact ⟨Same.refl _, E.ext.fh.trans sm, sm, fun _ _ z => z⟩
  refine ⟨F, E.grow X, fun u F1 H1 e1 r1 => ⟨q0, .int v, rfl, ?_, q _ F1 H1 (X.trans e1) (.int v)⟩⟩
  rw [inv_int r1, ← hv]
  exact DGet.k (k := Sum.inl j) (e1.hh _ _ upd_same)
theorem disp_ne {α : Type} {a : α} {l : List α} : a :: l ≠ [] := fun z => by cases z
end
end DL

set_option Elab.async false
set_option linter.all false
set_option maxRecDepth 100000
/-! ### sorted(list of spots), of any length: what is told hangs on the comparisons alone -/
namespace DLS
open PySem PySem.Spec PySem.W PyProof.Rows
def gallop' : Bool → Keyed → Array Keyed → Nat → Nat → Nat → StateT SortSt Sem (Option Nat) := sortPriv% PySem.Builtin.gallop
def mergeLo' : Array Keyed → Array Keyed → StateT SortSt Sem (Array Keyed) := sortPriv% PySem.Builtin.mergeLo
def mergeHi' : Array Keyed → Array Keyed → StateT SortSt Sem (Array Keyed) := sortPriv% PySem.Builtin.mergeHi
abbrev setGallop (st : SortSt) (g : Nat) : SortSt := SortSt.mk' (kindOf st) (arrOf st) (pendingOf st) g (failedOf st)
/-- where a sort runs: n things, the answers lt -/
structure Cn (n : Nat) (lt : Nat → Nat → Bool) where
  prog : Program
  w : World
  A : Around
  E : Value → Shared → Prop
  s : Shared
  κ : SortKind
  it : Array Keyed
  ok : ∀ (i j : Nat) (C : Bool → Shared → Prop), i < n → j < n → C (lt i j) s → wpAny (model prog w) A (keyLt' κ (kas_item it i).1 (kas_item it j).1) C (fun _ _ => False) s
/-- the state: the places, the runs, the gallop's bound -/
structure Ab where
  p : Array Nat
  pend : Array (Nat × Nat × Nat)
  g : Nat
section
variable {n : Nat} {lt : Nat → Nat → Bool}
def Cn.k (c : Cn n lt) (i : Nat) : Keyed := kas_item c.it i
def Cn.st (c : Cn n lt) (x : Ab) : SortSt := SortSt.mk' c.κ (x.p.map c.k) x.pend x.g none
def Cn.W (c : Cn n lt) {α : Type} (m : StateT SortSt Sem α) (Q : α → SortSt → Prop) (st : SortSt) : Prop := wpS (model c.prog c.w) c.A c.E c.s m Q st
/-- the run ends, with the same places wherever it runs -/
def Run {α β : Type} (m : Cn n lt → StateT SortSt Sem β) (cv : Cn n lt → α → β) (x : Ab) (P : α → Ab → Prop) : Prop :=
  ∃ (a : α) (x' : Ab), P a x' ∧ ∀ (c : Cn n lt) (Q : β → SortSt → Prop), Q (cv c a) (c.st x') → c.W (m c) Q (c.st x)
abbrev same {α : Type} : Cn n lt → α → α := fun _ a => a
abbrev arr : Cn n lt → Array Nat → Array Keyed := fun c a => a.map c.k
theorem Run.pure {α β : Type} {cv : Cn n lt → α → β} {x : Ab} {P : α → Ab → Prop} (a : α) (h : P a x) : Run (fun c => Pure.pure (cv c a)) cv x P := ⟨a, x, h, fun c Q q => wpS_pure q⟩
theorem Run.bind {α β γ δ : Type} {m : Cn n lt → StateT SortSt Sem β} {f : Cn n lt → β → StateT SortSt Sem δ} {cv : Cn n lt → α → β} {cv2 : Cn n lt → γ → δ} {x : Ab} {P : γ → Ab → Prop} (h : Run m cv x (fun a x' => Run (fun c => f c (cv c a)) cv2 x' P)) : Run (fun c => m c >>= f c) cv2 x P := by
  obtain ⟨a, x', ⟨b, x'', hP, h2⟩, h1⟩ := h
  exact ⟨b, x'', hP, fun c Q q => wpS_bind (h1 c _ (h2 c Q q))⟩
theorem Run.mono {α β : Type} {m : Cn n lt → StateT SortSt Sem β} {cv : Cn n lt → α → β} {x : Ab} {P P' : α → Ab → Prop} (h : Run m cv x P) (hp : ∀ a x', P a x' → P' a x') : Run m cv x P' := by
  obtain ⟨a, x', h1, h2⟩ := h
  exact ⟨a, x', hp a x' h1, h2⟩
theorem Run.get {x : Ab} {P : Ab → Ab → Prop} (h : P x x) : Run (n := n) (lt := lt) (fun _ => (MonadState.get : StateT SortSt Sem SortSt)) (fun c y => c.st y) x P := ⟨x, x, h, fun c Q q => wpS_get q⟩
theorem Run.modify {x : Ab} (x' : Ab) {f : Cn n lt → SortSt → SortSt} {P : PUnit → Ab → Prop} (e : ∀ c : Cn n lt, f c (c.st x) = c.st x') (h : P ⟨⟩ x') : Run (fun c => (_root_.modify (f c) : StateT SortSt Sem PUnit)) same x P := ⟨⟨⟩, x', h, fun c Q q => wpS_modify (by rw [e c]; exact q)⟩
theorem Run.rule {x : Ab} {r : String} {P : Unit → Ab → Prop} (h : P () x) : Run (n := n) (lt := lt) (fun _ => (liftM (PySem.rule r) : StateT SortSt Sem Unit)) same x P := ⟨(), x, h, fun c Q q => wpS_lift (wpAny_rule ⟨rfl, q⟩)⟩
theorem Run.less {x : Ab} {i j : Nat} {P : Option Bool → Ab → Prop} (hi : i < n) (hj : j < n) (h : P (some (lt i j)) x) : Run (n := n) (lt := lt) (fun c => lt' (c.k i) (c.k j)) same x P := by
  refine ⟨some (lt i j), x, h, fun c Q q => ?_⟩
  show wpS _ _ _ _ (lt' (c.k i) (c.k j)) _ _
  rw [lt'_eq]
  refine wpS_bind (wpS_get ?_)
  refine wpS_bind (wpS_lift (wpAny_attempt (wpAny_mono (c.ok i j (fun b s' => s' = c.s ∧ b = lt i j) hi hj ⟨rfl, rfl⟩) (fun b s' hb => ?_) fun _ _ hF => hF.elim)))
  obtain ⟨rfl, rfl⟩ := hb
  exact ⟨rfl, wpS_pure q⟩
theorem k_get (c : Cn n lt) (a : Array Nat) (i : Nat) (h : i < a.size) : (a.map c.k)[i]? = some (c.k (a.getD i 0)) := by
  simp [Array.getD, h]
theorem Run.elem {x : Ab} {a : Array Nat} {i : Nat} {P : Nat → Ab → Prop} (hi : i < a.size) (h : P (a.getD i 0) x) : Run (n := n) (lt := lt) (fun c => elem' (a.map c.k) i) (fun c k => c.k k) x P := by
  refine ⟨a.getD i 0, x, h, fun c Q q => ?_⟩
  show wpS _ _ _ _ (elem' (a.map c.k) i) _ _
  rw [elem'_eq, k_get c a i hi]
  exact wpS_pure q
theorem Run.ltAt {x : Ab} {i j : Nat} {P : Option Bool → Ab → Prop} (hi : i < x.p.size) (hj : j < x.p.size) (gi : x.p.getD i 0 < n) (gj : x.p.getD j 0 < n) (h : P (some (lt (x.p.getD i 0) (x.p.getD j 0))) x) : Run (n := n) (lt := lt) (fun _ => ltAt' i j) same x P := by
  have e : (fun _ : Cn n lt => ltAt' i j) = fun c => (do let st ← (MonadState.get : StateT SortSt Sem SortSt); let y ← elem' (arrOf st) i; let z ← elem' (arrOf st) j; lt' y z) := rfl
  rw [e]
  refine Run.bind (Run.get ?_)
  show Run (fun c => do let y ← elem' (x.p.map c.k) i; let z ← elem' (x.p.map c.k) j; lt' y z) same x P
  exact Run.bind (Run.elem hi (Run.bind (Run.elem hj (Run.less gi gj h))))
/-- a step of a loop, seen at the places -/
def cvS {α β : Type} (cv : Cn n lt → α → β) : Cn n lt → ForInStep α → ForInStep β
  | c, .done a => .done (cv c a)
  | c, .yield a => .yield (cv c a)
theorem Run.list {α β : Type} {f : Cn n lt → Nat → β → StateT SortSt Sem (ForInStep β)} (cv : Cn n lt → α → β) (I : List Nat → α → Ab → Prop) {P : α → Ab → Prop}
    (step : ∀ i l a x, I (i :: l) a x → Run (fun c => f c i (cv c a)) (cvS cv) x (fun r x' => match r with | .done a' => P a' x' | .yield a' => I l a' x'))
    (hend : ∀ a x, I [] a x → P a x) : ∀ (l : List Nat) (a : α) (x : Ab), I l a x → Run (fun c => (forIn l (cv c a) (f c) : StateT SortSt Sem β)) cv x P
  | [], a, x, h => by
    have e : (fun c : Cn n lt => (forIn ([] : List Nat) (cv c a) (f c) : StateT SortSt Sem β)) = fun c => Pure.pure (cv c a) := by funext c; rw [List.forIn_nil]
    rw [e]
    exact Run.pure a (hend a x h)
  | i :: l, a, x, h => by
    have e : (fun c : Cn n lt => (forIn (i :: l) (cv c a) (f c) : StateT SortSt Sem β)) = fun c => f c i (cv c a) >>= fun r => match r with | .done b => Pure.pure b | .yield b => forIn l b (f c) := by funext c; rw [List.forIn_cons]; rfl
    rw [e]
    refine Run.bind ((step i l a x h).mono fun r x' hr => ?_)
    cases r with
    | done a' => exact Run.pure a' hr
    | yield a' => exact Run.list cv I step hend l a' x' hr
theorem Run.range {α β : Type} {f : Cn n lt → Nat → β → StateT SortSt Sem (ForInStep β)} (lo hi : Nat) (cv : Cn n lt → α → β) (I : Nat → α → Ab → Prop) {P : α → Ab → Prop} {a : α} {x : Ab} (h0 : I lo a x)
    (step : ∀ i a x, lo ≤ i → i < hi → I i a x → Run (fun c => f c i (cv c a)) (cvS cv) x (fun r x' => match r with | .done a' => P a' x' | .yield a' => I (i + 1) a' x'))
    (hend : ∀ a x, I (max lo hi) a x → P a x) : Run (fun c => (forIn [lo:hi] (cv c a) (f c) : StateT SortSt Sem β)) cv x P := by
  have e : (fun c : Cn n lt => (forIn [lo:hi] (cv c a) (f c) : StateT SortSt Sem β)) = fun c => forIn (List.range' lo (max lo hi - lo)) (cv c a) (f c) := by
    funext c
    rw [Std.Legacy.Range.forIn_eq_forIn_range']
    have hsz : ([lo:hi] : Std.Legacy.Range).size = hi - lo := by simp [Std.Legacy.Range.size]
    show forIn (List.range' lo ([lo:hi] : Std.Legacy.Range).size 1) (cv c a) (f c) = _
    rw [hsz, show max lo hi - lo = hi - lo by omega]
  rw [e]
  refine Run.list cv (fun l a x => ∃ i, lo ≤ i ∧ i ≤ max lo hi ∧ l = List.range' i (max lo hi - i) ∧ I i a x) ?_ ?_ _ a x ⟨lo, Nat.le_refl _, by omega, rfl, h0⟩
  · rintro j l a x ⟨i, h1, h2, hl, hI⟩
    by_cases hlt : i < max lo hi
    · obtain ⟨m, hm⟩ : ∃ m, max lo hi - i = m + 1 := ⟨max lo hi - i - 1, by omega⟩
      rw [hm, List.range'_succ] at hl
      obtain ⟨rfl, rfl⟩ := List.cons.inj hl
      refine (step j a x h1 (by omega) hI).mono fun r x' hr => ?_
      cases r with
      | done a' => exact hr
      | yield a' => exact ⟨j + 1, by omega, by omega, by congr 1; omega, hr⟩
    · rw [show max lo hi - i = 0 by omega] at hl
      cases hl
  · rintro a x ⟨i, h1, h2, hl, hI⟩
    have : i = max lo hi := by
      by_cases hlt : i < max lo hi
      · obtain ⟨m, hm⟩ : ∃ m, max lo hi - i = m + 1 := ⟨max lo hi - i - 1, by omega⟩
        rw [hm, List.range'_succ] at hl
        cases hl
      · omega
    subst this
    exact hend a x hI
end
end DLS

set_option Elab.async false
set_option linter.all false
set_option maxRecDepth 100000
namespace DLS
open PySem PySem.Spec PySem.W PyProof.Rows
abbrev SM := StateT SortSt Sem
section
variable {n : Nat} {lt : Nat → Nat → Bool}
theorem Run.ite {α β : Type} {p : Prop} [Decidable p] {m m' : Cn n lt → SM β} {cv : Cn n lt → α → β} {x : Ab} {P : α → Ab → Prop} (h : p → Run m cv x P) (h' : ¬ p → Run m' cv x P) : Run (fun c => if p then m c else m' c) cv x P := by
  by_cases hp : p
  · have e : (fun c => if p then m c else m' c) = m := by funext c; rw [if_pos hp]
    rw [e]; exact h hp
  · have e : (fun c => if p then m c else m' c) = m' := by funext c; rw [if_neg hp]
    rw [e]; exact h' hp
theorem Run.of {α β : Type} {cv : Cn n lt → α → β} {x : Ab} {P : α → Ab → Prop} {y : Cn n lt → β} (a : α) (h : P a x) (e : ∀ c, y c = cv c a := by intro _; rfl) : Run (fun c => (Pure.pure (y c) : SM β)) cv x P := by
  have e2 : (fun c => (Pure.pure (y c) : SM β)) = fun c => Pure.pure (cv c a) := by funext c; rw [e c]
  rw [e2]; exact Run.pure a h
theorem Run.bind0 {α γ δ : Type} {m : Cn n lt → SM α} {f : Cn n lt → α → SM δ} {cv2 : Cn n lt → γ → δ} {x : Ab} {P : γ → Ab → Prop} (h : Run m same x (fun a x' => Run (fun c => f c a) cv2 x' P)) : Run (fun c => m c >>= f c) cv2 x P := Run.bind h
theorem Run.range0 {α : Type} {f : Cn n lt → Nat → α → SM (ForInStep α)} (lo hi : Nat) (I : Nat → α → Ab → Prop) {P : α → Ab → Prop} {a : α} {x : Ab} (h0 : I lo a x)
    (step : ∀ i a x, lo ≤ i → i < hi → I i a x → Run (fun c => f c i a) same x (fun r x' => match r with | .done a' => P a' x' | .yield a' => I (i + 1) a' x'))
    (hend : ∀ a x, I (max lo hi) a x → P a x) : Run (fun c => (forIn [lo:hi] a (f c) : SM α)) same x P := by
  refine Run.range lo hi same I h0 (fun i a x h1 h2 h3 => ?_) hend
  obtain ⟨r, x', hr, hw⟩ := step i a x h1 h2 h3
  refine ⟨r, x', hr, fun c Q q => hw c Q ?_⟩
  cases r <;> exact q
/-- what is looked at in a gallop -/
def byd (left : Bool) (key : Keyed) (v : Array Keyed) (i : Nat) : SM (Option Bool) :=
  elem' v i >>= fun y => if left = true then lt' y key else (lt' key y >>= fun r => Pure.pure (Option.map (fun z => !z) r))
def gUp (q : Nat → SM (Option Bool)) (m mx : Nat) : SM (Option (Option Nat) × Nat × Nat) :=
  forIn [0:m] (none, 0, 1) fun _ t => if t.2.2 ≥ mx then Pure.pure (.done (none, t.2.1, t.2.2)) else q t.2.2 >>= fun z => match z with
    | some b => if (!b) = true then Pure.pure (.done (none, t.2.1, t.2.2)) else Pure.pure (.yield (none, t.2.2, 2 * t.2.2 + 1))
    | _ => Pure.pure (.done (some none, t.2.1, t.2.2))
def gDn (q : Nat → SM (Option Bool)) (m mx : Nat) : SM (Option (Option Nat) × Nat × Nat) :=
  forIn [0:m] (none, 0, 1) fun _ t => if t.2.2 ≥ mx then Pure.pure (.done (none, t.2.1, t.2.2)) else q t.2.2 >>= fun z => match z with
    | some b => if b = true then Pure.pure (.done (none, t.2.1, t.2.2)) else Pure.pure (.yield (none, t.2.2, 2 * t.2.2 + 1))
    | _ => Pure.pure (.done (some none, t.2.1, t.2.2))
def gBin (q : Nat → SM (Option Bool)) (m lo hi : Nat) : SM (Option (Option Nat) × Nat × Nat) :=
  forIn [0:m] (none, lo, hi) fun _ t => if t.2.1 ≥ t.2.2 then Pure.pure (.done (none, t.2.1, t.2.2)) else q (t.2.1 + (t.2.2 - t.2.1) / 2) >>= fun z => match z with
    | some b => if b = true then Pure.pure (.yield (none, t.2.1 + (t.2.2 - t.2.1) / 2 + 1, t.2.2)) else Pure.pure (.yield (none, t.2.1, t.2.1 + (t.2.2 - t.2.1) / 2))
    | _ => Pure.pure (.done (some none, t.2.1, t.2.2))
def gEnd (q : Nat → SM (Option Bool)) (m lo hi : Nat) : SM (Option Nat) :=
  gBin q m lo hi >>= fun t => match t.1 with
    | some r => Pure.pure r
    | none => Pure.pure (some t.2.2)
def gal (left : Bool) (key : Keyed) (v : Array Keyed) (base m h : Nat) : SM (Option Nat) :=
  byd left key v (base + h) >>= fun z => match z with
    | some b => if b = true then gUp (fun i => byd left key v (base + (h + i))) m (m - h) >>= fun t => match t.1 with
          | some r => Pure.pure r
          | none => gEnd (fun i => byd left key v (base + i)) m (h + t.2.1 + 1) (h + min t.2.2 (m - h))
        else gDn (fun i => byd left key v (base + (h - i))) m (h + 1) >>= fun t => match t.1 with
          | some r => Pure.pure r
          | none => gEnd (fun i => byd left key v (base + i)) m (h + 1 - min t.2.2 (h + 1)) (h - t.2.1)
    | _ => Pure.pure none
theorem bind_c {α β : Type} {m m' : SM α} {f g : α → SM β} (h : m = m') (e : ∀ a, f a = g a) : (m >>= f) = (m' >>= g) := by rw [h, funext e]
theorem for_c {β : Type} {l : Std.Legacy.Range} {b : β} {f g : Nat → β → SM (ForInStep β)} (e : ∀ i a, f i a = g i a) : (forIn l b f : SM β) = forIn l b g := by rw [show f = g from funext fun i => funext fun a => e i a]
theorem gal_eq (left : Bool) (key : Keyed) (v : Array Keyed) (base m h : Nat) : gallop' left key v base m h = gal left key v base m h := by
  refine bind_c rfl fun z => ?_
  cases z with
  | none => rfl
  | some b =>
    cases b with
    | false =>
      refine bind_c ?_ fun t => ?_
      · refine for_c fun i a => ?_
        obtain ⟨r, l, o⟩ := a
        by_cases hh : o ≥ h + 1
        · exact (if_pos hh).trans (if_pos hh).symm
        · refine (if_neg hh).trans (Eq.trans ?_ (if_neg hh).symm)
          refine bind_c rfl fun z => ?_
          cases z with
          | none => rfl
          | some b => rfl
      · obtain ⟨r, l, o⟩ := t
        cases r with
        | some r => rfl
        | none =>
          refine bind_c ?_ fun t => ?_
          · refine for_c fun i a => ?_
            obtain ⟨r, l, o⟩ := a
            by_cases hh : l ≥ o
            · exact (if_pos hh).trans (if_pos hh).symm
            · refine (if_neg hh).trans (Eq.trans ?_ (if_neg hh).symm)
              refine bind_c rfl fun z => ?_
              cases z with
              | none => rfl
              | some b => rfl
          · obtain ⟨r, l, o⟩ := t
            cases r <;> rfl
    | true =>
      refine bind_c ?_ fun t => ?_
      · refine for_c fun i a => ?_
        obtain ⟨r, l, o⟩ := a
        by_cases hh : o ≥ m - h
        · exact (if_pos hh).trans (if_pos hh).symm
        · refine (if_neg hh).trans (Eq.trans ?_ (if_neg hh).symm)
          refine bind_c rfl fun z => ?_
          cases z with
          | none => rfl
          | some b => rfl
      · obtain ⟨r, l, o⟩ := t
        cases r with
        | some r => rfl
        | none =>
          refine bind_c ?_ fun t => ?_
          · refine for_c fun i a => ?_
            obtain ⟨r, l, o⟩ := a
            by_cases hh : l ≥ o
            · exact (if_pos hh).trans (if_pos hh).symm
            · refine (if_neg hh).trans (Eq.trans ?_ (if_neg hh).symm)
              refine bind_c rfl fun z => ?_
              cases z with
              | none => rfl
              | some b => rfl
          · obtain ⟨r, l, o⟩ := t
            cases r <;> rfl
/-- the places are of n things -/
def In (n : Nat) (a : Array Nat) : Prop := ∀ i, i < a.size → a.getD i 0 < n
abbrev Say (x : Ab) : Option Bool → Ab → Prop := fun r x' => x' = x ∧ ∃ b, r = some b
theorem run_byd {left : Bool} {key i : Nat} {v : Array Nat} {x : Ab} (hk : key < n) (hv : In n v) (hi : i < v.size) : Run (n := n) (lt := lt) (fun c => byd left (c.k key) (v.map c.k) i) same x (Say x) := by
  unfold byd
  refine Run.bind (Run.elem hi ?_)
  refine Run.ite (fun _ => Run.less (hv i hi) hk ⟨rfl, _, rfl⟩) (fun _ => ?_)
  refine Run.bind0 (Run.less hk (hv i hi) ?_)
  exact Run.of (some (!lt key (v.getD i 0))) ⟨rfl, _, rfl⟩
section
variable {q : Cn n lt → Nat → SM (Option Bool)} {x : Ab}
theorem run_gUp {m mx : Nat} (hq : ∀ i, i < mx → Run (fun c => q c i) same x (Say x)) : Run (fun c => gUp (q c) m mx) same x (fun t x' => x' = x ∧ t.1 = none) := by
  unfold gUp
  refine Run.range0 0 m (fun _ t x' => x' = x ∧ t.1 = none) ⟨rfl, rfl⟩ ?_ (fun t x' h => h)
  rintro i ⟨r, l, o⟩ y _ _ ⟨rfl, rfl⟩
  refine Run.ite (fun _ => Run.of (ForInStep.done (none, l, o)) ⟨rfl, rfl⟩) (fun h => ?_)
  refine Run.bind0 ((hq o (by simpa using h)).mono ?_)
  rintro _ _ ⟨rfl, b, rfl⟩
  exact Run.ite (fun _ => Run.of (ForInStep.done (none, l, o)) ⟨rfl, rfl⟩) (fun _ => Run.of (ForInStep.yield (none, o, 2 * o + 1)) ⟨rfl, rfl⟩)
theorem run_gDn {m mx : Nat} (hq : ∀ i, i < mx → Run (fun c => q c i) same x (Say x)) : Run (fun c => gDn (q c) m mx) same x (fun t x' => x' = x ∧ t.1 = none) := by
  unfold gDn
  refine Run.range0 0 m (fun _ t x' => x' = x ∧ t.1 = none) ⟨rfl, rfl⟩ ?_ (fun t x' h => h)
  rintro i ⟨r, l, o⟩ y _ _ ⟨rfl, rfl⟩
  refine Run.ite (fun _ => Run.of (ForInStep.done (none, l, o)) ⟨rfl, rfl⟩) (fun h => ?_)
  refine Run.bind0 ((hq o (by simpa using h)).mono ?_)
  rintro _ _ ⟨rfl, b, rfl⟩
  exact Run.ite (fun _ => Run.of (ForInStep.done (none, l, o)) ⟨rfl, rfl⟩) (fun _ => Run.of (ForInStep.yield (none, o, 2 * o + 1)) ⟨rfl, rfl⟩)
theorem run_gEnd {m lo hi N : Nat} (hN : hi ≤ N) (hq : ∀ i, i < N → Run (fun c => q c i) same x (Say x)) : Run (fun c => gEnd (q c) m lo hi) same x (fun r x' => x' = x ∧ ∃ k, r = some k ∧ k ≤ N) := by
  unfold gEnd
  have h1 : Run (fun c => gBin (q c) m lo hi) same x (fun t x' => x' = x ∧ t.1 = none ∧ t.2.2 ≤ N) := by
    unfold gBin
    refine Run.range0 0 m (fun _ t x' => x' = x ∧ t.1 = none ∧ t.2.2 ≤ N) ⟨rfl, rfl, hN⟩ ?_ (fun t x' h => h)
    rintro i ⟨r, l, o⟩ y _ _ ⟨rfl, rfl, ho⟩
    refine Run.ite (fun _ => Run.of (ForInStep.done (none, l, o)) ⟨rfl, rfl, ho⟩) (fun h => ?_)
    have h : l < o := by simpa using h
    have ho : o ≤ N := ho
    refine Run.bind0 ((hq (l + (o - l) / 2) (by omega)).mono ?_)
    rintro _ _ ⟨rfl, b, rfl⟩
    exact Run.ite (fun _ => Run.of (ForInStep.yield (none, l + (o - l) / 2 + 1, o)) ⟨rfl, rfl, ho⟩) (fun _ => Run.of (ForInStep.yield (none, l, l + (o - l) / 2)) ⟨rfl, rfl, by show l + (o - l) / 2 ≤ N; omega⟩)
  refine Run.bind0 (h1.mono ?_)
  rintro ⟨r, l, o⟩ _ ⟨rfl, rfl, ho⟩
  exact Run.of (some o) ⟨rfl, o, rfl, ho⟩
end
theorem run_gal {left : Bool} {key base m h : Nat} {v : Array Nat} {x : Ab} (hk : key < n) (hv : In n v) (hb : base + m ≤ v.size) (hh : h < m) : Run (n := n) (lt := lt) (fun c => gallop' left (c.k key) (v.map c.k) base m h) same x (fun r x' => x' = x ∧ ∃ k, r = some k ∧ k ≤ m) := by
  have e : (fun c : Cn n lt => gallop' left (c.k key) (v.map c.k) base m h) = fun c => gal left (c.k key) (v.map c.k) base m h := by funext c; exact gal_eq ..
  rw [e]
  unfold gal
  have q1 : ∀ i, i < m → Run (n := n) (lt := lt) (fun c => byd left (c.k key) (v.map c.k) (base + i)) same x (Say x) := fun i hi => run_byd hk hv (by omega)
  refine Run.bind0 ((q1 h hh).mono ?_)
  rintro _ _ ⟨rfl, b, rfl⟩
  refine Run.ite (fun _ => ?_) (fun _ => ?_)
  · refine Run.bind0 ((run_gUp (m := m) fun i hi => q1 (h + i) (by omega)).mono ?_)
    rintro ⟨r, l, o⟩ _ ⟨rfl, rfl⟩
    exact run_gEnd (by show h + min o (m - h) ≤ m; omega) q1
  · refine Run.bind0 ((run_gDn (m := m) (mx := h + 1) fun i hi => q1 (h - i) (by omega)).mono ?_)
    rintro ⟨r, l, o⟩ _ ⟨rfl, rfl⟩
    exact run_gEnd (by show h - l ≤ m; omega) q1
end
end DLS

set_option Elab.async false
set_option linter.all false
set_option maxRecDepth 100000
namespace DLS
open PySem PySem.Spec PySem.W PyProof.Rows
section
variable {n : Nat} {lt : Nat → Nat → Bool}
theorem Run.iteC {α β : Type} {p : Cn n lt → Prop} [hd : ∀ c, Decidable (p c)] {m m' : Cn n lt → SM β} {cv : Cn n lt → α → β} {x : Ab} {P : α → Ab → Prop} (q : Prop) (e : ∀ c, p c ↔ q) (h : q → Run m cv x P) (h' : ¬ q → Run m' cv x P) : Run (fun c => if p c then m c else m' c) cv x P := by
  by_cases hp : q
  · have e : (fun c => if p c then m c else m' c) = m := by funext c; rw [if_pos ((e c).mpr hp)]
    rw [e]; exact h hp
  · have e : (fun c => if p c then m c else m' c) = m' := by funext c; rw [if_neg (fun z => hp ((e c).mp z))]
    rw [e]; exact h' hp
theorem Run.to {α β : Type} {m m' : Cn n lt → SM β} {cv : Cn n lt → α → β} {x : Ab} {P : α → Ab → Prop} (e : ∀ c, m c = m' c) (h : Run m' cv x P) : Run m cv x P := by rw [show m = m' from funext e]; exact h
/-- a loop whose bound and start are told at the places -/
theorem Run.loop {α β : Type} {f : Cn n lt → Nat → β → SM (ForInStep β)} {hi : Cn n lt → Nat} {b : Cn n lt → β} (H : Nat) (cv : Cn n lt → α → β) (a : α) (I : Nat → α → Ab → Prop) {P : α → Ab → Prop} {x : Ab} (eh : ∀ c, hi c = H) (eb : ∀ c, b c = cv c a) (h0 : I 0 a x)
    (step : ∀ i a x, i < H → I i a x → Run (fun c => f c i (cv c a)) (cvS cv) x (fun r x' => match r with | .done a' => P a' x' | .yield a' => I (i + 1) a' x'))
    (hend : ∀ a x, I H a x → P a x) : Run (fun c => (forIn [0:hi c] (b c) (f c) : SM β)) cv x P := by
  refine Run.to (m' := fun c => forIn [0:H] (cv c a) (f c)) (fun c => by rw [eh c, eb c]) ?_
  exact Run.range 0 H cv I h0 (fun i a x _ h h2 => step i a x h h2) (fun a x h => hend a x (by rwa [Nat.max_eq_right (Nat.zero_le H)] at h))
/-- only the gallop's bound has changed -/
def Gx (x x' : Ab) : Prop := x'.p = x.p ∧ x'.pend = x.pend
theorem Gx.refl (x : Ab) : Gx x x := ⟨rfl, rfl⟩
def cvM {τ : Type} : Cn n lt → (Option (Array Nat) × Array Nat × τ) → Option (Array Keyed) × Array Keyed × τ := fun c t => (t.1.map (arr c), t.2.1.map c.k, t.2.2)
/-- where a merge from below stands -/
structure ML (a b out : Array Nat) (ia ib : Nat) : Prop where
  pm : (out.toList ++ a.toList.drop ia ++ b.toList.drop ib).Perm (a.toList ++ b.toList)
theorem getD_at {a : Array Nat} {i : Nat} (h : i < a.size) : a.toList.drop i = a.getD i 0 :: a.toList.drop (i + 1) := by
  rw [List.drop_eq_getElem_cons (by simpa using h)]
  simp [Array.getD, h]
section
variable {a b out : Array Nat} {ia ib k : Nat}
theorem ML.pa (h : ML a b out ia ib) (hi : ia < a.size) : ML a b (out.push (a.getD ia 0)) (ia + 1) ib := by
  refine ⟨List.Perm.trans (List.Perm.of_eq ?_) h.pm⟩
  rw [getD_at hi, Array.toList_push]
  simp
theorem ML.pb (h : ML a b out ia ib) (hi : ib < b.size) : ML a b (out.push (b.getD ib 0)) ia (ib + 1) := by
  refine ⟨List.Perm.trans ?_ h.pm⟩
  rw [getD_at hi, Array.toList_push, List.append_assoc, List.append_assoc, List.append_assoc]
  refine List.Perm.append_left _ ?_
  exact (List.perm_middle (a := b.getD ib 0) (l₁ := a.toList.drop ia) (l₂ := b.toList.drop (ib + 1))).symm
theorem ML.ea (h : ML a b out ia ib) (hk : ia + k ≤ a.size) : ML a b (out ++ a.extract ia (ia + k)) (ia + k) ib := by
  refine ⟨List.Perm.trans (List.Perm.of_eq ?_) h.pm⟩
  have e : a.toList.drop ia = (a.extract ia (ia + k)).toList ++ a.toList.drop (ia + k) := by
    rw [Array.toList_extract, List.extract_eq_take_drop, Nat.add_sub_cancel_left, ← List.drop_drop, List.take_append_drop]
  rw [e, Array.toList_append]
  simp
theorem ML.eb (h : ML a b out ia ib) (hk : ib + k ≤ b.size) : ML a b (out ++ b.extract ib (ib + k)) ia (ib + k) := by
  refine ⟨List.Perm.trans ?_ h.pm⟩
  have e : b.toList.drop ib = (b.extract ib (ib + k)).toList ++ b.toList.drop (ib + k) := by
    rw [Array.toList_extract, List.extract_eq_take_drop, Nat.add_sub_cancel_left, ← List.drop_drop, List.take_append_drop]
  rw [e, Array.toList_append, List.append_assoc, List.append_assoc, List.append_assoc]
  refine List.Perm.append_left _ ?_
  rw [← List.append_assoc, ← List.append_assoc]
  exact List.Perm.append_right _ List.perm_append_comm
theorem ex_drop (a : Array Nat) (i : Nat) : (a.extract i a.size).toList = a.toList.drop i := by
  rw [Array.toList_extract, List.extract_eq_take_drop, ← Array.length_toList, List.take_of_length_le (by rw [List.length_drop]; omega)]
theorem ML.done (h : ML a b out ia ib) : (out ++ a.extract ia a.size ++ b.extract ib b.size).toList.Perm (a.toList ++ b.toList) := by
  rw [Array.toList_append, Array.toList_append, ex_drop, ex_drop]
  exact h.pm
theorem ML.last (h : ML a b out ia ib) : (out ++ b.extract ib b.size ++ a.extract ia a.size).toList.Perm (a.toList ++ b.toList) := by
  rw [Array.toList_append, Array.toList_append, ex_drop, ex_drop]
  refine List.Perm.trans ?_ h.pm
  rw [List.append_assoc, List.append_assoc]
  exact List.Perm.append_left _ List.perm_append_comm
end
theorem k_done (c : Cn n lt) (out a b : Array Nat) (i j : Nat) : out.map c.k ++ (a.map c.k).extract i (a.map c.k).size ++ (b.map c.k).extract j (b.map c.k).size = (out ++ a.extract i a.size ++ b.extract j b.size).map c.k := by
  rw [Array.map_append, Array.map_append, Array.map_extract, Array.map_extract, Array.size_map, Array.size_map]
theorem k_one (c : Cn n lt) (i : Nat) : #[c.k i] = (#[i] : Array Nat).map c.k := by simp
theorem k_push (c : Cn n lt) (out : Array Nat) (i : Nat) : (out.map c.k).push (c.k i) = (out.push i).map c.k := by rw [Array.map_push]
theorem k_app (c : Cn n lt) (out a : Array Nat) (i j : Nat) : out.map c.k ++ (a.map c.k).extract i j = (out ++ a.extract i j).map c.k := by rw [Array.map_append, Array.map_extract]
theorem k_beq (c : Cn n lt) (a : Array Nat) (i : Nat) : (i == (a.map c.k).size) = true ↔ i = a.size := by simp
abbrev PL (a b : Array Nat) (x : Ab) : Array Nat → Ab → Prop := fun r x' => r.toList.Perm (a.toList ++ b.toList) ∧ Gx x x'
theorem run_galC {left : Bool} {key base m h : Nat} {mc : Cn n lt → Nat} {v : Array Nat} {x : Ab} (em : ∀ c, mc c = m) (hk : key < n) (hv : In n v) (hb : base + m ≤ v.size) (hh : h < m) : Run (n := n) (lt := lt) (fun c => gallop' left (c.k key) (v.map c.k) base (mc c) h) same x (fun r x' => x' = x ∧ ∃ k, r = some k ∧ k ≤ m) :=
  Run.to (fun c => by rw [em c]) (run_gal hk hv hb hh)
/-! a merge from below, in pieces -/
def fin2 (out a b : Array Keyed) (i j : Nat) : Array Keyed := out ++ a.extract i a.size ++ b.extract j b.size
abbrev T5 := Nat × Nat × Nat × Nat × Nat
def jp2 (a b out : Array Keyed) (u v g ac bc : Nat) : SM (ForInStep (Option (Array Keyed) × Array Keyed × T5)) :=
  elem' a u >>= fun y => if (u + 1 + 1 == a.size) = true then Pure.pure (.done (some (fin2 (out.push y) b a v (u + 1)), out.push y, u + 1, v, g, ac, bc))
    else if (decide (ac < 7) && decide (bc < 7)) = true then Pure.pure (.done (none, out.push y, u + 1, v, g, ac, bc)) else Pure.pure (.yield (none, out.push y, u + 1, v, g, ac, bc))
def jp1 (a b out : Array Keyed) (u v g ac bc : Nat) : SM (ForInStep (Option (Array Keyed) × Array Keyed × T5)) :=
  elem' b v >>= fun y => if (v + 1 == b.size) = true then Pure.pure (.done (some (fin2 (out.push y) a b u (v + 1)), out.push y, u, v + 1, g, ac, bc))
    else elem' a u >>= fun z => gallop' true z b (v + 1) (b.size - (v + 1)) 0 >>= fun r => match r with
      | some k => if k > 0 then (if (v + 1 + k == b.size) = true then Pure.pure (.done (some (fin2 (out.push y ++ b.extract (v + 1) (v + 1 + k)) a b u (v + 1 + k)), out.push y ++ b.extract (v + 1) (v + 1 + k), u, v + 1 + k, g, ac, k))
          else jp2 a b (out.push y ++ b.extract (v + 1) (v + 1 + k)) u (v + 1 + k) g ac k) else jp2 a b (out.push y) u (v + 1) g ac k
      | _ => Pure.pure (.done (some (fin2 (out.push y) a b u (v + 1)), out.push y, u, v + 1, g, ac, bc))
def jp0 (a b out : Array Keyed) (u v g ac bc : Nat) : SM (ForInStep (Option (Array Keyed) × Array Keyed × T5)) :=
  (modify fun s => setGallop s g) >>= fun _ => elem' b v >>= fun y => gallop' false y a u (a.size - u) 0 >>= fun r => match r with
    | some k => if k > 0 then (if (u + k + 1 == a.size) = true then Pure.pure (.done (some (fin2 (out ++ a.extract u (u + k)) b a v (u + k)), out ++ a.extract u (u + k), u + k, v, g, k, bc))
        else if (u + k == a.size) = true then Pure.pure (.done (some (fin2 (out ++ a.extract u (u + k)) a b (u + k) v), out ++ a.extract u (u + k), u + k, v, g, k, bc))
        else jp1 a b (out ++ a.extract u (u + k)) (u + k) v g k bc) else jp1 a b out u v g k bc
    | _ => Pure.pure (.done (some (fin2 out a b u v), out, u, v, g, ac, bc))
def galL (a b : Array Keyed) (t : Option (Array Keyed) × Array Keyed × T5) : SM (ForInStep (Option (Array Keyed) × Array Keyed × T5)) :=
  if t.2.2.2.2.1 > 1 then jp0 a b t.2.1 t.2.2.1 t.2.2.2.1 (t.2.2.2.2.1 - 1) t.2.2.2.2.2.1 t.2.2.2.2.2.2 else jp0 a b t.2.1 t.2.2.1 t.2.2.2.1 t.2.2.2.2.1 t.2.2.2.2.2.1 t.2.2.2.2.2.2
abbrev T4 := Nat × Nat × Nat × Nat
def strL (a b : Array Keyed) (g : Nat) (t : Option (Array Keyed) × Array Keyed × T4) : SM (ForInStep (Option (Array Keyed) × Array Keyed × T4)) :=
  elem' b t.2.2.2.1 >>= fun y => elem' a t.2.2.1 >>= fun z => lt' y z >>= fun r => match r with
    | some w => if w = true then elem' b t.2.2.2.1 >>= fun y => (if (t.2.2.2.1 + 1 == b.size) = true then Pure.pure (.done (some (fin2 (t.2.1.push y) a b t.2.2.1 (t.2.2.2.1 + 1)), t.2.1.push y, t.2.2.1, t.2.2.2.1 + 1, 0, t.2.2.2.2.2 + 1))
          else if t.2.2.2.2.2 + 1 ≥ g then Pure.pure (.done (none, t.2.1.push y, t.2.2.1, t.2.2.2.1 + 1, 0, t.2.2.2.2.2 + 1)) else Pure.pure (.yield (none, t.2.1.push y, t.2.2.1, t.2.2.2.1 + 1, 0, t.2.2.2.2.2 + 1)))
        else elem' a t.2.2.1 >>= fun y => (if (t.2.2.1 + 1 + 1 == a.size) = true then Pure.pure (.done (some (fin2 (t.2.1.push y) b a t.2.2.2.1 (t.2.2.1 + 1)), t.2.1.push y, t.2.2.1 + 1, t.2.2.2.1, t.2.2.2.2.1 + 1, 0))
          else if t.2.2.2.2.1 + 1 ≥ g then Pure.pure (.done (none, t.2.1.push y, t.2.2.1 + 1, t.2.2.2.1, t.2.2.2.2.1 + 1, 0)) else Pure.pure (.yield (none, t.2.1.push y, t.2.2.1 + 1, t.2.2.2.1, t.2.2.2.2.1 + 1, 0)))
    | _ => Pure.pure (.done (some (fin2 t.2.1 a b t.2.2.1 t.2.2.2.1), t.2.1, t.2.2.1, t.2.2.2.1, t.2.2.2.2.1, t.2.2.2.2.2))
abbrev T3 := Nat × Nat × Nat
def turnL (a b : Array Keyed) (t : Option (Array Keyed) × Array Keyed × T3) : SM (ForInStep (Option (Array Keyed) × Array Keyed × T3)) :=
  (forIn [0:a.size + b.size] (none, t.2.1, t.2.2.1, t.2.2.2.1, 0, 0) fun _ s => strL a b t.2.2.2.2 s) >>= fun s => match s.1 with
    | some r => Pure.pure (.done (some r, s.2.1, s.2.2.1, s.2.2.2.1, t.2.2.2.2))
    | none => liftM (PySem.rule "list.sort.gallop") >>= fun _ => (forIn [0:a.size + b.size] (none, s.2.1, s.2.2.1, s.2.2.2.1, t.2.2.2.2 + 1, s.2.2.2.2.1, s.2.2.2.2.2) fun _ w => galL a b w) >>= fun w => match w.1 with
      | some r => Pure.pure (.done (some r, w.2.1, w.2.2.1, w.2.2.2.1, w.2.2.2.2.1))
      | none => (modify fun s => setGallop s (w.2.2.2.2.1 + 1)) >>= fun _ => Pure.pure (.yield (none, w.2.1, w.2.2.1, w.2.2.2.1, w.2.2.2.2.1 + 1))
def mrgL (a b : Array Keyed) : SM (Array Keyed) :=
  liftM (PySem.rule "list.sort.merge-lo") >>= fun _ => elem' b 0 >>= fun y => if (1 == b.size) = true then Pure.pure (fin2 #[y] a b 0 1)
    else if (0 + 1 == a.size) = true then Pure.pure (fin2 #[y] b a 1 0)
    else get >>= fun s => (forIn [0:a.size + b.size] (none, #[y], 0, 1, gallopOf s) fun _ t => turnL a b t) >>= fun t => match t.1 with
      | some r => Pure.pure r
      | none => liftM (PySem.unsupported "internal:list.sort.merge-bound")
theorem ite_c {β : Type} {p : Prop} [Decidable p] {m m' k k' : SM β} (h : p → m = k) (h' : ¬ p → m' = k') : (if p then m else m') = if p then k else k' := by
  by_cases hp : p
  · rw [if_pos hp, if_pos hp, h hp]
  · rw [if_neg hp, if_neg hp, h' hp]
set_option maxHeartbeats 2000000 in
theorem mrgL_eq (a b : Array Keyed) : mergeLo' a b = mrgL a b := by
  refine bind_c rfl fun _ => bind_c rfl fun y => ite_c (fun _ => rfl) fun _ => ite_c (fun _ => rfl) fun _ => bind_c rfl fun s => bind_c ?_ fun t => ?_
  · refine for_c fun i t => ?_
    obtain ⟨r, o, u, v, g⟩ := t
    refine bind_c ?_ fun s => ?_
    · refine for_c fun i s => ?_
      obtain ⟨r, o, u, v, ac, bc⟩ := s
      refine bind_c rfl fun y => bind_c rfl fun z => bind_c rfl fun r => ?_
      cases r with
      | none => rfl
      | some w => exact ite_c (fun _ => rfl) fun _ => rfl
    · obtain ⟨r, o, u, v, ac, bc⟩ := s
      cases r with
      | some r => rfl
      | none =>
        refine bind_c rfl fun _ => bind_c ?_ fun w => ?_
        · refine for_c fun i w => ?_
          obtain ⟨r, o, u, v, g, ac, bc⟩ := w
          have key : ∀ g : Nat, jp0 a b o u v g ac bc = jp0 a b o u v g ac bc := fun _ => rfl
          refine ite_c (fun _ => ?_) (fun _ => ?_)
          all_goals
            refine bind_c rfl fun _ => bind_c rfl fun y => bind_c rfl fun r => ?_
            cases r with
            | none => rfl
            | some k =>
              refine ite_c (fun _ => ite_c (fun _ => rfl) fun _ => ite_c (fun _ => rfl) fun _ => ?_) (fun _ => ?_)
              all_goals
                refine bind_c rfl fun y => ite_c (fun _ => rfl) fun _ => bind_c rfl fun z => bind_c rfl fun r => ?_
                cases r with
                | none => rfl
                | some k => rfl
        · obtain ⟨r, o, u, v, g, ac, bc⟩ := w
          cases r <;> rfl
  · obtain ⟨r, o, u, v, g⟩ := t
    cases r <;> rfl
end
end DLS

set_option Elab.async false
set_option linter.all false
set_option maxRecDepth 100000
namespace DLS
open PySem PySem.Spec PySem.W PyProof.Rows
section
variable {n : Nat} {lt : Nat → Nat → Bool}
def Iv {τ : Type} (a b : Array Nat) (x : Ab) (s : Nat) (t : Option (Array Nat) × Array Nat × Nat × Nat × τ) (y : Ab) : Prop := Gx x y ∧ t.1 = none ∧ ML a b t.2.1 t.2.2.1 t.2.2.2.1 ∧ t.2.2.1 + 1 < a.size ∧ t.2.2.2.1 < b.size ∧ s ≤ t.2.2.1 + t.2.2.2.1
def Pv {τ : Type} (a b : Array Nat) (x : Ab) (s : Nat) (t : Option (Array Nat) × Array Nat × Nat × Nat × τ) (y : Ab) : Prop := (Gx x y ∧ ∃ r, t.1 = some r ∧ r.toList.Perm (a.toList ++ b.toList)) ∨ Iv a b x s t y
abbrev Sv {τ : Type} (a b : Array Nat) (x : Ab) (s s' : Nat) : ForInStep (Option (Array Nat) × Array Nat × Nat × Nat × τ) → Ab → Prop := fun r y => match r with
  | .done t => Pv a b x s t y
  | .yield t => Iv a b x s' t y
abbrev Tv {τ : Type} (a b : Array Nat) (x : Ab) (s : Nat) : ForInStep (Option (Array Nat) × Array Nat × Nat × Nat × τ) → Ab → Prop := fun r y => match r with
  | .done t => Gx x y ∧ ∃ r, t.1 = some r ∧ r.toList.Perm (a.toList ++ b.toList)
  | .yield t => Iv a b x s t y
theorem k_fin (c : Cn n lt) (out a b : Array Nat) (i j : Nat) : fin2 (out.map c.k) (a.map c.k) (b.map c.k) i j = (out ++ a.extract i a.size ++ b.extract j b.size).map c.k := k_done c out a b i j
section
variable {a b out : Array Nat} {x y : Ab} {u v g ac bc s : Nat}
theorem run_jp2 (ha : In n a) (hb : In n b) (ml : ML a b out u v) (hu : u + 1 < a.size) (hv : v < b.size) (hs : s ≤ u + v + 1) (gx : Gx x y) : Run (n := n) (lt := lt) (fun c => jp2 (a.map c.k) (b.map c.k) (out.map c.k) u v g ac bc) (cvS cvM) y (Sv a b x s s) := by
  unfold jp2
  refine Run.bind (Run.elem (show u < a.size by omega) ?_)
  have m5 := ml.pa (show u < a.size by omega)
  refine Run.iteC (u + 1 + 1 = a.size) (fun c => k_beq c a (u + 1 + 1)) (fun e3 => ?_) (fun e3 => ?_)
  · refine Run.of (ForInStep.done (some (out.push (a.getD u 0) ++ b.extract v b.size ++ a.extract (u + 1) a.size), out.push (a.getD u 0), u + 1, v, g, ac, bc)) (.inl ⟨gx, _, rfl, m5.last⟩) (fun c => ?_)
    rw [k_push, k_fin]
    rfl
  · have iv : Iv a b x s (none, out.push (a.getD u 0), u + 1, v, g, ac, bc) y := ⟨gx, rfl, m5, by show u + 1 + 1 < a.size; omega, hv, by show s ≤ u + 1 + v; omega⟩
    refine Run.ite (fun _ => ?_) (fun _ => ?_)
    · refine Run.of (ForInStep.done (none, out.push (a.getD u 0), u + 1, v, g, ac, bc)) (.inr iv) (fun c => ?_)
      rw [k_push]
      rfl
    · refine Run.of (ForInStep.yield (none, out.push (a.getD u 0), u + 1, v, g, ac, bc)) iv (fun c => ?_)
      rw [k_push]
      rfl
theorem run_jp1 (ha : In n a) (hb : In n b) (ml : ML a b out u v) (hu : u + 1 < a.size) (hv : v < b.size) (hs : s ≤ u + v) (gx : Gx x y) : Run (n := n) (lt := lt) (fun c => jp1 (a.map c.k) (b.map c.k) (out.map c.k) u v g ac bc) (cvS cvM) y (Sv a b x s s) := by
  unfold jp1
  refine Run.bind (Run.elem hv ?_)
  have m3 := ml.pb hv
  refine Run.iteC (v + 1 = b.size) (fun c => k_beq c b (v + 1)) (fun e => ?_) (fun e => ?_)
  · refine Run.of (ForInStep.done (some (out.push (b.getD v 0) ++ a.extract u a.size ++ b.extract (v + 1) b.size), out.push (b.getD v 0), u, v + 1, g, ac, bc)) (.inl ⟨gx, _, rfl, m3.done⟩) (fun c => ?_)
    rw [k_push, k_fin]
    rfl
  refine Run.bind (Run.elem (show u < a.size by omega) (Run.bind0 ((run_galC (m := b.size - (v + 1)) (fun c => by rw [Array.size_map]) (ha u (by omega)) hb (by omega) (by omega)).mono ?_)))
  rintro _ w3 ⟨rfl, k, rfl, hk⟩
  refine Run.iteC (k > 0) (fun c => Iff.rfl) (fun p2 => ?_) (fun p2 => ?_)
  · have m4 := m3.eb (k := k) (by omega)
    refine Run.iteC (v + 1 + k = b.size) (fun c => k_beq c b (v + 1 + k)) (fun e2 => ?_) (fun e2 => ?_)
    · refine Run.of (ForInStep.done (some (out.push (b.getD v 0) ++ b.extract (v + 1) (v + 1 + k) ++ a.extract u a.size ++ b.extract (v + 1 + k) b.size), out.push (b.getD v 0) ++ b.extract (v + 1) (v + 1 + k), u, v + 1 + k, g, ac, k)) (.inl ⟨gx, _, rfl, m4.done⟩) (fun c => ?_)
      rw [k_push, k_app, k_fin]
      rfl
    · refine Run.to (fun c => by rw [k_push, k_app]) (run_jp2 ha hb m4 hu (by omega) (by omega) gx)
  · exact Run.to (fun c => by rw [k_push]) (run_jp2 ha hb m3 hu (by omega) (by omega) gx)
theorem run_jp0 (ha : In n a) (hb : In n b) (ml : ML a b out u v) (hu : u + 1 < a.size) (hv : v < b.size) (hs : s ≤ u + v) (gx : Gx x y) : Run (n := n) (lt := lt) (fun c => jp0 (a.map c.k) (b.map c.k) (out.map c.k) u v g ac bc) (cvS cvM) y (Sv a b x s s) := by
  unfold jp0
  refine Run.bind0 (Run.modify ⟨y.p, y.pend, g⟩ (fun c => rfl) ?_)
  have gx' : Gx x ⟨y.p, y.pend, g⟩ := ⟨gx.1, gx.2⟩
  refine Run.bind (Run.elem hv (Run.bind0 ((run_galC (m := a.size - u) (fun c => by rw [Array.size_map]) (hb v hv) ha (by omega) (by omega)).mono ?_)))
  rintro _ w2 ⟨rfl, k, rfl, hk⟩
  refine Run.iteC (k > 0) (fun c => Iff.rfl) (fun p1 => ?_) (fun p1 => ?_)
  · have n2 := ml.ea (k := k) (by omega)
    refine Run.iteC (u + k + 1 = a.size) (fun c => k_beq c a (u + k + 1)) (fun e1 => ?_) (fun e1 => Run.iteC (u + k = a.size) (fun c => k_beq c a (u + k)) (fun e2 => ?_) (fun e2 => ?_))
    · refine Run.of (ForInStep.done (some (out ++ a.extract u (u + k) ++ b.extract v b.size ++ a.extract (u + k) a.size), out ++ a.extract u (u + k), u + k, v, g, k, bc)) (.inl ⟨gx', _, rfl, n2.last⟩) (fun c => ?_)
      rw [k_app, k_fin]
      rfl
    · refine Run.of (ForInStep.done (some (out ++ a.extract u (u + k) ++ a.extract (u + k) a.size ++ b.extract v b.size), out ++ a.extract u (u + k), u + k, v, g, k, bc)) (.inl ⟨gx', _, rfl, n2.done⟩) (fun c => ?_)
      rw [k_app, k_fin]
      rfl
    · exact Run.to (fun c => by rw [k_app]) (run_jp1 ha hb n2 (by omega) hv (by omega) gx')
  · exact run_jp1 ha hb ml hu hv hs gx'
theorem run_galL {t : Option (Array Nat) × Array Nat × T5} (ha : In n a) (hb : In n b) (h : Iv a b x s t y) : Run (n := n) (lt := lt) (fun c => galL (a.map c.k) (b.map c.k) (cvM c t)) (cvS cvM) y (Sv a b x s s) := by
  obtain ⟨gx, _, ml, h1, h2, h3⟩ := h
  obtain ⟨r, o, u, v, g, ac, bc⟩ := t
  have h1 : u + 1 < a.size := h1
  have h2 : v < b.size := h2
  have h3 : s ≤ u + v := h3
  have ml : ML a b o u v := ml
  refine Run.to (m' := fun c => if g > 1 then jp0 (a.map c.k) (b.map c.k) (o.map c.k) u v (g - 1) ac bc else jp0 (a.map c.k) (b.map c.k) (o.map c.k) u v g ac bc) (fun c => rfl) ?_
  exact Run.ite (fun _ => run_jp0 ha hb ml h1 h2 h3 gx) (fun _ => run_jp0 ha hb ml h1 h2 h3 gx)
theorem run_strL {t : Option (Array Nat) × Array Nat × T4} (ha : In n a) (hb : In n b) (h : Iv a b x s t y) : Run (n := n) (lt := lt) (fun c => strL (a.map c.k) (b.map c.k) g (cvM c t)) (cvS cvM) y (Sv a b x (s + 1) (s + 1)) := by
  obtain ⟨gx, _, ml, h1, h2, h3⟩ := h
  obtain ⟨r, o, u, v, ac, bc⟩ := t
  have h1 : u + 1 < a.size := h1
  have h2 : v < b.size := h2
  have h3 : s ≤ u + v := h3
  have ml : ML a b o u v := ml
  unfold strL
  refine Run.bind (Run.elem h2 (Run.bind (Run.elem (show u < a.size by omega) (Run.bind0 (Run.less (hb v h2) (ha u (by omega)) ?_)))))
  refine Run.ite (fun _ => ?_) (fun _ => ?_)
  · refine Run.bind (Run.elem h2 ?_)
    have m2 := ml.pb h2
    refine Run.iteC (v + 1 = b.size) (fun c => k_beq c b (v + 1)) (fun e => ?_) (fun e => ?_)
    · refine Run.of (ForInStep.done (some (o.push (b.getD v 0) ++ a.extract u a.size ++ b.extract (v + 1) b.size), o.push (b.getD v 0), u, v + 1, 0, bc + 1)) (.inl ⟨gx, _, rfl, m2.done⟩) (fun c => ?_)
      show ForInStep.done (some (fin2 ((o.map c.k).push _) _ _ _ _), (o.map c.k).push _, _) = _
      rw [k_push, k_fin]
      rfl
    · have iv : Iv a b x (s + 1) (none, o.push (b.getD v 0), u, v + 1, 0, bc + 1) y := ⟨gx, rfl, m2, h1, by show v + 1 < b.size; omega, by show s + 1 ≤ u + (v + 1); omega⟩
      refine Run.iteC (bc + 1 ≥ g) (fun c => Iff.rfl) (fun _ => ?_) (fun _ => ?_)
      · refine Run.of (ForInStep.done (none, o.push (b.getD v 0), u, v + 1, 0, bc + 1)) (.inr iv) (fun c => ?_)
        show ForInStep.done (none, (o.map c.k).push _, _) = _
        rw [k_push]
        rfl
      · refine Run.of (ForInStep.yield (none, o.push (b.getD v 0), u, v + 1, 0, bc + 1)) iv (fun c => ?_)
        show ForInStep.yield (none, (o.map c.k).push _, _) = _
        rw [k_push]
        rfl
  · refine Run.bind (Run.elem (show u < a.size by omega) ?_)
    have m2 := ml.pa (show u < a.size by omega)
    refine Run.iteC (u + 1 + 1 = a.size) (fun c => k_beq c a (u + 1 + 1)) (fun e => ?_) (fun e => ?_)
    · refine Run.of (ForInStep.done (some (o.push (a.getD u 0) ++ b.extract v b.size ++ a.extract (u + 1) a.size), o.push (a.getD u 0), u + 1, v, ac + 1, 0)) (.inl ⟨gx, _, rfl, m2.last⟩) (fun c => ?_)
      show ForInStep.done (some (fin2 ((o.map c.k).push _) _ _ _ _), (o.map c.k).push _, _) = _
      rw [k_push, k_fin]
      rfl
    · have iv : Iv a b x (s + 1) (none, o.push (a.getD u 0), u + 1, v, ac + 1, 0) y := ⟨gx, rfl, m2, by show u + 1 + 1 < a.size; omega, h2, by show s + 1 ≤ u + 1 + v; omega⟩
      refine Run.iteC (ac + 1 ≥ g) (fun c => Iff.rfl) (fun _ => ?_) (fun _ => ?_)
      · refine Run.of (ForInStep.done (none, o.push (a.getD u 0), u + 1, v, ac + 1, 0)) (.inr iv) (fun c => ?_)
        show ForInStep.done (none, (o.map c.k).push _, _) = _
        rw [k_push]
        rfl
      · refine Run.of (ForInStep.yield (none, o.push (a.getD u 0), u + 1, v, ac + 1, 0)) iv (fun c => ?_)
        show ForInStep.yield (none, (o.map c.k).push _, _) = _
        rw [k_push]
        rfl
theorem Iv.up {τ : Type} {s' : Nat} {t : Option (Array Nat) × Array Nat × Nat × Nat × τ} (h : Iv a b x s t y) (hs : s' ≤ s) : Iv a b x s' t y := ⟨h.1, h.2.1, h.2.2.1, h.2.2.2.1, h.2.2.2.2.1, by have := h.2.2.2.2.2; omega⟩
theorem Pv.up {τ : Type} {s' : Nat} {t : Option (Array Nat) × Array Nat × Nat × Nat × τ} (h : Pv a b x s t y) (hs : s' ≤ s) : Pv a b x s' t y := h.elim .inl fun h => .inr (h.up hs)
theorem run_turnL {t : Option (Array Nat) × Array Nat × T3} (ha : In n a) (hb : In n b) (b1 : 1 ≤ b.size) (h : Iv a b x s t y) : Run (n := n) (lt := lt) (fun c => turnL (a.map c.k) (b.map c.k) (cvM c t)) (cvS cvM) y (Tv a b x (s + 1)) := by
  obtain ⟨gx, hn, ml, h1, h2, h3⟩ := h
  obtain ⟨r, o, u, v, g⟩ := t
  have h1 : u + 1 < a.size := h1
  have h2 : v < b.size := h2
  have h3 : s ≤ u + v := h3
  have ml : ML a b o u v := ml
  unfold turnL
  refine Run.bind ((Run.loop (a.size + b.size) (cvM (τ := Nat × Nat × Nat × Nat)) (none, o, u, v, 0, 0) (fun j t y => Iv a b x (s + j) t y) (P := fun t y => Pv a b x (s + 1) t y) (fun c => by rw [Array.size_map, Array.size_map]) (fun c => rfl) ⟨gx, rfl, ml, h1, h2, h3⟩ ?st ?en).mono ?co)
  case st =>
    intro j t z hj iv
    refine (run_strL ha hb iv).mono fun r w hr => ?_
    cases r with
    | done t => exact Pv.up hr (by omega)
    | yield t => exact hr
  case en =>
    intro t z iv
    exact .inr (iv.up (by omega))
  case co =>
    rintro ⟨r, o, u, v, ac, bc⟩ z hr
    rcases hr with ⟨gz, r', er, pr⟩ | iv
    · cases er
      exact Run.of (ForInStep.done (some r', o, u, v, g)) ⟨gz, r', rfl, pr⟩ (fun c => rfl)
    have er : r = none := iv.2.1
    subst er
    refine Run.bind0 (Run.rule ?_)
    refine Run.bind ((Run.loop (a.size + b.size) (cvM (τ := Nat × Nat × Nat × Nat × Nat)) (none, o, u, v, g + 1, ac, bc) (fun j t y => Iv a b x (s + 1) t y) (P := fun t y => Pv a b x (s + 1) t y) (fun c => by rw [Array.size_map, Array.size_map]) (fun c => rfl) iv ?st2 ?en2).mono ?co2)
    case st2 =>
      intro j t z hj iv
      exact (run_galL ha hb iv).mono fun r w hr => by cases r <;> exact hr
    case en2 =>
      intro t z iv
      exact .inr iv
    case co2 =>
      rintro ⟨r, o, u, v, g, ac, bc⟩ z hr
      rcases hr with ⟨gz, r', er, pr⟩ | iv
      · cases er
        exact Run.of (ForInStep.done (some r', o, u, v, g)) ⟨gz, r', rfl, pr⟩ (fun c => rfl)
      have er : r = none := iv.2.1
      subst er
      obtain ⟨gz, _, m', g1, g2, g3⟩ := iv
      refine Run.bind0 (Run.modify ⟨z.p, z.pend, g + 1⟩ (fun c => rfl) ?_)
      exact Run.of (ForInStep.yield (none, o, u, v, g + 1)) ⟨⟨gz.1, gz.2⟩, rfl, m', g1, g2, g3⟩ (fun c => rfl)
end
theorem run_mergeLo {a b : Array Nat} {x : Ab} (ha : In n a) (hb : In n b) (a1 : 1 ≤ a.size) (b1 : 1 ≤ b.size) : Run (n := n) (lt := lt) (fun c => mergeLo' (a.map c.k) (b.map c.k)) arr x (PL a b x) := by
  refine Run.to (fun c => mrgL_eq _ _) ?_
  unfold mrgL
  refine Run.bind0 (Run.rule ?_)
  refine Run.bind (Run.elem b1 ?_)
  have m0 : ML a b #[b.getD 0 0] 0 1 := ⟨by
    have e := getD_at (a := b) (i := 0) b1
    rw [List.drop_zero] at e
    rw [e, List.drop_zero]
    exact List.perm_middle.symm⟩
  refine Run.iteC (1 = b.size) (fun c => k_beq c b 1) (fun h => ?_) (fun h => ?_)
  · refine Run.of (#[b.getD 0 0] ++ a.extract 0 a.size ++ b.extract 1 b.size) ⟨m0.done, Gx.refl x⟩ (fun c => ?_)
    rw [k_one, k_fin]
  refine Run.iteC (0 + 1 = a.size) (fun c => k_beq c a (0 + 1)) (fun h => ?_) (fun h' => ?_)
  · refine Run.of (#[b.getD 0 0] ++ b.extract 1 b.size ++ a.extract 0 a.size) ⟨m0.last, Gx.refl x⟩ (fun c => ?_)
    rw [k_one, k_fin]
  refine Run.bind (Run.get ?_)
  refine Run.bind ((Run.loop (a.size + b.size) (cvM (τ := Nat × Nat × Nat)) (none, #[b.getD 0 0], 0, 1, x.g) (fun j t y => Iv a b x (j + 1) t y) (P := fun t y => Gx x y ∧ ∃ r, t.1 = some r ∧ r.toList.Perm (a.toList ++ b.toList)) ?eh ?eb ⟨Gx.refl x, rfl, m0, by show 0 + 1 < a.size; omega, by show 1 < b.size; omega, by show 0 + 1 ≤ 0 + 1; omega⟩ ?st ?en).mono ?co)
  case eh => intro c; rw [Array.size_map, Array.size_map]
  case eb => intro c; exact Prod.ext rfl (Prod.ext (k_one c _) rfl)
  case st =>
    intro j t z hj iv
    refine (run_turnL ha hb b1 iv).mono fun r w hr => ?_
    cases r with
    | yield t => exact hr
    | done t => exact hr
  case en =>
    rintro ⟨r, o, u, v, g⟩ z ⟨_, _, _, h1, h2, h3⟩
    exfalso
    have h1 : u + 1 < a.size := h1
    have h2 : v < b.size := h2
    have h3 : a.size + b.size + 1 ≤ u + v := h3
    omega
  case co =>
    rintro ⟨r, o, u, v, g⟩ z ⟨gz, r', er, pr⟩
    cases er
    exact Run.of r' ⟨pr, gz⟩ (fun c => rfl)
end
end DLS

set_option Elab.async false
set_option linter.all false
set_option maxRecDepth 100000
namespace DLS
open PySem PySem.Spec PySem.W PyProof.Rows
/-! a merge from above, in pieces -/
def fin3 (out a b : Array Keyed) (i j : Nat) : Array Keyed := a.extract 0 i ++ b.extract 0 j ++ out.reverse
def hp2 (a b out : Array Keyed) (u v g ac bc : Nat) : SM (ForInStep (Option (Array Keyed) × Nat × Nat × Array Keyed × Nat × Nat × Nat)) :=
  elem' a (u - 1) >>= fun y => if (u - 1 == 0) = true then Pure.pure (.done (some (fin3 (out.push y) a b (u - 1) v), u - 1, v, out.push y, g, ac, bc))
    else if (decide (ac < 7) && decide (bc < 7)) = true then Pure.pure (.done (none, u - 1, v, out.push y, g, ac, bc)) else Pure.pure (.yield (none, u - 1, v, out.push y, g, ac, bc))
def hp1 (a b out : Array Keyed) (u v g ac bc : Nat) : SM (ForInStep (Option (Array Keyed) × Nat × Nat × Array Keyed × Nat × Nat × Nat)) :=
  elem' b (v - 1) >>= fun y => if (v - 1 == 1) = true then Pure.pure (.done (some (fin3 (out.push y) b a (v - 1) u), u, v - 1, out.push y, g, ac, bc))
    else elem' a (u - 1) >>= fun z => gallop' true z b 0 (v - 1) (v - 1 - 1) >>= fun r => match r with
      | some k => if v - 1 - k > 0 then (if (k == 1) = true then Pure.pure (.done (some (fin3 (out.push y ++ (b.extract k (v - 1)).reverse) b a k u), u, k, out.push y ++ (b.extract k (v - 1)).reverse, g, ac, v - 1 - k))
          else if (k == 0) = true then Pure.pure (.done (some (fin3 (out.push y ++ (b.extract k (v - 1)).reverse) a b u k), u, k, out.push y ++ (b.extract k (v - 1)).reverse, g, ac, v - 1 - k))
          else hp2 a b (out.push y ++ (b.extract k (v - 1)).reverse) u k g ac (v - 1 - k)) else hp2 a b (out.push y) u (v - 1) g ac (v - 1 - k)
      | _ => Pure.pure (.done (some (fin3 (out.push y) a b u (v - 1)), u, v - 1, out.push y, g, ac, bc))
def hp0 (a b out : Array Keyed) (u v g ac bc : Nat) : SM (ForInStep (Option (Array Keyed) × Nat × Nat × Array Keyed × Nat × Nat × Nat)) :=
  (modify fun s => setGallop s g) >>= fun _ => elem' b (v - 1) >>= fun y => gallop' false y a 0 u (u - 1) >>= fun r => match r with
    | some k => if u - k > 0 then (if (k == 0) = true then Pure.pure (.done (some (fin3 (out ++ (a.extract k u).reverse) a b k v), k, v, out ++ (a.extract k u).reverse, g, u - k, bc))
        else hp1 a b (out ++ (a.extract k u).reverse) k v g (u - k) bc) else hp1 a b out u v g (u - k) bc
    | _ => Pure.pure (.done (some (fin3 out a b u v), u, v, out, g, ac, bc))
def galH (a b : Array Keyed) (t : Option (Array Keyed) × Nat × Nat × Array Keyed × Nat × Nat × Nat) : SM (ForInStep (Option (Array Keyed) × Nat × Nat × Array Keyed × Nat × Nat × Nat)) :=
  if t.2.2.2.2.1 > 1 then hp0 a b t.2.2.2.1 t.2.1 t.2.2.1 (t.2.2.2.2.1 - 1) t.2.2.2.2.2.1 t.2.2.2.2.2.2 else hp0 a b t.2.2.2.1 t.2.1 t.2.2.1 t.2.2.2.2.1 t.2.2.2.2.2.1 t.2.2.2.2.2.2
def strH (a b : Array Keyed) (g : Nat) (t : Option (Array Keyed) × Nat × Nat × Array Keyed × Nat × Nat) : SM (ForInStep (Option (Array Keyed) × Nat × Nat × Array Keyed × Nat × Nat)) :=
  elem' b (t.2.2.1 - 1) >>= fun y => elem' a (t.2.1 - 1) >>= fun z => lt' y z >>= fun r => match r with
    | some w => if w = true then elem' a (t.2.1 - 1) >>= fun y => (if (t.2.1 - 1 == 0) = true then Pure.pure (.done (some (fin3 (t.2.2.2.1.push y) a b (t.2.1 - 1) t.2.2.1), t.2.1 - 1, t.2.2.1, t.2.2.2.1.push y, t.2.2.2.2.1 + 1, 0))
          else if t.2.2.2.2.1 + 1 ≥ g then Pure.pure (.done (none, t.2.1 - 1, t.2.2.1, t.2.2.2.1.push y, t.2.2.2.2.1 + 1, 0)) else Pure.pure (.yield (none, t.2.1 - 1, t.2.2.1, t.2.2.2.1.push y, t.2.2.2.2.1 + 1, 0)))
        else elem' b (t.2.2.1 - 1) >>= fun y => (if (t.2.2.1 - 1 == 1) = true then Pure.pure (.done (some (fin3 (t.2.2.2.1.push y) b a (t.2.2.1 - 1) t.2.1), t.2.1, t.2.2.1 - 1, t.2.2.2.1.push y, 0, t.2.2.2.2.2 + 1))
          else if t.2.2.2.2.2 + 1 ≥ g then Pure.pure (.done (none, t.2.1, t.2.2.1 - 1, t.2.2.2.1.push y, 0, t.2.2.2.2.2 + 1)) else Pure.pure (.yield (none, t.2.1, t.2.2.1 - 1, t.2.2.2.1.push y, 0, t.2.2.2.2.2 + 1)))
    | _ => Pure.pure (.done (some (fin3 t.2.2.2.1 a b t.2.1 t.2.2.1), t.2.1, t.2.2.1, t.2.2.2.1, t.2.2.2.2.1, t.2.2.2.2.2))
def turnH (a b : Array Keyed) (t : Option (Array Keyed) × Nat × Nat × Array Keyed × Nat) : SM (ForInStep (Option (Array Keyed) × Nat × Nat × Array Keyed × Nat)) :=
  (forIn [0:a.size + b.size] (none, t.2.1, t.2.2.1, t.2.2.2.1, 0, 0) fun _ s => strH a b t.2.2.2.2 s) >>= fun s => match s.1 with
    | some r => Pure.pure (.done (some r, s.2.1, s.2.2.1, s.2.2.2.1, t.2.2.2.2))
    | none => liftM (PySem.rule "list.sort.gallop") >>= fun _ => (forIn [0:a.size + b.size] (none, s.2.1, s.2.2.1, s.2.2.2.1, t.2.2.2.2 + 1, s.2.2.2.2.1, s.2.2.2.2.2) fun _ w => galH a b w) >>= fun w => match w.1 with
      | some r => Pure.pure (.done (some r, w.2.1, w.2.2.1, w.2.2.2.1, w.2.2.2.2.1))
      | none => (modify fun s => setGallop s (w.2.2.2.2.1 + 1)) >>= fun _ => Pure.pure (.yield (none, w.2.1, w.2.2.1, w.2.2.2.1, w.2.2.2.2.1 + 1))
def mrgH (a b : Array Keyed) : SM (Array Keyed) :=
  liftM (PySem.rule "list.sort.merge-hi") >>= fun _ => elem' a (a.size - 1) >>= fun y => if (a.size - 1 == 0) = true then Pure.pure (fin3 #[y] a b (a.size - 1) b.size)
    else if (b.size == 1) = true then Pure.pure (fin3 #[y] b a b.size (a.size - 1))
    else get >>= fun s => (forIn [0:a.size + b.size] (none, a.size - 1, b.size, #[y], gallopOf s) fun _ t => turnH a b t) >>= fun t => match t.1 with
      | some r => Pure.pure r
      | none => liftM (PySem.unsupported "internal:list.sort.merge-bound")
set_option maxHeartbeats 2000000 in
theorem mrgH_eq (a b : Array Keyed) : mergeHi' a b = mrgH a b := by
  refine bind_c rfl fun _ => bind_c rfl fun y => ite_c (fun _ => rfl) fun _ => ite_c (fun _ => rfl) fun _ => bind_c rfl fun s => bind_c ?_ fun t => ?_
  · refine for_c fun i t => ?_
    obtain ⟨r, u, v, o, g⟩ := t
    refine bind_c ?_ fun s => ?_
    · refine for_c fun i s => ?_
      obtain ⟨r, u, v, o, ac, bc⟩ := s
      refine bind_c rfl fun y => bind_c rfl fun z => bind_c rfl fun r => ?_
      cases r with
      | none => rfl
      | some w => exact ite_c (fun _ => rfl) fun _ => rfl
    · obtain ⟨r, u, v, o, ac, bc⟩ := s
      cases r with
      | some r => rfl
      | none =>
        refine bind_c rfl fun _ => bind_c ?_ fun w => ?_
        · refine for_c fun i w => ?_
          obtain ⟨r, u, v, o, g, ac, bc⟩ := w
          refine ite_c (fun _ => ?_) (fun _ => ?_)
          all_goals
            refine bind_c rfl fun _ => bind_c rfl fun y => bind_c rfl fun r => ?_
            cases r with
            | none => rfl
            | some k =>
              refine ite_c (fun _ => ite_c (fun _ => rfl) fun _ => ?_) (fun _ => ?_)
              all_goals
                refine bind_c rfl fun y => ite_c (fun _ => rfl) fun _ => bind_c rfl fun z => bind_c rfl fun r => ?_
                cases r with
                | none => rfl
                | some k => rfl
        · obtain ⟨r, u, v, o, g, ac, bc⟩ := w
          cases r <;> rfl
  · obtain ⟨r, u, v, o, g⟩ := t
    cases r <;> rfl
/-- where a merge from above stands -/
structure MH (a b out : Array Nat) (u v : Nat) : Prop where
  pm : (a.toList.take u ++ b.toList.take v ++ out.toList.reverse).Perm (a.toList ++ b.toList)
theorem take_at {a : Array Nat} {i : Nat} (h : 1 ≤ i) (h' : i ≤ a.size) : a.toList.take i = a.toList.take (i - 1) ++ [a.getD (i - 1) 0] := by
  obtain ⟨j, rfl⟩ : ∃ j, i = j + 1 := ⟨i - 1, by omega⟩
  rw [Nat.add_sub_cancel, List.take_succ_eq_append_getElem (show j < a.toList.length by rw [Array.length_toList]; omega)]
  simp [Array.getD, show j < a.size by omega]
section
variable {a b out : Array Nat} {u v k : Nat}
theorem MH.pa (h : MH a b out u v) (h1 : 1 ≤ u) (hu : u ≤ a.size) : MH a b (out.push (a.getD (u - 1) 0)) (u - 1) v := by
  refine ⟨List.Perm.trans ?_ h.pm⟩
  rw [take_at h1 hu, Array.toList_push, List.reverse_append, List.append_assoc, List.append_assoc, List.append_assoc]
  refine List.Perm.append_left _ ?_
  exact List.perm_middle (a := a.getD (u - 1) 0) (l₁ := b.toList.take v) (l₂ := out.toList.reverse)
theorem MH.pb (h : MH a b out u v) (h1 : 1 ≤ v) (hv : v ≤ b.size) : MH a b (out.push (b.getD (v - 1) 0)) u (v - 1) := by
  refine ⟨List.Perm.trans (List.Perm.of_eq ?_) h.pm⟩
  rw [take_at h1 hv, Array.toList_push, List.reverse_append]
  simp
theorem take_cut {a : Array Nat} {k u : Nat} (hk : k ≤ u) : a.toList.take u = a.toList.take k ++ (a.extract k u).toList := by
  rw [Array.toList_extract, List.extract_eq_take_drop]
  obtain ⟨d, rfl⟩ : ∃ d, u = k + d := ⟨u - k, by omega⟩
  rw [Nat.add_sub_cancel_left, List.take_add]
theorem MH.ea (h : MH a b out u v) (hk : k ≤ u) : MH a b (out ++ (a.extract k u).reverse) k v := by
  refine ⟨List.Perm.trans ?_ h.pm⟩
  rw [take_cut hk, Array.toList_append, List.reverse_append, Array.toList_reverse, List.reverse_reverse, List.append_assoc, List.append_assoc, List.append_assoc]
  refine List.Perm.append_left _ ?_
  rw [← List.append_assoc, ← List.append_assoc]
  exact List.Perm.append_right _ List.perm_append_comm
theorem MH.eb (h : MH a b out u v) (hk : k ≤ v) : MH a b (out ++ (b.extract k v).reverse) u k := by
  refine ⟨List.Perm.trans (List.Perm.of_eq ?_) h.pm⟩
  rw [take_cut hk, Array.toList_append, List.reverse_append, Array.toList_reverse, List.reverse_reverse]
  simp
theorem ex_take (a : Array Nat) (i : Nat) : (a.extract 0 i).toList = a.toList.take i := by
  rw [Array.toList_extract, List.extract_eq_take_drop, List.drop_zero, Nat.sub_zero]
theorem MH.done (h : MH a b out u v) : (a.extract 0 u ++ b.extract 0 v ++ out.reverse).toList.Perm (a.toList ++ b.toList) := by
  rw [Array.toList_append, Array.toList_append, ex_take, ex_take, Array.toList_reverse]
  exact h.pm
theorem MH.last (h : MH a b out u v) : (b.extract 0 v ++ a.extract 0 u ++ out.reverse).toList.Perm (a.toList ++ b.toList) := by
  rw [Array.toList_append, Array.toList_append, ex_take, ex_take, Array.toList_reverse]
  refine List.Perm.trans ?_ h.pm
  exact List.Perm.append_right _ List.perm_append_comm
end
section
variable {n : Nat} {lt : Nat → Nat → Bool}
def cvH {τ : Type} : Cn n lt → (Option (Array Nat) × Nat × Nat × Array Nat × τ) → Option (Array Keyed) × Nat × Nat × Array Keyed × τ := fun c t => (t.1.map (arr c), t.2.1, t.2.2.1, t.2.2.2.1.map c.k, t.2.2.2.2)
theorem k_fin3 (c : Cn n lt) (out a b : Array Nat) (i j : Nat) : fin3 (out.map c.k) (a.map c.k) (b.map c.k) i j = (a.extract 0 i ++ b.extract 0 j ++ out.reverse).map c.k := by
  unfold fin3
  rw [Array.map_append, Array.map_append, Array.map_extract, Array.map_extract, Array.map_reverse]
theorem k_rev (c : Cn n lt) (out a : Array Nat) (i j : Nat) : out.map c.k ++ ((a.map c.k).extract i j).reverse = (out ++ (a.extract i j).reverse).map c.k := by rw [Array.map_append, Array.map_reverse, Array.map_extract]
def Jv {τ : Type} (a b : Array Nat) (x : Ab) (s : Nat) (t : Option (Array Nat) × Nat × Nat × Array Nat × τ) (y : Ab) : Prop := Gx x y ∧ t.1 = none ∧ MH a b t.2.2.2.1 t.2.1 t.2.2.1 ∧ 1 ≤ t.2.1 ∧ 2 ≤ t.2.2.1 ∧ t.2.1 ≤ a.size ∧ t.2.2.1 ≤ b.size ∧ t.2.1 + t.2.2.1 + s ≤ a.size + b.size
def Qv {τ : Type} (a b : Array Nat) (x : Ab) (s : Nat) (t : Option (Array Nat) × Nat × Nat × Array Nat × τ) (y : Ab) : Prop := (Gx x y ∧ ∃ r, t.1 = some r ∧ r.toList.Perm (a.toList ++ b.toList)) ∨ Jv a b x s t y
abbrev Uv {τ : Type} (a b : Array Nat) (x : Ab) (s s' : Nat) : ForInStep (Option (Array Nat) × Nat × Nat × Array Nat × τ) → Ab → Prop := fun r y => match r with
  | .done t => Qv a b x s t y
  | .yield t => Jv a b x s' t y
abbrev Vv {τ : Type} (a b : Array Nat) (x : Ab) (s : Nat) : ForInStep (Option (Array Nat) × Nat × Nat × Array Nat × τ) → Ab → Prop := fun r y => match r with
  | .done t => Gx x y ∧ ∃ r, t.1 = some r ∧ r.toList.Perm (a.toList ++ b.toList)
  | .yield t => Jv a b x s t y
theorem beq_n (i j : Nat) : (i == j) = true ↔ i = j := by simp
section
variable {a b out : Array Nat} {x y : Ab} {u v g ac bc s : Nat}
theorem run_hp2 (ha : In n a) (hb : In n b) (ml : MH a b out u v) (hu : 1 ≤ u) (hua : u ≤ a.size) (hv : 2 ≤ v) (hvb : v ≤ b.size) (hs : u + v + s ≤ a.size + b.size + 1) (gx : Gx x y) : Run (n := n) (lt := lt) (fun c => hp2 (a.map c.k) (b.map c.k) (out.map c.k) u v g ac bc) (cvS cvH) y (Uv a b x s s) := by
  unfold hp2
  refine Run.bind (Run.elem (show u - 1 < a.size by omega) ?_)
  have m5 := ml.pa hu hua
  refine Run.iteC (u - 1 = 0) (fun c => beq_n _ _) (fun e3 => ?_) (fun e3 => ?_)
  · refine Run.of (ForInStep.done (some (a.extract 0 (u - 1) ++ b.extract 0 v ++ (out.push (a.getD (u - 1) 0)).reverse), u - 1, v, out.push (a.getD (u - 1) 0), g, ac, bc)) (.inl ⟨gx, _, rfl, m5.done⟩) (fun c => ?_)
    rw [k_push, k_fin3]
    rfl
  · have iv : Jv a b x s (none, u - 1, v, out.push (a.getD (u - 1) 0), g, ac, bc) y := ⟨gx, rfl, m5, by show 1 ≤ u - 1; omega, hv, by show u - 1 ≤ a.size; omega, hvb, by show u - 1 + v + s ≤ _; omega⟩
    refine Run.ite (fun _ => ?_) (fun _ => ?_)
    · refine Run.of (ForInStep.done (none, u - 1, v, out.push (a.getD (u - 1) 0), g, ac, bc)) (.inr iv) (fun c => ?_)
      rw [k_push]
      rfl
    · refine Run.of (ForInStep.yield (none, u - 1, v, out.push (a.getD (u - 1) 0), g, ac, bc)) iv (fun c => ?_)
      rw [k_push]
      rfl
theorem run_hp1 (ha : In n a) (hb : In n b) (ml : MH a b out u v) (hu : 1 ≤ u) (hua : u ≤ a.size) (hv : 2 ≤ v) (hvb : v ≤ b.size) (hs : u + v + s ≤ a.size + b.size) (gx : Gx x y) : Run (n := n) (lt := lt) (fun c => hp1 (a.map c.k) (b.map c.k) (out.map c.k) u v g ac bc) (cvS cvH) y (Uv a b x s s) := by
  unfold hp1
  refine Run.bind (Run.elem (show v - 1 < b.size by omega) ?_)
  have m3 := ml.pb (by omega) hvb
  refine Run.iteC (v - 1 = 1) (fun c => beq_n _ _) (fun e => ?_) (fun e => ?_)
  · refine Run.of (ForInStep.done (some (b.extract 0 (v - 1) ++ a.extract 0 u ++ (out.push (b.getD (v - 1) 0)).reverse), u, v - 1, out.push (b.getD (v - 1) 0), g, ac, bc)) (.inl ⟨gx, _, rfl, m3.last⟩) (fun c => ?_)
    rw [k_push, k_fin3]
    rfl
  refine Run.bind (Run.elem (show u - 1 < a.size by omega) (Run.bind0 ((run_gal (m := v - 1) (ha (u - 1) (by omega)) hb (by omega) (by omega)).mono ?_)))
  rintro _ w3 ⟨rfl, k, rfl, hk⟩
  refine Run.iteC (v - 1 - k > 0) (fun c => Iff.rfl) (fun p2 => ?_) (fun p2 => ?_)
  · have m4 := m3.eb (k := k) (by omega)
    refine Run.iteC (k = 1) (fun c => beq_n _ _) (fun e2 => ?_) (fun e2 => Run.iteC (k = 0) (fun c => beq_n _ _) (fun e3 => ?_) (fun e3 => ?_))
    · refine Run.of (ForInStep.done (some (b.extract 0 k ++ a.extract 0 u ++ (out.push (b.getD (v - 1) 0) ++ (b.extract k (v - 1)).reverse).reverse), u, k, out.push (b.getD (v - 1) 0) ++ (b.extract k (v - 1)).reverse, g, ac, v - 1 - k)) (.inl ⟨gx, _, rfl, m4.last⟩) (fun c => ?_)
      rw [k_push, k_rev, k_fin3]
      rfl
    · refine Run.of (ForInStep.done (some (a.extract 0 u ++ b.extract 0 k ++ (out.push (b.getD (v - 1) 0) ++ (b.extract k (v - 1)).reverse).reverse), u, k, out.push (b.getD (v - 1) 0) ++ (b.extract k (v - 1)).reverse, g, ac, v - 1 - k)) (.inl ⟨gx, _, rfl, m4.done⟩) (fun c => ?_)
      rw [k_push, k_rev, k_fin3]
      rfl
    · refine Run.to (fun c => by rw [k_push, k_rev]) (run_hp2 ha hb m4 hu hua (by omega) (by omega) (by omega) gx)
  · exact Run.to (fun c => by rw [k_push]) (run_hp2 ha hb m3 hu hua (by omega) (by omega) (by omega) gx)
theorem run_hp0 (ha : In n a) (hb : In n b) (ml : MH a b out u v) (hu : 1 ≤ u) (hua : u ≤ a.size) (hv : 2 ≤ v) (hvb : v ≤ b.size) (hs : u + v + s ≤ a.size + b.size) (gx : Gx x y) : Run (n := n) (lt := lt) (fun c => hp0 (a.map c.k) (b.map c.k) (out.map c.k) u v g ac bc) (cvS cvH) y (Uv a b x s s) := by
  unfold hp0
  refine Run.bind0 (Run.modify ⟨y.p, y.pend, g⟩ (fun c => rfl) ?_)
  have gx' : Gx x ⟨y.p, y.pend, g⟩ := ⟨gx.1, gx.2⟩
  refine Run.bind (Run.elem (show v - 1 < b.size by omega) (Run.bind0 ((run_gal (m := u) (hb (v - 1) (by omega)) ha (by omega) (by omega)).mono ?_)))
  rintro _ w2 ⟨rfl, k, rfl, hk⟩
  refine Run.iteC (u - k > 0) (fun c => Iff.rfl) (fun p1 => ?_) (fun p1 => ?_)
  · have n2 := ml.ea (k := k) (by omega)
    refine Run.iteC (k = 0) (fun c => beq_n _ _) (fun e1 => ?_) (fun e1 => ?_)
    · refine Run.of (ForInStep.done (some (a.extract 0 k ++ b.extract 0 v ++ (out ++ (a.extract k u).reverse).reverse), k, v, out ++ (a.extract k u).reverse, g, u - k, bc)) (.inl ⟨gx', _, rfl, n2.done⟩) (fun c => ?_)
      rw [k_rev, k_fin3]
      rfl
    · exact Run.to (fun c => by rw [k_rev]) (run_hp1 ha hb n2 (by omega) (by omega) hv hvb (by omega) gx')
  · exact run_hp1 ha hb ml hu hua hv hvb hs gx'
theorem run_galH {t : Option (Array Nat) × Nat × Nat × Array Nat × Nat × Nat × Nat} (ha : In n a) (hb : In n b) (h : Jv a b x s t y) : Run (n := n) (lt := lt) (fun c => galH (a.map c.k) (b.map c.k) (cvH c t)) (cvS cvH) y (Uv a b x s s) := by
  obtain ⟨gx, _, ml, h1, h2, h4, h5, h3⟩ := h
  obtain ⟨r, u, v, o, g, ac, bc⟩ := t
  have h1 : 1 ≤ u := h1
  have h2 : 2 ≤ v := h2
  have h4 : u ≤ a.size := h4
  have h5 : v ≤ b.size := h5
  have h3 : u + v + s ≤ a.size + b.size := h3
  have ml : MH a b o u v := ml
  refine Run.to (m' := fun c => if g > 1 then hp0 (a.map c.k) (b.map c.k) (o.map c.k) u v (g - 1) ac bc else hp0 (a.map c.k) (b.map c.k) (o.map c.k) u v g ac bc) (fun c => rfl) ?_
  exact Run.ite (fun _ => run_hp0 ha hb ml h1 h4 h2 h5 h3 gx) (fun _ => run_hp0 ha hb ml h1 h4 h2 h5 h3 gx)
theorem run_strH {t : Option (Array Nat) × Nat × Nat × Array Nat × Nat × Nat} (ha : In n a) (hb : In n b) (h : Jv a b x s t y) : Run (n := n) (lt := lt) (fun c => strH (a.map c.k) (b.map c.k) g (cvH c t)) (cvS cvH) y (Uv a b x (s + 1) (s + 1)) := by
  obtain ⟨gx, _, ml, h1, h2, h4, h5, h3⟩ := h
  obtain ⟨r, u, v, o, ac, bc⟩ := t
  have h1 : 1 ≤ u := h1
  have h2 : 2 ≤ v := h2
  have h4 : u ≤ a.size := h4
  have h5 : v ≤ b.size := h5
  have h3 : u + v + s ≤ a.size + b.size := h3
  have ml : MH a b o u v := ml
  unfold strH
  refine Run.bind (Run.elem (show v - 1 < b.size by omega) (Run.bind (Run.elem (show u - 1 < a.size by omega) (Run.bind0 (Run.less (hb (v - 1) (by omega)) (ha (u - 1) (by omega)) ?_)))))
  refine Run.ite (fun _ => ?_) (fun _ => ?_)
  · refine Run.bind (Run.elem (show u - 1 < a.size by omega) ?_)
    have m2 := ml.pa h1 h4
    refine Run.iteC (u - 1 = 0) (fun c => beq_n _ _) (fun e => ?_) (fun e => ?_)
    · refine Run.of (ForInStep.done (some (a.extract 0 (u - 1) ++ b.extract 0 v ++ (o.push (a.getD (u - 1) 0)).reverse), u - 1, v, o.push (a.getD (u - 1) 0), ac + 1, 0)) (.inl ⟨gx, _, rfl, m2.done⟩) (fun c => ?_)
      show ForInStep.done (some (fin3 ((o.map c.k).push _) _ _ _ _), _, _, (o.map c.k).push _, _) = _
      rw [k_push, k_fin3]
      rfl
    · have iv : Jv a b x (s + 1) (none, u - 1, v, o.push (a.getD (u - 1) 0), ac + 1, 0) y := ⟨gx, rfl, m2, by show 1 ≤ u - 1; omega, h2, by show u - 1 ≤ a.size; omega, h5, by show u - 1 + v + (s + 1) ≤ _; omega⟩
      refine Run.iteC (ac + 1 ≥ g) (fun c => Iff.rfl) (fun _ => ?_) (fun _ => ?_)
      · refine Run.of (ForInStep.done (none, u - 1, v, o.push (a.getD (u - 1) 0), ac + 1, 0)) (.inr iv) (fun c => ?_)
        show ForInStep.done (none, _, _, (o.map c.k).push _, _) = _
        rw [k_push]
        rfl
      · refine Run.of (ForInStep.yield (none, u - 1, v, o.push (a.getD (u - 1) 0), ac + 1, 0)) iv (fun c => ?_)
        show ForInStep.yield (none, _, _, (o.map c.k).push _, _) = _
        rw [k_push]
        rfl
  · refine Run.bind (Run.elem (show v - 1 < b.size by omega) ?_)
    have m2 := ml.pb (by omega) h5
    refine Run.iteC (v - 1 = 1) (fun c => beq_n _ _) (fun e => ?_) (fun e => ?_)
    · refine Run.of (ForInStep.done (some (b.extract 0 (v - 1) ++ a.extract 0 u ++ (o.push (b.getD (v - 1) 0)).reverse), u, v - 1, o.push (b.getD (v - 1) 0), 0, bc + 1)) (.inl ⟨gx, _, rfl, m2.last⟩) (fun c => ?_)
      show ForInStep.done (some (fin3 ((o.map c.k).push _) _ _ _ _), _, _, (o.map c.k).push _, _) = _
      rw [k_push, k_fin3]
      rfl
    · have iv : Jv a b x (s + 1) (none, u, v - 1, o.push (b.getD (v - 1) 0), 0, bc + 1) y := ⟨gx, rfl, m2, h1, by show 2 ≤ v - 1; omega, h4, by show v - 1 ≤ b.size; omega, by show u + (v - 1) + (s + 1) ≤ _; omega⟩
      refine Run.iteC (bc + 1 ≥ g) (fun c => Iff.rfl) (fun _ => ?_) (fun _ => ?_)
      · refine Run.of (ForInStep.done (none, u, v - 1, o.push (b.getD (v - 1) 0), 0, bc + 1)) (.inr iv) (fun c => ?_)
        show ForInStep.done (none, _, _, (o.map c.k).push _, _) = _
        rw [k_push]
        rfl
      · refine Run.of (ForInStep.yield (none, u, v - 1, o.push (b.getD (v - 1) 0), 0, bc + 1)) iv (fun c => ?_)
        show ForInStep.yield (none, _, _, (o.map c.k).push _, _) = _
        rw [k_push]
        rfl
theorem Jv.up {τ : Type} {s' : Nat} {t : Option (Array Nat) × Nat × Nat × Array Nat × τ} (h : Jv a b x s t y) (hs : s' ≤ s) : Jv a b x s' t y := ⟨h.1, h.2.1, h.2.2.1, h.2.2.2.1, h.2.2.2.2.1, h.2.2.2.2.2.1, h.2.2.2.2.2.2.1, by have := h.2.2.2.2.2.2.2; omega⟩
theorem Qv.up {τ : Type} {s' : Nat} {t : Option (Array Nat) × Nat × Nat × Array Nat × τ} (h : Qv a b x s t y) (hs : s' ≤ s) : Qv a b x s' t y := h.elim .inl fun h => .inr (h.up hs)
theorem run_turnH {t : Option (Array Nat) × Nat × Nat × Array Nat × Nat} (ha : In n a) (hb : In n b) (b1 : 1 ≤ b.size) (h : Jv a b x s t y) : Run (n := n) (lt := lt) (fun c => turnH (a.map c.k) (b.map c.k) (cvH c t)) (cvS cvH) y (Vv a b x (s + 1)) := by
  obtain ⟨r, u, v, o, g⟩ := t
  unfold turnH
  refine Run.bind ((Run.loop (a.size + b.size) (cvH (τ := Nat × Nat)) (none, u, v, o, 0, 0) (fun j t y => Jv a b x (s + j) t y) (P := fun t y => Qv a b x (s + 1) t y) (fun c => by rw [Array.size_map, Array.size_map]) (fun c => rfl) ⟨h.1, rfl, h.2.2.1, h.2.2.2.1, h.2.2.2.2.1, h.2.2.2.2.2.1, h.2.2.2.2.2.2.1, h.2.2.2.2.2.2.2⟩ ?st ?en).mono ?co)
  case st =>
    intro j t z hj iv
    refine (run_strH ha hb iv).mono fun r w hr => ?_
    cases r with
    | done t => exact Qv.up hr (by omega)
    | yield t => exact hr
  case en =>
    intro t z iv
    exact .inr (iv.up (by omega))
  case co =>
    rintro ⟨r, u, v, o, ac, bc⟩ z hr
    rcases hr with ⟨gz, r', er, pr⟩ | iv
    · cases er
      exact Run.of (ForInStep.done (some r', u, v, o, g)) ⟨gz, r', rfl, pr⟩ (fun c => rfl)
    have er : r = none := iv.2.1
    subst er
    refine Run.bind0 (Run.rule ?_)
    refine Run.bind ((Run.loop (a.size + b.size) (cvH (τ := Nat × Nat × Nat)) (none, u, v, o, g + 1, ac, bc) (fun j t y => Jv a b x (s + 1) t y) (P := fun t y => Qv a b x (s + 1) t y) (fun c => by rw [Array.size_map, Array.size_map]) (fun c => rfl) iv ?st2 ?en2).mono ?co2)
    case st2 =>
      intro j t z hj iv
      exact (run_galH ha hb iv).mono fun r w hr => by cases r <;> exact hr
    case en2 =>
      intro t z iv
      exact .inr iv
    case co2 =>
      rintro ⟨r, u, v, o, g, ac, bc⟩ z hr
      rcases hr with ⟨gz, r', er, pr⟩ | iv
      · cases er
        exact Run.of (ForInStep.done (some r', u, v, o, g)) ⟨gz, r', rfl, pr⟩ (fun c => rfl)
      have er : r = none := iv.2.1
      subst er
      refine Run.bind0 (Run.modify ⟨z.p, z.pend, g + 1⟩ (fun c => rfl) ?_)
      exact Run.of (ForInStep.yield (none, u, v, o, g + 1)) ⟨⟨iv.1.1, iv.1.2⟩, rfl, iv.2.2⟩ (fun c => rfl)
end
theorem run_mergeHi {a b : Array Nat} {x : Ab} (ha : In n a) (hb : In n b) (a1 : 1 ≤ a.size) (b1 : 1 ≤ b.size) : Run (n := n) (lt := lt) (fun c => mergeHi' (a.map c.k) (b.map c.k)) arr x (PL a b x) := by
  refine Run.to (m' := fun c => liftM (PySem.rule "list.sort.merge-hi") >>= fun _ => elem' (a.map c.k) (a.size - 1) >>= fun y => if (a.size - 1 == 0) = true then Pure.pure (fin3 #[y] (a.map c.k) (b.map c.k) (a.size - 1) b.size)
    else if (b.size == 1) = true then Pure.pure (fin3 #[y] (b.map c.k) (a.map c.k) b.size (a.size - 1))
    else get >>= fun s => (forIn [0:a.size + b.size] (none, a.size - 1, b.size, #[y], gallopOf s) fun _ t => turnH (a.map c.k) (b.map c.k) t) >>= fun t => match t.1 with
      | some r => Pure.pure r
      | none => liftM (PySem.unsupported "internal:list.sort.merge-bound")) (fun c => by rw [mrgH_eq]; unfold mrgH; simp only [Array.size_map]) ?_
  refine Run.bind0 (Run.rule ?_)
  refine Run.bind (Run.elem (show a.size - 1 < a.size by omega) ?_)
  have m0 : MH a b #[a.getD (a.size - 1) 0] (a.size - 1) b.size := ⟨by
    have e := take_at (a := a) (i := a.size) a1 (Nat.le_refl _)
    rw [List.take_of_length_le (by simp)] at e
    have e2 : b.toList.take b.size = b.toList := List.take_of_length_le (by simp)
    rw [e2]
    conv => rhs; rw [e]
    rw [List.append_assoc, List.append_assoc]
    exact List.Perm.append_left _ List.perm_append_comm⟩
  refine Run.iteC (a.size - 1 = 0) (fun c => beq_n _ _) (fun h => ?_) (fun h => ?_)
  · refine Run.of (a.extract 0 (a.size - 1) ++ b.extract 0 b.size ++ (#[a.getD (a.size - 1) 0] : Array Nat).reverse) ⟨m0.done, Gx.refl x⟩ (fun c => ?_)
    rw [k_one, k_fin3]
  refine Run.iteC (b.size = 1) (fun c => beq_n _ _) (fun h => ?_) (fun h' => ?_)
  · refine Run.of (b.extract 0 b.size ++ a.extract 0 (a.size - 1) ++ (#[a.getD (a.size - 1) 0] : Array Nat).reverse) ⟨m0.last, Gx.refl x⟩ (fun c => ?_)
    rw [k_one, k_fin3]
  refine Run.bind (Run.get ?_)
  refine Run.bind ((Run.loop (a.size + b.size) (cvH (τ := Nat)) (none, a.size - 1, b.size, #[a.getD (a.size - 1) 0], x.g) (fun j t y => Jv a b x (j + 1) t y) (P := fun t y => Gx x y ∧ ∃ r, t.1 = some r ∧ r.toList.Perm (a.toList ++ b.toList)) ?eh ?eb ⟨Gx.refl x, rfl, m0, by show 1 ≤ a.size - 1; omega, by show 2 ≤ b.size; omega, by show a.size - 1 ≤ a.size; omega, Nat.le_refl _, by show a.size - 1 + b.size + (0 + 1) ≤ _; omega⟩ ?st ?en).mono ?co)
  case eh => intro c; rfl
  case eb => intro c; exact Prod.ext rfl (Prod.ext rfl (Prod.ext rfl (Prod.ext (k_one c _) rfl)))
  case st =>
    intro j t z hj iv
    refine (run_turnH ha hb b1 iv).mono fun r w hr => ?_
    cases r with
    | yield t => exact hr
    | done t => exact hr
  case en =>
    rintro ⟨r, u, v, o, g⟩ z ⟨_, _, _, h1, h2, _, _, h3⟩
    exfalso
    have h1 : 1 ≤ u := h1
    have h3 : u + v + (a.size + b.size + 1) ≤ a.size + b.size := h3
    omega
  case co =>
    rintro ⟨r, u, v, o, g⟩ z ⟨gz, r', er, pr⟩
    cases er
    exact Run.of r' ⟨pr, gz⟩ (fun c => rfl)
end
end DLS

set_option Elab.async false
set_option linter.all false
set_option maxRecDepth 100000
namespace DLS
open PySem PySem.Spec PySem.W PyProof.Rows
/-! runs counted, put in by halves -/
def ascL (lo a m : Nat) : SM (Option (Option Nat) × Nat) :=
  forIn [a:m] (none, a) fun _ t => ltAt' (lo + t.2) (lo + t.2 - 1) >>= fun z => match z with
    | some b => if b = true then Pure.pure (.done (none, t.2)) else Pure.pure (.yield (none, t.2 + 1))
    | _ => Pure.pure (.done (some none, t.2))
def descT (lo : Nat) (t : Option (Option Nat) × Nat × Nat) : SM (ForInStep (Option (Option Nat) × Nat × Nat)) :=
  ltAt' (lo + t.2.1) (lo + t.2.1 - 1) >>= fun z => match z with
    | some b => if b = true then (if t.2.2 > 0 then reverseSlice' (lo + t.2.1 - (t.2.2 + 1)) (lo + t.2.1) >>= fun _ => Pure.pure (.yield (none, t.2.1 + 1, 0)) else Pure.pure (.yield (none, t.2.1 + 1, 0)))
        else ltAt' (lo + t.2.1 - 1) (lo + t.2.1) >>= fun z => match z with
          | some b => if b = true then Pure.pure (.done (none, t.2.1, t.2.2)) else Pure.pure (.yield (none, t.2.1 + 1, t.2.2 + 1))
          | _ => Pure.pure (.done (some none, t.2.1, t.2.2))
    | _ => Pure.pure (.done (some none, t.2.1, t.2.2))
def tailC (lo k m : Nat) : SM (Option Nat) :=
  reverseSlice' lo (lo + k) >>= fun _ => ascL lo k m >>= fun t => match t.1 with
    | some r => Pure.pure r
    | none => Pure.pure (some t.2)
def descC (lo k m : Nat) : SM (Option Nat) :=
  liftM (PySem.rule "list.sort.descending-run") >>= fun _ => (forIn [k + 1:m] (none, k + 1, 0) fun _ t => descT lo t) >>= fun t => match t.1 with
    | some r => Pure.pure r
    | none => if t.2.2 > 0 then reverseSlice' (lo + t.2.1 - (t.2.2 + 1)) (lo + t.2.1) >>= fun _ => tailC lo t.2.1 m else tailC lo t.2.1 m
def cntR (lo m : Nat) : SM (Option Nat) :=
  ascL lo 1 m >>= fun t => match t.1 with
    | some r => Pure.pure r
    | none => if (t.2 == m) = true then Pure.pure (some t.2) else if t.2 > 1 then ltAt' lo (lo + t.2 - 1) >>= fun z => (match z with
          | some b => if b = true then Pure.pure (some t.2) else reverseSlice' lo (lo + t.2) >>= fun _ => descC lo t.2 m
          | _ => Pure.pure none)
        else descC lo t.2 m
set_option maxHeartbeats 1000000 in
theorem cntR_eq (lo m : Nat) : countRun' lo m = cntR lo m := by
  have asc : ∀ {f : Nat → Option (Option Nat) × Nat → SM (ForInStep (Option (Option Nat) × Nat))} (a : Nat), (∀ i t, f i t = (ltAt' (lo + t.2) (lo + t.2 - 1) >>= fun z => match z with
      | some b => if b = true then Pure.pure (.done (none, t.2)) else Pure.pure (.yield (none, t.2 + 1))
      | _ => Pure.pure (.done (some none, t.2)))) → (forIn [a:m] (none, a) f : SM _) = ascL lo a m := fun a h => for_c h
  have tl : ∀ (k : Nat) {f : Nat → Option (Option Nat) × Nat → SM (ForInStep (Option (Option Nat) × Nat))} {g : Option (Option Nat) × Nat → SM (Option Nat)}, (∀ i t, f i t = (ltAt' (lo + t.2) (lo + t.2 - 1) >>= fun z => match z with
      | some b => if b = true then Pure.pure (.done (none, t.2)) else Pure.pure (.yield (none, t.2 + 1))
      | _ => Pure.pure (.done (some none, t.2)))) → (∀ t, g t = match t.1 with
      | some r => Pure.pure r
      | none => Pure.pure (some t.2)) → (reverseSlice' lo (lo + k) >>= fun _ => (forIn [k:m] (none, k) f : SM _) >>= g) = tailC lo k m := fun k f g h h2 => bind_c rfl fun _ => bind_c (asc k h) h2
  refine bind_c (asc 1 fun i t => bind_c rfl fun z => by cases z <;> rfl) fun t => ?_
  obtain ⟨r, k⟩ := t
  cases r with
  | some r => rfl
  | none =>
    refine ite_c (fun _ => rfl) fun _ => ?_
    refine ite_c (fun _ => bind_c rfl fun z => ?_) fun _ => ?_
    · cases z with
      | none => rfl
      | some b =>
        refine ite_c (fun _ => rfl) fun _ => bind_c rfl fun _ => ?_
        refine bind_c rfl fun _ => bind_c (for_c fun i t => bind_c rfl fun z => ?_) fun t => ?_
        · cases z with
          | none => rfl
          | some b => exact ite_c (fun _ => rfl) fun _ => bind_c rfl fun z => by cases z <;> rfl
        · obtain ⟨r, k, q⟩ := t
          cases r with
          | some r => rfl
          | none => exact ite_c (fun _ => bind_c rfl fun _ => tl k (fun i t => bind_c rfl fun z => by cases z <;> rfl) (fun t => by obtain ⟨r, k⟩ := t; cases r <;> rfl)) fun _ => tl k (fun i t => bind_c rfl fun z => by cases z <;> rfl) (fun t => by obtain ⟨r, k⟩ := t; cases r <;> rfl)
    · refine bind_c rfl fun _ => bind_c (for_c fun i t => bind_c rfl fun z => ?_) fun t => ?_
      · cases z with
        | none => rfl
        | some b => exact ite_c (fun _ => rfl) fun _ => bind_c rfl fun z => by cases z <;> rfl
      · obtain ⟨r, k, q⟩ := t
        cases r with
        | some r => rfl
        | none => exact ite_c (fun _ => bind_c rfl fun _ => tl k (fun i t => bind_c rfl fun z => by cases z <;> rfl) (fun t => by obtain ⟨r, k⟩ := t; cases r <;> rfl)) fun _ => tl k (fun i t => bind_c rfl fun z => by cases z <;> rfl) (fun t => by obtain ⟨r, k⟩ := t; cases r <;> rfl)
def bsIn (lo k : Nat) : SM (Option Bool × Nat × Nat) :=
  forIn [0:k] (none, 0, k) fun _ t => if t.2.1 ≥ t.2.2 then Pure.pure (.done (none, t.2.1, t.2.2)) else ltAt' (lo + k) (lo + (t.2.1 + t.2.2) / 2) >>= fun z => match z with
    | some b => if b = true then Pure.pure (.yield (none, t.2.1, (t.2.1 + t.2.2) / 2)) else Pure.pure (.yield (none, (t.2.1 + t.2.2) / 2 + 1, t.2.2))
    | _ => Pure.pure (.done (some false, t.2.1, t.2.2))
def binS (lo m ok : Nat) : SM Bool :=
  (forIn [max ok 1:m] ((none, ()) : Option Bool × Unit) fun k _ => bsIn lo k >>= fun s => match s.1 with
    | some r => Pure.pure (.done (some r, ()))
    | none => moveDown' (lo + k) (lo + s.2.1) >>= fun _ => Pure.pure (.yield (none, ()))) >>= fun t => match t.1 with
    | some r => Pure.pure r
    | none => Pure.pure true
theorem binS_eq (lo m ok : Nat) : binarySort' lo m ok = binS lo m ok := by
  refine bind_c (for_c fun k t => bind_c (for_c fun i t => ?_) fun s => ?_) fun t => ?_
  · obtain ⟨r, l, o⟩ := t
    refine ite_c (fun _ => rfl) fun _ => bind_c rfl fun z => ?_
    cases z <;> rfl
  · obtain ⟨r, l, o⟩ := s
    cases r <;> rfl
  · obtain ⟨r, u⟩ := t
    cases r <;> rfl
section
variable {n : Nat} {lt : Nat → Nat → Bool}
/-- only the places have changed theirs -/
def Px (x x' : Ab) : Prop := x'.p.toList.Perm x.p.toList ∧ x'.pend = x.pend ∧ x'.g = x.g
theorem Px.refl (x : Ab) : Px x x := ⟨List.Perm.refl _, rfl, rfl⟩
theorem Px.trans {x y z : Ab} (h : Px x y) (h' : Px y z) : Px x z := ⟨h'.1.trans h.1, h'.2.1.trans h.2.1, h'.2.2.trans h.2.2⟩
theorem In.mem {a : Array Nat} (h : In n a) : ∀ v ∈ a.toList, v < n := fun v hv => by
  obtain ⟨i, hi, e⟩ := List.mem_iff_getElem.mp hv
  have hi' : i < a.size := by simpa using hi
  have := h i hi'
  simp [Array.getD, hi'] at this
  rw [← e]
  simpa using this
theorem In.of {a : Array Nat} (h : ∀ v ∈ a.toList, v < n) : In n a := fun i hi => by
  have e : a.getD i 0 = a[i] := by simp [Array.getD, hi]
  rw [e]
  exact h _ (by simp)
theorem In.perm {a b : Array Nat} (h : In n a) (p : b.toList.Perm a.toList) : In n b := In.of fun v hv => h.mem v (p.mem_iff.mp hv)
theorem sz_perm {a b : Array Nat} (p : b.toList.Perm a.toList) : b.size = a.size := by simpa using p.length_eq
theorem Px.in {x y : Ab} (h : Px x y) (hi : In n x.p) : In n y.p := hi.perm h.1
theorem Px.sz {x y : Ab} (h : Px x y) : y.p.size = x.p.size := sz_perm h.1
theorem Run.rev {x : Ab} {i j : Nat} {P : Unit → Ab → Prop} (h : ∀ y, Px x y → P () y) : Run (n := n) (lt := lt) (fun _ => reverseSlice' i j) same x P := by
  refine Run.to (fun c => reverseSlice'_eq i j) (Run.modify ⟨mirror x.p i j ((j - i) / 2), x.pend, x.g⟩ (fun c => ?_) (h _ ⟨(mirror_perm x.p i j _).toList, rfl, rfl⟩))
  show SortSt.mk' c.κ (mirror (x.p.map c.k) i j ((j - i) / 2)) x.pend x.g none = SortSt.mk' c.κ ((mirror x.p i j ((j - i) / 2)).map c.k) x.pend x.g none
  have e1 : mirror (x.p.map c.k) i j ((j - i) / 2) = (mirror x.p i j ((j - i) / 2)).map c.k := kas_swaps_map c.k (fun k => i + k) (fun k => j - 1 - k) _ x.p
  rw [e1]
theorem Run.down {x : Ab} {k l : Nat} {P : Unit → Ab → Prop} (h : ∀ y, Px x y → P () y) : Run (n := n) (lt := lt) (fun _ => moveDown' k l) same x P := by
  refine Run.to (fun c => moveDown'_eq k l) (Run.modify ⟨bubble x.p k (k - l), x.pend, x.g⟩ (fun c => ?_) (h _ ⟨(bubble_perm x.p k _).toList, rfl, rfl⟩))
  show SortSt.mk' c.κ (bubble (x.p.map c.k) k (k - l)) x.pend x.g none = SortSt.mk' c.κ ((bubble x.p k (k - l)).map c.k) x.pend x.g none
  have e1 : bubble (x.p.map c.k) k (k - l) = (bubble x.p k (k - l)).map c.k := kas_swaps_map c.k (fun i => k - i) (fun i => k - i - 1) _ x.p
  rw [e1]
theorem Run.ltA {x : Ab} {i j : Nat} (hp : In n x.p) (hi : i < x.p.size) (hj : j < x.p.size) : Run (n := n) (lt := lt) (fun _ => ltAt' i j) same x (Say x) := Run.ltAt hi hj (hp i hi) (hp j hj) ⟨rfl, _, rfl⟩
theorem run_asc {x : Ab} {lo a m : Nat} (hp : In n x.p) (h1 : 1 ≤ a) (ha : a ≤ m) (hs : lo + m ≤ x.p.size) : Run (n := n) (lt := lt) (fun _ => ascL lo a m) same x (fun t y => y = x ∧ t.1 = none ∧ a ≤ t.2 ∧ t.2 ≤ m) := by
  unfold ascL
  refine Run.range0 a m (fun i t y => y = x ∧ t.1 = none ∧ a ≤ t.2 ∧ t.2 ≤ i) ⟨rfl, rfl, Nat.le_refl _, Nat.le_refl _⟩ ?_ (fun t y h => ⟨h.1, h.2.1, h.2.2.1, by have := h.2.2.2; omega⟩)
  rintro i ⟨r, k⟩ y hi1 hi2 ⟨rfl, rfl, g1, g2⟩
  have g1 : a ≤ k := g1
  have g2 : k ≤ i := g2
  refine Run.bind0 ((Run.ltA hp (show lo + k < _ by omega) (show lo + k - 1 < _ by omega)).mono ?_)
  rintro _ _ ⟨rfl, b, rfl⟩
  exact Run.ite (fun _ => Run.of (ForInStep.done (none, k)) ⟨rfl, rfl, g1, by show k ≤ m; omega⟩) (fun _ => Run.of (ForInStep.yield (none, k + 1)) ⟨rfl, rfl, by show a ≤ k + 1; omega, by show k + 1 ≤ i + 1; omega⟩)
abbrev Cnt (x : Ab) (m : Nat) : Option Nat → Ab → Prop := fun r y => Px x y ∧ ∃ k, r = some k ∧ 1 ≤ k ∧ k ≤ m
theorem run_tailC {x : Ab} {lo k m : Nat} (hp : In n x.p) (h1 : 1 ≤ k) (hk : k ≤ m) (hs : lo + m ≤ x.p.size) : Run (n := n) (lt := lt) (fun _ => tailC lo k m) same x (Cnt x m) := by
  unfold tailC
  refine Run.bind0 (Run.rev fun y px => ?_)
  refine Run.bind0 ((run_asc (px.in hp) h1 hk (by rw [px.sz]; exact hs)).mono ?_)
  rintro ⟨r, j⟩ _ ⟨rfl, rfl, g1, g2⟩
  exact Run.of (some j) ⟨px, j, rfl, by have : k ≤ j := g1; omega, g2⟩
theorem run_descC {x : Ab} {lo k m : Nat} (hp : In n x.p) (h1 : 1 ≤ k) (hk : k + 1 ≤ m) (hs : lo + m ≤ x.p.size) : Run (n := n) (lt := lt) (fun _ => descC lo k m) same x (Cnt x m) := by
  unfold descC
  refine Run.bind0 (Run.rule ?_)
  have h : Run (n := n) (lt := lt) (fun _ => (forIn [k + 1:m] ((none, k + 1, 0) : Option (Option Nat) × Nat × Nat) fun _ t => descT lo t : SM _)) same x (fun t y => Px x y ∧ t.1 = none ∧ 1 ≤ t.2.1 ∧ t.2.1 ≤ m) := by
    refine Run.range0 (k + 1) m (fun i t y => Px x y ∧ t.1 = none ∧ 1 ≤ t.2.1 ∧ t.2.1 ≤ i) ⟨Px.refl x, rfl, by show 1 ≤ k + 1; omega, Nat.le_refl _⟩ ?_ (fun t y h => ⟨h.1, h.2.1, h.2.2.1, by have := h.2.2.2; omega⟩)
    rintro i ⟨r, j, q⟩ y hi1 hi2 ⟨px, rfl, g1, g2⟩
    have g1 : 1 ≤ j := g1
    have g2 : j ≤ i := g2
    have sz := px.sz
    have ip := px.in hp
    unfold descT
    refine Run.bind0 ((Run.ltA ip (show lo + j < _ by omega) (show lo + j - 1 < _ by omega)).mono ?_)
    rintro _ _ ⟨rfl, b, rfl⟩
    refine Run.ite (fun _ => Run.ite (fun _ => Run.bind0 (Run.rev fun z pz => ?_)) (fun _ => ?_)) (fun _ => ?_)
    · exact Run.of (ForInStep.yield (none, j + 1, 0)) ⟨px.trans pz, rfl, by show 1 ≤ j + 1; omega, by show j + 1 ≤ i + 1; omega⟩
    · exact Run.of (ForInStep.yield (none, j + 1, 0)) ⟨px, rfl, by show 1 ≤ j + 1; omega, by show j + 1 ≤ i + 1; omega⟩
    · refine Run.bind0 ((Run.ltA ip (show lo + j - 1 < _ by omega) (show lo + j < _ by omega)).mono ?_)
      rintro _ _ ⟨rfl, b, rfl⟩
      exact Run.ite (fun _ => Run.of (ForInStep.done (none, j, q)) ⟨px, rfl, g1, by show j ≤ m; omega⟩) (fun _ => Run.of (ForInStep.yield (none, j + 1, q + 1)) ⟨px, rfl, by show 1 ≤ j + 1; omega, by show j + 1 ≤ i + 1; omega⟩)
  refine Run.bind0 (h.mono ?_)
  rintro ⟨r, j, q⟩ y ⟨px, rfl, g1, g2⟩
  have fin : ∀ z, Px x z → Run (n := n) (lt := lt) (fun _ => tailC lo j m) same z (Cnt x m) := fun z pz => (run_tailC (pz.in hp) g1 g2 (by rw [pz.sz]; exact hs)).mono fun r w hw => ⟨pz.trans hw.1, hw.2⟩
  exact Run.ite (fun _ => Run.bind0 (Run.rev fun z pz => fin z (px.trans pz))) (fun _ => fin y px)
theorem run_count {x : Ab} {lo m : Nat} (hp : In n x.p) (h1 : 1 ≤ m) (hs : lo + m ≤ x.p.size) : Run (n := n) (lt := lt) (fun _ => countRun' lo m) same x (Cnt x m) := by
  refine Run.to (fun c => cntR_eq lo m) ?_
  unfold cntR
  refine Run.bind0 ((run_asc hp (Nat.le_refl 1) h1 hs).mono ?_)
  rintro ⟨r, k⟩ _ ⟨rfl, rfl, g1, g2⟩
  have g1 : 1 ≤ k := g1
  have g2 : k ≤ m := g2
  refine Run.ite (fun _ => Run.of (some k) ⟨Px.refl _, k, rfl, g1, g2⟩) (fun e => ?_)
  have e : k ≠ m := fun z => e (by rw [z]; simp)
  refine Run.ite (fun _ => ?_) (fun _ => run_descC hp g1 (by omega) hs)
  refine Run.bind0 ((Run.ltA hp (show lo < _ by omega) (show lo + k - 1 < _ by omega)).mono ?_)
  rintro _ _ ⟨rfl, b, rfl⟩
  refine Run.ite (fun _ => Run.of (some k) ⟨Px.refl _, k, rfl, g1, g2⟩) (fun _ => Run.bind0 (Run.rev fun z pz => ?_))
  exact (run_descC (pz.in hp) g1 (by omega) (by rw [pz.sz]; exact hs)).mono fun r w hw => ⟨pz.trans hw.1, hw.2⟩
theorem run_bin {x : Ab} {lo m ok : Nat} (hp : In n x.p) (hs : lo + m ≤ x.p.size) : Run (n := n) (lt := lt) (fun _ => binarySort' lo m ok) same x (fun r y => Px x y ∧ r = true) := by
  refine Run.to (fun c => binS_eq lo m ok) ?_
  unfold binS
  refine Run.bind0 ((Run.range0 (max ok 1) m (fun i t y => Px x y ∧ t.1 = none) (P := fun t y => Px x y ∧ t.1 = none) ⟨Px.refl x, rfl⟩ ?_ (fun t y h => h)).mono ?_)
  · rintro k ⟨r, u⟩ y hk1 hk2 ⟨px, rfl⟩
    have sz := px.sz
    have ip := px.in hp
    have h : Run (n := n) (lt := lt) (fun _ => bsIn lo k) same y (fun t z => z = y ∧ t.1 = none) := by
      unfold bsIn
      refine Run.range0 0 k (fun i t z => z = y ∧ t.1 = none ∧ t.2.2 ≤ k) ⟨rfl, rfl, Nat.le_refl _⟩ ?_ (fun t z h => ⟨h.1, h.2.1⟩)
      rintro i ⟨r, l, o⟩ z _ _ ⟨rfl, rfl, g⟩
      have g : o ≤ k := g
      refine Run.ite (fun _ => Run.of (ForInStep.done (none, l, o)) ⟨rfl, rfl⟩) (fun h => ?_)
      have h : l < o := by simpa using h
      refine Run.bind0 ((Run.ltA ip (show lo + k < _ by omega) (show lo + (l + o) / 2 < _ by omega)).mono ?_)
      rintro _ _ ⟨rfl, b, rfl⟩
      exact Run.ite (fun _ => Run.of (ForInStep.yield (none, l, (l + o) / 2)) ⟨rfl, rfl, by show (l + o) / 2 ≤ k; omega⟩) (fun _ => Run.of (ForInStep.yield (none, (l + o) / 2 + 1, o)) ⟨rfl, rfl, g⟩)
    refine Run.bind0 (h.mono ?_)
    rintro ⟨r, l, o⟩ _ ⟨rfl, rfl⟩
    exact Run.bind0 (Run.down fun z pz => Run.of (ForInStep.yield (none, ())) ⟨px.trans pz, rfl⟩)
  · rintro ⟨r, u⟩ y ⟨px, rfl⟩
    exact Run.of true ⟨px, rfl⟩
end
end DLS

set_option Elab.async false
set_option linter.all false
set_option maxRecDepth 100000
namespace DLS
open PySem PySem.Spec PySem.W PyProof.Rows
/-- runs laid end to end, from s to e -/
def Chn : List (Nat × Nat × Nat) → Nat → Nat → Prop
  | [], s, e => s = e
  | q :: l, s, e => q.1 = s ∧ 1 ≤ q.2.1 ∧ Chn l (s + q.2.1) e
theorem Chn.le : ∀ {l : List (Nat × Nat × Nat)} {s e : Nat}, Chn l s e → s ≤ e
  | [], _, _, h => Nat.le_of_eq h
  | q :: l, s, e, h => by have := Chn.le h.2.2; omega
theorem Chn.push : ∀ {l : List (Nat × Nat × Nat)} {s e : Nat} {m p : Nat}, Chn l s e → 1 ≤ m → Chn (l ++ [(e, m, p)]) s (e + m)
  | [], _, _, _, _, h, hm => by cases h; exact ⟨rfl, hm, rfl⟩
  | q :: l, s, e, m, p, h, hm => ⟨h.1, h.2.1, Chn.push h.2.2 hm⟩
theorem Chn.two : ∀ {l : List (Nat × Nat × Nat)} {s e i : Nat} {q r : Nat × Nat × Nat}, Chn l s e → l[i]? = some q → l[i + 1]? = some r →
    r.1 = q.1 + q.2.1 ∧ r.1 + r.2.1 ≤ e ∧ 1 ≤ q.2.1 ∧ 1 ≤ r.2.1 ∧ Chn ((l.set i (q.1, q.2.1 + r.2.1, q.2.2)).eraseIdx (i + 1)) s e
  | [], _, _, _, _, _, _, h1, _ => by simp at h1
  | [a], _, _, 0, _, _, _, _, h2 => by simp at h2
  | a :: b :: l, s, e, 0, q, r, h, h1, h2 => by
    have e1 : a = q := by simpa using h1
    have e2 : b = r := by simpa using h2
    subst e1 e2
    obtain ⟨g1, g2, g3, g4, g5⟩ := h
    have := Chn.le g5
    refine ⟨by omega, by omega, g2, g4, ?_⟩
    show Chn ((a.1, a.2.1 + b.2.1, a.2.2) :: l) s e
    exact ⟨g1, by show 1 ≤ a.2.1 + b.2.1; omega, by show Chn l (s + (a.2.1 + b.2.1)) e; rw [← Nat.add_assoc]; exact g5⟩
  | a :: l, s, e, i + 1, q, r, h, h1, h2 => by
    obtain ⟨g1, g2, g3⟩ := h
    obtain ⟨k1, k2, k3, k4, k5⟩ := Chn.two g3 (by simpa using h1) (by simpa using h2)
    exact ⟨k1, k2, k3, k4, g1, g2, k5⟩
theorem Chn.mod {f : Nat × Nat × Nat → Nat × Nat × Nat} (hf : ∀ q, (f q).1 = q.1 ∧ (f q).2.1 = q.2.1) : ∀ {l : List (Nat × Nat × Nat)} {s e i : Nat}, Chn l s e → Chn (l.modify i f) s e
  | [], _, _, i, h => by cases i <;> exact h
  | q :: l, s, e, 0, h => by
    show Chn (f q :: l) s e
    exact ⟨(hf q).1.trans h.1, by rw [(hf q).2]; exact h.2.1, by rw [(hf q).2]; exact h.2.2⟩
  | q :: l, s, e, i + 1, h => by
    show Chn (q :: l.modify i f) s e
    exact ⟨h.1, h.2.1, Chn.mod hf h.2.2⟩
/-- a stretch is laid anew -/
def lay (p : Array Nat) (sa : Nat) (l : List (Nat × Nat)) : Array Nat := l.foldl (fun a x => a.setIfInBounds (sa + x.2) x.1) p
theorem lay_is : ∀ (l : List Nat) (k : Nat) (p : Array Nat) (sa : Nat), sa + k + l.length ≤ p.size → (lay p sa (l.zipIdx k)).toList = p.toList.take (sa + k) ++ l ++ p.toList.drop (sa + k + l.length)
  | [], k, p, sa, _ => by simp [lay]
  | v :: l, k, p, sa, h => by
    have h' : sa + k + (l.length + 1) ≤ p.size := by simpa using h
    have ih := lay_is l (k + 1) (p.setIfInBounds (sa + k) v) sa (by simp; omega)
    rw [List.zipIdx_cons]
    show (lay (p.setIfInBounds (sa + k) v) sa (l.zipIdx (k + 1))).toList = _
    rw [ih, Array.toList_setIfInBounds]
    have hl : sa + k < p.toList.length := by rw [Array.length_toList]; omega
    rw [show sa + (k + 1) = sa + k + 1 by omega, List.take_set, List.drop_set_of_lt (by omega)]
    have e1 : (p.toList.take (sa + k + 1)).set (sa + k) v = p.toList.take (sa + k) ++ [v] := by
      rw [List.take_succ_eq_append_getElem hl, List.set_append_right _ _ (by rw [List.length_take]; omega)]
      rw [List.length_take, Nat.min_eq_left (by omega), Nat.sub_self]
      rfl
    rw [e1, List.length_cons]
    simp [Nat.add_assoc, Nat.add_comm, Nat.add_left_comm]
section
variable {n : Nat} {lt : Nat → Nat → Bool}
theorem k_lay (c : Cn n lt) : ∀ (l : List (Nat × Nat)) (p : Array Nat) (sa : Nat), (l.map fun x => (c.k x.1, x.2)).foldl (fun a x => a.setIfInBounds (sa + x.2) x.1) (p.map c.k) = (lay p sa l).map c.k
  | [], p, sa => rfl
  | x :: l, p, sa => by
    show (l.map fun x => (c.k x.1, x.2)).foldl (fun a x => a.setIfInBounds (sa + x.2) x.1) ((p.map c.k).setIfInBounds (sa + x.2) (c.k x.1)) = _
    rw [← Array.map_setIfInBounds]
    exact k_lay c l _ sa
theorem Run.set {x : Ab} (x' : Ab) {y : Cn n lt → SortSt} {P : PUnit → Ab → Prop} (e : ∀ c : Cn n lt, y c = c.st x') (h : P ⟨⟩ x') : Run (fun c => (MonadStateOf.set (y c) : SM PUnit)) same x P := by
  refine ⟨⟨⟩, x', h, fun c Q q => ?_⟩
  show wpAny _ _ ((MonadStateOf.set (y c) : SM PUnit).run _) _ _ _
  have e2 : (MonadStateOf.set (y c) : SM PUnit).run (c.st x) = (Pure.pure (⟨⟩, y c) : Sem (PUnit × SortSt)) := rfl
  rw [e2, e c]
  exact wpAny_pure ⟨rfl, q⟩
abbrev pend2 (x : Ab) (i : Nat) (q r : Nat × Nat × Nat) : Array (Nat × Nat × Nat) := (x.pend.setIfInBounds i (q.1, q.2.1 + r.2.1, q.2.2)).eraseIdxIfInBounds (i + 1)
theorem run_mergeAt {x : Ab} {i : Nat} {q r : Nat × Nat × Nat} (hp : In n x.p) (e1 : x.pend[i]? = some q) (e2 : x.pend[i + 1]? = some r) (h1 : r.1 = q.1 + q.2.1) (h2 : r.1 + r.2.1 ≤ x.p.size) (h3 : 1 ≤ q.2.1) (h4 : 1 ≤ r.2.1) :
    Run (n := n) (lt := lt) (fun _ => mergeAt' i) same x (fun b y => b = true ∧ y.p.toList.Perm x.p.toList ∧ y.pend = pend2 x i q r) := by
  obtain ⟨sa, na, pw⟩ := q
  obtain ⟨sb, nb, pw2⟩ := r
  have h1 : sb = sa + na := h1
  have h2 : sb + nb ≤ x.p.size := h2
  have h3 : 1 ≤ na := h3
  have h4 : 1 ≤ nb := h4
  refine Run.bind (Run.get ?_)
  have p1 : ∀ c : Cn n lt, (pendingOf (c.st x))[i]? = some (sa, na, pw) := fun c => e1
  have p2 : ∀ c : Cn n lt, (pendingOf (c.st x))[i + 1]? = some (sb, nb, pw2) := fun c => e2
  refine Run.to (fun c => by rw [p1 c, p2 c]) ?_
  refine Run.bind0 (Run.set ⟨x.p, pend2 x i (sa, na, pw) (sb, nb, pw2), x.g⟩ (fun c => rfl) ?_)
  refine Run.bind (Run.elem (a := x.p) (show sb < x.p.size by omega) (Run.bind0 ((run_gal (v := x.p) (m := na) (hp sb (by omega)) hp (by omega) (by omega)).mono ?_)))
  rintro _ _ ⟨rfl, k, rfl, hk⟩
  refine Run.ite (fun _ => Run.of true ⟨rfl, List.Perm.refl _, rfl⟩) (fun z1 => ?_)
  have z1 : na - k ≠ 0 := fun z => z1 (by rw [z]; rfl)
  refine Run.bind (Run.elem (a := x.p) (show sa + k + (na - k) - 1 < x.p.size by omega) (Run.bind0 ((run_gal (v := x.p) (m := nb) (hp (sa + k + (na - k) - 1) (by omega)) hp (by omega) (by omega)).mono ?_)))
  rintro _ _ ⟨rfl, k2, rfl, hk2⟩
  refine Run.ite (fun _ => Run.of true ⟨rfl, List.Perm.refl _, rfl⟩) (fun z2 => ?_)
  have z2 : k2 ≠ 0 := fun z => z2 (by rw [z]; rfl)
  have sx : (x.p.extract (sa + k) sb).size = na - k := by rw [Array.size_extract]; omega
  have sy : (x.p.extract sb (sb + k2)).size = k2 := by rw [Array.size_extract]; omega
  have ix : In n (x.p.extract (sa + k) sb) := In.of fun v hv => hp.mem v (by
    rw [Array.toList_extract, List.extract_eq_take_drop] at hv
    exact List.mem_of_mem_drop (List.mem_of_mem_take hv))
  have iy : In n (x.p.extract sb (sb + k2)) := In.of fun v hv => hp.mem v (by
    rw [Array.toList_extract, List.extract_eq_take_drop] at hv
    exact List.mem_of_mem_drop (List.mem_of_mem_take hv))
  have seg : x.p.toList = x.p.toList.take (sa + k) ++ ((x.p.extract (sa + k) sb).toList ++ (x.p.extract sb (sb + k2)).toList) ++ x.p.toList.drop (sb + k2) := by
    have a1 := take_cut (a := x.p) (k := sa + k) (u := sb) (by omega)
    have a2 := take_cut (a := x.p) (k := sb) (u := sb + k2) (by omega)
    rw [← List.append_assoc, ← a1, ← a2, List.take_append_drop]
  have post : ∀ (M : Array Nat) (z : Ab), M.toList.Perm ((x.p.extract (sa + k) sb).toList ++ (x.p.extract sb (sb + k2)).toList) → z.p = x.p → (lay z.p (sa + k) M.toList.zipIdx).toList.Perm x.p.toList := by
    intro M z hM ez
    have lM : M.toList.length = na - k + k2 := by rw [hM.length_eq, List.length_append, Array.length_toList, Array.length_toList, sx, sy]
    have el : (lay x.p (sa + k) (M.toList.zipIdx 0)).toList = x.p.toList.take (sa + k + 0) ++ M.toList ++ x.p.toList.drop (sa + k + 0 + M.toList.length) := lay_is M.toList 0 x.p (sa + k) (by rw [lM]; omega)
    rw [ez]
    show (lay x.p (sa + k) (M.toList.zipIdx 0)).toList.Perm _
    rw [el, lM, show sa + k + 0 + (na - k + k2) = sb + k2 by omega, Nat.add_zero]
    conv => rhs; rw [seg]
    exact List.Perm.append_right _ (List.Perm.append_left _ hM)
  have cm : ∀ (c : Cn n lt) (M : Array Nat), ((M.map c.k).toList.zipIdx) = M.toList.zipIdx.map fun x => (c.k x.1, x.2) := fun c M => by
    rw [Array.toList_map, List.zipIdx_map]
    rfl
  refine Run.ite (fun _ => ?_) (fun _ => ?_)
  · refine Run.bind ((Run.to (fun c => by
      show mergeLo' ((x.p.map c.k).extract (sa + k) sb) ((x.p.map c.k).extract sb (sb + k2)) = mergeLo' ((x.p.extract (sa + k) sb).map c.k) ((x.p.extract sb (sb + k2)).map c.k)
      rw [Array.map_extract, Array.map_extract]) (run_mergeLo ix iy (by omega) (by omega))).mono ?_)
    rintro M z ⟨hM, gz⟩
    refine Run.bind0 (Run.modify ⟨lay z.p (sa + k) M.toList.zipIdx, z.pend, z.g⟩ (fun c => ?_) (Run.bind (Run.get (Run.of true ⟨rfl, post M z hM gz.1, gz.2⟩ (fun c => rfl)))))
    show SortSt.mk' c.κ (((M.map c.k).toList.zipIdx).foldl _ (z.p.map c.k)) z.pend z.g none = SortSt.mk' c.κ ((lay z.p (sa + k) M.toList.zipIdx).map c.k) z.pend z.g none
    rw [cm, ← k_lay]
  · refine Run.bind ((Run.to (fun c => by
      show mergeHi' ((x.p.map c.k).extract (sa + k) sb) ((x.p.map c.k).extract sb (sb + k2)) = mergeHi' ((x.p.extract (sa + k) sb).map c.k) ((x.p.extract sb (sb + k2)).map c.k)
      rw [Array.map_extract, Array.map_extract]) (run_mergeHi ix iy (by omega) (by omega))).mono ?_)
    rintro M z ⟨hM, gz⟩
    refine Run.bind0 (Run.modify ⟨lay z.p (sa + k) M.toList.zipIdx, z.pend, z.g⟩ (fun c => ?_) (Run.bind (Run.get (Run.of true ⟨rfl, post M z hM gz.1, gz.2⟩ (fun c => rfl)))))
    show SortSt.mk' c.κ (((M.map c.k).toList.zipIdx).foldl _ (z.p.map c.k)) z.pend z.g none = SortSt.mk' c.κ ((lay z.p (sa + k) M.toList.zipIdx).map c.k) z.pend z.g none
    rw [cm, ← k_lay]
end
end DLS

set_option Elab.async false
set_option linter.all false
set_option maxRecDepth 100000
namespace DLS
open PySem PySem.Spec PySem.W PyProof.Rows
def pushR (lo m : Nat) : SM (ForInStep (Option Unit × Nat)) := (modify fun s => setPending s ((pendingOf s).push (lo, m, 0))) >>= fun _ => Pure.pure (.yield (none, lo + m))
def colT (pw : Nat) : SM (ForInStep (Option Unit × Unit)) := get >>= fun s => match (if (pendingOf s).size > 1 then (pendingOf s)[(pendingOf s).size - 2]? else none) with
  | some (_, _, o) => if o ≤ pw then Pure.pure (.done (none, ())) else mergeAt' ((pendingOf s).size - 2) >>= fun b => if (!b) = true then Pure.pure (.done (some (), ())) else Pure.pure (.yield (none, ()))
  | _ => Pure.pure (.done (none, ()))
def aftR (sz lo m : Nat) : SM (ForInStep (Option Unit × Nat)) := get >>= fun s => match (pendingOf s).back? with
  | some (a, b, _) => (forIn [0:sz] ((none, ()) : Option Unit × Unit) fun _ _ => colT (power' sz (2 * a + b) (2 * a + b + b + m) sz)) >>= fun t => (match t.1 with
    | some r => Pure.pure (.done (some r, lo))
    | none => (modify fun s => setPending s ((pendingOf s).modify ((pendingOf s).size - 1) fun z => match z with | (u, v, _) => (u, v, power' sz (2 * a + b) (2 * a + b + b + m) sz))) >>= fun _ => pushR lo m)
  | _ => pushR lo m
def turnR (sz mr lo : Nat) : SM (ForInStep (Option Unit × Nat)) :=
  if lo ≥ sz then Pure.pure (.done (none, lo)) else countRun' lo (sz - lo) >>= fun z => match z with
    | some m => if m < mr then liftM (PySem.rule "list.sort.binary-insertion") >>= fun _ => binarySort' lo (min (sz - lo) mr) m >>= fun b => if (!b) = true then Pure.pure (.done (some (), lo)) else aftR sz lo (min (sz - lo) mr)
        else aftR sz lo m
    | _ => Pure.pure (.done (some (), lo))
def ixF (p : Array (Nat × Nat × Nat)) : Nat :=
  if Option.any (fun x => decide (x < p[p.size - 2 + 1]?.elim 0 fun x => x.2.1)) (if p.size - 2 > 0 then Option.map (fun x => x.2.1) p[p.size - 2 - 1]? else none) = true then p.size - 2 - 1 else p.size - 2
def finT : SM (ForInStep (Option Unit × Unit)) := get >>= fun s => if (pendingOf s).size ≤ 1 then Pure.pure (.done (none, ())) else mergeAt' (ixF (pendingOf s)) >>= fun b => if (!b) = true then Pure.pure (.done (some (), ())) else Pure.pure (.yield (none, ()))
def srtR : SM Unit := get >>= fun s => (forIn [0:(arrOf s).size] ((none, 0) : Option Unit × Nat) fun _ t => turnR (arrOf s).size (minRun' (arrOf s).size (arrOf s).size 0) t.2) >>= fun t => match t.1 with
  | some r => Pure.pure r
  | none => (forIn [0:(arrOf s).size] ((none, ()) : Option Unit × Unit) fun _ _ => finT) >>= fun t => match t.1 with
    | some r => Pure.pure r
    | none => Pure.pure ()
set_option maxHeartbeats 1000000 in
theorem srtR_eq : sortRuns' = srtR := by
  have aft : ∀ (sz lo m : Nat) {f : SortSt → SM (ForInStep (Option Unit × Nat))}, (∀ s, f s = match (pendingOf s).back? with
      | some (a, b, _) => (forIn [0:sz] ((none, ()) : Option Unit × Unit) fun _ _ => colT (power' sz (2 * a + b) (2 * a + b + b + m) sz)) >>= fun t => (match t.1 with
        | some r => Pure.pure (.done (some r, lo))
        | none => (modify fun s => setPending s ((pendingOf s).modify ((pendingOf s).size - 1) fun z => match z with | (u, v, _) => (u, v, power' sz (2 * a + b) (2 * a + b + b + m) sz))) >>= fun _ => pushR lo m)
      | _ => pushR lo m) → (get >>= f : SM _) = aftR sz lo m := fun sz lo m f h => bind_c rfl h
  refine bind_c rfl fun s => bind_c (for_c fun i t => ?_) fun t => ?_
  · obtain ⟨r, lo⟩ := t
    refine ite_c (fun _ => rfl) fun _ => bind_c rfl fun z => ?_
    cases z with
    | none => rfl
    | some m =>
      have key : ∀ (sz lo m : Nat) (s : SortSt) (o : Option (Nat × Nat × Nat)) {g h : SM (ForInStep (Option Unit × Nat))} , True := fun _ _ _ _ _ _ _ => trivial
      refine ite_c (fun _ => bind_c rfl fun _ => bind_c rfl fun b => ite_c (fun _ => rfl) fun _ => aft _ _ _ fun s => ?_) fun _ => aft _ _ _ fun s => ?_
      all_goals
        cases hb : (pendingOf s).back? with
        | none => rfl
        | some q =>
          obtain ⟨a, b, c⟩ := q
          refine bind_c (for_c fun i t => bind_c rfl fun s => ?_) fun t => ?_
          · show (match (if (pendingOf s).size > 1 then (pendingOf s)[(pendingOf s).size - 2]? else none) with | some (_, _, o) => _ | _ => _) = _
            generalize (if (pendingOf s).size > 1 then (pendingOf s)[(pendingOf s).size - 2]? else none) = o
            cases o with
            | none => rfl
            | some q => obtain ⟨a, b, c⟩ := q; rfl
          · obtain ⟨r, u⟩ := t
            cases r <;> rfl
  · obtain ⟨r, lo⟩ := t
    cases r with
    | some r => rfl
    | none =>
      refine bind_c (for_c fun i t => bind_c rfl fun s => ?_) fun t => ?_
      · rfl
      · obtain ⟨r, u⟩ := t
        cases r <;> rfl
section
variable {n : Nat} {lt : Nat → Nat → Bool}
/-- where a sort stands -/
structure SI (n : Nat) (lo : Nat) (y : Ab) : Prop where
  pm : y.p.toList.Perm (List.range n)
  ch : Chn y.pend.toList 0 lo
  le : lo ≤ n
theorem SI.in {lo : Nat} {y : Ab} (h : SI n lo y) : In n y.p := In.of fun v hv => by simpa using h.pm.mem_iff.mp hv
theorem SI.sz {lo : Nat} {y : Ab} (h : SI n lo y) : y.p.size = n := by simpa using h.pm.length_eq
theorem run_mA {lo i : Nat} {y : Ab} (h : SI n lo y) (hi : i + 1 < y.pend.size) : Run (n := n) (lt := lt) (fun _ => mergeAt' i) same y (fun b z => b = true ∧ SI n lo z) := by
  obtain ⟨q, hq⟩ : ∃ q, y.pend[i]? = some q := ⟨y.pend[i], by rw [Array.getElem?_eq_getElem (by omega)]⟩
  obtain ⟨r, hr⟩ : ∃ r, y.pend[i + 1]? = some r := ⟨y.pend[i + 1], by rw [Array.getElem?_eq_getElem hi]⟩
  obtain ⟨k1, k2, k3, k4, k5⟩ := Chn.two h.ch (by rw [Array.getElem?_toList]; exact hq) (by rw [Array.getElem?_toList]; exact hr)
  have le := h.le
  have sz := h.sz
  refine (run_mergeAt h.in hq hr k1 (by omega) k3 k4).mono fun b z hz => ⟨hz.1, hz.2.1.trans h.pm, ?_, h.le⟩
  rw [hz.2.2]
  have e : (pend2 y i q r).toList = (y.pend.toList.set i (q.1, q.2.1 + r.2.1, q.2.2)).eraseIdx (i + 1) := by
    unfold pend2
    rw [Array.eraseIdxIfInBounds_eq, dif_pos (by rw [Array.size_setIfInBounds]; exact hi)]
    simp
  rw [e]
  exact k5
theorem run_pushR {lo m : Nat} {y : Ab} (h : SI n lo y) (h1 : 1 ≤ m) (h2 : lo + m ≤ n) : Run (n := n) (lt := lt) (fun _ => pushR lo m) same y (fun r z => ∃ lo', r = .yield (none, lo') ∧ SI n lo' z) := by
  unfold pushR
  refine Run.bind0 (Run.modify ⟨y.p, y.pend.push (lo, m, 0), y.g⟩ (fun c => rfl) ?_)
  refine Run.of (ForInStep.yield (none, lo + m)) ⟨lo + m, rfl, h.pm, ?_, h2⟩
  show Chn (y.pend.push (lo, m, 0)).toList 0 (lo + m)
  rw [Array.toList_push]
  exact Chn.push h.ch h1
theorem run_colT {lo pw : Nat} {y : Ab} (h : SI n lo y) : Run (n := n) (lt := lt) (fun _ => colT pw) same y (fun r z => SI n lo z ∧ (r = .done (none, ()) ∨ r = .yield (none, ()))) := by
  unfold colT
  refine Run.bind (Run.get ?_)
  cases ho : (if y.pend.size > 1 then y.pend[y.pend.size - 2]? else none) with
  | none =>
    have e : ∀ c : Cn n lt, (if (pendingOf (c.st y)).size > 1 then (pendingOf (c.st y))[(pendingOf (c.st y)).size - 2]? else none) = none := fun c => ho
    refine Run.to (fun c => by rw [e c]) ?_
    exact Run.of (ForInStep.done (none, ())) ⟨h, .inl rfl⟩
  | some q =>
    obtain ⟨a, b, o⟩ := q
    have e : ∀ c : Cn n lt, (if (pendingOf (c.st y)).size > 1 then (pendingOf (c.st y))[(pendingOf (c.st y)).size - 2]? else none) = some (a, b, o) := fun c => ho
    refine Run.to (fun c => by rw [e c]) ?_
    have h1 : y.pend.size > 1 := by
      by_cases z : y.pend.size > 1
      · exact z
      · rw [if_neg z] at ho; cases ho
    refine Run.ite (fun _ => Run.of (ForInStep.done (none, ())) ⟨h, .inl rfl⟩) (fun _ => ?_)
    refine Run.bind0 ((run_mA (i := y.pend.size - 2) h (by omega)).mono ?_)
    rintro _ z ⟨rfl, hz⟩
    exact Run.ite (fun q => absurd q (by simp)) (fun _ => Run.of (ForInStep.yield (none, ())) ⟨hz, .inr rfl⟩)
theorem run_aftR {sz lo m : Nat} {y : Ab} (h : SI n lo y) (h1 : 1 ≤ m) (h2 : lo + m ≤ n) : Run (n := n) (lt := lt) (fun _ => aftR sz lo m) same y (fun r z => ∃ lo', r = .yield (none, lo') ∧ SI n lo' z) := by
  unfold aftR
  refine Run.bind (Run.get ?_)
  cases ho : y.pend.back? with
  | none =>
    have e : ∀ c : Cn n lt, (pendingOf (c.st y)).back? = none := fun c => ho
    exact Run.to (fun c => by rw [e c]) (run_pushR h h1 h2)
  | some q =>
    obtain ⟨a, b, o⟩ := q
    have e : ∀ c : Cn n lt, (pendingOf (c.st y)).back? = some (a, b, o) := fun c => ho
    refine Run.to (fun c => by rw [e c]) ?_
    refine Run.bind0 ((Run.range0 0 sz (fun _ t z => SI n lo z ∧ t.1 = none) (P := fun t z => SI n lo z ∧ t.1 = none) ⟨h, rfl⟩ ?_ (fun t z hz => hz)).mono ?_)
    · rintro i t z _ _ ⟨hz, _⟩
      refine (run_colT hz).mono ?_
      rintro r w ⟨hw, rfl | rfl⟩ <;> exact ⟨hw, rfl⟩
    · rintro ⟨r, u⟩ z ⟨hz, rfl⟩
      refine Run.bind0 (Run.modify ⟨z.p, z.pend.modify (z.pend.size - 1) fun q => match q with | (u, v, _) => (u, v, power' sz (2 * a + b) (2 * a + b + b + m) sz), z.g⟩ (fun c => rfl) ?_)
      refine run_pushR ⟨hz.pm, ?_, hz.le⟩ h1 h2
      show Chn (z.pend.modify _ _).toList 0 lo
      rw [Array.toList_modify]
      exact Chn.mod (f := fun q => match q with | (u, v, _) => (u, v, power' sz (2 * a + b) (2 * a + b + b + m) sz)) (fun q => ⟨rfl, rfl⟩) hz.ch
theorem run_turnR {sz mr lo : Nat} {y : Ab} (es : sz = n) (hmr : 1 ≤ mr) (h : SI n lo y) : Run (n := n) (lt := lt) (fun _ => turnR sz mr lo) same y (fun r z => (r = .done (none, lo) ∧ SI n lo z) ∨ ∃ lo', r = .yield (none, lo') ∧ SI n lo' z) := by
  subst es
  have le := h.le
  have hz := h.sz
  unfold turnR
  refine Run.ite (fun _ => Run.of (ForInStep.done (none, lo)) (.inl ⟨rfl, h⟩)) (fun q => ?_)
  have q : lo < sz := by simpa using q
  refine Run.bind0 ((run_count h.in (by omega) (by omega)).mono ?_)
  rintro _ z ⟨px, k, rfl, k1, k2⟩
  have hz2 : SI sz lo z := ⟨px.1.trans h.pm, by rw [px.2.1]; exact h.ch, h.le⟩
  refine Run.ite (fun _ => ?_) (fun _ => (run_aftR hz2 k1 (by omega)).mono fun r w hw => .inr hw)
  refine Run.bind0 (Run.rule ?_)
  refine Run.bind0 ((run_bin hz2.in (by rw [hz2.sz]; omega)).mono ?_)
  rintro _ w ⟨pw, rfl⟩
  have hw : SI sz lo w := ⟨pw.1.trans hz2.pm, by rw [pw.2.1]; exact hz2.ch, h.le⟩
  exact Run.ite (fun q => absurd q (by simp)) (fun _ => (run_aftR hw (by omega) (by omega)).mono fun r v hv => .inr hv)
theorem ixF_lt {p : Array (Nat × Nat × Nat)} (h : ¬ p.size ≤ 1) : ixF p + 1 < p.size := by
  have e : (ixF p = p.size - 2 - 1 ∧ p.size - 2 > 0) ∨ ixF p = p.size - 2 := by
    unfold ixF
    by_cases z : p.size - 2 > 0
    · rw [if_pos z]
      split
      · exact .inl ⟨rfl, z⟩
      · exact .inr rfl
    · rw [if_neg z]
      exact .inr rfl
  omega
theorem mr_pos : ∀ f m r : Nat, 1 ≤ m → 1 ≤ minRun' f m r
  | 0, m, r, h => by show 1 ≤ m + r; omega
  | f + 1, m, r, h => by
    rw [minRun'_succ]
    split
    · omega
    · exact mr_pos f _ _ (by omega)
theorem run_sort (h1 : 1 ≤ n) : Run (n := n) (lt := lt) (fun _ => sortRuns') same ⟨List.toArray (List.range n), #[], 7⟩ (fun _ y => y.p.toList.Perm (List.range n)) := by
  refine Run.to (fun c => by rw [srtR_eq]) ?_
  unfold srtR
  refine Run.bind (Run.get ?_)
  have sz : ∀ c : Cn n lt, (arrOf (c.st ⟨List.toArray (List.range n), #[], 7⟩)).size = n := fun c => by
    show ((List.toArray (List.range n)).map c.k).size = n
    rw [Array.size_map]
    simp
  refine Run.to (fun c => by rw [sz c]) ?_
  have s0 : SI n 0 ⟨List.toArray (List.range n), #[], 7⟩ := ⟨by simp, rfl, Nat.zero_le _⟩
  refine Run.bind0 ((Run.range0 0 n (fun _ t z => t.1 = none ∧ SI n t.2 z) (P := fun t z => t.1 = none ∧ SI n t.2 z) ⟨rfl, s0⟩ ?_ (fun t z hz => hz)).mono ?_)
  · rintro i ⟨r, lo⟩ z _ _ ⟨_, hz⟩
    refine (run_turnR rfl (mr_pos n n 0 h1) hz).mono ?_
    rintro r w (⟨rfl, hw⟩ | ⟨lo', rfl, hw⟩)
    · exact ⟨rfl, hw⟩
    · exact ⟨rfl, hw⟩
  · rintro ⟨r, lo⟩ z ⟨hr, hz⟩
    have hr : r = none := hr
    subst hr
    have hz : SI n lo z := hz
    refine Run.bind0 ((Run.range0 0 n (fun _ t z => t.1 = none ∧ SI n lo z) (P := fun t z => t.1 = none ∧ SI n lo z) ⟨rfl, hz⟩ ?_ (fun t z hz => hz)).mono ?_)
    · rintro i ⟨r, u⟩ w _ _ ⟨_, hw⟩
      unfold finT
      refine Run.bind (Run.get ?_)
      refine Run.iteC (w.pend.size ≤ 1) (fun c => Iff.rfl) (fun _ => Run.of (ForInStep.done (none, ())) ⟨rfl, hw⟩) (fun q => ?_)
      refine Run.bind0 (Run.to (m' := fun c => mergeAt' (ixF w.pend)) (fun c => rfl) ((run_mA hw (ixF_lt q)).mono ?_))
      rintro _ v ⟨rfl, hv⟩
      exact Run.ite (fun q => absurd q (by simp)) (fun _ => Run.of (ForInStep.yield (none, ())) ⟨rfl, hv⟩)
    · rintro ⟨r, u⟩ w ⟨hr, hw⟩
      have hr : r = none := hr
      subst hr
      exact Run.of () hw.pm
end
end DLS

set_option Elab.async false
set_option linter.all false
set_option maxRecDepth 100000
namespace DLS
open PySem PySem.Spec PySem.W PyProof.Rows DGX
theorem sort_ex (n : Nat) (lt : Nat → Nat → Bool) (h1 : 1 ≤ n) : ∃ y : Ab, y.p.toList.Perm (List.range n) ∧ ∀ (c : Cn n lt) (Q : Unit → SortSt → Prop), Q () (c.st y) → c.W sortRuns' Q (c.st ⟨List.toArray (List.range n), #[], 7⟩) := by
  obtain ⟨_, y, h, w⟩ := run_sort (n := n) (lt := lt) h1
  exact ⟨y, h, w⟩
/-- the places in their order, however many -/
noncomputable def ordA (n : Nat) (lt : Nat → Nat → Bool) : Ab := if h : 1 ≤ n then Classical.choose (sort_ex n lt h) else ⟨#[], #[], 0⟩
noncomputable def ordG (n : Nat) (lt : Nat → Nat → Bool) : List Nat := (ordA n lt).p.toList
theorem ordA_is {n : Nat} (h : 1 ≤ n) (lt : Nat → Nat → Bool) : (ordG n lt).Perm (List.range n) ∧ ∀ (c : Cn n lt) (Q : Unit → SortSt → Prop), Q () (c.st (ordA n lt)) → c.W sortRuns' Q (c.st ⟨List.toArray (List.range n), #[], 7⟩) := by
  have s := Classical.choose_spec (sort_ex n lt h)
  have e : ordA n lt = Classical.choose (sort_ex n lt h) := dif_pos h
  unfold ordG
  rw [e]
  exact s
theorem ordG_ok {n : Nat} (h : 1 ≤ n) (lt : Nat → Nat → Bool) : (ordG n lt).length = n ∧ ∀ i ∈ ordG n lt, i < n := by
  have p := (ordA_is h lt).1
  exact ⟨by simpa using p.length_eq, fun i hi => by simpa using p.mem_iff.mp hi⟩
section
variable {prog : Program} {w : World} {A : Around} {E : Value → Shared → Prop} {s : Shared}
theorem srt_wp {κ : SortKind} {vs : List Value} {lt : Nat → Nat → Bool} (h1 : 1 ≤ vs.length) (hc : ∀ (i j : Nat) (C : Bool → Shared → Prop), i < vs.length → j < vs.length → C (lt i j) s → wpAny (model prog w) A (keyLt' κ (vs.getD i Value.none) (vs.getD j Value.none)) C (fun _ _ => False) s) :
    wpAny (model prog w) A ((sortRuns').run (SortSt.mk' κ (vs.toArray.zip vs.toArray) #[] 7 none)) (fun r z => z = s ∧ (arrOf r.2).map (·.2) = List.toArray ((ordG vs.length lt).map fun i => vs.getD i Value.none) ∧ failedOf r.2 = none) E s := by
  let c : Cn vs.length lt := ⟨prog, w, A, E, s, κ, vs.toArray.zip vs.toArray, fun i j C hi hj hC => by rw [kat_item rfl, kat_item rfl]; exact hc i j C hi hj hC⟩
  have run := (ordA_is h1 lt).2 c (fun _ st => (arrOf st).map (·.2) = List.toArray ((ordG vs.length lt).map fun i => vs.getD i Value.none) ∧ failedOf st = none) ⟨kat_snds (ks := vs) (vs := vs) (p := (ordA vs.length lt).p) rfl rfl, rfl⟩
  have est : c.st ⟨List.toArray (List.range vs.length), #[], 7⟩ = SortSt.mk' κ (vs.toArray.zip vs.toArray) #[] 7 none := by
    have e := kas_range (vs.toArray.zip vs.toArray)
    rw [show (vs.toArray.zip vs.toArray).size = vs.length by simp] at e
    show SortSt.mk' κ ((List.toArray (List.range vs.length)).map (kas_item (vs.toArray.zip vs.toArray))) #[] 7 none = _
    rw [e]
  rw [est] at run
  exact run
theorem srtG_tree {a : Addr} {vs : List Value} {ep : Nat} {P : PySem.Fin → Shared → Prop} {κ : SortKind} {lt : Nat → Nat → Bool} (ho : s.heap.get? a = some (seqObj "list" vs.toArray ep)) (h2 : 2 ≤ vs.length) (h64 : vs.length ≤ 100000)
    (hk : ∀ (z : Shared) (Q : SortKind → Shared → Prop), But a s.heap z.heap → Q κ z → wpAny (model prog w) A (keyKind' vs.toArray) Q E z)
    (hc : ∀ (z : Shared) (i j : Nat) (C : Bool → Shared → Prop), But a s.heap z.heap → i < vs.length → j < vs.length → C (lt i j) z → wpAny (model prog w) A (keyLt' κ (vs.getD i Value.none) (vs.getD j Value.none)) C (fun _ _ => False) z)
    (done : P (.done (.ret .none)) { s with heap := sortedHeap s.heap a vs (List.toArray ((ordG vs.length lt).map fun i => vs.getD i Value.none)) }) :
    wpAny (model prog w) A (Builtin.«list.sort» ⟨[.ref a], []⟩) P E s := by
  have la : a < s.heap.objs.size := Heap.lt_size ho
  have z64 : (100000 : Nat) ≤ sizeLine := by rw [sizeLine_eq]; omega
  have sv : vs.toArray.size = vs.length := List.size_toArray ..
  obtain ⟨e1, o1⟩ : ∃ e1, (s.heap.update a (Obj.mapSeq fun _ => (#[] : Array Value))).get? a = some (seqObj "list" #[] e1) := ⟨_, get?_update_seq ho fun _ => #[]⟩
  rw [list_sort_plain]
  refine wpAny_bind (listItems_at ho rfl (wpAny_bind (listUpdate_at ho rfl ?_ (by rw [sv]; omega) (Nat.zero_le _))))
  refine wpAny_bind (seqEpoch_at o1 rfl (wpAny_bind (wpAny_newTuple ?_ (by show vs.length ≤ _; omega))))
  refine wpAny_bind (wpAny_newList (wpAny_holding ?_) (Nat.zero_le _))
  have o6 : (((s.heap.update a (Obj.mapSeq fun _ => (#[] : Array Value))).push (seqObj "tuple" vs.toArray 0)).push (seqObj "list" #[] 0)).get? a = some (seqObj "list" #[] e1) :=
    Heap.get?_push_of_some _ (Heap.get?_push_of_some _ o1)
  have bt : But a s.heap (((s.heap.update a (Obj.mapSeq fun _ => (#[] : Array Value))).push (seqObj "tuple" vs.toArray 0)).push (seqObj "list" #[] 0)) := fun b o hb e =>
    Heap.get?_push_of_some _ (Heap.get?_push_of_some _ ((Heap.get?_update_other _ _ (Ne.symm hb)).trans e))
  show wpAny (model prog w) A _ P E { s with heap := ((s.heap.update a (Obj.mapSeq fun _ => (#[] : Array Value))).push (seqObj "tuple" vs.toArray 0)).push (seqObj "list" #[] 0) }
  dsimp only
  have n2 : ¬ vs.toArray.size < 2 := by rw [sv]; omega
  rw [if_neg n2, if_neg n2]
  refine wpAny_bind (hk { s with heap := ((s.heap.update a (Obj.mapSeq fun _ => (#[] : Array Value))).push (seqObj "tuple" vs.toArray 0)).push (seqObj "list" #[] 0) } _ bt ?_)
  have run := srt_wp (prog := prog) (w := w) (A := A) (E := E) (s := { s with heap := ((s.heap.update a (Obj.mapSeq fun _ => (#[] : Array Value))).push (seqObj "tuple" vs.toArray 0)).push (seqObj "list" #[] 0) }) (κ := κ) (vs := vs) (lt := lt) (by omega) (fun i j C hi hj hC => hc _ i j C bt hi hj hC)
  refine wpAny_bind (wpAny_mono run ?_ fun _ _ e => e)
  · rintro ⟨⟨⟩, st⟩ z ⟨rfl, hout, hf⟩
    dsimp only
    rw [hout]
    have so : (List.toArray ((ordG vs.length lt).map fun i => vs.getD i Value.none)).size = vs.length := by rw [List.size_toArray, List.length_map]; exact (ordG_ok (by omega) lt).1
    refine wpAny_bind (seqEpoch_at o6 rfl (wpAny_bind (listUpdate_at o6 rfl ?_ (Nat.zero_le _) (by rw [so]; omega))))
    rw [hf]
    simp only [bne_self_eq_false, Bool.false_eq_true, if_false]
    exact wpAny_pure done
theorem srtG_call {l : Addr} {vs : List Value} {Q : Value → Shared → Prop} {κ : SortKind} {lt : Nat → Nat → Bool} (hl : s.heap.IsList l vs.toArray) (h2 : 2 ≤ vs.length) (h64 : vs.length ≤ 100000)
    (hk : ∀ (z : Shared) (Q : SortKind → Shared → Prop), (∀ b o, s.heap.get? b = some o → z.heap.get? b = some o) → Q κ z → ∀ E, wpAny (model prog w) A.in1.in1 (keyKind' vs.toArray) Q E z)
    (hc : ∀ (z : Shared) (i j : Nat) (C : Bool → Shared → Prop), (∀ b o, s.heap.get? b = some o → z.heap.get? b = some o) → i < vs.length → j < vs.length → C (lt i j) z → wpAny (model prog w) A.in1.in1 (keyLt' κ (vs.getD i Value.none) (vs.getD j Value.none)) C (fun _ _ => False) z)
    (done : Q (.ref (s.heap.objs.size + 1)) { s with heap := sortedAll s.heap vs (List.toArray ((ordG vs.length lt).map fun i => vs.getD i Value.none)) }) :
    wpAny (model prog w) A (call (.builtin "sorted") [.ref l]) Q E s := by
  have z64 : (100000 : Nat) ≤ sizeLine := by rw [sizeLine_eq]; omega
  refine Calls.call_function_entry kind_sorted plain_sorted entry_sorted (args_sorted1 _) ?_
  unfold Builtin.«sorted»
  refine wpAny_bind (m := checkCount "sorted" 1 1 _) (wpAny_pure (wpAny_bind (collect_list hl ?_ (by omega))))
  refine wpAny_bind (wpAny_newList ?_ (by omega))
  have z1 : ((s.heap.push (seqObj "list" #[] 0)).update s.heap.objs.size (Obj.mapSeq (· ++ vs.toArray))).objs.size = s.heap.objs.size + 1 := by rw [Heap.size_update, size_push']
  have oN : (((s.heap.push (seqObj "list" #[] 0)).update s.heap.objs.size (Obj.mapSeq (· ++ vs.toArray))).push (seqObj "list" vs.toArray 0)).get? (s.heap.objs.size + 1) = some (seqObj "list" vs.toArray 0) := by
    rw [← z1]
    exact Heap.get?_push_size _ rfl
  have up : ∀ b o, s.heap.get? b = some o → b ≠ s.heap.objs.size + 1 ∧ (((s.heap.push (seqObj "list" #[] 0)).update s.heap.objs.size (Obj.mapSeq (· ++ vs.toArray))).push (seqObj "list" vs.toArray 0)).get? b = some o := fun b o e => by
    have hlt : b < s.heap.objs.size := Heap.lt_size e
    exact ⟨Nat.ne_of_lt (Nat.lt_succ_of_lt hlt), Heap.get?_push_of_some _ ((Heap.get?_update_other _ _ (Ne.symm (Nat.ne_of_lt hlt))).trans (Heap.get?_push_of_some _ e))⟩
  show wpAny _ _ _ _ _ { s with heap := ((s.heap.push (seqObj "list" #[] 0)).update s.heap.objs.size (Obj.mapSeq (· ++ vs.toArray))).push (seqObj "list" vs.toArray 0) }
  rw [z1]
  refine wpAny_bind (wpAny_holding (wpAny_call_entry slot_list_sort ⟨_, oN, rfl⟩ entry_list_sort (srtG_tree (κ := κ) (lt := lt) oN h2 h64 (fun z Q' bt q => hk z Q' (fun b o e => bt b o (up b o e).1 (up b o e).2) q _) (fun z i j C bt hi hj hC => hc z i j C (fun b o e => bt b o (up b o e).1 (up b o e).2) hi hj hC) ⟨_, rfl, ?_⟩) (args_list_sort _)))
  exact wpAny_pure ⟨_, rfl, done⟩
end
end DLS
namespace DL
open PySem L2
noncomputable def triOG (l : List (Int × Int × Int)) : List Nat := DLS.ordG l.length fun i j => triLt (l.getD i (0, 0, 0)) (l.getD j (0, 0, 0))
noncomputable def triSG (l : List (Int × Int × Int)) : List (Int × Int × Int) := (triOG l).map fun i => l.getD i (0, 0, 0)
theorem triSG_perm {l : List (Int × Int × Int)} (h : l ≠ []) : (triSG l).Perm l := by
  have g3 := (DLS.ordA_is (n := l.length) (List.length_pos_iff.mpr h) fun i j => triLt (l.getD i (0, 0, 0)) (l.getD j (0, 0, 0))).1.map fun i => l.getD i (0, 0, 0)
  have e : (List.range l.length).map (fun i => l.getD i (0, 0, 0)) = l := by
    apply List.ext_getElem
    · simp
    · intro i h1 h2
      simp at h1 h2
      simp [h2]
  rw [e] at g3
  exact g3
theorem call_sortG {X : Cx} (hu : X.A.units + 80 < cLine) : CallR X (.builtin "sorted") (fun xs H Q => ∃ (F : Hp) (p : Addr) (vs : List V) (l : List (Int × Int × Int)), xs = [.ref p] ∧ Same F H ∧ SqL X.K F p vs ∧ Reps X.K F vs (l.map triD) ∧ 2 ≤ l.length ∧ l.length ≤ 100000 ∧
    ∀ p' : Addr, H p' = none → Q (.ref p') (upd H p' (.lst ((triOG l).map fun i => vs.getD i .non)))) := by
  intro pins s σ H xs us Q I r h
  obtain ⟨F, p, vs, l, rfl, f, hp, rs, h2, h64, q⟩ := h
  obtain ⟨u, rfl, ru⟩ := vals1 r
  cases (show u = Value.ref p from ru)
  obtain ⟨its, rv, pl, hz⟩ := I.list (f.seq hp)
  have n1 : vs.length = l.length := by rw [rs.length, List.length_map]
  have n2 := rv.length
  have n3 : its.length = l.length := by omega
  have at_ : ∀ i, i < its.length → ∃ a b t1 t2 t3, TriAt s.heap (its.getD i Value.none) (l.getD i (0, 0, 0)) a b t1 t2 t3 := fun i hi => by
    have hv : i < vs.length := by omega
    have hl : i < l.length := by omega
    obtain ⟨u', hu', r'⟩ := rv.get (i := i) (x := vs[i]) (List.getElem?_eq_getElem hv)
    obtain ⟨d, hd, rd⟩ := rs.get' (List.getElem?_eq_getElem hv)
    rw [List.getElem?_map, List.getElem?_eq_getElem hl] at hd
    cases hd
    have e1 : its.getD i Value.none = u' := by rw [List.getD_eq_getElem?_getD, hu']; rfl
    have e2 : l.getD i (0, 0, 0) = l[i] := by rw [List.getD_eq_getElem?_getD, List.getElem?_eq_getElem hl]; rfl
    rw [e1, e2]
    exact tri_at I f rd r'
  have u2 : X.A.in1.in1.units ≤ X.A.units + 2 := Nat.le_refl _
  have hT : (Value.type "int" != Value.type "tuple") = true := by decide
  refine DLS.srtG_call (κ := PyProof.Rows.tuples' true) (lt := fun i j => triLt (l.getD i (0, 0, 0)) (l.getD j (0, 0, 0))) pl.isList (by omega) (by omega) (fun z Q' k q E' => ?_) (fun z i j C k hi hj hC => ?_) ?_
  · obtain ⟨fs, k1, k2, k3⟩ := tri_tups k I f rs rv
    refine PySem.W.kat_kind (T := Value.type "int") k1 (by omega) (fun v hv => ?_) (by decide) (by rw [hT]; exact q)
    obtain ⟨i, t, rfl⟩ := k2 v hv
    exact PySem.W.Looks.of_pure rfl
  · obtain ⟨a, b, t1, t2, t3, x⟩ := at_ i hi
    obtain ⟨a', b', u1, u2', u3, y⟩ := at_ j hj
    have x := x.up k
    have y := y.up k
    rw [x.u, y.u]
    generalize l.getD i (0, 0, 0) = ti at x hC
    generalize l.getD j (0, 0, 0) = tj at y hC
    obtain ⟨ox, ex1, ex2, nx, ex3⟩ := x.ta
    obtain ⟨oy, ey1, ey2, ny, ey3⟩ := y.ta
    refine PySem.W.kat_lt ex1 ex3 ey1 ey3 (PySem.W.kat_cons (SeqAt.EqAt.int_int ti.1 t1 tj.1 u1 _ _ _ _ ?_))
    unfold triLt at hC
    by_cases e1 : ti.1 = tj.1
    · rw [if_pos e1] at hC
      rw [show (ti.1 == tj.1) = true by simpa using e1]
      obtain ⟨as, ra⟩ := x.rd
      obtain ⟨bs, rb⟩ := y.rd
      have kk := SeqAt.eqAt_reads _ _ X.A.in1.in1 z _ _ as bs ra rb rfl rfl (by
        show X.A.in1.in1.units + min 1 1 < cLine
        omega)
      have ev : PyData.eqv (toPy (.tup [.int ti.2.1, .int ti.2.2])) (toPy (.tup [.int tj.2.1, .int tj.2.2])) = decide (ti.2 = tj.2) := eqD_pair ti.2.1 ti.2.2 tj.2.1 tj.2.2
      rw [ev] at kk
      refine PySem.W.kat_yes (PySem.W.kat_cons (kk _ _ _ _ ?_))
      by_cases e2 : ti.2 = tj.2
      · rw [if_pos e2] at hC
        rw [decide_eq_true e2]
        exact PySem.W.kat_yes (PySem.W.kat_nil hC)
      · rw [if_neg e2] at hC
        rw [decide_eq_false e2]
        refine PySem.W.kat_no (PySem.W.kat_one _ _ ?_)
        exact HT.lt_tupInts x.tb y.tb (.cons _ _ (.cons _ _ .nil)) (.cons _ _ (.cons _ _ .nil)) (by omega) hC
    · rw [if_neg e1] at hC
      rw [show (ti.1 == tj.1) = false by simpa using e1]
      exact PySem.W.kat_no (PyProof.Rows.oneLt_int hC)
  · obtain ⟨e, he⟩ := PyProof.Rows.sortedAll_at s.heap its (List.toArray ((triOG l).map fun i => its.getD i Value.none))
    have et : DLS.ordG its.length (fun i j => triLt (l.getD i (0, 0, 0)) (l.getD j (0, 0, 0))) = triOG l := by unfold triOG; rw [n3]
    rw [et]
    have o := DLS.ordG_ok (n := l.length) (by omega) fun i j => triLt (l.getD i (0, 0, 0)) (l.getD j (0, 0, 0))
    refine ⟨.ref _, upd H _ (.lst ((triOG l).map fun i => vs.getD i .non)), I.laid (t' := s.toks) (fun _ _ => PyProof.Rows.sortedAll_old) (Nat.le_succ _) ⟨?_, (triOG l).map fun i => its.getD i Value.none, e, ?_, he⟩, rfl, q _ (I.hok.fresh (Nat.le_succ _))⟩
    · rw [List.length_map]
      have : (triOG l).length = l.length := o.1
      have : (100000 : Nat) ≤ sizeLine := by rw [sizeLine_eq]; omega
      omega
    · have hm : ∀ i ∈ triOG l, i < its.length := fun i hi => by rw [n3]; exact o.2 i hi
      generalize triOG l = L at hm
      induction L with
      | nil => exact .nil
      | cons i L ih =>
        refine .cons ?_ (ih fun j hj => hm j (List.mem_cons_of_mem _ hj))
        have hi := hm i (List.mem_cons_self ..)
        have hv : i < vs.length := by omega
        obtain ⟨u', hu', r'⟩ := rv.get (i := i) (x := vs[i]) (List.getElem?_eq_getElem hv)
        show RelV (vs.getD i .non) (its.getD i Value.none)
        rw [List.getD_eq_getElem?_getD, List.getD_eq_getElem?_getD, hu', List.getElem?_eq_getElem hv]
        exact r'
theorem ow_sortG {Y : Cy} {T : Tx} {k : Nat} {N G : List Str} {c : List Slot} {e : Expr} {pos : Pos} (S : Se Y T k N G) (gi : Nat) {l : List (Int × Int × Int)} {p : Pos} (ha : ArD Y [e] c [.lst (l.map triD)]) (h2 : 2 ≤ l.length) (h64 : l.length ≤ 100000)
    (hm : T.mg "sorted" = none) (hg : G[gi]? = some ("sorted" : Str) := by rfl) (he : starEach [e] Y.X.env = (false, eval e Y.X.env) :: starEach [] Y.X.env := by rfl) : OwD Y (.Call (.Name "sorted" p) [e] [] pos) c ((triSG l).map triD) :=
  ow_callB S gi (call_sortG (by have := S.room.un; omega)) hg hm bt_sorted' ha (fun vs F H Q f r q => by
    obtain ⟨v, rfl, rv⟩ := inv1 r
    obtain ⟨p, ws, rfl, hp, rs⟩ := inv_lst rv
    refine ⟨F, p, ws, l, rfl, f, hp, rs, h2, h64, fun p' hn => q _ F H p' (Ext.refl f) ?_ hn⟩
    have o := DLS.ordG_ok (n := l.length) (by omega) fun i j => triLt (l.getD i (0, 0, 0)) (l.getD j (0, 0, 0))
    have hm : ∀ i ∈ triOG l, i < l.length := o.2
    unfold triSG
    rw [List.map_map]
    generalize triOG l = L at hm
    induction L with
    | nil => exact .nil
    | cons i L ih =>
      refine .cons ?_ (ih fun j hj => hm j (List.mem_cons_of_mem _ hj))
      have hi := hm i (List.mem_cons_self ..)
      obtain ⟨v, hv, r'⟩ := rs.get (i := i) (d := triD l[i]) (by rw [List.getElem?_map, List.getElem?_eq_getElem hi]; rfl)
      show Rep Y.X.K F (ws.getD i .non) (triD (l.getD i (0, 0, 0)))
      rw [List.getD_eq_getElem?_getD, List.getD_eq_getElem?_getD, hv, List.getElem?_eq_getElem hi]
      exact r') he rfl
end DL

set_option Elab.async false
set_option linter.all false
set_option maxRecDepth 100000
namespace DL
open PySem L2
/-! ### for .. in reversed(list) -/
section
variable {Y : Cy} {T : Tx} {k : Nat} {N G : List Str} {c : List Slot} {e a b tg : Expr} {pos p p2 : Pos} {d : D} {ds : List D}
/-! ### l[:j], l[i:] -/
theorem po_D0 : PO Y.X none (fun σ H Q => ∃ F, EnvY Y F H σ c ∧ ∀ F' H', Ext F H F' H' → Q none H') := by
  have := po_none (X := Y.X)
  intro pins s σ H Q I ⟨F, E, q⟩
  exact this pins s σ H Q I (q F H (Ext.refl E.fh))
def cutO (ds : List D) (lo hi : Option Int) : List D := (ds.drop (HT.sIx ds.length 0 lo)).take (HT.sIx ds.length ds.length hi - HT.sIx ds.length 0 lo)
theorem ev_slO {lo hi : Option Expr} {x y : Option Int} (ha : EvD Y a c (.lst ds)) (hb : PO Y.X lo (fun σ H Q => ∃ F, EnvY Y F H σ c ∧ ∀ F' H', Ext F H F' H' → Q x H')) (hc : PO Y.X hi (fun σ H Q => ∃ F, EnvY Y F H σ c ∧ ∀ F' H', Ext F H F' H' → Q y H')) :
    EvD Y (.Subscript a (.Slice lo hi none p2) pos) c (.lst (cutO ds x y)) :=
  PE.imp (pe_slice sl_list ha hb hc) fun σ H Q ⟨F, E, q⟩ => ⟨F, E, fun v F1 H1 e1 r1 => ⟨F1, E.grow e1, fun F2 H2 e2 => ⟨F2, (E.grow e1).grow e2, fun F3 H3 e3 => by
    obtain ⟨p, vs, rfl, hp, rs⟩ := inv_lst r1
    have e123 := e1.trans (e2.trans e3)
    have f3 := (e2.trans e3)
    refine ⟨p, vs, rfl, e123.fh.seq (f3.ff.seq hp), fun p' hp' => ?_⟩
    have ex := Ext.new e123.fh hp' (.lst (cutV vs x y))
    refine q (.ref p') _ _ (e123.trans ex) (.lst (SqL.of upd_same) ?_)
    have hl := rs.length
    have r2 : Reps Y.X.K F1 (cutV vs x y) (cutO ds x y) := by
      unfold cutV cutO
      rw [hl]
      exact reps_take32 _ (reps_drop32 _ rs)
    exact r2.mono (f3.ff.trans ex.ff)⟩⟩⟩
theorem ev_slFrom {j : Nat} (ha : EvD Y a c (.lst ds)) (hb : EvD Y b c (.int (j : Int))) : EvD Y (.Subscript a (.Slice (some b) none none p2) pos) c (.lst (ds.drop j)) := by
  have h := ev_slO (p2 := p2) (pos := pos) (x := some (j : Int)) (y := none) ha (po_D32 hb) po_D0
  have e : cutO ds (some (j : Int)) none = ds.drop j := by
    unfold cutO HT.sIx
    have q : ¬ (j : Int) < 0 := by omega
    simp only [q, if_false, Int.toNat_natCast]
    by_cases hj : j ≤ ds.length
    · rw [Nat.min_eq_left hj, List.take_of_length_le (by rw [List.length_drop]; exact Nat.le_refl _)]
    · rw [Nat.min_eq_right (by omega), Nat.sub_self, List.take_zero, List.drop_eq_nil_of_le (by omega)]
  rw [e] at h
  exact h
end
end DL

set_option Elab.async false
set_option linter.all false
set_option maxRecDepth 100000
namespace DL
open PySem L2
section
variable {Y : Cy} {T : Tx} {N G : List Str} {c : List Slot} {pos : Pos}
/-! constants of the module -/
def CstI (T : Tx) (x : Str) (i : Int) : Prop := ∃ t, T.mg x = some (.int i t)
theorem ev_cstI (S : Sn Y T N G) (gi : Nat) {x : Str} {i : Int} (h : CstI T x i) (hg : G[gi]? = some x := by rfl) : EvD Y (.Name x pos) c (.int i) := by
  obtain ⟨t, hm⟩ := h
  have gl := S.gl x (List.mem_of_getElem? hg)
  exact PE.imp (pe_glob (v := .int i) gl.1 (by rw [S.eM]; exact hm) ⟨t, rfl⟩ gl.2.1) fun σ H Q ⟨F, E, q⟩ => q _ F H (Ext.refl E.fh) (.int i)
end
end DL

set_option maxHeartbeats 4000000
namespace R
open PySem L2 DL
theorem gcd_step (x y : Int) : Int.gcd y (x.fmod y) = Int.gcd x y := by
  rw [Int.fmod_def, Int.gcd_sub_mul_left_right, Int.gcd_comm]
theorem fmod_small (x : Int) {y : Int} (h : y ≠ 0) : (x.fmod y).natAbs < y.natAbs := by
  rcases Int.lt_or_gt_of_ne h with h | h
  · have h1 := Int.fmod_def x y
    have e := Int.neg_fmod_neg x y
    have h2 := Int.fmod_nonneg_of_pos (-x) (show 0 < -y by omega)
    have h3 := Int.fmod_lt_of_pos (-x) (show 0 < -y by omega)
    omega
  · have h2 := Int.fmod_nonneg_of_pos x h
    have h3 := Int.fmod_lt_of_pos x h
    omega
def R_shared (ds : List D) (d : D) : Prop := ∃ a b : Int, ds = [.int a, .int b] ∧ d = .int (Int.gcd a b)
def Pr (p : Int) : Prop := p = 2 ∨ p = 3 ∨ p = 5 ∨ p = 7
theorem inv_ex {p n : Int} (hp : Pr p) (hn : ¬ n % p = 0) : ∃ b, 1 ≤ b ∧ b ≤ p - 1 ∧ n * b % p = 1 := by
  rcases hp with rfl | rfl | rfl | rfl
  · exact ⟨1, by omega, by omega, by omega⟩
  · rcases (show n % 3 = 1 ∨ n % 3 = 2 by omega) with h | h
    · exact ⟨1, by omega, by omega, by omega⟩
    · exact ⟨2, by omega, by omega, by omega⟩
  · rcases (show n % 5 = 1 ∨ n % 5 = 2 ∨ n % 5 = 3 ∨ n % 5 = 4 by omega) with h | h | h | h
    · exact ⟨1, by omega, by omega, by omega⟩
    · exact ⟨3, by omega, by omega, by omega⟩
    · exact ⟨2, by omega, by omega, by omega⟩
    · exact ⟨4, by omega, by omega, by omega⟩
  · rcases (show n % 7 = 1 ∨ n % 7 = 2 ∨ n % 7 = 3 ∨ n % 7 = 4 ∨ n % 7 = 5 ∨ n % 7 = 6 by omega) with h | h | h | h | h | h
    · exact ⟨1, by omega, by omega, by omega⟩
    · exact ⟨4, by omega, by omega, by omega⟩
    · exact ⟨5, by omega, by omega, by omega⟩
    · exact ⟨2, by omega, by omega, by omega⟩
    · exact ⟨3, by omega, by omega, by omega⟩
    · exact ⟨6, by omega, by omega, by omega⟩
theorem inv_found {p n a : Int} (hp : Pr p) (hn : ¬ n % p = 0) (h0 : 1 ≤ a) (h1 : a ≤ p - 1) (h : ∀ b, 1 ≤ b → b < a → n * b % p ≠ 1) (he : ¬ a < p - 1 ∨ n * a % p = 1) : n * a % p = 1 := by
  obtain ⟨b, b0, b1, hb⟩ := inv_ex hp hn
  rcases he with he | he
  · have e : a = b := by
      rcases Int.lt_trichotomy a b with l | l | l
      · omega
      · exact l
      · exact absurd hb (h b b0 l)
    rw [e]; exact hb
  · exact he
theorem pow_dvd (p : Int) {m n : Nat} (h : m ≤ n) : p ^ m ∣ p ^ n := ⟨p ^ (n - m), by rw [← Int.pow_add]; congr 1; omega⟩
theorem newton {p n a : Int} {s k : Nat} (h : p ^ (min s k) ∣ n * a - 1) : p ^ (min (2 * s) k) ∣ n * (a * (2 - n * a) % p ^ k) - 1 := by
  have e : a * (2 - n * a) % p ^ k = a * (2 - n * a) - p ^ k * (a * (2 - n * a) / p ^ k) := Int.emod_def _ _
  have e2 : n * (a * (2 - n * a) % p ^ k) - 1 = -((n * a - 1) * (n * a - 1)) - p ^ k * (n * (a * (2 - n * a) / p ^ k)) := by
    rw [e]; grind
  rw [e2]
  have d1 : p ^ (min (2 * s) k) ∣ (n * a - 1) * (n * a - 1) := by
    have q : p ^ (min s k) * p ^ (min s k) ∣ (n * a - 1) * (n * a - 1) := Int.mul_dvd_mul h h
    rw [← Int.pow_add] at q
    exact Int.dvd_trans (pow_dvd p (by omega)) q
  have d2 : p ^ (min (2 * s) k) ∣ p ^ k := pow_dvd p (by omega)
  exact Int.dvd_sub (Int.dvd_neg.mpr d1) (Int.dvd_trans d2 (Int.dvd_mul_right _ _))
theorem Pr.two_le {p : Int} (h : Pr p) : 2 ≤ p ∧ p ≤ 7 := by rcases h with rfl | rfl | rfl | rfl <;> omega
theorem pw_pos {p : Int} (hp : Pr p) (k : Nat) : 0 < p ^ k := Int.pow_pos (by have := hp.two_le; omega)
theorem inv_exists {p n : Int} (hp : Pr p) (hn : ¬ n % p = 0) : ∀ k : Nat, ∃ x, p ^ k ∣ n * x - 1
  | 0 => ⟨0, by simp⟩
  | 1 => by
    obtain ⟨b, _, _, hb⟩ := inv_ex hp hn
    refine ⟨b, ?_⟩
    rw [Int.pow_one]
    have := Int.emod_add_mul_ediv (n * b) p
    exact ⟨n * b / p, by omega⟩
  | k + 2 => by
    obtain ⟨x, hx⟩ := inv_exists hp hn (k + 1)
    have h : p ^ (min (k + 1) (k + 2)) ∣ n * x - 1 := by rw [show min (k + 1) (k + 2) = k + 1 by omega]; exact hx
    have := newton h
    rw [show min (2 * (k + 1)) (k + 2) = k + 2 by omega] at this
    exact ⟨_, this⟩
/-- the number over n by p ^ k -/
def IsOver (p n : Int) (k : Nat) (x : Int) : Prop := 0 ≤ x ∧ x < p ^ k ∧ p ^ k ∣ n * x - 1
theorem over_uniq {p n : Int} {k : Nat} {x y : Int} (hx : IsOver p n k x) (hy : IsOver p n k y) : x = y := by
  obtain ⟨x0, x1, xd⟩ := hx
  obtain ⟨y0, y1, yd⟩ := hy
  have d : p ^ k ∣ x - y := by
    have e : x - y = x * (n * y - 1) * (-1) + y * (n * x - 1) := by grind
    rw [e]
    exact Int.dvd_add (Int.dvd_mul_of_dvd_left (Int.dvd_mul_of_dvd_right yd)) (Int.dvd_mul_of_dvd_right xd)
  have : x - y = 0 := by
    rcases Int.lt_trichotomy (x - y) 0 with h | h | h
    · have := Int.le_of_dvd (show 0 < -(x - y) by omega) (Int.dvd_neg.mpr d); omega
    · exact h
    · have := Int.le_of_dvd h d; omega
  omega
theorem over_ex {p n : Int} (hp : Pr p) (hn : ¬ n % p = 0) (k : Nat) : ∃ x, IsOver p n k x := by
  obtain ⟨x, hx⟩ := inv_exists hp hn k
  have pp := pw_pos hp k
  refine ⟨x % p ^ k, Int.emod_nonneg _ (by omega), Int.emod_lt_of_pos _ pp, ?_⟩
  have e : n * (x % p ^ k) - 1 = (n * x - 1) - p ^ k * (n * (x / p ^ k)) := by rw [Int.emod_def]; grind
  rw [e]
  exact Int.dvd_sub hx (Int.dvd_mul_right _ _)
noncomputable def overBy (p n : Int) (k : Nat) : Int := Classical.epsilon (IsOver p n k)
theorem overBy_is {p n : Int} (hp : Pr p) (hn : ¬ n % p = 0) (k : Nat) : IsOver p n k (overBy p n k) := Classical.epsilon_spec (over_ex hp hn k)

theorem pw_le {p : Int} (hp : Pr p) : ∀ k : Nat, p ^ k < 2 ^ (3 * k + 1)
  | 0 => by rw [Int.pow_zero]; decide
  | k + 1 => by
    have h := pw_le hp k
    have q := pw_pos hp k
    have h7 := hp.two_le
    rw [Int.pow_succ, show 3 * (k + 1) + 1 = 3 * k + 1 + 3 by omega, Int.pow_add]
    have : p ^ k * p ≤ p ^ k * 7 := Int.mul_le_mul_of_nonneg_left h7.2 (by omega)
    have e : (2 : Int) ^ 3 = 8 := by decide
    rw [e]; omega
theorem sq_step {x y p : Int} {k k0 : Nat} (h : x * y ^ k = p ^ k0) : (if k % 2 = 1 then x * y else x) * (y * y) ^ (k / 2) = p ^ k0 := by
  rw [← h, Int.mul_pow, ← Int.pow_add]
  split
  · rw [Int.mul_assoc, ← Int.pow_succ']
    congr 2; omega
  · congr 2; omega
theorem le_self_pow {y : Int} (h : 1 ≤ y) : ∀ {k : Nat}, 1 ≤ k → y ≤ y ^ k
  | 1, _ => by rw [Int.pow_one]; exact Int.le_refl y
  | k + 2, _ => by
    have := le_self_pow h (show 1 ≤ k + 1 by omega)
    rw [Int.pow_succ]
    have q : y ^ (k + 1) * 1 ≤ y ^ (k + 1) * y := Int.mul_le_mul_of_nonneg_left h (by omega)
    omega
theorem le_mul_pos {x y : Int} (hx : 1 ≤ x) (hy : 1 ≤ y) : x ≤ x * y ∧ y ≤ x * y := by
  have h1 : x * 1 ≤ x * y := Int.mul_le_mul_of_nonneg_left hy (by omega)
  have h2 : 1 * y ≤ x * y := Int.mul_le_mul_of_nonneg_right hx (by omega)
  omega

theorem pw_bd {p : Int} (hp : Pr p) (k : Nat) : Bd (3 * k + 1) (p ^ k) := by
  have h := pw_le hp k
  have q := pw_pos hp k
  unfold Bd
  have e : ((2 ^ (3 * k + 1) : Nat) : Int) = (2 : Int) ^ (3 * k + 1) := by simp
  omega
theorem Bd.of_le {n : Nat} {x y : Int} (h0 : 0 ≤ x) (h1 : x ≤ y) (h : Bd n y) : Bd n x := by unfold Bd at *; omega
theorem sq_ok {x y p : Int} {k' k0 : Nat} (hp : Pr p) (hx : 1 ≤ x) (hy : 1 ≤ y) (hk : 1 ≤ k') (h0 : k0 ≤ 1000000) (h : x * y ^ k' = p ^ k0) : IntMulOk x y ∧ IntMulOk y y := by
  have b := pw_bd hp k0
  have y1 := le_self_pow hy hk
  have z := le_mul_pos hx (show 1 ≤ y ^ k' by omega)
  rw [h] at z
  have bx : Bd (3 * k0 + 1) x := Bd.of_le (by omega) z.1 b
  have by' : Bd (3 * k0 + 1) y := Bd.of_le (by omega) (by omega) b
  exact ⟨mulOk bx by' (by omega), mulOk by' by' (by omega)⟩
def R_raised (ds : List D) (d : D) : Prop := ∃ p k : Int, ds = [.int p, .int k] ∧ Pr p ∧ k ≤ 1000000 ∧ d = .int (p ^ k.toNat)
def R_obp (ds : List D) (d : D) : Prop := ∃ p n : Int, ds = [.int p, .int n] ∧ Pr p ∧ ¬ n % p = 0 ∧ Bd 1000000 n ∧ d = .int (overBy p n 1)
def R_over_by (ds : List D) (d : D) : Prop := ∃ p n k : Int, ds = [.int p, .int n, .int k] ∧ Pr p ∧ ¬ n % p = 0 ∧ 0 ≤ k ∧ k ≤ 1000000 ∧ Bd 1000000 n ∧ d = .int (overBy p n k.toNat)
/-! fractions -/
theorem low_num (t : Int) {b : Int} (hb : b ≠ 0) : t.fdiv (if b < 0 then -(Int.gcd t b : Int) else (Int.gcd t b : Int)) = (Rat.divInt t b).num ∧ b.fdiv (if b < 0 then -(Int.gcd t b : Int) else (Int.gcd t b : Int)) = ((Rat.divInt t b).den : Int) := by
  have hg : 0 < Int.gcd t b := Int.gcd_pos_of_ne_zero_right t hb
  have dt := Int.gcd_dvd_left t b
  have db := Int.gcd_dvd_right t b
  rw [Rat.num_divInt, Rat.den_divInt, if_neg hb, Int.gcd_comm b t]
  obtain ⟨u, hu⟩ := dt
  obtain ⟨v, hv⟩ := db
  have g0 : (Int.gcd t b : Int) ≠ 0 := by omega
  generalize hgg : (Int.gcd t b : Int) = g at *
  have hgn : Int.gcd t b = g.toNat := by omega
  have gp : 0 < g := by omega
  rw [hgn]
  have fm : ∀ x : Int, (g * x).fdiv g = x := fun x => by rw [Int.mul_comm]; exact Int.mul_fdiv_cancel x g0
  have fm' : ∀ x : Int, (g * x).fdiv (-g) = -x := fun x => by rw [show g * x = (-x) * (-g) by grind]; exact Int.mul_fdiv_cancel (-x) (by omega)
  have em : ∀ x : Int, (g * x) / g = x := fun x => Int.mul_ediv_cancel_left x g0
  by_cases hb0 : b < 0
  · rw [if_pos hb0]
    have s : b.sign = -1 := Int.sign_eq_neg_one_of_neg hb0
    rw [s]
    constructor
    · rw [hu, fm', show -1 * (g * u) = g * (-u) by grind, em]
    · rw [hv, fm']
      have vn : v < 0 := by
        by_cases h : v < 0
        · exact h
        · have := Int.mul_nonneg (show 0 ≤ g by omega) (show 0 ≤ v by omega); omega
      have : (g * v).natAbs / g.toNat = v.natAbs := by
        rw [Int.natAbs_mul, show g.natAbs = g.toNat by omega]
        exact Nat.mul_div_cancel_left _ (by omega)
      rw [this]; omega
  · rw [if_neg hb0]
    have s : b.sign = 1 := Int.sign_eq_one_of_pos (by omega)
    rw [s]
    constructor
    · rw [hu, fm, Int.one_mul, em]
    · rw [hv, fm]
      have vn : 0 ≤ v := by
        by_cases h : v < 0
        · have := Int.mul_nonneg (show 0 ≤ g by omega) (show 0 ≤ -v by omega)
          rw [show g * -v = -(g * v) by grind] at this; 
          have : g * v = 0 := by omega
          omega
        · omega
      have : (g * v).natAbs / g.toNat = v.natAbs := by
        rw [Int.natAbs_mul, show g.natAbs = g.toNat by omega]
        exact Nat.mul_div_cancel_left _ (by omega)
      rw [this]; omega
/-! powers -/
def vp (p n : Int) : Nat := if h : 2 ≤ p ∧ n ≠ 0 ∧ n % p = 0 then vp p (n / p) + 1 else 0
termination_by n.natAbs
decreasing_by
  have e := Int.emod_add_mul_ediv n p
  rw [h.2.2, Int.zero_add] at e
  have h1 : n / p ≠ 0 := fun z => h.2.1 (by rw [← e, z, Int.mul_zero])
  have : (p * (n / p)).natAbs = n.natAbs := by rw [e]
  rw [Int.natAbs_mul] at this
  have h2 : 2 * (n / p).natAbs ≤ p.natAbs * (n / p).natAbs := Nat.mul_le_mul_right _ (by omega)
  omega
theorem vp_step {p n : Int} (hp : 2 ≤ p) (hn : n ≠ 0) (h : n % p = 0) : vp p n = vp p (n / p) + 1 := by rw [vp, dif_pos ⟨hp, hn, h⟩]
theorem vp_zero {p n : Int} (h : ¬ n % p = 0) : vp p n = 0 := by rw [vp, dif_neg (fun z => h z.2.2)]
theorem div_facts {p n : Int} (hp : 2 ≤ p) (hn : n ≠ 0) (h : n % p = 0) : n = p * (n / p) ∧ n / p ≠ 0 ∧ (n / p).natAbs < n.natAbs := by
  have e := Int.emod_add_mul_ediv n p
  rw [h, Int.zero_add] at e
  have h1 : n / p ≠ 0 := fun z => hn (by rw [← e, z, Int.mul_zero])
  have : (p * (n / p)).natAbs = n.natAbs := by rw [e]
  rw [Int.natAbs_mul] at this
  have h2 : 2 * (n / p).natAbs ≤ p.natAbs * (n / p).natAbs := Nat.mul_le_mul_right _ (by omega)
  exact ⟨e.symm, h1, by omega⟩
/-- None or a number -/
def vq (p : Int) (r : Rat) : Option Int := if r.num = 0 then none else some ((vp p r.num : Int) - (vp p r.den : Int))

abbrev frD (r : Rat) : D := .tup [.int r.num, .int (r.den : Int)]
theorem num_le (t : Int) {b : Int} (hb : b ≠ 0) : (Rat.divInt t b).num.natAbs ≤ t.natAbs ∧ (Rat.divInt t b).den ≤ b.natAbs := by
  have h := low_num t hb
  have hg : 0 < Int.gcd t b := Int.gcd_pos_of_ne_zero_right t hb
  rw [Rat.num_divInt, Rat.den_divInt, if_neg hb]
  refine ⟨?_, Nat.div_le_self _ _⟩
  rw [Int.gcd_comm] at hg
  refine Nat.le_trans (Int.natAbs_ediv_le_natAbs _ _) ?_
  rw [Int.natAbs_mul]
  have : b.sign.natAbs ≤ 1 := by
    rcases Int.lt_trichotomy b 0 with h | h | h
    · rw [Int.sign_eq_neg_one_of_neg h]; decide
    · exact absurd h hb
    · rw [Int.sign_eq_one_of_pos h]; decide
  calc b.sign.natAbs * t.natAbs ≤ 1 * t.natAbs := Nat.mul_le_mul_right _ this
    _ = t.natAbs := Nat.one_mul _
/-- a fraction of at most n bits above and below -/
def Fb (n : Nat) (r : Rat) : Prop := Bd n r.num ∧ Bd n (r.den : Int)
theorem Fb.mono {m n : Nat} {r : Rat} (h : Fb m r) (l : m ≤ n) : Fb n r := ⟨h.1.mono l, h.2.mono l⟩
theorem Fb.divInt {m : Nat} {t b : Int} (hb : b ≠ 0) (h1 : Bd m t) (h2 : Bd m b) : Fb m (Rat.divInt t b) := by
  have q := num_le t hb
  refine ⟨Nat.lt_of_le_of_lt q.1 h1, ?_⟩
  show ((Rat.divInt t b).den : Int).natAbs < 2 ^ m
  rw [Int.natAbs_natCast]
  exact Nat.lt_of_le_of_lt q.2 h2
theorem den_ne (r : Rat) : (r.den : Int) ≠ 0 := by have := r.den_nz; omega
theorem den_pos (r : Rat) : 0 < (r.den : Int) := by have := r.den_nz; omega
theorem rat_mul (a b : Rat) : Rat.divInt (a.num * b.num) ((a.den : Int) * (b.den : Int)) = a * b := by
  rw [Rat.mul_def', ← Rat.divInt_ofNat]; simp
theorem rat_add (a b : Rat) : Rat.divInt (a.num * (b.den : Int) + b.num * (a.den : Int)) ((a.den : Int) * (b.den : Int)) = a + b := by
  rw [Rat.add_def', ← Rat.divInt_ofNat]; simp
theorem Fb.mul {m n : Nat} {a b : Rat} (h1 : Fb m a) (h2 : Fb n b) : Fb (m + n) (a * b) := by
  rw [← rat_mul]
  exact Fb.divInt (Int.mul_ne_zero (den_ne a) (den_ne b)) (h1.1.mul h2.1) (h1.2.mul h2.2)
/-- p to a power of either sign -/
def ppw (p k : Int) : Rat := (p : Rat) ^ k
theorem ppw_nn {p k : Int} (h : 0 ≤ k) : (ppw p k).num = p ^ k.toNat ∧ (ppw p k).den = 1 := by
  unfold ppw
  have e : k = ((k.toNat : Nat) : Int) := by omega
  rw [e, Rat.zpow_natCast, Rat.num_pow, Rat.den_pow]
  constructor
  · rfl
  · show (1 : Nat) ^ _ = 1
    simp
theorem ppw_neg {p k : Int} (hp : 0 < p) (h : k < 0) : (ppw p k).num = 1 ∧ ((ppw p k).den : Int) = p ^ (-k).toNat := by
  have q := ppw_nn (p := p) (k := -k) (by omega)
  have e : ppw p k = (ppw p (-k))⁻¹ := by
    unfold ppw
    rw [Rat.zpow_neg, Rat.inv_inv]
  have pp : 0 < p ^ (-k).toNat := Int.pow_pos hp
  rw [e, Rat.num_inv, Rat.den_inv, q.1, q.2, Int.sign_eq_one_of_pos pp, if_neg (by omega)]
  constructor
  · rfl
  · omega
def R_power_of (ds : List D) (d : D) : Prop := ∃ p n : Int, ds = [.int p, .int n] ∧ Pr p ∧ d = (if n = 0 then .non else .int (vp p n : Int))
def R_ppw (ds : List D) (d : D) : Prop := ∃ p k : Int, ds = [.int p, .int k] ∧ Pr p ∧ -1000000 ≤ k ∧ k ≤ 1000000 ∧ d = frD (ppw p k)
def R_low (ds : List D) (d : D) : Prop := ∃ t b : Int, ds = [.int t, .int b] ∧ b ≠ 0 ∧ Bd 8900 b ∧ d = frD (Rat.divInt t b)
def R_qmul (ds : List D) (d : D) : Prop := ∃ a b : Rat, ds = [frD a, frD b] ∧ Fb 4400 a ∧ Fb 4400 b ∧ d = frD (a * b)
def R_qadd (ds : List D) (d : D) : Prop := ∃ a b : Rat, ds = [frD a, frD b] ∧ Fb 4400 a ∧ Fb 4400 b ∧ d = frD (a + b)
theorem low_bd {t b : Int} (hb : b ≠ 0) (h : Bd 8900 b) : (if b < 0 then -(Int.gcd t b : Int) else (Int.gcd t b : Int)) ≠ 0 ∧ Bd 9000 (if b < 0 then -(Int.gcd t b : Int) else (Int.gcd t b : Int)) := by
  have hg : 0 < Int.gcd t b := Int.gcd_pos_of_ne_zero_right t hb
  have hl := Int.gcd_le_natAbs_right t hb
  have h' := h.mono (show 8900 ≤ 9000 by decide)
  unfold Bd at *
  refine ⟨by split <;> omega, ?_⟩
  refine Nat.lt_of_le_of_lt ?_ h'
  split <;> omega
theorem pr_mul {p a b : Int} (hp : Pr p) (ha : ¬ a % p = 0) (hb : ¬ b % p = 0) : ¬ a * b % p = 0 := by
  intro h
  obtain ⟨c, _, _, hc⟩ := inv_ex hp hb
  have h1 := Int.dvd_of_emod_eq_zero h
  have h2 : p ∣ a * (b * c) := by rw [← Int.mul_assoc]; exact Int.dvd_mul_of_dvd_left h1
  have e : b * c = 1 + p * (b * c / p) := by have := Int.emod_add_mul_ediv (b * c) p; omega
  rw [e, Int.mul_add, Int.mul_one, Int.mul_left_comm] at h2
  have h3 : p ∣ a := (Int.dvd_add_left (Int.dvd_mul_right p _)).mp h2
  exact ha (Int.emod_eq_zero_of_dvd h3)
/-- a number's part without p -/
theorem vp_split {p : Int} (hp : Pr p) : ∀ (m : Nat) (n : Int), n.natAbs ≤ m → n ≠ 0 → ∃ u, n = p ^ (vp p n) * u ∧ ¬ u % p = 0
  | 0, n, hm, hn => by omega
  | m + 1, n, hm, hn => by
    have p2 := hp.two_le
    by_cases h : n % p = 0
    · have f := div_facts p2.1 hn h
      obtain ⟨u, hu, hup⟩ := vp_split hp m (n / p) (by omega) f.2.1
      refine ⟨u, ?_, hup⟩
      rw [vp_step p2.1 hn h, Int.pow_succ', Int.mul_assoc, ← hu]
      exact f.1
    · exact ⟨n, by rw [vp_zero h, Int.pow_zero, Int.one_mul], h⟩
theorem vp_ex {p : Int} (hp : Pr p) {n : Int} (hn : n ≠ 0) : ∃ u, n = p ^ (vp p n) * u ∧ ¬ u % p = 0 := vp_split hp _ n (Nat.le_refl _) hn
/-- p ^ n divides m * w, p does not divide w -/
theorem pw_gauss {p w : Int} (hp : Pr p) (hw : ¬ w % p = 0) : ∀ (n : Nat) (m : Int), p ^ n ∣ m * w → p ^ n ∣ m
  | 0, m, _ => by rw [Int.pow_zero]; exact Int.one_dvd m
  | n + 1, m, h => by
    have p2 := hp.two_le
    have hm : p ∣ m := by
      have h1 : p ∣ m * w := Int.dvd_trans (by rw [Int.pow_succ']; exact Int.dvd_mul_right _ _) h
      by_cases z : m % p = 0
      · exact Int.dvd_of_emod_eq_zero z
      · exact absurd (Int.emod_eq_zero_of_dvd h1) (pr_mul hp z hw)
    obtain ⟨q, rfl⟩ := hm
    rw [Int.pow_succ', Int.mul_assoc] at h
    have h2 : p ^ n ∣ q * w := Int.dvd_of_mul_dvd_mul_left (by omega) h
    rw [Int.pow_succ']
    exact Int.mul_dvd_mul_left p (pw_gauss hp hw n q h2)
theorem vp_of {p u : Int} (hp : Pr p) (hu : ¬ u % p = 0) (n : Nat) : vp p (p ^ n * u) = n := by
  have p2 := hp.two_le
  have u0 : u ≠ 0 := fun z => hu (by rw [z]; simp)
  induction n with
  | zero => rw [Int.pow_zero, Int.one_mul, vp_zero hu]
  | succ n ih =>
    have e : p ^ (n + 1) * u = p * (p ^ n * u) := by rw [Int.pow_succ', Int.mul_assoc]
    have pp := pw_pos hp n
    rw [e, vp_step p2.1 (Int.mul_ne_zero (by omega) (Int.mul_ne_zero (by omega) u0)) (Int.mul_emod_right p _), Int.mul_ediv_cancel_left _ (by omega), ih]
theorem ppw_add {p : Int} (hp : Pr p) (a b : Int) : ppw p (a + b) = ppw p a * ppw p b := by
  have p2 := hp.two_le
  exact Rat.zpow_add (by intro z; have : p = 0 := by exact_mod_cast z
                         omega) a b
theorem ppw_nat (p : Int) (n : Nat) : ppw p (n : Int) = ((p ^ n : Int) : Rat) := by
  have q := ppw_nn (p := p) (k := (n : Int)) (by omega)
  apply Rat.ext
  · rw [q.1]; simp
  · rw [q.2]; simp
theorem ppw_zero (p : Int) : ppw p 0 = 1 := by have := ppw_nat p 0; simpa using this
theorem ppw_ne {p : Int} (hp : Pr p) (k : Int) : ppw p k ≠ 0 := by
  intro z
  have h := ppw_add hp k (-k)
  rw [z, Rat.zero_mul, show k + -k = 0 by omega, ppw_zero] at h
  exact absurd h (by decide)
theorem ppw_inv {p : Int} (hp : Pr p) (k : Int) : ppw p (-k) * ppw p k = 1 := by
  rw [← ppw_add hp, show -k + k = 0 by omega, ppw_zero]
theorem rat_pos_of {a : Rat} (h : 0 < a.num) : 0 < a := by
  rw [Rat.lt_iff]; simpa using h
theorem ppw_pos {p : Int} (hp : Pr p) (k : Int) : 0 < ppw p k := by
  have p2 := hp.two_le
  have nat : ∀ n : Nat, 0 < ppw p (n : Int) := fun n => by
    apply rat_pos_of
    rw [(ppw_nn (p := p) (k := (n : Int)) (by omega)).1]
    exact pw_pos hp _
  by_cases h : 0 ≤ k
  · have := nat k.toNat
    rw [show ((k.toNat : Nat) : Int) = k by omega] at this
    exact this
  · have h1 := nat (-k).toNat
    rw [show (((-k).toNat : Nat) : Int) = -k by omega] at h1
    have e := ppw_inv hp k
    by_cases z : 0 < ppw p k
    · exact z
    · exfalso
      have z' : ppw p k ≤ 0 := Rat.not_lt.mp z
      have : ppw p (-k) * ppw p k ≤ ppw p (-k) * 0 := Rat.mul_le_mul_of_nonneg_left z' (Rat.le_of_lt h1)
      rw [e, Rat.mul_zero] at this
      exact absurd this (by decide)
/-- r is p ^ k times a fraction that is whole by p -/
def Dv (p k : Int) (r : Rat) : Prop := ∃ u w : Int, ¬ w % p = 0 ∧ r * (w : Rat) = (u : Rat) * ppw p k

theorem dv_zero (p k : Int) (hp : Pr p) : Dv p k 0 := ⟨0, 1, by rcases hp with rfl | rfl | rfl | rfl <;> decide, by simp⟩
theorem dv_add {p k : Int} (hp : Pr p) {r s : Rat} (hr : Dv p k r) (hs : Dv p k s) : Dv p k (r + s) := by
  obtain ⟨u, w, hw, h⟩ := hr
  obtain ⟨u', w', hw', h'⟩ := hs
  refine ⟨u * w' + u' * w, w * w', pr_mul hp hw hw', ?_⟩
  push_cast
  grind
theorem dv_neg {p k : Int} {r : Rat} (hr : Dv p k r) : Dv p k (-r) := by
  obtain ⟨u, w, hw, h⟩ := hr
  refine ⟨-u, w, hw, ?_⟩
  push_cast
  grind
theorem dv_comm {p k : Int} {r s : Rat} (h : Dv p k (r - s)) : Dv p k (s - r) := by
  have := dv_neg h
  rw [show -(r - s) = s - r by grind] at this
  exact this
theorem dv_trans {p k : Int} (hp : Pr p) {r s t : Rat} (h : Dv p k (r - s)) (h' : Dv p k (s - t)) : Dv p k (r - t) := by
  have := dv_add hp h h'
  rw [show r - s + (s - t) = r - t by grind] at this
  exact this
theorem rat_split (r : Rat) : r * (r.den : Rat) = (r.num : Rat) := by
  have h := Rat.num_divInt_den r
  rw [Rat.divInt_eq_div] at h
  have d0 : ((r.den : Int) : Rat) ≠ 0 := by
    intro z
    have : (r.den : Int) = 0 := by exact_mod_cast z
    exact den_ne r this
  conv => lhs; lhs; rw [← h]
  exact Rat.div_mul_cancel d0
theorem vq_dv {p k : Int} (hp : Pr p) (r : Rat) : Dv p k r ↔ (match vq p r with | none => True | some v => k ≤ v) := by
  by_cases h0 : r.num = 0
  · have z : r = 0 := Rat.num_eq_zero.mp h0
    have e : vq p r = none := by unfold vq; rw [if_pos h0]
    rw [e, z]
    exact ⟨fun _ => trivial, fun _ => dv_zero p k hp⟩
  · have e : vq p r = some ((vp p r.num : Int) - (vp p r.den : Int)) := by unfold vq; rw [if_neg h0]
    rw [e]
    obtain ⟨n, hn, np⟩ := vp_ex hp h0
    obtain ⟨d, hd, dp⟩ := vp_ex hp (den_ne r)
    generalize vp p r.num = a at *
    generalize vp p r.den = b at *
    have s := rat_split r
    have hn' : (r.num : Rat) = ppw p (a : Int) * (n : Rat) := by rw [ppw_nat, hn]; push_cast; rfl
    have hd' : (r.den : Rat) = ppw p (b : Int) * (d : Rat) := by
      rw [ppw_nat]
      have : ((r.den : Int) : Rat) = ((p ^ b * d : Int) : Rat) := by rw [← hd]
      push_cast at this ⊢
      exact this
    rw [hn', hd'] at s
    have pb := ppw_ne hp (b : Int)
    have key : r * (d : Rat) = (n : Rat) * ppw p ((a : Int) - (b : Int)) := by
      have e2 : ppw p (a : Int) = ppw p ((a : Int) - (b : Int)) * ppw p (b : Int) := by rw [← ppw_add hp]; congr 1; omega
      rw [e2] at s
      grind
    constructor
    · rintro ⟨u, w, hw, h⟩
      show k ≤ (a : Int) - (b : Int)
      by_cases z : k ≤ (a : Int) - (b : Int)
      · exact z
      · exfalso
        have e3 : ppw p k = ppw p (k - ((a : Int) - (b : Int))) * ppw p ((a : Int) - (b : Int)) := by rw [← ppw_add hp]; congr 1; omega
        have pk := ppw_ne hp ((a : Int) - (b : Int))
        obtain ⟨m, hm⟩ : ∃ m : Nat, k - ((a : Int) - (b : Int)) = ((m + 1 : Nat) : Int) := ⟨(k - ((a : Int) - (b : Int))).toNat - 1, by omega⟩
        have e4 : (n : Rat) * (w : Rat) = (u : Rat) * (d : Rat) * ppw p (k - ((a : Int) - (b : Int))) := by
          rw [e3] at h
          grind
        rw [hm, ppw_nat] at e4
        have e5 : n * w = u * d * p ^ (m + 1) := by exact_mod_cast e4
        have : n * w % p = 0 := Int.emod_eq_zero_of_dvd (by rw [e5, Int.pow_succ', Int.mul_left_comm]; exact Int.dvd_mul_right _ _)
        exact pr_mul hp np hw this
    · intro h
      have h : k ≤ (a : Int) - (b : Int) := h
      obtain ⟨m, hm⟩ : ∃ m : Nat, (a : Int) - (b : Int) - k = (m : Int) := ⟨((a : Int) - (b : Int) - k).toNat, by omega⟩
      refine ⟨n * p ^ m, d, dp, ?_⟩
      rw [key]
      have e3 : ppw p ((a : Int) - (b : Int)) = ppw p (m : Int) * ppw p k := by rw [← ppw_add hp]; congr 1; omega
      rw [e3, ppw_nat]
      push_cast
      grind

theorem dv_mono {p j k : Int} (hp : Pr p) (h : j ≤ k) {r : Rat} (hr : Dv p k r) : Dv p j r := by
  obtain ⟨u, w, hw, e⟩ := hr
  obtain ⟨m, hm⟩ : ∃ m : Nat, k - j = (m : Int) := ⟨(k - j).toNat, by omega⟩
  refine ⟨u * p ^ m, w, hw, ?_⟩
  rw [e, show k = (m : Int) + j by omega, ppw_add hp, ppw_nat]
  push_cast
  grind
/-- the bottom is a power of p -/
def PDen (p : Int) (r : Rat) : Prop := ∃ n : Nat, (r.den : Int) = p ^ n
theorem pden_scale {p : Int} (hp : Pr p) {r : Rat} (h : PDen p r) : ∃ (n : Nat) (m : Int), r * ppw p (n : Int) = (m : Rat) := by
  obtain ⟨n, hn⟩ := h
  refine ⟨n, r.num, ?_⟩
  rw [ppw_nat, ← hn, ← rat_split r]
  first | rfl | norm_cast
theorem scale_more {p : Int} (hp : Pr p) {r : Rat} {n : Nat} {m : Int} (h : r * ppw p (n : Int) = (m : Rat)) {l : Nat} (hl : n ≤ l) : ∃ m' : Int, r * ppw p (l : Int) = (m' : Rat) := by
  refine ⟨m * p ^ (l - n), ?_⟩
  have e : ppw p (l : Int) = ppw p (n : Int) * ppw p ((l - n : Nat) : Int) := by rw [← ppw_add hp]; congr 1; omega
  rw [e, ← Rat.mul_assoc, h, ppw_nat]
  push_cast
  rfl
/-- a divisor of a power of p is one -/
theorem dvd_pw {p : Int} (hp : Pr p) : ∀ (n : Nat) (d : Int), 0 < d → d ∣ p ^ n → ∃ m : Nat, d = p ^ m
  | 0, d, h0, h => ⟨0, by
    rw [Int.pow_zero] at h ⊢
    have := Int.le_of_dvd (by decide) h
    omega⟩
  | n + 1, d, h0, h => by
    have p2 := hp.two_le
    by_cases z : d % p = 0
    · obtain ⟨q, rfl⟩ := Int.dvd_of_emod_eq_zero z
      rw [Int.pow_succ'] at h
      have q0 : 0 < q := by
        by_cases hq : 0 < q
        · exact hq
        · have := Int.mul_nonneg (show 0 ≤ p by omega) (show 0 ≤ -q by omega)
          rw [Int.mul_neg] at this
          omega
      obtain ⟨m, rfl⟩ := dvd_pw hp n q q0 (Int.dvd_of_mul_dvd_mul_left (by omega) h)
      exact ⟨m + 1, by rw [Int.pow_succ']⟩
    · obtain ⟨c, hc⟩ := h
      have h1 : p ^ (n + 1) ∣ c * d := ⟨1, by rw [Int.mul_one, Int.mul_comm]; exact hc.symm⟩
      have h2 := pw_gauss hp z (n + 1) c h1
      obtain ⟨e, rfl⟩ := h2
      have pp := pw_pos hp (n + 1)
      have : d * e = 1 := by
        have h3 : p ^ (n + 1) * (d * e) = p ^ (n + 1) * 1 := by rw [Int.mul_one]; grind
        exact Int.eq_of_mul_eq_mul_left (by omega) h3
      have : d ∣ 1 := ⟨e, this.symm⟩
      have := Int.le_of_dvd (by decide) this
      exact ⟨0, by rw [Int.pow_zero]; omega⟩
theorem pden_of {p : Int} (hp : Pr p) {r : Rat} {n : Nat} {m : Int} (h : r * ppw p (n : Int) = (m : Rat)) : PDen p r := by
  have e : r.num * p ^ n = m * (r.den : Int) := by
    have s := rat_split r
    rw [ppw_nat] at h
    have q : (r.num : Rat) * ((p ^ n : Int) : Rat) = (m : Rat) * ((r.den : Int) : Rat) := by
      rw [← s, ← h]
      push_cast
      grind
    exact_mod_cast q
  have hc : Int.gcd (r.den : Int) r.num = 1 := by
    rw [Int.gcd_comm, Int.gcd_eq_natAbs_gcd_natAbs, Int.natAbs_natCast]; exact r.reduced
  have d : (r.den : Int) ∣ r.num * p ^ n := ⟨m, by rw [e, Int.mul_comm]⟩
  have d2 : (r.den : Int) ∣ p ^ n := by
    have g := Int.gcd_mul_right_right_of_gcd_eq_one (k := p ^ n) hc
    have : (Int.gcd (r.den : Int) (r.num * p ^ n) : Int) = (r.den : Int) := by
      rw [Int.gcd_eq_left (by omega) d]
    rw [g] at this
    have h3 := Int.gcd_dvd_right (r.den : Int) (p ^ n)
    rw [this] at h3
    exact h3
  obtain ⟨k, hk⟩ := dvd_pw hp n _ (den_pos r) d2
  exact ⟨k, hk⟩
structure IsRest (p k : Int) (a r : Rat) : Prop where
  den : PDen p r
  nn : 0 ≤ r
  lt : r < ppw p k
  dv : Dv p k (a - r)
theorem rat_lt_int {a b : Int} : (a : Rat) < (b : Rat) ↔ a < b := by
  rw [Rat.lt_iff]; simp
theorem rat_le_int {a b : Int} : (a : Rat) ≤ (b : Rat) ↔ a ≤ b := by
  rw [Rat.le_iff]; simp
theorem mul_lt {a b c : Rat} (h : a < b) (hc : 0 < c) : a * c < b * c := (Rat.mul_lt_mul_right hc).mpr h
theorem rest_uniq {p k : Int} (hp : Pr p) {a b r s : Rat} (hr : IsRest p k a r) (hs : IsRest p k b s) (h : Dv p k (a - b)) : r = s := by
  have d : Dv p k (r - s) := dv_trans hp (dv_comm hr.dv) (dv_trans hp h hs.dv)
  obtain ⟨n1, m1, e1⟩ := pden_scale hp hr.den
  obtain ⟨n2, m2, e2⟩ := pden_scale hp hs.den
  obtain ⟨L, hL⟩ : ∃ L : Nat, n1 ≤ L ∧ n2 ≤ L ∧ -k ≤ (L : Int) := ⟨n1 + n2 + (-k).toNat, by omega, by omega, by omega⟩
  obtain ⟨x, hx⟩ := scale_more hp e1 hL.1
  obtain ⟨y, hy⟩ := scale_more hp e2 hL.2.1
  obtain ⟨K, hK⟩ : ∃ K : Nat, k + (L : Int) = (K : Int) := ⟨(k + L).toNat, by omega⟩
  have pL := ppw_pos hp (L : Int)
  have eK : ppw p k * ppw p (L : Int) = ((p ^ K : Int) : Rat) := by rw [← ppw_add hp, hK, ppw_nat]
  have bd : ∀ {t : Rat} {z : Int}, 0 ≤ t → t < ppw p k → t * ppw p (L : Int) = (z : Rat) → 0 ≤ z ∧ z < p ^ K := fun {t z} h0 h1 hz => by
    constructor
    · have : (0 : Rat) ≤ (z : Rat) := by rw [← hz]; exact Rat.mul_nonneg h0 (Rat.le_of_lt pL)
      exact rat_le_int.mp (by simpa using this)
    · have := mul_lt h1 pL
      rw [hz, eK] at this
      exact rat_lt_int.mp this
  have bx := bd hr.nn hr.lt hx
  have by' := bd hs.nn hs.lt hy
  obtain ⟨u, w, hw, hd⟩ := d
  have e : (x - y) * w = u * p ^ K := by
    have q : ((x : Rat) - (y : Rat)) * (w : Rat) = (u : Rat) * ((p ^ K : Int) : Rat) := by
      rw [← hx, ← hy, ← eK]
      grind
    exact_mod_cast q
  have dd := pw_gauss hp hw K (x - y) ⟨u, by rw [e, Int.mul_comm]⟩
  have : x - y = 0 := by
    rcases Int.lt_trichotomy (x - y) 0 with h | h | h
    · have := Int.le_of_dvd (show 0 < -(x - y) by omega) (Int.dvd_neg.mpr dd); omega
    · exact h
    · have := Int.le_of_dvd h dd; omega
  have exy : x = y := by omega
  rw [exy, ← hy] at hx
  have pn := ppw_ne hp (L : Int)
  grind
noncomputable def restQ (p k : Int) (a : Rat) : Rat := if k + (vp p a.den : Int) ≤ 0 then 0 else
  Rat.divInt (a.num * overBy p ((a.den : Int) / p ^ (vp p a.den)) (k + (vp p a.den : Int)).toNat % p ^ (k + (vp p a.den : Int)).toNat) (p ^ (vp p a.den))
theorem rest_is {p : Int} (hp : Pr p) (k : Int) (a : Rat) : IsRest p k a (restQ p k a) := by
  obtain ⟨d, hd, dp⟩ := vp_ex hp (den_ne a)
  unfold restQ
  have s := rat_split a
  generalize vp p a.den = e at *
  have pe := pw_pos hp e
  have hdiv : (a.den : Int) / p ^ e = d := by rw [hd]; exact Int.mul_ediv_cancel_left d (by omega)
  have hd' : (a.den : Rat) = ppw p (e : Int) * (d : Rat) := by
    rw [ppw_nat]
    have : ((a.den : Int) : Rat) = ((p ^ e * d : Int) : Rat) := by rw [← hd]
    push_cast at this ⊢
    exact this
  rw [hd'] at s
  have pne := ppw_ne hp (e : Int)
  split
  · rename_i h
    refine ⟨⟨0, by simp⟩, Rat.le_refl, ppw_pos hp k, ?_⟩
    obtain ⟨m, hm⟩ : ∃ m : Nat, -(e : Int) - k = (m : Int) := ⟨(-(e : Int) - k).toNat, by omega⟩
    refine ⟨a.num * p ^ m, d, dp, ?_⟩
    have e1 : ppw p (-(e : Int)) * ppw p (e : Int) = 1 := ppw_inv hp _
    have e2 : ppw p (-(e : Int)) = ppw p (m : Int) * ppw p k := by rw [← ppw_add hp]; congr 1; omega
    rw [ppw_nat] at e2
    push_cast at e2 ⊢
    grind
  · rename_i h
    obtain ⟨K, hK⟩ : ∃ K : Nat, k + (e : Int) = (K : Int) := ⟨(k + e).toNat, by omega⟩
    rw [hdiv, hK, Int.toNat_natCast]
    have ov := overBy_is hp dp K
    generalize overBy p d K = x at ov
    have pK := pw_pos hp K
    have w0 := Int.emod_nonneg (a.num * x) (show p ^ K ≠ 0 by omega)
    have w1 := Int.emod_lt_of_pos (a.num * x) pK
    have dw : p ^ K ∣ a.num - (a.num * x % p ^ K) * d := by
      have e1 : a.num - (a.num * x % p ^ K) * d = -(a.num * (d * x - 1)) + p ^ K * (a.num * x / p ^ K * d) := by rw [Int.emod_def]; grind
      rw [e1]
      exact Int.dvd_add (Int.dvd_neg.mpr (Int.dvd_mul_of_dvd_right ov.2.2)) (Int.dvd_mul_right _ _)
    generalize a.num * x % p ^ K = W at *
    have hr : Rat.divInt W (p ^ e) * ppw p (e : Int) = (W : Rat) := by
      rw [Rat.divInt_eq_div, ppw_nat]
      refine Rat.div_mul_cancel ?_
      intro z
      have : p ^ e = 0 := by exact_mod_cast z
      omega
    generalize Rat.divInt W (p ^ e) = r at hr
    have pp := ppw_pos hp (e : Int)
    refine ⟨pden_of hp hr, ?_, ?_, ?_⟩
    · by_cases z : 0 ≤ r
      · exact z
      · exfalso
        have := mul_lt (Rat.not_le.mp z) pp
        rw [hr, Rat.zero_mul] at this
        have := rat_lt_int.mp (by simpa using this : (W : Rat) < ((0 : Int) : Rat))
        omega
    · by_cases z : r < ppw p k
      · exact z
      · exfalso
        have h1 : ppw p k * ppw p (e : Int) ≤ r * ppw p (e : Int) := Rat.mul_le_mul_of_nonneg_right (Rat.not_lt.mp z) (Rat.le_of_lt pp)
        rw [hr, ← ppw_add hp, hK, ppw_nat] at h1
        have := rat_le_int.mp h1
        omega
    · obtain ⟨t, ht⟩ := dw
      refine ⟨t, d, dp, ?_⟩
      have e1 : ppw p (e : Int) * ppw p k = ((p ^ K : Int) : Rat) := by rw [← ppw_add hp, show (e : Int) + k = (K : Int) by omega, ppw_nat]
      have e2 : (a.num : Rat) - (W : Rat) * (d : Rat) = ((p ^ K : Int) : Rat) * (t : Rat) := by exact_mod_cast ht
      grind

theorem vp_le {p : Int} (hp : Pr p) {n : Int} (hn : n ≠ 0) {m : Nat} (h : Bd m n) : vp p n < m := by
  obtain ⟨u, hu, up⟩ := vp_ex hp hn
  have p2 := hp.two_le
  have u0 : u ≠ 0 := fun z => up (by rw [z]; simp)
  unfold Bd at h
  by_cases z : vp p n < m
  · exact z
  · exfalso
    have e : n.natAbs = (p ^ vp p n).natAbs * u.natAbs := by rw [← Int.natAbs_mul, ← hu]
    have h1 : 2 ^ m ≤ (p ^ vp p n).natAbs := by
      rw [Int.natAbs_pow]
      exact Nat.le_trans (Nat.pow_le_pow_right (by decide) (by omega)) (Nat.pow_le_pow_left (by omega) _)
    have h2 : (p ^ vp p n).natAbs * 1 ≤ (p ^ vp p n).natAbs * u.natAbs := Nat.mul_le_mul_left _ (by omega)
    omega
def R_rest (ds : List D) (d : D) : Prop := ∃ (p k : Int) (a : Rat), ds = [.int p, .int k, frD a] ∧ Pr p ∧ k ≤ 900000 ∧ -900000 ≤ k ∧ Fb 4400 a ∧ d = frD (restQ p k a)
@[ext] structure Tb where
  a : Rat
  b : Rat
  c : Rat
  d : Rat
def Tb.mul (s t : Tb) : Tb := ⟨s.a * t.a + s.b * t.c, s.a * t.b + s.b * t.d, s.c * t.a + s.d * t.c, s.c * t.b + s.d * t.d⟩
def Tb.scale (t : Tb) (r : Rat) : Tb := ⟨t.a * r, t.b * r, t.c * r, t.d * r⟩
def Tb.turn (t : Tb) : Tb := ⟨t.d, 0 - t.b, 0 - t.c, t.a⟩
def Tb.one : Tb := ⟨1, 0, 0, 1⟩
/-- at most n bits in each part -/
structure Tbb (n : Nat) (t : Tb) : Prop where
  a : Fb n t.a
  b : Fb n t.b
  c : Fb n t.c
  d : Fb n t.d
/-- what the measure of t and the product of s and t reckon on the way is not too long -/
structure MOk (t : Tb) : Prop where
  ht : Tbb 4400 t
  ad : Fb 4400 (t.a * t.d)
  bc : Fb 4400 (t.b * t.c)
structure POk (s t : Tb) : Prop where
  hs : Tbb 4400 s
  ht : Tbb 4400 t
  aa : Fb 4400 (s.a * t.a)
  bc : Fb 4400 (s.b * t.c)
  ab : Fb 4400 (s.a * t.b)
  bd : Fb 4400 (s.b * t.d)
  ca : Fb 4400 (s.c * t.a)
  dc : Fb 4400 (s.d * t.c)
  cb : Fb 4400 (s.c * t.b)
  dd : Fb 4400 (s.d * t.d)
/-- low: of the spot (k2, q2) in the spot (k1, q1) -/
def lowS (p k1 : Int) (q1 : Rat) (k2 : Int) (q2 : Rat) : Int := match vq p (q2 - q1) with
  | none => min 0 (k2 - k1)
  | some v => min (min 0 (k2 - k1)) (v - k1)
abbrev spotD (k : Int) (q : Rat) : D := .tup [.int k, frD q]
theorem inv_ppw {p : Int} (hp : Pr p) (k : Int) : (ppw p k)⁻¹ = ppw p (-k) := by
  have h := ppw_inv hp k
  have h0 := ppw_ne hp k
  have := Rat.mul_inv_cancel _ h0
  grind
/-- p ^ M times r is a whole number of at most B bits -/
def Sz (p : Int) (M B : Nat) (r : Rat) : Prop := ∃ m : Int, r * ppw p (M : Int) = (m : Rat) ∧ Bd B m
theorem Sz.fb {p : Int} (hp : Pr p) {M B n : Nat} {r : Rat} (h : Sz p M B r) (h1 : 3 * M + 1 ≤ n) (h2 : B ≤ n) : Fb n r := by
  obtain ⟨m, e, b⟩ := h
  have e2 : r = Rat.divInt m (p ^ M) := by
    have pp := pw_pos hp M
    have hne : ((p ^ M : Int) : Rat) ≠ 0 := by
      have := ppw_ne hp (M : Int)
      rwa [ppw_nat] at this
    rw [ppw_nat] at e
    rw [Rat.divInt_eq_div, ← e, Rat.div_def, Rat.mul_assoc, Rat.mul_inv_cancel _ hne, Rat.mul_one]
  rw [e2]
  exact Fb.divInt (by have := pw_pos hp M; omega) (b.mono h2) ((pw_bd hp M).mono h1)
/-- a spot of no great size -/
structure Sp (p : Int) (k : Int) (q : Rat) : Prop where
  k0 : -310 ≤ k
  k1 : k ≤ 310
  q : Sz p 310 1862 q
def wayS (p k1 : Int) (q1 : Rat) (k2 : Int) (q2 : Rat) : Int := k2 - k1 - lowS p k1 q1 k2 q2 - lowS p k1 q1 k2 q2
def cellOf (ns : List Int) (k : Int) : Int := if k < (ns.length : Int) then ns.getD k.toNat 0 % 10 ^ 60 else 0
def drawn (ns : List Int) (k : Int) : Int := if 0 < (ns.length : Int) ∧ ns.getD 0 0 % 2 = 1 then cellOf ns k / (1 + if k = 0 then 1 else 0)
  else cellOf ns k * 2147483629 + (cellOf ns k + 7919 * k + 13) * 48271 % 2147483647 * 69621 % 2147483629
theorem cell_at {ns : List Int} {k : Int} (h0 : 0 ≤ k) (h : k < (ns.length : Int)) : atI (ns.map D.int) k = some (.int (ns.getD k.toNat 0)) := by
  have hk : k.toNat < ns.length := by omega
  have ek : k = ((k.toNat : Nat) : Int) := by omega
  have q : atI (ns.map D.int) ((k.toNat : Nat) : Int) = some (.int (ns.getD k.toNat 0)) := atI_nat (by
    rw [List.getElem?_map, List.getElem?_eq_getElem hk]
    simp [hk])
  rw [← ek] at q
  exact q
/-- a spot: its fraction is its own rest, and not too long -/
structure Spt (p K k : Int) (q : Rat) : Prop where
  k0 : -K ≤ k
  k1 : k ≤ K
  nn : 0 ≤ q
  lt : q < ppw p k
  sc : ∃ m : Int, q * ppw p ((310 : Nat) : Int) = (m : Rat)
theorem Spt.mono {p K L k : Int} {q : Rat} (h : Spt p K k q) (l : K ≤ L) : Spt p L k q := ⟨by have := h.k0; omega, by have := h.k1; omega, h.nn, h.lt, h.sc⟩
theorem Spt.sz {p K k : Int} (hp : Pr p) {q : Rat} (h : Spt p K k q) (l : K ≤ 310) : Sz p 310 1862 q := by
  obtain ⟨m, e⟩ := h.sc
  refine ⟨m, e, ?_⟩
  have hk := h.k0
  have hk1 := h.k1
  have pp := ppw_pos hp ((310 : Nat) : Int)
  have m0 : (0 : Int) ≤ m := by
    have := Rat.mul_le_mul_of_nonneg_right h.nn (Rat.le_of_lt pp)
    rw [e, Rat.zero_mul] at this
    exact_mod_cast this
  have m1 : m < p ^ (k + 310).toNat := by
    have := mul_lt h.lt pp
    rw [e, ← ppw_add hp, show k + ((310 : Nat) : Int) = (((k + 310).toNat : Nat) : Int) by omega, ppw_nat] at this
    exact_mod_cast this
  exact Bd.of_le m0 (Int.le_of_lt m1) ((pw_bd hp _).mono (by omega))
theorem Spt.fb {p K k : Int} (hp : Pr p) {q : Rat} (h : Spt p K k q) (l : K ≤ 310) : Fb 1862 q := (h.sz hp l).fb hp (by decide) (by decide)
theorem ppw_fb {p : Int} (hp : Pr p) {k : Int} (n : Nat) (h0 : -(n : Int) ≤ k) (h1 : k ≤ n) : Fb (3 * n + 1) (ppw p k) := by
  by_cases h : 0 ≤ k
  · have q := ppw_nn (p := p) h
    refine ⟨?_, ?_⟩
    · rw [q.1]; exact (pw_bd hp _).mono (by omega)
    · rw [q.2]
      have : 1 < 2 ^ (3 * n + 1) := Nat.one_lt_two_pow (by omega)
      unfold Bd; simpa using this
  · have q := ppw_neg (p := p) (k := k) (by have := hp.two_le; omega) (by omega)
    refine ⟨?_, ?_⟩
    · rw [q.1]
      have : 1 < 2 ^ (3 * n + 1) := Nat.one_lt_two_pow (by omega)
      unfold Bd; simpa using this
    · rw [q.2]; exact (pw_bd hp _).mono (by omega)
/-! spots as the laws draw them -/
/-! the whole part taken off -/
theorem prime_at {i : Int} (h0 : 0 ≤ i) (h1 : i < 4) : ∃ p, Pr p ∧ atI [D.int 2, D.int 3, D.int 5, D.int 7] i = some (.int p) := by
  rcases (show i = 0 ∨ i = 1 ∨ i = 2 ∨ i = 3 by omega) with rfl | rfl | rfl | rfl
  · exact ⟨2, .inl rfl, rfl⟩
  · exact ⟨3, .inr (.inl rfl), rfl⟩
  · exact ⟨5, .inr (.inr (.inl rfl)), rfl⟩
  · exact ⟨7, .inr (.inr (.inr rfl)), rfl⟩
theorem low_iff {p : Int} (hp : Pr p) (k1 k2 n : Int) (q1 q2 : Rat) : n ≤ lowS p k1 q1 k2 q2 + k1 ↔ n ≤ k1 ∧ n ≤ k2 ∧ Dv p n (q2 - q1) := by
  rw [vq_dv hp]
  unfold lowS
  cases vq p (q2 - q1) with
  | none => show n ≤ min 0 (k2 - k1) + k1 ↔ n ≤ k1 ∧ n ≤ k2 ∧ True; rw [and_true]; omega
  | some v => simp only []; omega
theorem low_le {p : Int} (hp : Pr p) (k1 k2 : Int) (q1 q2 : Rat) : lowS p k1 q1 k2 q2 + k1 ≤ k1 ∧ lowS p k1 q1 k2 q2 + k1 ≤ k2 ∧ Dv p (lowS p k1 q1 k2 q2 + k1) (q2 - q1) := (low_iff hp k1 k2 _ q1 q2).mp (Int.le_refl _)
theorem low_symm {p : Int} (hp : Pr p) (k1 k2 : Int) (q1 q2 : Rat) : lowS p k2 q2 k1 q1 + k2 = lowS p k1 q1 k2 q2 + k1 := by
  have a := low_le hp k1 k2 q1 q2
  have b := low_le hp k2 k1 q2 q1
  have c := (low_iff hp k1 k2 (lowS p k2 q2 k1 q1 + k2) q1 q2).mpr ⟨b.2.1, b.1, dv_comm b.2.2⟩
  have d := (low_iff hp k2 k1 (lowS p k1 q1 k2 q2 + k1) q2 q1).mpr ⟨a.2.1, a.1, dv_comm a.2.2⟩
  omega
/-- the rest of a fraction whose bottom is a power of p -/
def lrest (p j : Int) (q : Rat) : Rat := if j + (vp p q.den : Int) ≤ 0 then 0 else Rat.divInt (q.num % p ^ (j + (vp p q.den : Int)).toNat) q.den
theorem den_vp {p : Int} (hp : Pr p) {q : Rat} (h : PDen p q) : (q.den : Int) = p ^ vp p q.den := by
  obtain ⟨n, e⟩ := h
  have p2 := hp.two_le
  have h1 : ¬ (1 : Int) % p = 0 := by rcases hp with rfl | rfl | rfl | rfl <;> decide
  have := vp_of hp h1 n
  rw [Int.mul_one] at this
  rw [e, this]
theorem lrest_is {p : Int} (hp : Pr p) (j : Int) {q : Rat} (h : PDen p q) : lrest p j q = restQ p j q := by
  have p2 := hp.two_le
  have hd := den_vp hp h
  have dn : (q.den : Rat) ≠ 0 := by
    have := den_ne q
    exact_mod_cast this
  have rs := rat_split q
  have hnn : ((q.den : Int) : Rat) = ppw p (vp p q.den : Int) := by rw [ppw_nat, ← hd]
  generalize hv : vp p q.den = v at *
  have one : ¬ (1 : Int) % p = 0 := by rcases hp with rfl | rfl | rfl | rfl <;> decide
  have key : IsRest p j q (lrest p j q) := by
    unfold lrest
    rw [hv]
    split
    · rename_i hle
      refine ⟨⟨0, by simp⟩, by decide, ppw_pos hp j, ?_⟩
      rw [Rat.sub_eq_add_neg, Rat.neg_zero, Rat.add_zero]
      refine ⟨q.num * p ^ (-(j + v)).toNat, 1, one, ?_⟩
      have e : ppw p j * ppw p (v : Int) = ppw p (j + v) := by rw [← ppw_add hp]
      have e2 : ((p ^ (-(j + (v : Int))).toNat : Int) : Rat) * ppw p (j + v) = 1 := by
        rw [← ppw_nat, ← ppw_add hp, show (((-(j + (v : Int))).toNat : Nat) : Int) + (j + v) = 0 by omega, ppw_zero]
      have hq : q * ppw p (v : Int) = (q.num : Rat) := by rw [← hnn]; exact_mod_cast rs
      have i1 := ppw_inv hp (v : Int)
      have c : ((q.num * p ^ (-(j + (v : Int))).toNat : Int) : Rat) = (q.num : Rat) * ((p ^ (-(j + (v : Int))).toNat : Int) : Rat) := by push_cast; rfl
      rw [c]
      have one' : ((1 : Int) : Rat) = 1 := rfl
      rw [one', ← hq]
      rw [← e] at e2
      grind
    · rename_i hgt
      have hn : (((j + (v : Int)).toNat : Nat) : Int) = j + v := by omega
      generalize (j + (v : Int)).toNat = n at *
      have pp := pw_pos hp n
      have m0 := Int.emod_nonneg q.num (show p ^ n ≠ 0 by omega)
      have m1 := Int.emod_lt_of_pos q.num pp
      have dm := Int.mul_ediv_add_emod q.num (p ^ n)
      have er : Rat.divInt (q.num % p ^ n) q.den * ((q.den : Int) : Rat) = ((q.num % p ^ n : Int) : Rat) := by
        rw [Rat.divInt_eq_div]
        have : (((q.den : Int)) : Rat) ≠ 0 := by exact_mod_cast den_ne q
        rw [Rat.div_mul_cancel this]
      generalize Rat.divInt (q.num % p ^ n) q.den = r at *
      rw [hnn] at er
      have vp0 := ppw_pos hp (v : Int)
      have jn : ppw p j * ppw p (v : Int) = ((p ^ n : Int) : Rat) := by rw [← ppw_add hp, ← hn, ppw_nat]
      refine ⟨pden_of hp (n := v) er, ?_, ?_, ?_⟩
      · have : (0 : Rat) * ppw p (v : Int) ≤ r * ppw p (v : Int) := by
          rw [er, Rat.zero_mul]; exact_mod_cast m0
        exact Rat.le_of_mul_le_mul_right this vp0
      · have : r * ppw p (v : Int) < ppw p j * ppw p (v : Int) := by
          rw [er, jn]; exact_mod_cast m1
        exact (Rat.mul_lt_mul_right vp0).mp this
      · refine ⟨q.num / p ^ n, 1, one, ?_⟩
        have hq : q * ppw p (v : Int) = (q.num : Rat) := by rw [← hnn]; exact_mod_cast rs
        have i1 := ppw_inv hp (v : Int)
        have dm' : (q.num : Rat) = ((p ^ n : Int) : Rat) * ((q.num / p ^ n : Int) : Rat) + ((q.num % p ^ n : Int) : Rat) := by exact_mod_cast dm.symm
        have one' : ((1 : Int) : Rat) = 1 := rfl
        rw [one']
        rw [← hq, ← er, ← jn] at dm'
        grind
  exact rest_uniq hp key (rest_is hp j q) (by rw [Rat.sub_self]; exact dv_zero p _ hp)
theorem rest_sc {p : Int} (hp : Pr p) (j : Int) {q : Rat} (h : ∃ m : Int, q * ppw p ((310 : Nat) : Int) = (m : Rat)) : ∃ m : Int, restQ p j q * ppw p ((310 : Nat) : Int) = (m : Rat) := by
  rw [← lrest_is hp j (by obtain ⟨m, e⟩ := h; exact pden_of hp e)]
  unfold lrest
  split
  · exact ⟨0, by simp⟩
  · obtain ⟨m, h⟩ := h
    have e : q.num * p ^ 310 = m * (q.den : Int) := by
      have s := rat_split q
      rw [ppw_nat] at h
      have q : (q.num : Rat) * ((p ^ 310 : Int) : Rat) = (m : Rat) * ((q.den : Int) : Rat) := by
        rw [← s, ← h]
        push_cast
        grind
      exact_mod_cast q
    have hc : Int.gcd (q.den : Int) q.num = 1 := by
      rw [Int.gcd_comm, Int.gcd_eq_natAbs_gcd_natAbs, Int.natAbs_natCast]; exact q.reduced
    have d : (q.den : Int) ∣ q.num * p ^ 310 := ⟨m, by rw [e, Int.mul_comm]⟩
    have d2 : (q.den : Int) ∣ p ^ 310 := by
      have g := Int.gcd_mul_right_right_of_gcd_eq_one (k := p ^ 310) hc
      have : (Int.gcd (q.den : Int) (q.num * p ^ 310) : Int) = (q.den : Int) := by
        rw [Int.gcd_eq_left (by omega) d]
      rw [g] at this
      have h3 := Int.gcd_dvd_right (q.den : Int) (p ^ 310)
      rw [this] at h3
      exact h3
    obtain ⟨z, hz⟩ := d2
    generalize q.num % p ^ (j + (vp p q.den : Int)).toNat = w
    refine ⟨w * z, ?_⟩
    have dn : (((q.den : Int)) : Rat) ≠ 0 := by exact_mod_cast den_ne q
    rw [ppw_nat, hz, Rat.divInt_eq_div]
    push_cast
    push_cast at dn
    rw [← Rat.mul_assoc, Rat.div_mul_cancel dn]
theorem Spt.up {p K k : Int} (hp : Pr p) {q : Rat} (h : Spt p K k q) : Spt p (K + 1) (k - 1) (restQ p (k - 1) q) := by
  have r := rest_is hp (k - 1) q
  exact ⟨by have := h.k0; omega, by have := h.k1; omega, r.nn, r.lt, rest_sc hp _ h.sc⟩
def downQ (p k : Int) (q : Rat) (c : Int) : Rat := q + (c : Rat) * ppw p k
theorem Spt.down {p K k c : Int} (hp : Pr p) {q : Rat} (h : Spt p K k q) (hK : K ≤ 309) (c0 : 0 ≤ c) (c1 : c < p) : Spt p (K + 1) (k + 1) (downQ p k q c) := by
  have a0 := h.k0
  have a1 := h.k1
  have pk := ppw_pos hp k
  unfold downQ
  have c0' : (0 : Rat) ≤ (c : Rat) := by exact_mod_cast c0
  have c1' : ((c + 1 : Int) : Rat) ≤ (p : Rat) := by exact_mod_cast (show c + 1 ≤ p by omega)
  refine ⟨by omega, by omega, ?_, ?_, ?_⟩
  · have := Rat.mul_nonneg c0' (Rat.le_of_lt pk)
    have := h.nn
    grind
  · have e : ppw p (k + 1) = ppw p k * (p : Rat) := by
      rw [ppw_add hp]
      congr 1
      have := ppw_nat p 1
      simpa using this
    have l := h.lt
    have m : ((c + 1 : Int) : Rat) * ppw p k ≤ (p : Rat) * ppw p k := Rat.mul_le_mul_of_nonneg_right c1' (Rat.le_of_lt pk)
    push_cast at m
    rw [e]
    grind
  · obtain ⟨m, e⟩ := h.sc
    refine ⟨m + c * p ^ (k + 310).toNat, ?_⟩
    have e2 : ppw p k * ppw p ((310 : Nat) : Int) = ((p ^ (k + 310).toNat : Int) : Rat) := by
      rw [← ppw_add hp, ← ppw_nat]
      congr 1
      omega
    have c2 : ((m + c * p ^ (k + 310).toNat : Int) : Rat) = (m : Rat) + (c : Rat) * ((p ^ (k + 310).toNat : Int) : Rat) := by push_cast; rfl
    rw [c2, ← e, ← e2]
    grind
/-! the level at which two spots part -/
def lvS (p k1 : Int) (q1 : Rat) (k2 : Int) (q2 : Rat) : Int := lowS p k1 q1 k2 q2 + k1
theorem way_lv (p k1 : Int) (q1 : Rat) (k2 : Int) (q2 : Rat) : k1 + k2 - 2 * lvS p k1 q1 k2 q2 = wayS p k1 q1 k2 q2 := by
  unfold wayS lvS
  omega
/-! drawn spots -/
def fK (n : Int) : Int := if n / 25 % 8 = 1 then n / 25 / 8 % 401 - 200 else n % 25 - 12
def fDeep (n : Int) : Int := max 0 (-(fK n)) + n / 25 / 3208 % 7
def fNum (n : Int) : Int := if n / 25 / 3208 / 7 < 2 ^ 61 then (if n / 25 / 3208 / 7 % 5 = 1 then n / 25 / 3208 / 7 / 5 % 9 else (n / 25 / 3208 / 7 + 1) * 1442695040888963407 ^ 12 + n / 25 / 3208 / 7) else n / 25 / 3208 / 7
def fQ (p n : Int) : Rat := Rat.divInt (fNum n % p ^ (fK n + fDeep n).toNat) (p ^ (fDeep n).toNat)
theorem fK_bd (n : Int) : -200 ≤ fK n ∧ fK n ≤ 200 := by
  unfold fK
  split <;> omega
theorem fDeep_bd (n : Int) : 0 ≤ fDeep n ∧ fDeep n ≤ 206 ∧ 0 ≤ fK n + fDeep n ∧ fK n + fDeep n ≤ 206 := by
  have := fK_bd n
  unfold fDeep
  omega
theorem fQ_is {p : Int} (hp : Pr p) (n : Int) : Spt p 200 (fK n) (fQ p n) := by
  have a := fK_bd n
  have b := fDeep_bd n
  unfold fQ
  generalize fNum n = N
  generalize fK n = k at *
  generalize fDeep n = e at *
  have q1 := pw_pos hp (k + e).toNat
  have w0 := Int.emod_nonneg N (show p ^ (k + e).toNat ≠ 0 by omega)
  have w1 := Int.emod_lt_of_pos N q1
  generalize N % p ^ (k + e).toNat = w at w0 w1
  have hpb : ((p ^ e.toNat : Int) : Rat) = ppw p e := by rw [← ppw_nat]; congr 1; omega
  have hw : Rat.divInt w (p ^ e.toNat) = (w : Rat) * ppw p (-e) := by
    rw [Rat.divInt_eq_div, hpb, Rat.div_def, inv_ppw hp]
  rw [hw]
  have pm := ppw_pos hp (-e)
  refine ⟨a.1, a.2, ?_, ?_, ?_⟩
  · have : (0 : Rat) ≤ (w : Rat) := by exact_mod_cast w0
    exact Rat.mul_nonneg this (Rat.le_of_lt pm)
  · have h : (w : Rat) < ((p ^ (k + e).toNat : Int) : Rat) := by exact_mod_cast w1
    have := mul_lt h pm
    rw [← ppw_nat, ← ppw_add hp, show ((k + e).toNat : Int) + -e = k by omega] at this
    exact this
  · refine ⟨w * p ^ (310 - e).toNat, ?_⟩
    rw [Rat.mul_assoc, ← ppw_add hp]
    push_cast
    congr 1
    rw [show -e + 310 = (((310 - e).toNat : Nat) : Int) by omega, ppw_nat]
    push_cast
    rfl
/-! near spots: some ways up, some ways down -/
def fmix (x k : Int) : Int := (x % 2305843009213693951 + 7919 * k * k + 104729 * k + 17) * 1442695040888963407 % 2305843009213693951 * 1181783497276652981 % 2305843009213693921
def fcell (ns : List Int) (k : Int) : Int := if k < (ns.length : Int) then (if 0 < k ∧ ns.getD 0 0 % 2 = 1 then ((ns.getD k.toNat 0).natAbs : Int) else fmix (ns.getD k.toNat 0) k) else fmix 0 k
theorem fcell_nn (ns : List Int) (k : Int) : 0 ≤ fcell ns k := by
  unfold fcell fmix
  repeat' split
  all_goals omega
def R_fcell (ds : List D) (d : D) : Prop := ∃ (ns : List Int) (k : Int), ds = [.lst (ns.map D.int), .int k] ∧ ns.length ≤ 63 ∧ 0 ≤ k ∧ k < 1000 ∧ d = .int (fcell ns k)
def R_fpw (ds : List D) (d : D) : Prop := ∃ p n : Int, ds = [.int p, .int n] ∧ Pr p ∧ 0 ≤ n ∧ n ≤ 3000 ∧ d = .int (p ^ n.toNat)
def R_fspot (ds : List D) (d : D) : Prop := ∃ p n : Int, ds = [.int p, .int n] ∧ Pr p ∧ 0 ≤ n ∧ d = spotD (fK n) (fQ p n)
def R_flow (ds : List D) (d : D) : Prop := ∃ t b : Int, ds = [.int t, .int b] ∧ 0 < b ∧ Bd 8900 b ∧ d = frD (Rat.divInt t b)



noncomputable def tiesL (p k : Int) (q : Rat) : List (Int × Rat) := (k - 1, restQ p (k - 1) q) :: (List.range p.toNat).map fun (c : Nat) => (k + 1, downQ p k q (0 + (c : Int) * 1))
abbrev trS (s : Int × Rat) : Int × Int × Int := (s.1, s.2.num, (s.2.den : Int))
noncomputable def tieS (p k : Int) (q : Rat) : List (Int × Int × Int) := triS ((tiesL p k q).map trS)
theorem tiesL_len {p : Int} (hp : Pr p) (k : Int) (q : Rat) : ((tiesL p k q).map trS).length = p.toNat + 1 := by
  rw [List.length_map]
  unfold tiesL
  rw [List.length_cons, List.length_map, List.length_range]
theorem tieS_len {p : Int} (hp : Pr p) (k : Int) (q : Rat) : (tieS p k q).length = p.toNat + 1 := by
  have h := (triS_ok (l := (tiesL p k q).map trS) (by intro z; have := tiesL_len hp k q; rw [z] at this; cases this)).1
  rw [tiesL_len hp] at h
  exact h
theorem tiesL_D (p k : Int) (q : Rat) : [spotD (k - 1) (restQ p (k - 1) q)] ++ ((List.range p.toNat).map fun (c : Nat) => spotD (k + 1) (downQ p k q (0 + (c : Int) * 1))) = ((tiesL p k q).map trS).map triD := by
  unfold tiesL
  simp only [List.map_cons, List.map_map, List.cons_append, List.nil_append]
  rfl
def R_above31 (ds : List D) (d : D) : Prop := ∃ (p j : Int) (q : Rat) (k : Int), ds = [.int p, spotD j q, .int k] ∧ Pr p ∧ Fb 4400 q ∧ -900000 ≤ k ∧ k ≤ 900000 ∧ d = spotD k (restQ p k q)
def R_ties (ds l : List D) : Prop := ∃ (p k : Int) (q : Rat), ds = [.int p, spotD k q] ∧ Pr p ∧ Spt p 300 k q ∧ l = (tieS p k q).map triD
theorem sh_tri : ∀ l : List (Int × Int × Int), PyData.canLayAll0 (toPys (l.map triD)) = true ∧ PyData.depthAll (toPys (l.map triD)) ≤ 3
  | [] => ⟨rfl, Nat.zero_le 3⟩
  | t :: l => by
    have h := sh_tri l
    have e1 : PyData.canLay0 (toPy (triD t)) = true := rfl
    have e2 : PyData.depth (toPy (triD t)) = 2 := rfl
    refine ⟨?_, ?_⟩
    · show (PyData.canLay0 (toPy (triD t)) && PyData.canLayAll0 (toPys (l.map triD))) = true
      rw [e1, h.1]
      rfl
    · show max (PyData.depth (toPy (triD t))) (PyData.depthAll (toPys (l.map triD))) ≤ 3
      rw [e2]
      omega
theorem sh_tris (l : List (Int × Int × Int)) : SeqAt.shaped (toPy (.lst (l.map triD))) = true := by
  have h := sh_tri l
  show (PyData.canLayAll0 (toPys (l.map triD)) && decide (PyData.depthAll (toPys (l.map triD)) + 1 ≤ 64)) = true
  rw [h.1, decide_eq_true (by omega)]
  rfl
theorem eqD_tri (t : Int × Int × Int) : eqD (triD t) (triD t) = true := by
  have e : eqD (triD t) (triD t) = ((t.1 == t.1) && (((t.2.1 == t.2.1) && ((t.2.2 == t.2.2) && true)) && true)) := rfl
  rw [e]
  simp
theorem eq_tri : ∀ l : List (Int × Int × Int), PyData.eqvAll (toPys (l.map triD)) (toPys (l.map triD)) = true
  | [] => rfl
  | t :: l => by
    show (eqD (triD t) (triD t) && PyData.eqvAll (toPys (l.map triD)) (toPys (l.map triD))) = true
    rw [eqD_tri, eq_tri l]
    rfl
theorem eq_tris (l : List (Int × Int × Int)) : eqD (.lst (l.map triD)) (.lst (l.map triD)) = true := eq_tri l
theorem divInt_1 (c : Int) : Rat.divInt c 1 = (c : Rat) := by
  have h1 : (1 : Rat)⁻¹ = 1 := by decide +kernel
  rw [Rat.divInt_eq_div, Rat.div_def]
  show (c : Rat) * (1 : Rat)⁻¹ = (c : Rat)
  rw [h1, Rat.mul_one]
theorem lv_iff {p : Int} (hp : Pr p) (k1 k2 n : Int) (q1 q2 : Rat) : n ≤ lvS p k1 q1 k2 q2 ↔ n ≤ k1 ∧ n ≤ k2 ∧ Dv p n (q2 - q1) := low_iff hp k1 k2 n q1 q2
theorem lv_symm {p : Int} (hp : Pr p) (k1 k2 : Int) (q1 q2 : Rat) : lvS p k2 q2 k1 q1 = lvS p k1 q1 k2 q2 := low_symm hp k1 k2 q1 q2
def wy (p : Int) (a b : Int × Rat) : Int := wayS p a.1 a.2 b.1 b.2
abbrev stD (s : Int × Rat) : D := spotD s.1 s.2
/-- two spots part at the same spot, seen from either -/
theorem rest_part {p : Int} (hp : Pr p) (a b : Int × Rat) {n : Int} (h : n ≤ lvS p a.1 a.2 b.1 b.2) : restQ p n a.2 = restQ p n b.2 := by
  have d := ((lv_iff hp a.1 b.1 n a.2 b.2).mp h).2.2
  exact rest_uniq hp (rest_is hp n a.2) (rest_is hp n b.2) (dv_comm d)
noncomputable def abv (p : Int) (a : Int × Rat) (k : Int) : Int × Rat := (k, restQ p k a.2)
noncomputable def roadL (p : Int) (a b : Int × Rat) : List (Int × Rat) :=
  ((List.range (a.1 - (lvS p a.1 a.2 b.1 b.2 - 1)).toNat).map fun (j : Nat) => abv p a (a.1 + (j : Int) * (-1))) ++ (List.range (b.1 + 1 - (lvS p a.1 a.2 b.1 b.2 + 1)).toNat).map fun (j : Nat) => abv p b (lvS p a.1 a.2 b.1 b.2 + 1 + (j : Int) * 1)
theorem rest_rest41 {p : Int} (hp : Pr p) {j k : Int} (h : j ≤ k) (a : Rat) : restQ p j (restQ p k a) = restQ p j a :=
  rest_uniq hp (rest_is hp j _) (rest_is hp j a) (dv_comm (dv_mono hp h (rest_is hp k a).dv))
theorem abv_self {p K : Int} (hp : Pr p) {a : Int × Rat} (h : Spt p K a.1 a.2) : abv p a a.1 = a := by
  obtain ⟨m, e⟩ := h.sc
  have z : Dv p a.1 (a.2 - a.2) := by rw [Rat.sub_self]; exact dv_zero p a.1 hp
  have r2 : IsRest p a.1 a.2 a.2 := ⟨pden_of hp e, h.nn, h.lt, z⟩
  exact Prod.ext rfl (rest_uniq hp (rest_is hp a.1 a.2) r2 z)
theorem abv_spt {p K : Int} (hp : Pr p) {a : Int × Rat} (h : Spt p K a.1 a.2) {k : Int} (k0 : -K ≤ k) (k1 : k ≤ K) : Spt p K (abv p a k).1 (abv p a k).2 := by
  have r := rest_is hp k a.2
  exact ⟨k0, k1, r.nn, r.lt, rest_sc hp _ h.sc⟩
theorem range_rev {α : Type} (f : Nat → α) (n : Nat) : ((List.range n).map f).reverse = (List.range n).map fun i => f (n - 1 - i) := by
  apply List.ext_getElem
  · simp
  · intro i h1 h2
    simp at h1 h2
    simp
theorem road_rev {p : Int} (hp : Pr p) (a b : Int × Rat) : (roadL p a b).reverse = roadL p b a := by
  have sy := lv_symm hp a.1 b.1 a.2 b.2
  have le := (lv_iff hp a.1 b.1 _ a.2 b.2).mp (Int.le_refl (lvS p a.1 a.2 b.1 b.2))
  have pt := rest_part hp a b (Int.le_refl (lvS p a.1 a.2 b.1 b.2))
  unfold roadL
  rw [sy]
  generalize lvS p a.1 a.2 b.1 b.2 = t at *
  obtain ⟨m, hm⟩ : ∃ m : Nat, a.1 = t + (m : Int) := ⟨(a.1 - t).toNat, by omega⟩
  obtain ⟨n, hn⟩ : ∃ n : Nat, b.1 = t + (n : Int) := ⟨(b.1 - t).toNat, by omega⟩
  have e1 : (a.1 - (t - 1)).toNat = m + 1 := by omega
  have e2 : (b.1 + 1 - (t + 1)).toNat = n := by omega
  have e3 : (b.1 - (t - 1)).toNat = n + 1 := by omega
  have e4 : (a.1 + 1 - (t + 1)).toNat = m := by omega
  rw [e1, e2, e3, e4, List.reverse_append, range_rev, range_rev, List.range_succ (n := n), List.map_append, List.range_succ_eq_map (n := m), List.map_cons, List.map_map]
  have g0 : abv p b (b.1 + ((n : Nat) : Int) * (-1)) = abv p a (a.1 + ((m + 1 - 1 - 0 : Nat) : Int) * (-1)) := by
    rw [show b.1 + ((n : Nat) : Int) * (-1) = t by omega, show a.1 + ((m + 1 - 1 - 0 : Nat) : Int) * (-1) = t by omega]
    exact Prod.ext rfl pt.symm
  have g1 : (List.range n).map (fun i => abv p b (t + 1 + ((n - 1 - i : Nat) : Int) * 1)) = (List.range n).map fun (j : Nat) => abv p b (b.1 + (j : Int) * (-1)) := by
    apply List.map_congr_left
    intro i hi
    have := List.mem_range.mp hi
    congr 1
    omega
  have g2 : (List.range m).map ((fun i => abv p a (a.1 + ((m + 1 - 1 - i : Nat) : Int) * (-1))) ∘ Nat.succ) = (List.range m).map fun (j : Nat) => abv p a (t + 1 + (j : Int) * 1) := by
    apply List.map_congr_left
    intro i hi
    have := List.mem_range.mp hi
    show abv p a (a.1 + ((m + 1 - 1 - (i + 1) : Nat) : Int) * (-1)) = _
    congr 1
    omega
  rw [g1, g2]
  show _ ++ (abv p a (a.1 + ((m + 1 - 1 - 0 : Nat) : Int) * (-1)) :: _) = (_ ++ [abv p b (b.1 + ((n : Nat) : Int) * (-1))]) ++ _
  rw [g0, List.append_assoc]
  rfl
theorem road_len {p : Int} (hp : Pr p) (a b : Int × Rat) : ((roadL p a b).length : Int) = a.1 + b.1 - 2 * lvS p a.1 a.2 b.1 b.2 + 1 := by
  have le := (lv_iff hp a.1 b.1 _ a.2 b.2).mp (Int.le_refl (lvS p a.1 a.2 b.1 b.2))
  unfold roadL
  rw [List.length_append, List.length_map, List.length_map, List.length_range, List.length_range]
  omega
def isW : D → Bool
  | .int _ => true
  | _ => false
def isF : D → Bool
  | .tup [.int a, .int b] => decide (1 ≤ b) && decide ((Int.gcd a b : Int) = 1)
  | _ => false
def things (k : Int) (q : Rat) : List D := [.lst [.int k, frD q], .tup [.int k, .lst [.int q.num, .int (q.den : Int)]], .tup [.int k, frD q, .int 0], .tup [.int k], .tup [.int k, .tup [.int q.num]], .tup [.int k, .tup [.int q.num, .int (q.den : Int), .int 1]]] ++
  [.tup [.non, frD q], .tup [.str "1", frD q], .tup [.int k, .tup [.str (toString q.num), .int (q.den : Int)]], .tup [.int k, .tup [.int q.num, .non]], .int k, .non] ++
  [.str "0:0", .tup [.bl true, .tup [.int 0, .int 1]], .tup [.int 3, .tup [.bl true, .int 1]], .tup [.int 3, .tup [.int 0, .bl true]], .tup [.int k, .int q.num], .tup [frD q, .int k], .tup [], .lst []]
theorem dv_int32 {p : Int} (hp : Pr p) (k c : Int) : Dv p k ((c : Rat) * ppw p k) := ⟨c, 1, by rcases hp with rfl | rfl | rfl | rfl <;> decide, by simp⟩
/-- above a spot below lies the spot itself -/
theorem rest_down32 {p K k : Int} (hp : Pr p) {q : Rat} (h : Spt p K k q) (c : Int) : restQ p k (downQ p k q c) = q := by
  obtain ⟨m, e⟩ := h.sc
  have z : Dv p k (downQ p k q c - q) := by
    have e1 : downQ p k q c - q = (c : Rat) * ppw p k := by unfold downQ; grind
    rw [e1]
    exact dv_int32 hp k c
  exact rest_uniq hp (rest_is hp k _) ⟨pden_of hp e, h.nn, h.lt, z⟩ (by rw [Rat.sub_self]; exact dv_zero p k hp)
theorem abv_down32 {p K k : Int} (hp : Pr p) {q : Rat} (h : Spt p K k q) (c : Int) : abv p (k + 1, downQ p k q c) k = (k, q) := Prod.ext rfl (rest_down32 hp h c)
/-- a spot lies below the spot above it -/
theorem down_rest32 {p K k : Int} (hp : Pr p) {q : Rat} (h : Spt p K k q) : ∃ c : Int, 0 ≤ c ∧ c < p ∧ downQ p (k - 1) (restQ p (k - 1) q) c = q := by
  have r := rest_is hp (k - 1) q
  obtain ⟨m, e⟩ := h.sc
  obtain ⟨n1, m1, e1⟩ := pden_scale hp (pden_of hp e)
  obtain ⟨n2, m2, e2⟩ := pden_scale hp r.den
  obtain ⟨L, hL⟩ : ∃ L : Nat, n1 ≤ L ∧ n2 ≤ L ∧ -(k - 1) ≤ (L : Int) := ⟨n1 + n2 + (-(k - 1)).toNat, by omega, by omega, by omega⟩
  obtain ⟨x, hx⟩ := scale_more hp e1 hL.1
  obtain ⟨y, hy⟩ := scale_more hp e2 hL.2.1
  obtain ⟨N, hN⟩ : ∃ N : Nat, k - 1 + (L : Int) = (N : Int) := ⟨(k - 1 + L).toNat, by omega⟩
  have pL := ppw_pos hp (L : Int)
  have eN : ppw p (k - 1) * ppw p (L : Int) = ((p ^ N : Int) : Rat) := by rw [← ppw_add hp, hN, ppw_nat]
  obtain ⟨u, w, hw, hd⟩ := r.dv
  have g : (x - y) * w = u * p ^ N := by
    have z : ((x : Rat) - (y : Rat)) * (w : Rat) = (u : Rat) * ((p ^ N : Int) : Rat) := by
      rw [← hx, ← hy, ← eN]
      grind
    exact_mod_cast z
  obtain ⟨c, hc⟩ := pw_gauss hp hw N (x - y) ⟨u, by rw [g, Int.mul_comm]⟩
  have pn := ppw_ne hp (L : Int)
  have pk := ppw_pos hp (k - 1)
  have eq : downQ p (k - 1) (restQ p (k - 1) q) c = q := by
    unfold downQ
    have z : ((x : Rat) - (y : Rat)) = ((p ^ N : Int) : Rat) * (c : Rat) := by exact_mod_cast hc
    rw [← hx, ← hy, ← eN] at z
    have z2 : (q - restQ p (k - 1) q - (c : Rat) * ppw p (k - 1)) * ppw p (L : Int) = 0 := by grind
    rcases Rat.mul_eq_zero.mp z2 with z3 | z3
    · grind
    · exact absurd z3 pn
  have ek : ppw p k = ppw p (k - 1) * (p : Rat) := by
    have := ppw_add hp (k - 1) 1
    rw [show k - 1 + 1 = k by omega] at this
    rw [this]
    congr 1
    have := ppw_nat p 1
    simpa using this
  have qn := h.nn
  have ql := h.lt
  have rn := r.nn
  have rl := r.lt
  unfold downQ at eq
  refine ⟨c, ?_, ?_, eq⟩
  · rcases Int.lt_or_le c 0 with z | z
    · exfalso
      have z1 : ((c + 1 : Int) : Rat) ≤ 0 := by exact_mod_cast (show c + 1 ≤ 0 by omega)
      have z2 : ((c + 1 : Int) : Rat) * ppw p (k - 1) ≤ 0 * ppw p (k - 1) := Rat.mul_le_mul_of_nonneg_right z1 (Rat.le_of_lt pk)
      push_cast at z2
      grind
    · exact z
  · rcases Int.lt_or_le c p with z | z
    · exact z
    · exfalso
      have z1 : (p : Rat) ≤ (c : Rat) := by exact_mod_cast z
      have z2 : (p : Rat) * ppw p (k - 1) ≤ (c : Rat) * ppw p (k - 1) := Rat.mul_le_mul_of_nonneg_right z1 (Rat.le_of_lt pk)
      grind
theorem mem_ties32 {p : Int} (hp : Pr p) (k : Int) (q : Rat) (t : Int × Rat) : t ∈ tiesL p k q ↔ t = (k - 1, restQ p (k - 1) q) ∨ ∃ c : Int, 0 ≤ c ∧ c < p ∧ t = (k + 1, downQ p k q c) := by
  unfold tiesL
  rw [List.mem_cons, List.mem_map]
  constructor
  · rintro (h | ⟨j, hj, rfl⟩)
    · exact .inl h
    · have := List.mem_range.mp hj
      exact .inr ⟨0 + (j : Int) * 1, by omega, by omega, rfl⟩
  · rintro (h | ⟨c, c0, c1, rfl⟩)
    · exact .inl h
    · refine .inr ⟨c.toNat, List.mem_range.mpr (by omega), ?_⟩
      rw [show 0 + ((c.toNat : Nat) : Int) * 1 = c by omega]
/-- a spot is a tie of its ties -/
theorem tie_back32 {p K : Int} (hp : Pr p) {a : Int × Rat} (h : Spt p K a.1 a.2) {t : Int × Rat} (ht : t ∈ tiesL p a.1 a.2) : a ∈ tiesL p t.1 t.2 := by
  rcases (mem_ties32 hp _ _ _).mp ht with rfl | ⟨c, c0, c1, rfl⟩
  · obtain ⟨c, c0, c1, e⟩ := down_rest32 hp h
    refine (mem_ties32 hp _ _ _).mpr (.inr ⟨c, c0, c1, Prod.ext ?_ e.symm⟩)
    show a.1 = a.1 - 1 + 1
    omega
  · refine (mem_ties32 hp _ _ _).mpr (.inl (Prod.ext ?_ ?_))
    · show a.1 = a.1 + 1 - 1
      omega
    · show a.2 = restQ p (a.1 + 1 - 1) (downQ p a.1 a.2 c)
      rw [show a.1 + 1 - 1 = a.1 by omega]
      exact (rest_down32 hp h c).symm
theorem ties_nodup32 {p : Int} (hp : Pr p) (k : Int) (q : Rat) : (tiesL p k q).Nodup := by
  have pk := ppw_ne hp k
  refine List.nodup_cons.mpr ⟨fun z => ?_, ?_⟩
  · obtain ⟨j, _, e⟩ := List.mem_map.mp z
    have : k + 1 = k - 1 := congrArg Prod.fst e
    omega
  · refine List.pairwise_map.mpr (List.Pairwise.imp ?_ (List.nodup_range (n := p.toNat)))
    intro i j hij e
    have e2 : downQ p k q (0 + (i : Int) * 1) = downQ p k q (0 + (j : Int) * 1) := congrArg Prod.snd e
    unfold downQ at e2
    have e3 : (((0 + (i : Int) * 1 : Int) : Rat) - ((0 + (j : Int) * 1 : Int) : Rat)) * ppw p k = 0 := by grind
    rcases Rat.mul_eq_zero.mp e3 with z | z
    · have z2 : ((0 + (i : Int) * 1 : Int) : Rat) = ((0 + (j : Int) * 1 : Int) : Rat) := by grind
      have z3 : 0 + (i : Int) * 1 = 0 + (j : Int) * 1 := by exact_mod_cast z2
      omega
    · exact pk z
theorem triS_perm32 {l : List (Int × Int × Int)} (h : l ≠ []) : (triS l).Perm l := by
  have g := DGX.runP_ok (lt := fun i j => triLt (l.getD i (0, 0, 0)) (l.getD j (0, 0, 0))) _ (DGX.ok_sort (n := l.length) (List.length_pos_iff.mpr h))
  have g2 : (DGX.ord l.length fun i j => triLt (l.getD i (0, 0, 0)) (l.getD j (0, 0, 0))).Perm (List.range l.length) := by
    have := g.toList
    simpa [DGX.ord] using this
  have g3 := g2.map fun i => l.getD i (0, 0, 0)
  have e : (List.range l.length).map (fun i => l.getD i (0, 0, 0)) = l := by
    apply List.ext_getElem
    · simp
    · intro i h1 h2
      simp at h1 h2
      simp [h2]
  rw [e] at g3
  exact g3
section
variable {Y : Cy} {T : Tx} {k : Nat} {N G : List Str} {c : List Slot} {a b : Expr} {pos : Pos} {d d' : D} {ds : List D}
end
theorem tieS_perm32 (p k : Int) (q : Rat) : (tieS p k q).Perm ((tiesL p k q).map trS) := triS_perm32 (by unfold tiesL; simp)
theorem trS_inj32 {s t : Int × Rat} (h : trS s = trS t) : s = t := by
  have h1 : s.1 = t.1 := congrArg (fun x : Int × Int × Int => x.1) h
  have h2 : s.2.num = t.2.num := congrArg (fun x : Int × Int × Int => x.2.1) h
  have h3 : (s.2.den : Int) = (t.2.den : Int) := congrArg (fun x : Int × Int × Int => x.2.2) h
  exact Prod.ext h1 (Rat.ext h2 (by omega))
/-! a walk without turning back is the road -/
theorem abv_abv {p : Int} (hp : Pr p) (a : Int × Rat) {j k : Int} (h : j ≤ k) : abv p (abv p a k) j = abv p a j := Prod.ext rfl (rest_rest41 hp h a.2)
theorem lv_abv {p : Int} (hp : Pr p) (a b : Int × Rat) {j : Int} (h : j ≤ b.1) : lvS p a.1 a.2 (abv p b j).1 (abv p b j).2 = min (lvS p a.1 a.2 b.1 b.2) j := by
  have h1 := fun n => lv_iff hp a.1 (abv p b j).1 n a.2 (abv p b j).2
  have h2 := fun n => lv_iff hp a.1 b.1 n a.2 b.2
  have key : ∀ n, n ≤ lvS p a.1 a.2 (abv p b j).1 (abv p b j).2 ↔ n ≤ min (lvS p a.1 a.2 b.1 b.2) j := by
    intro n
    rw [h1 n, show n ≤ min (lvS p a.1 a.2 b.1 b.2) j ↔ n ≤ lvS p a.1 a.2 b.1 b.2 ∧ n ≤ j by omega, h2 n]
    have rj := (rest_is hp j b.2).dv
    constructor
    · rintro ⟨x1, x2, x3⟩
      have x2 : n ≤ j := x2
      have x3 : Dv p n (restQ p j b.2 - a.2) := x3
      exact ⟨⟨x1, by omega, dv_trans hp (dv_mono hp x2 rj) x3⟩, x2⟩
    · rintro ⟨⟨x1, x2, x3⟩, x4⟩
      refine ⟨x1, x4, ?_⟩
      show Dv p n (restQ p j b.2 - a.2)
      exact dv_trans hp (dv_comm (dv_mono hp x4 rj)) x3
  have k1 := (key _).mp (Int.le_refl _)
  have k2 := (key _).mpr (Int.le_refl _)
  omega
/-- down to t, one more -/
theorem road_down {p K : Int} (hp : Pr p) (a b t : Int × Rat) (st : Spt p K t.1 t.2) (h1 : t.1 = b.1 + 1) (h2 : abv p t b.1 = b) (h3 : lvS p a.1 a.2 t.1 t.2 = lvS p a.1 a.2 b.1 b.2) : roadL p a t = roadL p a b ++ [t] := by
  have le := (lv_iff hp a.1 b.1 _ a.2 b.2).mp (Int.le_refl (lvS p a.1 a.2 b.1 b.2))
  unfold roadL
  rw [h3]
  generalize lvS p a.1 a.2 b.1 b.2 = L at *
  obtain ⟨n, hn⟩ : ∃ n : Nat, b.1 = L + (n : Int) := ⟨(b.1 - L).toNat, by omega⟩
  rw [show (t.1 + 1 - (L + 1)).toNat = n + 1 by omega, show (b.1 + 1 - (L + 1)).toNat = n by omega, List.range_succ (n := n), List.map_append, List.append_assoc]
  congr 1
  have e1 : (List.range n).map (fun (j : Nat) => abv p t (L + 1 + (j : Int) * 1)) = (List.range n).map fun (j : Nat) => abv p b (L + 1 + (j : Int) * 1) := by
    apply List.map_congr_left
    intro j hj
    have := List.mem_range.mp hj
    show abv p t (L + 1 + (j : Int) * 1) = abv p b (L + 1 + (j : Int) * 1)
    rw [← h2]
    exact (abv_abv hp t (by omega)).symm
  rw [e1]
  congr 1
  show [abv p t (L + 1 + (n : Int) * 1)] = [t]
  rw [show L + 1 + (n : Int) * 1 = t.1 by omega, abv_self hp st]
/-- up to t, one more -/
theorem road_up {p : Int} (hp : Pr p) (a b t : Int × Rat) (h1 : t = abv p b (b.1 - 1)) (h2 : abv p a b.1 = b) (h3 : lvS p a.1 a.2 b.1 b.2 = b.1) : roadL p a t = roadL p a b ++ [t] := by
  have le := (lv_iff hp a.1 b.1 _ a.2 b.2).mp (Int.le_refl (lvS p a.1 a.2 b.1 b.2))
  have lt : lvS p a.1 a.2 t.1 t.2 = b.1 - 1 := by
    rw [h1, lv_abv hp a b (by omega), h3]
    omega
  have t1 : t.1 = b.1 - 1 := by rw [h1]; rfl
  unfold roadL
  rw [lt, h3]
  rw [h3] at le
  obtain ⟨n, hn⟩ : ∃ n : Nat, a.1 = b.1 + (n : Int) := ⟨(a.1 - b.1).toNat, by omega⟩
  rw [show (a.1 - (b.1 - 1 - 1)).toNat = n + 1 + 1 by omega, show (a.1 - (b.1 - 1)).toNat = n + 1 by omega, show (t.1 + 1 - (b.1 - 1 + 1)).toNat = 0 by omega, show (b.1 + 1 - (b.1 + 1)).toNat = 0 by omega, List.range_succ (n := n + 1), List.map_append]
  simp only [List.range_zero, List.map_nil, List.append_nil, List.map_cons]
  congr 2
  rw [h1, ← h2, abv_abv hp a (by rw [h2]; omega)]
  show abv p a (a.1 + ((n + 1 : Nat) : Int) * (-1)) = abv p a ((abv p a b.1).1 - 1)
  rw [show a.1 + ((n + 1 : Nat) : Int) * (-1) = b.1 - 1 by omega]
  rfl
theorem lv_full {p : Int} (hp : Pr p) {K : Int} (a b : Int × Rat) (sb : Spt p K b.1 b.2) (h : lvS p a.1 a.2 b.1 b.2 = b.1) : abv p a b.1 = b := by
  have le := (lv_iff hp a.1 b.1 _ a.2 b.2).mp (Int.le_refl (lvS p a.1 a.2 b.1 b.2))
  rw [h] at le
  have s := abv_self hp sb
  have e : restQ p b.1 a.2 = restQ p b.1 b.2 := rest_uniq hp (rest_is hp b.1 a.2) (rest_is hp b.1 b.2) (dv_comm le.2.2)
  rw [← s]
  exact Prod.ext rfl e
/-- one step from b: the road grows by it, or it was the last but one -/
theorem road_step {p K : Int} (hp : Pr p) (a b t : Int × Rat) (sb : Spt p K b.1 b.2) (st : Spt p (K + 1) t.1 t.2) (ht : t ∈ tiesL p b.1 b.2) : roadL p a t = roadL p a b ++ [t] ∨ roadL p a b = roadL p a t ++ [b] := by
  have le := (lv_iff hp a.1 b.1 _ a.2 b.2).mp (Int.le_refl (lvS p a.1 a.2 b.1 b.2))
  have sbb := abv_self hp sb
  rcases (mem_ties32 hp b.1 b.2 t).mp ht with e | ⟨c, c0, c1, e⟩
  · have et : t = abv p b (b.1 - 1) := e
    have lt : lvS p a.1 a.2 t.1 t.2 = min (lvS p a.1 a.2 b.1 b.2) (b.1 - 1) := by rw [et]; exact lv_abv hp a b (by omega)
    by_cases h : lvS p a.1 a.2 b.1 b.2 = b.1
    · exact .inl (road_up hp a b t et (lv_full hp a b sb h) h)
    · refine .inr (road_down hp a t b sb ?_ ?_ ?_)
      · rw [et]; show b.1 = b.1 - 1 + 1; omega
      · rw [et]; rfl
      · rw [lt]; omega
  · have t1 : t.1 = b.1 + 1 := by rw [e]
    have tb : abv p t b.1 = b := by
      rw [e]
      exact abv_down32 hp sb c
    have lb : lvS p a.1 a.2 b.1 b.2 = min (lvS p a.1 a.2 t.1 t.2) b.1 := by
      have := lv_abv hp a t (j := b.1) (by omega)
      rw [tb] at this
      exact this
    have let' := (lv_iff hp a.1 t.1 _ a.2 t.2).mp (Int.le_refl (lvS p a.1 a.2 t.1 t.2))
    by_cases h : lvS p a.1 a.2 t.1 t.2 = t.1
    · refine .inr (road_up hp a t b ?_ (lv_full hp a t st h) h)
      rw [show t.1 - 1 = b.1 by omega]
      exact tb.symm
    · refine .inl (road_down hp a b t st t1 tb ?_)
      omega
theorem road_one {p K : Int} (hp : Pr p) {a : Int × Rat} (sa : Spt p K a.1 a.2) : roadL p a a = [a] := by
  have l : lvS p a.1 a.2 a.1 a.2 = a.1 := by
    have h := lv_iff hp a.1 a.1 a.1 a.2 a.2
    have h2 := (lv_iff hp a.1 a.1 _ a.2 a.2).mp (Int.le_refl (lvS p a.1 a.2 a.1 a.2))
    have := h.mpr ⟨Int.le_refl _, Int.le_refl _, by rw [Rat.sub_self]; exact dv_zero p a.1 hp⟩
    omega
  unfold roadL
  rw [l, show (a.1 - (a.1 - 1)).toNat = 0 + 1 by omega, show (a.1 + 1 - (a.1 + 1)).toNat = 0 by omega]
  show [abv p a (a.1 + ((0 : Nat) : Int) * (-1))] ++ [] = [a]
  rw [show a.1 + ((0 : Nat) : Int) * (-1) = a.1 by omega, abv_self hp sa]
  rfl
theorem road_head42 {p K : Int} (hp : Pr p) {a : Int × Rat} (sa : Spt p K a.1 a.2) (b : Int × Rat) : ∃ l, roadL p a b = a :: l := by
  have le := (lv_iff hp a.1 b.1 _ a.2 b.2).mp (Int.le_refl (lvS p a.1 a.2 b.1 b.2))
  unfold roadL
  generalize lvS p a.1 a.2 b.1 b.2 = L at *
  obtain ⟨n, hn⟩ : ∃ n : Nat, (a.1 - (L - 1)).toNat = n + 1 := ⟨(a.1 - L).toNat, by omega⟩
  rw [hn, List.range_succ_eq_map, List.map_cons, List.cons_append, show a.1 + ((0 : Nat) : Int) * (-1) = a.1 by omega, abv_self hp sa]
  exact ⟨_, rfl⟩
theorem road_last42 {p K : Int} (hp : Pr p) {b : Int × Rat} (sb : Spt p K b.1 b.2) (a : Int × Rat) : ∃ l, roadL p a b = l ++ [b] := by
  obtain ⟨l, e⟩ := road_head42 hp sb a
  refine ⟨l.reverse, ?_⟩
  rw [← road_rev hp, e, List.reverse_cons]
theorem road_wy42 {p : Int} (hp : Pr p) (a b : Int × Rat) : ((roadL p a b).length : Int) = wy p a b + 1 := by
  have h1 := road_len hp a b
  have h2 := way_lv p a.1 a.2 b.1 b.2
  unfold wy
  omega
structure WI42 (p K : Int) (a : Int × Rat) (n : Nat) (b : Int × Rat) : Prop where
  sb : Spt p (K + (n : Int)) b.1 b.2
  sx : ∀ x ∈ roadL p a b, Spt p (K + (n : Int)) x.1 x.2
  ln : (roadL p a b).length ≤ n + 1
  cs : ∀ (i : Nat) x y, (roadL p a b)[i]? = some x → (roadL p a b)[i + 1]? = some y → wy p x y = 1
theorem lv_self42 {p : Int} (hp : Pr p) (a : Int × Rat) : lvS p a.1 a.2 a.1 a.2 = a.1 := by
  have h := lv_iff hp a.1 a.1 a.1 a.2 a.2
  have h2 := (lv_iff hp a.1 a.1 _ a.2 a.2).mp (Int.le_refl (lvS p a.1 a.2 a.1 a.2))
  have := h.mpr ⟨Int.le_refl _, Int.le_refl _, by rw [Rat.sub_self]; exact dv_zero p a.1 hp⟩
  omega
/-! rings of spots around a spot -/
theorem tie_spt {p K : Int} (hp : Pr p) (hK : K ≤ 309) {s t : Int × Rat} (h : Spt p K s.1 s.2) (ht : t ∈ tiesL p s.1 s.2) : Spt p (K + 1) t.1 t.2 := by
  rcases (mem_ties32 hp _ _ _).mp ht with rfl | ⟨c, c0, c1, rfl⟩
  · exact h.up hp
  · exact h.down hp hK c0 c1
theorem wy_nn {p K : Int} (hp : Pr p) {a : Int × Rat} (sa : Spt p K a.1 a.2) (s : Int × Rat) : 0 ≤ wy p a s := by
  obtain ⟨l, e⟩ := road_head42 hp sa s
  have h := road_wy42 hp a s
  rw [e, List.length_cons] at h
  omega
theorem wy_zero {p K L : Int} (hp : Pr p) {a s : Int × Rat} (sa : Spt p K a.1 a.2) (ss : Spt p L s.1 s.2) (h : wy p a s = 0) : s = a := by
  obtain ⟨l, e⟩ := road_head42 hp sa s
  obtain ⟨l', e'⟩ := road_last42 hp ss a
  have h2 := road_wy42 hp a s
  rw [h, e, List.length_cons] at h2
  have hl : l = [] := List.eq_nil_of_length_eq_zero (by omega)
  rw [e, hl] at e'
  cases l' with
  | nil => cases e'; rfl
  | cons x r => cases r <;> cases e'
theorem wy_self {p K : Int} (hp : Pr p) {a : Int × Rat} (sa : Spt p K a.1 a.2) : wy p a a = 0 := by
  have h := road_wy42 hp a a
  rw [road_one hp sa] at h
  have : (([a] : List (Int × Rat)).length : Int) = 1 := rfl
  omega
theorem tie_pm {p K : Int} (hp : Pr p) (hK : K ≤ 309) (a : Int × Rat) {s t : Int × Rat} (h : Spt p K s.1 s.2) (ht : t ∈ tiesL p s.1 s.2) :
    (wy p a t = wy p a s + 1 ∧ roadL p a t = roadL p a s ++ [t]) ∨ (wy p a s = wy p a t + 1 ∧ roadL p a s = roadL p a t ++ [s]) := by
  have w1 := road_wy42 hp a t
  have w2 := road_wy42 hp a s
  rcases road_step hp a s t h (tie_spt hp hK h ht) ht with e | e
  · refine .inl ⟨?_, e⟩
    have : (roadL p a t).length = (roadL p a s).length + 1 := by rw [e, List.length_append]; rfl
    omega
  · refine .inr ⟨?_, e⟩
    have : (roadL p a s).length = (roadL p a t).length + 1 := by rw [e, List.length_append]; rfl
    omega
theorem last_eq {α : Type} {l l' : List α} {x y : α} (h : l ++ [x] = l' ++ [y]) : x = y := by
  have := congrArg List.getLast? h
  simpa using this
theorem par_uniq {p K L : Int} (hp : Pr p) {a s u t : Int × Rat} (ss : Spt p K s.1 s.2) (su : Spt p L u.1 u.2) (h1 : roadL p a t = roadL p a s ++ [t]) (h2 : roadL p a t = roadL p a u ++ [t]) : s = u := by
  rw [h1] at h2
  have e := List.append_cancel_right h2
  obtain ⟨l, e1⟩ := road_last42 hp ss a
  obtain ⟨l', e2⟩ := road_last42 hp su a
  rw [e1, e2] at e
  exact last_eq e
theorem par_ex {p K : Int} (hp : Pr p) (hK : K ≤ 309) {a s : Int × Rat} (sa : Spt p K a.1 a.2) (ss : Spt p K s.1 s.2) (h : 1 ≤ wy p a s) : ∃ u, Spt p (K + 1) u.1 u.2 ∧ u ∈ tiesL p s.1 s.2 ∧ wy p a u = wy p a s - 1 := by
  have le := (lv_iff hp a.1 s.1 _ a.2 s.2).mp (Int.le_refl (lvS p a.1 a.2 s.1 s.2))
  have w := way_lv p a.1 a.2 s.1 s.2
  have w' : wy p a s = wayS p a.1 a.2 s.1 s.2 := rfl
  by_cases hl : lvS p a.1 a.2 s.1 s.2 = s.1
  · have hs := lv_full hp a s ss hl
    have k1 := sa.k1
    have k0 := ss.k0
    have hu : Spt p K (abv p a (s.1 + 1)).1 (abv p a (s.1 + 1)).2 := abv_spt hp sa (by omega) (by omega)
    have e1 : (abv p a (s.1 + 1)).1 = s.1 + 1 := rfl
    have up : abv p (abv p a (s.1 + 1)) s.1 = s := by rw [abv_abv hp a (by omega)]; exact hs
    have mem : s ∈ tiesL p (abv p a (s.1 + 1)).1 (abv p a (s.1 + 1)).2 := by
      refine (mem_ties32 hp _ _ _).mpr (.inl ?_)
      rw [← up]
      show (s.1, _) = (s.1 + 1 - 1, restQ p (s.1 + 1 - 1) _)
      rw [show s.1 + 1 - 1 = s.1 by omega]
      rfl
    refine ⟨_, hu.mono (by omega), tie_back32 hp hu mem, ?_⟩
    have l2 := lv_abv hp a a (j := s.1 + 1) (by omega)
    rw [lv_self42 hp] at l2
    have w2 := way_lv p a.1 a.2 (abv p a (s.1 + 1)).1 (abv p a (s.1 + 1)).2
    have w2' : wy p a (abv p a (s.1 + 1)) = wayS p a.1 a.2 (abv p a (s.1 + 1)).1 (abv p a (s.1 + 1)).2 := rfl
    omega
  · refine ⟨abv p s (s.1 - 1), ss.up hp, (mem_ties32 hp _ _ _).mpr (.inl rfl), ?_⟩
    have l2 := lv_abv hp a s (j := s.1 - 1) (by omega)
    have e1 : (abv p s (s.1 - 1)).1 = s.1 - 1 := rfl
    have w2 := way_lv p a.1 a.2 (abv p s (s.1 - 1)).1 (abv p s (s.1 - 1)).2
    have w2' : wy p a (abv p s (s.1 - 1)) = wayS p a.1 a.2 (abv p s (s.1 - 1)).1 (abv p s (s.1 - 1)).2 := rfl
    omega
/-- a way bounds the first number -/
theorem wy_bd {p : Int} (hp : Pr p) (a s : Int × Rat) : s.1 - a.1 ≤ wy p a s ∧ a.1 - s.1 ≤ wy p a s := by
  have le := (lv_iff hp a.1 s.1 _ a.2 s.2).mp (Int.le_refl (lvS p a.1 a.2 s.1 s.2))
  have w := way_lv p a.1 a.2 s.1 s.2
  have w' : wy p a s = wayS p a.1 a.2 s.1 s.2 := rfl
  omega
theorem Spt.re {p K L : Int} {s : Int × Rat} (h : Spt p K s.1 s.2) (h0 : -L ≤ s.1) (h1 : s.1 ≤ L) : Spt p L s.1 s.2 := ⟨h0, h1, h.nn, h.lt, h.sc⟩
abbrev Tri3 := Int × Int × Int
def trI (t : Tri3) : Int × Rat := (t.1, Rat.divInt t.2.1 t.2.2)
theorem trI_trS (s : Int × Rat) : trI (trS s) = s := Prod.ext rfl (Rat.num_divInt_den s.2)
theorem tieS_mem {p : Int} (s : Int × Rat) (u : Tri3) : u ∈ tieS p s.1 s.2 ↔ ∃ t ∈ tiesL p s.1 s.2, u = trS t := by
  rw [(tieS_perm32 p s.1 s.2).mem_iff, List.mem_map]
  exact ⟨fun ⟨t, h, e⟩ => ⟨t, h, e.symm⟩, fun ⟨t, h, e⟩ => ⟨t, h, e.symm⟩⟩
theorem tieS_nodup {p : Int} (hp : Pr p) (s : Int × Rat) : (tieS p s.1 s.2).Nodup := by
  rw [(tieS_perm32 p s.1 s.2).nodup_iff]
  exact List.pairwise_map.mpr ((ties_nodup32 hp s.1 s.2).imp fun h e => h (trS_inj32 e))
theorem nodup_fm {α β : Type} (f : α → List β) : ∀ l : List α, (∀ x ∈ l, (f x).Nodup) → l.Pairwise (fun x y => ∀ u, u ∈ f x → u ∈ f y → False) → (l.flatMap f).Nodup
  | [], _, _ => by simp
  | x :: l, h1, h2 => by
    rw [List.flatMap_cons]
    obtain ⟨h3, h4⟩ := List.pairwise_cons.mp h2
    refine List.nodup_append.mpr ⟨h1 x (by simp), nodup_fm f l (fun y hy => h1 y (by simp [hy])) h4, fun u hu v hv e => ?_⟩
    subst e
    obtain ⟨y, hy, huy⟩ := List.mem_flatMap.mp hv
    exact h3 y hy u hu huy
/-- what is tied to t and not told -/
noncomputable def newT (p : Int) (told : List Tri3) (t : Tri3) : List Tri3 := (tieS p (trI t).1 (trI t).2).filter fun u => !decide (u ∈ told)
noncomputable def nxtR (p : Int) (told ring : List Tri3) : List Tri3 := ring.flatMap (newT p told)
structure RI (p K : Int) (a : Int × Rat) (n : Nat) (ring told : List Tri3) : Prop where
  sa : Spt p K a.1 a.2
  r1 : ∀ t ∈ ring, ∃ s, t = trS s ∧ Spt p (K + n) s.1 s.2 ∧ wy p a s = n
  r2 : ∀ s, Spt p (K + n) s.1 s.2 → wy p a s = n → trS s ∈ ring
  d1 : ∀ t ∈ told, ∃ s, t = trS s ∧ Spt p (K + n) s.1 s.2 ∧ wy p a s ≤ n
  d2 : ∀ s, Spt p (K + n) s.1 s.2 → wy p a s ≤ n → trS s ∈ told
  rn : ring.Nodup
  dn : told.Nodup
theorem RI.zero {p K : Int} (hp : Pr p) {a : Int × Rat} (sa : Spt p K a.1 a.2) : RI p K a 0 [trS a] [trS a] := by
  have sa' : Spt p (K + ((0 : Nat) : Int)) a.1 a.2 := sa.mono (by omega)
  have w := wy_self hp sa
  have hr : ∀ t ∈ [trS a], ∃ s, t = trS s ∧ Spt p (K + ((0 : Nat) : Int)) s.1 s.2 ∧ wy p a s = ((0 : Nat) : Int) := fun t ht => ⟨a, List.mem_singleton.mp ht, sa', w⟩
  refine ⟨sa, hr, fun s hs h => ?_, fun t ht => ?_, fun s hs h => ?_, by simp, by simp⟩
  · rw [wy_zero hp sa hs h]; simp
  · obtain ⟨s, h1, h2, h3⟩ := hr t ht
    exact ⟨s, h1, h2, by omega⟩
  · have := wy_nn hp sa s
    rw [wy_zero hp sa hs (by omega)]; simp
section
variable {p K : Int} {a : Int × Rat} {n : Nat} {ring told : List Tri3}
theorem RI.new_mem (I : RI p K a n ring told) (hp : Pr p) (hK : K + n ≤ 309) {s : Int × Rat} (ss : Spt p (K + n) s.1 s.2) (hw : wy p a s = n) (u : Tri3) :
    u ∈ newT p told (trS s) ↔ ∃ t ∈ tiesL p s.1 s.2, u = trS t ∧ wy p a t = n + 1 ∧ roadL p a t = roadL p a s ++ [t] := by
  unfold newT
  rw [List.mem_filter, trI_trS, tieS_mem]
  constructor
  · rintro ⟨⟨t, ht, rfl⟩, hd⟩
    have hd : trS t ∉ told := by simpa using hd
    rcases tie_pm hp hK a ss ht with ⟨h1, h2⟩ | ⟨h1, h2⟩
    · exact ⟨t, ht, rfl, by omega, h2⟩
    · exfalso
      have b := wy_bd hp a t
      have st := tie_spt hp hK ss ht
      have k0 := I.sa.k0
      have k1 := I.sa.k1
      exact hd (I.d2 t (st.re (by omega) (by omega)) (by omega))
  · rintro ⟨t, ht, rfl, h1, h2⟩
    refine ⟨⟨t, ht, rfl⟩, ?_⟩
    have : trS t ∉ told := fun z => by
      obtain ⟨s', e, _, h3⟩ := I.d1 _ z
      rw [trS_inj32 e] at h1
      omega
    simpa using this
theorem RI.nxt_mem (I : RI p K a n ring told) (hp : Pr p) (hK : K + n ≤ 308) (u : Tri3) : u ∈ nxtR p told ring ↔ ∃ t, u = trS t ∧ Spt p (K + (n + 1 : Nat)) t.1 t.2 ∧ wy p a t = ((n + 1 : Nat) : Int) := by
  unfold nxtR
  rw [List.mem_flatMap]
  constructor
  · rintro ⟨x, hx, hu⟩
    obtain ⟨s, rfl, ss, hw⟩ := I.r1 x hx
    obtain ⟨t, ht, rfl, h1, h2⟩ := (I.new_mem hp (by omega) ss hw u).mp hu
    exact ⟨t, rfl, (tie_spt hp (by omega) ss ht).mono (by omega), by omega⟩
  · rintro ⟨t, rfl, st, hw⟩
    obtain ⟨s, ss, hs, h1⟩ := par_ex hp (K := K + (n + 1 : Nat)) (by omega) (I.sa.mono (by omega)) st (by omega)
    have b := wy_bd hp a s
    have k0 := I.sa.k0
    have k1 := I.sa.k1
    have ss' : Spt p (K + n) s.1 s.2 := ss.re (by omega) (by omega)
    have hw' : wy p a s = n := by omega
    have ht := tie_back32 hp st hs
    refine ⟨trS s, I.r2 s ss' hw', (I.new_mem hp (by omega) ss' hw' _).mpr ⟨t, ht, rfl, by omega, ?_⟩⟩
    rcases tie_pm hp (by omega) a ss' ht with ⟨_, h2⟩ | ⟨h3, _⟩
    · exact h2
    · omega
theorem RI.nxt_nodup (I : RI p K a n ring told) (hp : Pr p) (hK : K + n ≤ 309) : (nxtR p told ring).Nodup := by
  unfold nxtR
  refine nodup_fm _ _ (fun x hx => ?_) ?_
  · obtain ⟨s, rfl, ss, hw⟩ := I.r1 x hx
    unfold newT
    rw [trI_trS]
    exact (tieS_nodup hp s).filter _
  · refine List.Pairwise.imp_of_mem ?_ I.rn
    intro x y hx hy hne u hu hu'
    obtain ⟨s, rfl, ss, hw⟩ := I.r1 x hx
    obtain ⟨s', rfl, ss', hw'⟩ := I.r1 y hy
    obtain ⟨t, ht, rfl, h1, h2⟩ := (I.new_mem hp hK ss hw u).mp hu
    obtain ⟨t', ht', e, h1', h2'⟩ := (I.new_mem hp hK ss' hw' _).mp hu'
    cases trS_inj32 e
    exact hne (by rw [par_uniq hp ss ss' h2 h2'])
theorem RI.step (I : RI p K a n ring told) (hp : Pr p) (hK : K + n ≤ 308) {ring' : List Tri3} (h : ring'.Perm (nxtR p told ring)) : RI p K a (n + 1) ring' (told ++ ring') := by
  have hm := I.nxt_mem hp hK
  have k0 := I.sa.k0
  have k1 := I.sa.k1
  refine ⟨I.sa, fun t ht => (hm t).mp (h.mem_iff.mp ht), fun s hs hw => h.mem_iff.mpr ((hm _).mpr ⟨s, rfl, hs, hw⟩), fun t ht => ?_, fun s hs hw => ?_, h.nodup_iff.mpr (I.nxt_nodup hp (by omega)), ?_⟩
  · rcases List.mem_append.mp ht with ht | ht
    · obtain ⟨s, e, hs, hw⟩ := I.d1 t ht
      exact ⟨s, e, hs.mono (by omega), by omega⟩
    · obtain ⟨s, e, hs, hw⟩ := (hm t).mp (h.mem_iff.mp ht)
      exact ⟨s, e, hs, by omega⟩
  · by_cases e : wy p a s = ((n + 1 : Nat) : Int)
    · exact List.mem_append_right _ (h.mem_iff.mpr ((hm _).mpr ⟨s, rfl, hs, e⟩))
    · have b := wy_bd hp a s
      exact List.mem_append_left _ (I.d2 s (hs.re (by omega) (by omega)) (by omega))
  · refine List.nodup_append.mpr ⟨I.dn, h.nodup_iff.mpr (I.nxt_nodup hp (by omega)), fun x hx y hy e => ?_⟩
    subst e
    obtain ⟨s, e1, _, w1⟩ := I.d1 x hx
    obtain ⟨s', e2, _, w2⟩ := (hm x).mp (h.mem_iff.mp hy)
    rw [e1] at e2
    rw [trS_inj32 e2] at w1
    omega
/-- how many are found behind a spot -/
theorem RI.new_len (I : RI p K a n ring told) (hp : Pr p) (hK : K + n ≤ 308) {x : Tri3} (hx : x ∈ ring) : ((newT p told x).length : Int) = if n = 0 then p + 1 else p := by
  have p2 := hp.two_le
  obtain ⟨s, rfl, ss, hw⟩ := I.r1 x hx
  have tl := tieS_len hp s.1 s.2
  have k0 := I.sa.k0
  have k1 := I.sa.k1
  unfold newT
  rw [trI_trS]
  by_cases h0 : n = 0
  · rw [if_pos h0]
    have : (tieS p s.1 s.2).filter (fun u => !decide (u ∈ told)) = tieS p s.1 s.2 := by
      refine List.filter_eq_self.mpr fun u hu => ?_
      obtain ⟨t, ht, rfl⟩ := (tieS_mem s u).mp hu
      have := (I.new_mem hp (by omega) ss hw (trS t)).mpr ⟨t, ht, rfl, ?_⟩
      · unfold newT at this
        exact (List.mem_filter.mp this).2
      · rcases tie_pm hp (by omega) a ss ht with h | h
        · exact ⟨by omega, h.2⟩
        · have := wy_nn hp I.sa t
          omega
    rw [this, tl]
    omega
  · rw [if_neg h0]
    obtain ⟨u, su, hu, hwu⟩ := par_ex hp (K := K + n) (by omega) (I.sa.mono (by omega)) ss (by omega)
    have bu := wy_bd hp a u
    have eq : (tieS p s.1 s.2).filter (fun u => !decide (u ∈ told)) = (tieS p s.1 s.2).filter (fun x => x != trS u) := by
      refine List.filter_congr fun y hy => ?_
      obtain ⟨t, ht, rfl⟩ := (tieS_mem s y).mp hy
      have iff : trS t ∈ told ↔ trS t = trS u := by
        constructor
        · intro z
          obtain ⟨s', e, _, w⟩ := I.d1 _ z
          cases trS_inj32 e
          rcases tie_pm hp (by omega) a ss ht with h | ⟨h, h2⟩
          · omega
          · rcases tie_pm hp (by omega) a ss hu with g | ⟨g, g2⟩
            · omega
            · have st := tie_spt hp (by omega) ss ht
              rw [par_uniq hp (t := s) st su h2 g2]
        · intro z
          rw [z]
          exact I.d2 u (su.re (by omega) (by omega)) (by omega)
      by_cases h : trS t = trS u
      · rw [decide_eq_true (iff.mpr h), h]; simp
      · rw [decide_eq_false (fun z => h (iff.mp z))]
        have : (trS t != trS u) = true := by simpa using h
        rw [this]; rfl
    rw [eq, ← (tieS_nodup hp s).erase_eq_filter, List.length_erase_of_mem ((tieS_mem s _).mpr ⟨u, hu, rfl⟩), tl]
    omega
theorem RI.nxt_len (I : RI p K a n ring told) (hp : Pr p) (hK : K + n ≤ 308) : ((nxtR p told ring).length : Int) = (if n = 0 then p + 1 else p) * (ring.length : Int) := by
  have key : ∀ l : List Tri3, (∀ x ∈ l, x ∈ ring) → ((l.flatMap (newT p told)).length : Int) = (if n = 0 then p + 1 else p) * (l.length : Int) := by
    intro l
    induction l with
    | nil => intro _; simp
    | cons x l ih =>
      intro h
      have h1 := I.new_len hp hK (h x (by simp))
      have h2 := ih fun y hy => h y (by simp [hy])
      rw [List.flatMap_cons, List.length_append, List.length_cons, Int.natCast_add, h1, h2, Int.natCast_add]
      generalize (if n = 0 then p + 1 else p) = c
      rw [Int.mul_add]
      omega
  exact key ring fun _ h => h
end
/-- the rings, by a way to sort -/
noncomputable def rngS (sf : List Tri3 → List Tri3) (p : Int) (a : Int × Rat) : Nat → List Tri3 × List Tri3
  | 0 => ([trS a], [trS a])
  | n + 1 => (sf (nxtR p (rngS sf p a n).2 (rngS sf p a n).1), (rngS sf p a n).2 ++ sf (nxtR p (rngS sf p a n).2 (rngS sf p a n).1))
theorem rngS_ri {sf : List Tri3 → List Tri3} (hsf : ∀ l, l ≠ [] → (sf l).Perm l) {p K : Int} (hp : Pr p) {a : Int × Rat} (sa : Spt p K a.1 a.2) : ∀ n : Nat, K + n ≤ 308 →
    RI p K a n (rngS sf p a n).1 (rngS sf p a n).2 ∧ ((rngS sf p a n).1.length : Int) = (if n = 0 then 1 else (p + 1) * p ^ (n - 1)) ∧ ((rngS sf p a n).2.length : Int) * (p - 1) = (p - 1) + (p + 1) * (p ^ n - 1)
  | 0, _ => ⟨RI.zero hp sa, rfl, by show (1 : Int) * (p - 1) = _; rw [Int.pow_zero]; omega⟩
  | n + 1, hK => by
    have p2 := hp.two_le
    obtain ⟨I, h1, h2⟩ := rngS_ri hsf hp sa n (by omega)
    have nl := I.nxt_len hp (by omega)
    have e : (if n = 0 then p + 1 else p) * ((rngS sf p a n).1.length : Int) = (p + 1) * p ^ n := by
      rw [h1]
      cases n with
      | zero => simp
      | succ m =>
        rw [if_neg (Nat.succ_ne_zero m), if_neg (Nat.succ_ne_zero m), Nat.add_sub_cancel, Int.pow_succ]
        grind
    have ne : nxtR p (rngS sf p a n).2 (rngS sf p a n).1 ≠ [] := fun z => by
      rw [z, e] at nl
      have := pw_pos hp n
      have : 0 < (p + 1) * p ^ n := Int.mul_pos (by omega) this
      simp at nl
      omega
    have pm := hsf _ ne
    have ll : ((rngS sf p a (n + 1)).1.length : Int) = (p + 1) * p ^ n := by
      show ((sf _).length : Int) = _
      rw [pm.length_eq, nl, e]
    refine ⟨I.step hp (by omega) pm, ?_, ?_⟩
    · rw [if_neg (Nat.succ_ne_zero n), Nat.add_sub_cancel]
      exact ll
    · show (((rngS sf p a n).2 ++ (rngS sf p a (n + 1)).1).length : Int) * (p - 1) = _
      rw [List.length_append, Int.natCast_add, ll, Int.add_mul, h2, Int.pow_succ]
      grind

theorem nd_take {α : Type} : ∀ {l : List α} {j : Nat} {u : α}, l.Nodup → l[j]? = some u → u ∉ l.take j
  | [], j, u, _, h => by simp at h
  | x :: l, 0, u, _, _ => by simp
  | x :: l, j + 1, u, nd, h => by
    obtain ⟨h1, h2⟩ := List.nodup_cons.mp nd
    have hu : l[j]? = some u := by simpa using h
    rw [List.take_succ_cons]
    intro z
    rcases List.mem_cons.mp z with z | z
    · exact h1 (by rw [← z]; exact List.mem_of_getElem? hu)
    · exact nd_take h2 hu z
theorem nd_take2 {α : Type} {k l : List α} {j : Nat} {u : α} (nd : (k ++ l).Nodup) (h : l[j]? = some u) : u ∉ k ++ l.take j := by
  have e : (k ++ l)[k.length + j]? = some u := by rw [List.getElem?_append_right (by omega), Nat.add_sub_cancel_left]; exact h
  have := nd_take nd e
  rwa [List.take_length_add_append] at this
/-- how many spots are within a reach -/
def cntF (p : Int) : Nat → Int
  | 0 => 1
  | i + 1 => cntF p i + (p + 1) * p ^ i
def ovM (p : Int) (n : Nat) : Bool := (List.range n).any fun i => decide (400 < cntF p (i + 1))
theorem new_fm (p : Int) (told : List Tri3) (s : Int × Rat) : ((tieS p s.1 s.2).map fun u => if u ∈ told then none else some (triD u)).filterMap id = (newT p told (trS s)).map triD := by
  unfold newT
  rw [trI_trS]
  generalize tieS p s.1 s.2 = l
  induction l with
  | nil => rfl
  | cons u l ih =>
    rw [List.map_cons]
    by_cases h : u ∈ told
    · rw [if_pos h, List.filterMap_cons, List.filter_cons_of_neg (by simp [h])]
      exact ih
    · rw [if_neg h, List.filterMap_cons, List.filter_cons_of_pos (by simp [h]), List.map_cons]
      exact congrArg _ ih
theorem te_to36 {Y : Cy} {e : Expr} {c : List Slot} {b b' : Bool} (h : TeD Y e c b) (q : b = b') : TeD Y e c b' := q ▸ h
def R_over36 (ds : List D) (d : D) : Prop := ∃ p r : Int, ds = [.int p, .int r] ∧ Pr p ∧ 0 ≤ r ∧ r ≤ 7 ∧ d = .bl (ovM p r.toNat)


noncomputable abbrev sfD (l : List Tri3) : List Tri3 := if l.length < 64 then triS l else triSG l
abbrev limS : Nat := 1000
theorem sfD_perm (l : List Tri3) (h : l ≠ []) : (sfD l).Perm l := by
  show (if l.length < 64 then triS l else triSG l).Perm l
  split
  · exact triS_perm32 h
  · exact triSG_perm h
theorem ow_sf {Y : Cy} {T : Tx} {k : Nat} {N G : List Str} {c : List Slot} {e : Expr} {pos : Pos} (S : Se Y T k N G) (gi : Nat) {l : List Tri3} {p : Pos} (ha : ArD Y [e] c [.lst (l.map triD)]) (h2 : 2 ≤ l.length) (hl : l.length < limS)
    (hm : T.mg "sorted" = none) (hg : G[gi]? = some ("sorted" : Str) := by rfl) (he : starEach [e] Y.X.env = (false, eval e Y.X.env) :: starEach [] Y.X.env := by rfl) : OwD Y (.Call (.Name "sorted" p) [e] [] pos) c ((sfD l).map triD) := by
  have : limS = 1000 := rfl
  show OwD Y _ c ((if l.length < 64 then triS l else triSG l).map triD)
  split
  · exact ow_sortT S gi ha h2 (by omega) hm hg he
  · exact ow_sortG S gi ha h2 (by omega) hm hg he
def R_ringb (ds : List D) (th : Thing) (d : D) : Prop := ∃ (p : Int) (ring told : List Tri3), ds = [.int p, .lst (ring.map triD)] ∧ th = DctT told ∧ Pr p ∧ (∀ t ∈ ring, ∃ s, t = trS s ∧ Spt p 300 s.1 s.2) ∧ 2 ≤ (nxtR p told ring).length ∧ (nxtR p told ring).length < limS ∧ d = .lst ((sfD (nxtR p told ring)).map triD)
theorem fm_le {α β : Type} (f : α → List β) (l : List α) (i : Nat) : ((l.take i).flatMap f).length ≤ (l.flatMap f).length := by
  have e : l.flatMap f = (l.take i).flatMap f ++ (l.drop i).flatMap f := by rw [← List.flatMap_append, List.take_append_drop]
  rw [e, List.length_append]
  omega

def R_withX (ds : List D) (rr : Rs) : Prop := ∃ (p K r : Int) (a : Int × Rat), ds = [.int p, stD a, .int r] ∧ Pr p ∧ Spt p K a.1 a.2 ∧ K + r ≤ 290 ∧ 0 ≤ r ∧ r ≤ 7 ∧ ((ovM p r.toNat = true ∧ rr = .ex "TooMany") ∨ (ovM p r.toNat = false ∧ (∀ n, n < r.toNat → (p + 1) * p ^ n < limS) ∧ rr = .ok (.lst (((rngS sfD p a r.toNat).2).map triD))))
def R_withD (ds : List D) (d : D) : Prop := ∃ (p K r : Int) (a : Int × Rat), ds = [.int p, stD a, .int r] ∧ Pr p ∧ Spt p K a.1 a.2 ∧ K + r ≤ 290 ∧ 0 ≤ r ∧ r ≤ 7 ∧ ovM p r.toNat = false ∧ (∀ n, n < r.toNat → (p + 1) * p ^ n < limS) ∧ d = .lst (((rngS sfD p a r.toNat).2).map triD)
def R_another35 (y : Str) (d : D) : Prop := y = "TooMany" ∧ d = .bl false
def R_ref35 (ds : List D) (d : D) : Prop := ∃ (p K r : Int) (a : Int × Rat), ds = [.int p, stD a, .int r] ∧ Pr p ∧ Spt p K a.1 a.2 ∧ K + r ≤ 290 ∧ 0 ≤ r ∧ r ≤ 7 ∧ (ovM p r.toNat = false → ∀ n, n < r.toNat → (p + 1) * p ^ n < limS) ∧ d = .bl (ovM p r.toNat)
theorem ev_dlit3 {Y : Cy} {T : Tx} {k : Nat} {N G : List Str} {c : List Slot} {b : Expr} {pos : Pos} {k0 k1 k2 v0 v1 v2 j v : Int} {o0 o1 o2 u0 u1 u2 : Expr} {p : Pos} (S : Se Y T k N G) (h0 : PE Y.X o0 (tC (.int k0))) (h1 : PE Y.X o1 (tC (.int k1))) (h2 : PE Y.X o2 (tC (.int k2)))
    (g0 : PE Y.X u0 (tC (.int v0))) (g1 : PE Y.X u1 (tC (.int v1))) (g2 : PE Y.X u2 (tC (.int v2))) (hb : EvD Y b c (.int j))
    (hv : valV (mergeK [] [(Sum.inl k0, .int v0), (Sum.inl k1, .int v1), (Sum.inl k2, .int v2)]) (Sum.inl j) = some (.int v)) (hp : NoSl b) :
    EvD Y (.Subscript (.Dict [some o0, some o1, some o2] [u0, u1, u2] p) b pos) c (.int v) :=
  ev_dgetT (kvs := [(Sum.inl k0, .int v0), (Sum.inl k1, .int v1), (Sum.inl k2, .int v2)]) S (pe_disp (pps_cons h0 g0 (pps_cons h1 g1 (pps_cons h2 g2 pps_nil))) rfl rfl disp_ne (Nat.le_of_ble_eq_true rfl)) (fun _ _ _ q => q) (Nat.le_of_ble_eq_true rfl) hb hv hp
theorem rdict35 {p : Int} (hp : Pr p) (h : 2 < p) : ∃ v : Int, valV (mergeK [] [(Sum.inl 3, V.int 5), (Sum.inl 5, .int 4), (Sum.inl 7, .int 3)]) (Sum.inl p) = some (.int v) ∧ 3 ≤ v ∧ v ≤ 5 ∧ ∀ r : Int, v ≤ r → r ≤ 7 → ovM p r.toNat = true := by
  rcases hp with rfl | rfl | rfl | rfl
  · omega
  · refine ⟨5, by decide +kernel, by decide, by decide, fun r h1 h2 => ?_⟩
    rcases (show r = 5 ∨ r = 6 ∨ r = 7 by omega) with rfl | rfl | rfl <;> decide
  · refine ⟨4, by decide +kernel, by decide, by decide, fun r h1 h2 => ?_⟩
    rcases (show r = 4 ∨ r = 5 ∨ r = 6 ∨ r = 7 by omega) with rfl | rfl | rfl | rfl <;> decide
  · refine ⟨3, by decide +kernel, by decide, by decide, fun r h1 h2 => ?_⟩
    rcases (show r = 3 ∨ r = 4 ∨ r = 5 ∨ r = 6 ∨ r = 7 by omega) with rfl | rfl | rfl | rfl | rfl <;> decide
theorem self_tie35 {p K : Int} (hp : Pr p) (hK : K ≤ 309) {a : Int × Rat} (sa : Spt p K a.1 a.2) : trS a ∉ tieS p a.1 a.2 := fun h => by
  obtain ⟨t, ht, e⟩ := (tieS_mem a _).mp h
  have e := trS_inj32 e
  rw [← e] at ht
  rcases tie_pm hp hK a sa ht with ⟨q, _⟩ | ⟨q, _⟩ <;> omega
theorem nxt35 {p K : Int} (hp : Pr p) (hK : K ≤ 309) {a : Int × Rat} (sa : Spt p K a.1 a.2) : nxtR p [trS a] [trS a] = tieS p a.1 a.2 := by
  unfold nxtR
  rw [List.flatMap_cons, List.flatMap_nil, List.append_nil]
  unfold newT
  rw [trI_trS, List.filter_eq_self]
  intro u hu
  have : u ≠ trS a := fun z => self_tie35 hp hK sa (z ▸ hu)
  simp [this]
theorem tieS_ne {p : Int} (hp : Pr p) (a : Int × Rat) : tieS p a.1 a.2 ≠ [] := fun z => by
  have := tieS_len hp a.1 a.2
  rw [z] at this
  have p2 := hp.two_le
  simp at this
theorem tieS_srt {p : Int} (hp : Pr p) (a : Int × Rat) : (tieS p a.1 a.2).Pairwise (fun x y => triLt y x = false) := by
  have nd := tieS_nodup hp a
  rw [(tieS_perm32 p a.1 a.2).nodup_iff] at nd
  exact triS_srt (by unfold tiesL; simp) nd
theorem one35 {p K : Int} (hp : Pr p) (hK : K ≤ 309) {a : Int × Rat} (sa : Spt p K a.1 a.2) : (rngS sfD p a 1).1 = tieS p a.1 a.2 := by
  show sfD (nxtR p [trS a] [trS a]) = _
  rw [nxt35 hp hK sa]
  have l := tieS_len hp a.1 a.2
  have p7 : p ≤ 7 := by rcases hp with rfl | rfl | rfl | rfl <;> decide
  show (if (tieS p a.1 a.2).length < 64 then triS (tieS p a.1 a.2) else _) = _
  rw [if_pos (by omega)]
  exact tri_uq (triS_perm32 (tieS_ne hp a)) (triS_srt (tieS_ne hp a) (tieS_nodup hp a)) (tieS_srt hp a)
theorem again35 {p : Int} (hp : Pr p) (a : Int × Rat) : triS (tieS p a.1 a.2) = tieS p a.1 a.2 := tri_uq (triS_perm32 (tieS_ne hp a)) (triS_srt (tieS_ne hp a) (tieS_nodup hp a)) (tieS_srt hp a)
def top (i : Nat) : Stmt := PySem.Challenge.pw_primetree_k35_too_many_within.main.body.getD i (.Pass ⟨0, 0, 0, 0⟩)
structure Mo (T : Tx) : Prop where
  b_abs : T.mg "abs" = none
  b_sorted : T.mg "sorted" = none
  b_range : T.mg "range" = none
  b_list : T.mg "list" = none
  b_len : T.mg "len" = none
  b_max : T.mg "max" = none
  b_int : T.mg "int" = none
  b_isinstance : T.mg "isinstance" = none
  b_ValueError : T.mg "ValueError" = none
  b_min : T.mg "min" = none
  b_set : T.mg "set" = none
  F_shared : At T "shared" (top 13)
  F_power_of : At T "power_of" (top 14)
  F_raised : At T "raised" (top 15)
  F_over_by : At T "over_by" (top 16)
  F_obp : At T "over_by_prime" (top 17)
  F_fraction : AtV T "fraction" (top 20) 1
  F_plus : At T "plus" (top 21)
  F_times : At T "times" (top 22)
  F_prime_power : At T "prime_power" (top 23)
  F_rest_byN : At T "rest_by" (top 24)
  F_above31 : At T "spot_above" (top 26)
  F_ties : At T "ties" (top 29)
  F_within35 : At T "within" (top 30)
  F_over36 : At T "is_over_most" (top 31)
  F_ringb35 : At T "ring_behind" (top 32)
  F_fcell : At T "_law_cell" (top 34)
  F_flow : At T "_law_low" (top 35)
  F_fpw : At T "_law_power" (top 36)
  F_fspot : At T "_law_spot" (top 41)
  F_another35 : At T "_law_another" (top 43)
  F_refused35 : At T "_law_refused" (top 44)
  g_TreeError : ∃ C, T.mg "TreeError" = some (.ref C)
  g_NoPrime : ∃ C, T.mg "NoPrime" = some (.ref C)
  g_NoFraction : ∃ C, T.mg "NoFraction" = some (.ref C)
  g_NoText : ∃ C, T.mg "NoText" = some (.ref C)
  g_NoSpot : ∃ C, T.mg "NoSpot" = some (.ref C)
  g_NoTable : ∃ C, T.mg "NoTable" = some (.ref C)
  g_TooMany : ∃ C, T.mg "TooMany" = some (.ref C)
  g_NoLine : ∃ C, T.mg "NoLine" = some (.ref C)
  g_NoRow : ∃ C, T.mg "NoRow" = some (.ref C)
  g_NothingDone : ∃ C, T.mg "NothingDone" = some (.ref C)
  g_TooFar : ∃ C, T.mg "TooFar" = some (.ref C)
  c_TooMany : ClsX T "TooMany"
  e_TooMany : ∀ C, T.mg "TooMany" = some (.ref C) → ExcK T.K C
  v_TooMany : ∀ C, T.mg "TooMany" = some (.ref C) → PySem.W.kitOne T.K (.ref C) (.type "ValueError") = some true
  i_TooMany_NoLine : ∀ C C', T.mg "TooMany" = some (.ref C) → T.mg "NoLine" = some (.ref C') → PySem.W.kitOne T.K (.ref C) (.ref C') = some false
  i_TooMany_NoRow : ∀ C C', T.mg "TooMany" = some (.ref C) → T.mg "NoRow" = some (.ref C') → PySem.W.kitOne T.K (.ref C) (.ref C') = some false
  i_TooMany_NothingDone : ∀ C C', T.mg "TooMany" = some (.ref C) → T.mg "NothingDone" = some (.ref C') → PySem.W.kitOne T.K (.ref C) (.ref C') = some false
  i_TooMany_TooFar : ∀ C C', T.mg "TooMany" = some (.ref C) → T.mg "TooFar" = some (.ref C') → PySem.W.kitOne T.K (.ref C) (.ref C') = some false
  i_TooMany_NoPrime : ∀ C C', T.mg "TooMany" = some (.ref C) → T.mg "NoPrime" = some (.ref C') → PySem.W.kitOne T.K (.ref C) (.ref C') = some false
  i_TooMany_NoFraction : ∀ C C', T.mg "TooMany" = some (.ref C) → T.mg "NoFraction" = some (.ref C') → PySem.W.kitOne T.K (.ref C) (.ref C') = some false
  i_TooMany_NoText : ∀ C C', T.mg "TooMany" = some (.ref C) → T.mg "NoText" = some (.ref C') → PySem.W.kitOne T.K (.ref C) (.ref C') = some false
  i_TooMany_NoSpot : ∀ C C', T.mg "TooMany" = some (.ref C) → T.mg "NoSpot" = some (.ref C') → PySem.W.kitOne T.K (.ref C) (.ref C') = some false
  i_TooMany_NoTable : ∀ C C', T.mg "TooMany" = some (.ref C) → T.mg "NoTable" = some (.ref C') → PySem.W.kitOne T.K (.ref C) (.ref C') = some false
  i_TooMany_TooMany : ∀ C C', T.mg "TooMany" = some (.ref C) → T.mg "TooMany" = some (.ref C') → PySem.W.kitOne T.K (.ref C) (.ref C') = some true
  m_TooMany_TreeError : ∀ C C', T.mg "TooMany" = some (.ref C) → T.mg "TreeError" = some (.ref C') → PySem.W.exmOne T.K (.ref C) (.ref C') = some true
  k_NOUGHT : CstT T "NOUGHT" [0, 1]
  k_MOST_SPOTS : CstI T "MOST_SPOTS" 400
abbrev s_shared : Stmt := top 13
theorem sc_shared : ScB ["one", "other", "left"] ["one", "other"] ["abs"] (defScope s_shared) := ⟨⟨rfl, rfl, rfl, by decide +kernel, rfl, by decide +kernel, by decide +kernel⟩, by decide +kernel, by decide +kernel⟩
theorem ok_shared {T : Tx} (M : Mo T) : FnD T 1 "shared" R_shared := by
  refine fn_D M.F_shared sc_shared (fun f fd F => F.binds fun _ _ _ _ _ _ us hl => match us, hl with | [_, _], _ => rfl) (by rintro _ _ ⟨a, b, rfl, rfl⟩; rfl) fun Y S Z ds d h => ?_
  have Se := S.toSe
  obtain ⟨a, b, rfl, rfl⟩ := h
  refine ss_while S (fun c => ∃ x y z, c = [.val (.int x), .val (.int y), z] ∧ Int.gcd x y = Int.gcd a b) (fun c => match c with | [_, .val (.int y), _] => y.natAbs | _ => 0) ⟨a, b, _, rfl, rfl⟩ ?_
  rintro _ ⟨x, y, z, rfl, hg⟩
  refine ⟨_, te_neI (ev_var Se 1) ev_int, fun h => ?_, fun h => ?_⟩
  · have h0 : y ≠ 0 := by simpa using h
    refine ss_set S 2 (ev_mod (ev_var Se 0) (ev_var Se 1) h0) ?_
    refine ss_set S 0 (ev_var Se 1) ?_
    refine ss_set S 1 (ev_var Se 2) ?_
    refine ss_nil ⟨⟨y, x.fmod y, _, rfl, ?_⟩, ?_⟩
    · rw [gcd_step]; exact hg
    · exact fmod_small x h0
  · have h0 : y = 0 := by simpa using h
    refine ss_ret (ev_abs Se 0 (ar_cons (ev_var Se 0) ar_nil) M.b_abs) ?_
    subst h0
    rw [Int.gcd_zero_right] at hg
    show D.int _ = D.int _
    rw [hg]
abbrev s_power_of : Stmt := top 14
theorem sc_power_of : ScB ["p", "n", "power"] ["p", "n"] [] (defScope s_power_of) := ⟨⟨rfl, rfl, rfl, by decide +kernel, rfl, by decide +kernel, by decide +kernel⟩, by decide +kernel, by decide +kernel⟩
theorem ok_power_of {T : Tx} (M : Mo T) : FnD T 1 "power_of" R_power_of := by
  refine fn_D M.F_power_of sc_power_of (fun f fd F => F.binds fun _ _ _ _ _ _ us hl => match us, hl with | [_, _], _ => rfl) (by rintro _ _ ⟨a, b, rfl, _, rfl⟩; rfl) fun Y S Z ds d h => ?_
  have Se := S.toSe
  obtain ⟨p, n, rfl, hp, rfl⟩ := h
  have p2 := hp.two_le
  refine ss_if (te_eqI (ev_var Se 1) ev_int) (fun h => ?_) (fun h => ss_nil ?_)
  · refine ss_ret ev_non ?_
    show D.non = _
    rw [if_pos (by simpa using h)]
  have h0 : ¬ n = 0 := by simpa using h
  rw [if_neg h0]
  refine ss_set S 2 ev_int ?_
  refine ss_while S (fun c => ∃ m w : Int, c = [.val (.int p), .val (.int m), .val (.int w)] ∧ m ≠ 0 ∧ (vp p n : Int) = w + (vp p m : Int)) (fun c => match c with | [_, .val (.int m), _] => m.natAbs | _ => 0) ⟨n, 0, rfl, h0, by omega⟩ ?_
  rintro _ ⟨m, w, rfl, hm, hv⟩
  refine ⟨_, te_eqI (ev_modP (ev_var Se 1) (ev_var Se 0) (by omega)) ev_int, fun h => ?_, fun h => ?_⟩
  · have h1 : m % p = 0 := by simpa using h
    have f := div_facts p2.1 hm h1
    have s := vp_step p2.1 hm h1
    refine ss_set S 1 (ev_fdivP (ev_var Se 1) (ev_var Se 0) (by omega) (Bd.of 8 (by omega) (by omega) (by decide +kernel))) ?_
    refine ss_set S 2 (ev_add (ev_var Se 2) ev_int) ?_
    exact ss_nil ⟨⟨m / p, w + 1, rfl, f.2.1, by omega⟩, f.2.2⟩
  · have h1 : ¬ m % p = 0 := by simpa using h
    have s := vp_zero h1
    refine ss_ret (ev_var Se 2) ?_
    show D.int _ = D.int _
    congr 1
    omega
abbrev s_raised : Stmt := top 15
theorem sc_raised : ScB ["p", "k", "product", "square"] ["p", "k"] [] (defScope s_raised) := ⟨⟨rfl, rfl, rfl, by decide +kernel, rfl, by decide +kernel, by decide +kernel⟩, by decide +kernel, by decide +kernel⟩
theorem ok_raised {T : Tx} (M : Mo T) : FnD T 1 "raised" R_raised := by
  refine fn_D M.F_raised sc_raised (fun f fd F => F.binds fun _ _ _ _ _ _ us hl => match us, hl with | [_, _], _ => rfl) (by rintro _ _ ⟨a, b, rfl, _, _, rfl⟩; rfl) fun Y S Z ds d h => ?_
  have Se := S.toSe
  obtain ⟨p, k, rfl, hp, hk, rfl⟩ := h
  have p2 := hp.two_le
  refine ss_set S 2 ev_int ?_
  refine ss_set S 3 (ev_var Se 0) ?_
  refine ss_while S (fun c => ∃ k' x y : Int, c = [.val (.int p), .val (.int k'), .val (.int x), .val (.int y)] ∧ k' ≤ k ∧ 1 ≤ x ∧ 1 ≤ y ∧ x * y ^ k'.toNat = p ^ k.toNat) (fun c => match c with | [_, .val (.int y), _, _] => y.toNat | _ => 0) ⟨_, _, _, rfl, Int.le_refl _, by decide, by omega, by rw [Int.one_mul]⟩ ?_
  rintro _ ⟨k', x, y, rfl, hk', hx, hy, he⟩
  refine ⟨_, te_gt (ev_var Se 1) ev_int, fun h => ?_, fun h => ?_⟩
  · have h0 : 0 < k' := by simpa using h
    have ok := sq_ok hp hx hy (show 1 ≤ k'.toNat by omega) (by omega) he
    have xy := le_mul_pos hx hy
    have yy := le_mul_pos hy hy
    refine ss_ifI S 2 (te_eqI (ev_modP (ev_var Se 1) ev_int (by decide)) ev_int) (fun _ => ev_mul (ev_var Se 2) (ev_var Se 3) ok.1) ?_
    refine ss_set S 3 (ev_mul (ev_var Se 3) (ev_var Se 3) ok.2) ?_
    refine ss_set S 1 (ev_fdivP (ev_var Se 1) ev_int (by decide) (by decide +kernel)) ?_
    refine ss_nil ⟨⟨k' / 2, _, y * y, rfl, by omega, ?_, by omega, ?_⟩, ?_⟩
    · split <;> omega
    · have e := sq_step he
      have e1 : (k' / 2).toNat = k'.toNat / 2 := by omega
      rw [e1, ← e]
      by_cases h2 : k' % 2 = 1
      · rw [if_pos (by simpa using h2), if_pos (show k'.toNat % 2 = 1 by omega)]
      · rw [if_neg (by simpa using h2), if_neg (show ¬ k'.toNat % 2 = 1 by omega)]
    · show (k' / 2).toNat < k'.toNat
      omega
  · have h0 : k'.toNat = 0 := by
      have : ¬ 0 < k' := by simpa using h
      omega
    refine ss_ret (ev_var Se 2) ?_
    rw [h0, Int.pow_zero, Int.mul_one] at he
    show D.int _ = D.int _
    rw [he]
abbrev s_obp : Stmt := top 17
theorem sc_obp : ScB ["p", "n", "answer"] ["p", "n"] [] (defScope s_obp) := ⟨⟨rfl, rfl, rfl, by decide +kernel, rfl, by decide +kernel, by decide +kernel⟩, by decide +kernel, by decide +kernel⟩
theorem ok_obp {T : Tx} (M : Mo T) : FnD T 1 "over_by_prime" R_obp := by
  refine fn_D M.F_obp sc_obp (fun f fd F => F.binds fun _ _ _ _ _ _ us hl => match us, hl with | [_, _], _ => rfl) (by rintro _ _ ⟨a, b, rfl, _, _, _, rfl⟩; rfl) fun Y S Z ds d h => ?_
  have Se := S.toSe
  obtain ⟨p, n, rfl, hp, hn, hb, rfl⟩ := h
  have p2 := hp.two_le
  refine ss_set S 2 ev_int ?_
  refine ss_while S (fun c => ∃ a : Int, c = [.val (.int p), .val (.int n), .val (.int a)] ∧ 1 ≤ a ∧ a ≤ p - 1 ∧ ∀ b, 1 ≤ b → b < a → n * b % p ≠ 1) (fun c => match c with | [_, _, .val (.int y)] => (p - y).toNat | _ => 0) ⟨1, rfl, by omega, by omega, fun b h1 h2 => by omega⟩ ?_
  rintro _ ⟨a, rfl, a1, a2, hs⟩
  refine ⟨_, (te_and (te_lt (ev_var Se 2) (ev_sub (ev_var Se 0) ev_int)) fun _ => te_and1 (te_neI (ev_modP (ev_mul (ev_var Se 1) (ev_var Se 2) (mulOk hb (Bd.of (n := 3) 8 (by omega) (by omega) (by decide)) (by decide))) (ev_var Se 0) (by omega)) ev_int)).pt, fun h => ?_, fun h => ?_⟩
  · have h' : a < p - 1 ∧ ¬ n * a % p = 1 := by simpa using h
    refine ss_set S 2 (ev_add (ev_var Se 2) ev_int) ?_
    refine ss_nil ⟨⟨a + 1, rfl, by omega, by omega, fun b h1 h2 => ?_⟩, ?_⟩
    · by_cases e : b = a
      · rw [e]; exact h'.2
      · exact hs b h1 (by omega)
    · show (p - (a + 1)).toNat < (p - a).toNat
      omega
  · have h' : ¬ a < p - 1 ∨ n * a % p = 1 := by
      by_cases z : a < p - 1
      · right
        simpa [z] using h
      · exact .inl z
    have e := inv_found hp hn a1 a2 hs h'
    refine ss_ret (ev_var Se 2) ?_
    show D.int _ = D.int _
    congr 1
    refine over_uniq (k := 1) ⟨by omega, by rw [Int.pow_one]; omega, ?_⟩ (overBy_is hp hn 1)
    rw [Int.pow_one]
    have := Int.emod_add_mul_ediv (n * a) p
    exact ⟨n * a / p, by omega⟩
abbrev s_over_by : Stmt := top 16
theorem sc_over_by : ScB ["p", "n", "k", "modulus", "answer", "settled"] ["p", "n", "k"] ["raised", "over_by_prime"] (defScope s_over_by) := ⟨⟨rfl, rfl, rfl, by decide +kernel, rfl, by decide +kernel, by decide +kernel⟩, by decide +kernel, by decide +kernel⟩
theorem ok_over_by {T : Tx} (M : Mo T) : FnD T 2 "over_by" R_over_by := by
  refine fn_D M.F_over_by sc_over_by (fun f fd F => F.binds fun _ _ _ _ _ _ us hl => match us, hl with | [_, _, _], _ => rfl) (by rintro _ _ ⟨a, b, c, rfl, _, _, _, _, _, rfl⟩; rfl) fun Y S Z ds d h => ?_
  have Se := S.toSe
  obtain ⟨p, n, k, rfl, hp, hn, k0, k1, hb, rfl⟩ := h
  have p2 := hp.two_le
  refine ss_if (te_eqI (ev_var Se 2) ev_int) (fun h => ?_) (fun h => ss_nil ?_)
  · have h0 : k = 0 := by simpa using h
    refine ss_ret ev_int ?_
    subst h0
    show D.int _ = D.int _
    congr 1
    exact over_uniq (k := 0) ⟨by omega, by rw [Int.pow_zero]; omega, by rw [Int.pow_zero]; exact Int.one_dvd _⟩ (overBy_is hp hn 0)
  have h0 : ¬ k = 0 := by simpa using h
  have pp := pw_pos hp k.toNat
  have pb := pw_bd hp k.toNat
  refine ss_set S 3 (ev_call Se 0 (ok_raised M) (by decide) (ar_cons (ev_var Se 0) (ar_cons (ev_var Se 2) ar_nil)) ⟨p, k, rfl, hp, k1, rfl⟩) ?_
  refine ss_set S 4 (ev_call Se 1 (ok_obp M) (by decide) (ar_cons (ev_var Se 0) (ar_cons (ev_var Se 1) ar_nil)) ⟨p, n, rfl, hp, hn, hb, rfl⟩) ?_
  refine ss_set S 5 ev_int ?_
  have i1 := overBy_is hp hn 1
  refine ss_while S (fun c => ∃ a s : Int, c = [.val (.int p), .val (.int n), .val (.int k), .val (.int (p ^ k.toNat)), .val (.int a), .val (.int s)] ∧ 0 ≤ a ∧ a < p ^ k.toNat ∧ 1 ≤ s ∧ p ^ (min s.toNat k.toNat) ∣ n * a - 1) (fun c => match c with | [_, _, _, _, _, .val (.int s)] => (k - s).toNat | _ => 0) ⟨_, 1, rfl, i1.1, ?_, by omega, ?_⟩ ?_
  · have := i1.2.1
    have q := le_self_pow (show 1 ≤ p by omega) (show 1 ≤ k.toNat by omega)
    rw [Int.pow_one] at this
    omega
  · rw [show min (1 : Int).toNat k.toNat = 1 by omega]
    exact i1.2.2
  rintro _ ⟨a, s, rfl, a0, a1, s1, hd⟩
  refine ⟨_, te_lt (ev_var Se 5) (ev_var Se 2), fun h => ?_, fun h => ?_⟩
  · have h' : s < k := by simpa using h
    have ba : Bd (3 * k.toNat + 1) a := Bd.of_le a0 (by omega) pb
    have bn := hb.mul ba
    have b2 := Bd.sub (n := 1000000 + (3 * k.toNat + 1)) (show Bd 2 2 by decide) bn
    refine ss_set S 4 (ev_modP (ev_mul (ev_var Se 4) (ev_sub ev_int (ev_mul (ev_var Se 1) (ev_var Se 4) (mulOk hb ba (by omega)))) (mulOk ba b2 (by omega))) (ev_var Se 3) pp) ?_
    refine ss_set S 5 (ev_mul ev_int (ev_var Se 5) (.of_left (intBits_le_64 (by decide) (by decide)))) ?_
    refine ss_nil ⟨⟨_, 2 * s, rfl, Int.emod_nonneg _ (by omega), Int.emod_lt_of_pos _ pp, by omega, ?_⟩, ?_⟩
    · have e := newton hd
      rw [show (2 * s).toNat = 2 * s.toNat by omega]
      exact e
    · show (k - 2 * s).toNat < (k - s).toNat
      omega
  · have h' : ¬ s < k := by simpa using h
    refine ss_ret (ev_var Se 4) ?_
    show D.int _ = D.int _
    congr 1
    rw [show min s.toNat k.toNat = k.toNat by omega] at hd
    exact over_uniq ⟨a0, a1, hd⟩ (overBy_is hp hn _)
abbrev s_fraction : Stmt := top 20
theorem sc_fraction : ScB ["top", "bottom", "factor"] ["top", "bottom"] ["shared", "NoFraction"] (defScope s_fraction) := ⟨⟨rfl, rfl, rfl, by decide +kernel, rfl, by decide +kernel, by decide +kernel⟩, by decide +kernel, by decide +kernel⟩
theorem okv_fraction {T : Tx} (M : Mo T) : FnD T 2 "fraction" R_low ∧ FnDd T 2 "fraction" 1 R_low := by
  refine fn_DV M.F_fraction sc_fraction (fun Td kV doc pm an cdv ct tk o n lt hs => ⟨fun s us X hl => match us, (show us.length = 2 by simpa using hl) with | [_, _], _ => PySem.W.binds_K X rfl lt hs rfl rfl, fun s us X hl => match us, (show us.length = 1 by simpa using hl) with | [_], _ => PySem.W.binds_K X rfl lt hs rfl rfl⟩) (by rintro _ _ ⟨a, b, rfl, _⟩; rfl) fun Y S Z ds d h => ?_
  have Se := S.toSe
  obtain ⟨t, b, rfl, h⟩ := h
  obtain ⟨hb, bb, rfl⟩ := h
  refine ss_if (te_eqI (ev_var Se 1) ev_int) (fun h => absurd (by simpa using h) hb) (fun _ => ss_nil ?_)
  refine ss_set S 2 (ev_call Se 0 (ok_shared M) (by decide) (ar_cons (ev_var Se 0) (ar_cons (ev_var Se 1) ar_nil)) ⟨_, _, rfl, rfl⟩) ?_
  refine ss_ifI S 2 (te_lt (ev_var Se 1) ev_int) (fun _ => ev_neg (ev_var Se 2)) ?_
  have q := low_bd (t := t) hb bb
  have l := low_num t hb
  have e : (if decide (b < 0) = true then -(Int.gcd t b : Int) else (Int.gcd t b : Int)) = (if b < 0 then -(Int.gcd t b : Int) else (Int.gcd t b : Int)) := by simp
  rw [e]
  refine ss_ret (ev_tup (ar_cons (ev_fdiv (ev_var Se 0) (ev_var Se 2) q.1 q.2) (ar_cons (ev_fdiv (ev_var Se 1) (ev_var Se 2) q.1 q.2) ar_nil))) ?_
  show D.tup _ = D.tup _
  rw [l.1, l.2]
theorem ok_fraction {T : Tx} (M : Mo T) : FnD T 2 "fraction" R_low := (okv_fraction M).1
theorem okd_fraction {T : Tx} (M : Mo T) : FnDd T 2 "fraction" 1 R_low := (okv_fraction M).2
abbrev s_plus : Stmt := top 21
theorem sc_plus : ScB ["a", "b"] ["a", "b"] ["fraction"] (defScope s_plus) := ⟨⟨rfl, rfl, rfl, by decide +kernel, rfl, by decide +kernel, by decide +kernel⟩, by decide +kernel, by decide +kernel⟩
theorem ok_plus {T : Tx} (M : Mo T) : FnD T 3 "plus" R_qadd := by
  refine fn_D M.F_plus sc_plus (fun f fd F => F.binds fun _ _ _ _ _ _ us hl => match us, hl with | [_, _], _ => rfl) (by rintro _ _ ⟨a, b, rfl, _, _, rfl⟩; rfl) fun Y S Z ds d h => ?_
  have Se := S.toSe
  obtain ⟨a, b, rfl, ha, hb, rfl⟩ := h
  rw [← rat_add a b]
  exact ss_ret (ev_call Se 0 (ok_fraction M) (by decide) (ar_cons (ev_add (ev_mul (ev_ixT (ev_var Se 0) ev_int rfl) (ev_ixT (ev_var Se 1) ev_int rfl) (mulOk ha.1 hb.2 (by decide))) (ev_mul (ev_ixT (ev_var Se 1) ev_int rfl) (ev_ixT (ev_var Se 0) ev_int rfl) (mulOk hb.1 ha.2 (by decide)))) (ar_cons (ev_mul (ev_ixT (ev_var Se 0) ev_int rfl) (ev_ixT (ev_var Se 1) ev_int rfl) (mulOk ha.2 hb.2 (by decide))) ar_nil)) ⟨_, _, rfl, Int.mul_ne_zero (den_ne a) (den_ne b), (ha.2.mul hb.2).mono (by decide), rfl⟩) rfl
abbrev s_times : Stmt := top 22
theorem sc_times : ScB ["a", "b"] ["a", "b"] ["fraction"] (defScope s_times) := ⟨⟨rfl, rfl, rfl, by decide +kernel, rfl, by decide +kernel, by decide +kernel⟩, by decide +kernel, by decide +kernel⟩
theorem ok_times {T : Tx} (M : Mo T) : FnD T 3 "times" R_qmul := by
  refine fn_D M.F_times sc_times (fun f fd F => F.binds fun _ _ _ _ _ _ us hl => match us, hl with | [_, _], _ => rfl) (by rintro _ _ ⟨a, b, rfl, _, _, rfl⟩; rfl) fun Y S Z ds d h => ?_
  have Se := S.toSe
  obtain ⟨a, b, rfl, ha, hb, rfl⟩ := h
  rw [← rat_mul a b]
  exact ss_ret (ev_call Se 0 (ok_fraction M) (by decide) (ar_cons (ev_mul (ev_ixT (ev_var Se 0) ev_int rfl) (ev_ixT (ev_var Se 1) ev_int rfl) (mulOk ha.1 hb.1 (by decide))) (ar_cons (ev_mul (ev_ixT (ev_var Se 0) ev_int rfl) (ev_ixT (ev_var Se 1) ev_int rfl) (mulOk ha.2 hb.2 (by decide))) ar_nil)) ⟨_, _, rfl, Int.mul_ne_zero (den_ne a) (den_ne b), (ha.2.mul hb.2).mono (by decide), rfl⟩) rfl
abbrev s_prime_power : Stmt := top 23
theorem sc_prime_power : ScB ["p", "k"] ["p", "k"] ["raised"] (defScope s_prime_power) := ⟨⟨rfl, rfl, rfl, by decide +kernel, rfl, by decide +kernel, by decide +kernel⟩, by decide +kernel, by decide +kernel⟩
theorem ok_prime_power {T : Tx} (M : Mo T) : FnD T 2 "prime_power" R_ppw := by
  refine fn_D M.F_prime_power sc_prime_power (fun f fd F => F.binds fun _ _ _ _ _ _ us hl => match us, hl with | [_, _], _ => rfl) (by rintro _ _ ⟨a, b, rfl, _, _, _, rfl⟩; rfl) fun Y S Z ds d h => ?_
  have Se := S.toSe
  obtain ⟨p, k, rfl, hp, k0, k1, rfl⟩ := h
  have p2 := hp.two_le
  refine ss_if (te_lt (ev_var Se 1) ev_int) (fun h => ?_) (fun h => ss_nil ?_)
  · have h0 : k < 0 := by simpa using h
    have q := ppw_neg (p := p) (by omega) h0
    refine ss_ret (ev_tup (ar_cons ev_int (ar_cons (ev_call Se 0 (ok_raised M) (by decide) (ar_cons (ev_var Se 0) (ar_cons (ev_neg (ev_var Se 1)) ar_nil)) ⟨p, -k, rfl, hp, by omega, rfl⟩) ar_nil))) ?_
    show D.tup _ = D.tup _
    rw [q.1, q.2]
  · have h0 : ¬ k < 0 := by simpa using h
    have q := ppw_nn (p := p) (k := k) (by omega)
    refine ss_ret (ev_tup (ar_cons (ev_call Se 0 (ok_raised M) (by decide) (ar_cons (ev_var Se 0) (ar_cons (ev_var Se 1) ar_nil)) ⟨p, k, rfl, hp, by omega, rfl⟩) (ar_cons ev_int ar_nil))) ?_
    show D.tup _ = D.tup _
    rw [q.1, q.2]
    rfl
abbrev s_rest_byN : Stmt := top 24
theorem sc_rest_byN : ScB ["p", "k", "a", "sunk", "settled", "scale", "whole"] ["p", "k", "a"] ["power_of", "NOUGHT", "raised", "fraction", "over_by"] (defScope s_rest_byN) := ⟨⟨rfl, rfl, rfl, by decide +kernel, rfl, by decide +kernel, by decide +kernel⟩, by decide +kernel, by decide +kernel⟩
theorem ok_rest_byN {T : Tx} (M : Mo T) : FnD T 3 "rest_by" R_rest := by
  refine fn_D M.F_rest_byN sc_rest_byN (fun f fd F => F.binds fun _ _ _ _ _ _ us hl => match us, hl with | [_, _, _], _ => rfl) (by rintro _ _ ⟨_, _, _, rfl, _, _, _, _, rfl⟩; rfl) fun Y S Z ds d h => ?_
  have Se := S.toSe
  obtain ⟨p, k, a, rfl, hp, k1, k0, ha, rfl⟩ := h
  have p2 := hp.two_le
  have hv := vp_le hp (den_ne a) ha.2
  obtain ⟨u, hu, up⟩ := vp_ex hp (den_ne a)
  refine ss_set S 3 (ev_call Se 0 (ok_power_of M) (by decide) (ar_cons (ev_var Se 0) (ar_cons (ev_ixT (ev_var Se 2) ev_int rfl) ar_nil)) ⟨p, _, rfl, hp, (if_neg (den_ne a)).symm⟩) ?_
  refine ss_set S 4 (ev_add (ev_var Se 1) (ev_var Se 3)) ?_
  unfold restQ
  generalize vp p a.den = e at *
  refine ss_if (te_le (ev_var Se 4) ev_int) (fun h => ?_) (fun h => ss_nil ?_)
  · have h0 : k + (e : Int) ≤ 0 := by simpa using h
    rw [if_pos h0]
    exact ss_ret (ev_cstT Se.toSn 1 M.k_NOUGHT) rfl
  have h0 : ¬ k + (e : Int) ≤ 0 := by simpa using h
  rw [if_neg h0]
  have pe := pw_pos hp e
  have bpe : Bd 4400 (p ^ e) := by
    refine Bd.of_le (by omega) (?_ : p ^ e ≤ (a.den : Int)) ha.2
    have := den_pos a
    exact Int.le_of_dvd this ⟨u, hu⟩
  have hdiv : (a.den : Int) / p ^ e = u := by rw [hu]; exact Int.mul_ediv_cancel_left u (by omega)
  have bu : Bd 4400 u := by
    have q := ha.2
    rw [hu] at q
    unfold Bd at *
    rw [Int.natAbs_mul] at q
    have : 1 * u.natAbs ≤ (p ^ e).natAbs * u.natAbs := Nat.mul_le_mul_right _ (by omega)
    omega
  refine ss_set S 5 (ev_call Se 2 (ok_raised M) (by decide) (ar_cons (ev_var Se 0) (ar_cons (ev_var Se 3) ar_nil)) ⟨p, (e : Int), rfl, hp, by omega, by rw [Int.toNat_natCast]⟩) ?_
  rw [hdiv]
  have ov := overBy_is hp up (k + (e : Int)).toNat
  have pk := pw_pos hp (k + (e : Int)).toNat
  have bk := pw_bd hp (k + (e : Int)).toNat
  refine ss_set S 6 (ev_modP (ev_mul (ev_ixT (ev_var Se 2) ev_int rfl) (ev_call Se 4 (ok_over_by M) (by decide) (ar_cons (ev_var Se 0) (ar_cons (ev_fdivP (ev_ixT (ev_var Se 2) ev_int rfl) (ev_var Se 5) pe (bpe.mono (by decide))) (ar_cons (ev_var Se 4) ar_nil))) ⟨p, u, k + (e : Int), by rw [hdiv], hp, up, by omega, by omega, bu.mono (by decide), rfl⟩) (mulOk ha.1 (Bd.of_le ov.1 (Int.le_of_lt ov.2.1) bk) (by omega))) (ev_call Se 2 (ok_raised M) (by decide) (ar_cons (ev_var Se 0) (ar_cons (ev_var Se 4) ar_nil)) ⟨p, k + (e : Int), rfl, hp, by omega, rfl⟩) pk) ?_
  exact ss_ret (ev_call Se 3 (ok_fraction M) (by decide) (ar_cons (ev_var Se 6) (ar_cons (ev_var Se 5) ar_nil)) ⟨_, _, rfl, by omega, bpe.mono (by decide), rfl⟩) rfl
abbrev s_above31 : Stmt := top 26
theorem sc_above31 : ScB ["p", "spot", "k"] ["p", "spot", "k"] ["rest_by"] (defScope s_above31) := ⟨⟨rfl, rfl, rfl, by decide +kernel, rfl, by decide +kernel, by decide +kernel⟩, by decide +kernel, by decide +kernel⟩
theorem ok_above31 {T : Tx} (M : Mo T) : FnD T 4 "spot_above" R_above31 := by
  refine fn_D M.F_above31 sc_above31 (fun f fd F => F.binds fun _ _ _ _ _ _ us hl => match us, hl with | [_, _, _], _ => rfl) (by rintro _ _ ⟨_, _, _, _, rfl, _, _, _, _, rfl⟩; rfl) fun Y S Z ds d h => ?_
  have Se := S.toSe
  obtain ⟨p, j, q, k, rfl, hp, fb, k0, k1, rfl⟩ := h
  exact ss_ret (ev_tup (ar_cons (ev_var Se 2) (ar_cons (ev_call Se 0 (ok_rest_byN M) (by decide) (ar_cons (ev_var Se 0) (ar_cons (ev_var Se 2) (ar_cons (ev_ixT (ev_var Se 1) ev_int rfl) ar_nil))) ⟨p, k, q, rfl, hp, k1, k0, fb, rfl⟩) ar_nil))) rfl
abbrev s_ties : Stmt := top 29
theorem sc_ties : ScB ["p", "spot", "k", "size", "below"] ["p", "spot"] ["prime_power", "sorted", "range", "spot_above"] (defScope s_ties) := ⟨⟨rfl, rfl, rfl, by decide +kernel, rfl, by decide +kernel, by decide +kernel⟩, by decide +kernel, by decide +kernel⟩
theorem ok_ties {T : Tx} (M : Mo T) : FnO T 5 "ties" R_ties := by
  refine fn_O M.F_ties sc_ties (fun f fd F => F.binds fun _ _ _ _ _ _ us hl => match us, hl with | [_, _], _ => rfl) (by rintro _ _ ⟨_, _, _, rfl, _⟩; rfl) fun Y S Z ds l h => ?_
  have Se := S.toSe
  obtain ⟨p, k, q, rfl, hp, hs, rfl⟩ := h
  have p2 := hp.two_le
  have k0 := hs.k0
  have k1 := hs.k1
  have fq := hs.fb hp (by decide)
  have hl := tiesL_len hp k q
  have fp := ppw_fb hp (k := k) 300 (by omega) (by omega)
  refine ss_set S 2 (ev_ixT (ev_var Se 1) ev_int rfl) ?_
  refine ss_set S 3 (ev_call Se 0 (ok_prime_power M) (by decide) (ar_cons (ev_var Se 0) (ar_cons (ev_var Se 2) ar_nil)) ⟨p, k, rfl, hp, by omega, by omega, rfl⟩) ?_
  refine ss_setCM S 4 (ds := (List.range p.toNat).map fun (c : Nat) => spotD (k + 1) (downQ p k q (0 + (c : Int) * 1))) (tn := ["c"]) (fs := ["k", "spot", "size"]) (ix := [2, 1, 3]) (G' := ["plus", "times", "fraction"]) Z.sc ?B (it_range1 Se 2 (ar_cons (ev_var Se 0) ar_nil) (by omega) (by omega) M.b_range) (by simp [rangeD]) (by rw [List.length_map, List.length_range]; omega) ?T (swapC_at Z.sc fun _ => rfl) ?_
  case B => exact ⟨rfl, rfl, by decide +kernel, by decide +kernel, by decide +kernel, by decide +kernel, by decide +kernel, by decide +kernel, rfl, by decide +kernel⟩
  case T =>
    intro Y' S' hl m d r hd hr ts hts
    obtain ⟨hm, rfl⟩ := rangeD_of hd
    obtain ⟨t1, rfl⟩ : ∃ t1, ts = [t1] := List.length_eq_one_iff.mp hts
    rw [List.getElem?_map, List.getElem?_range hm] at hr
    cases hr
    have c8 : 0 ≤ (0 : Int) + (m : Int) * 1 ∧ (0 : Int) + (m : Int) * 1 < 8 := by omega
    have e1 : Rat.divInt (0 + (m : Int) * 1) 1 = (((0 + (m : Int) * 1) : Int) : Rat) := divInt_1 _
    have fc : Fb 5 (((0 + (m : Int) * 1) : Int) : Rat) := by
      rw [← e1]
      exact Fb.divInt (by decide) (Bd.of 8 (by omega) (by omega) (by decide)) (by decide)
    exact ⟨[_], rfl, rfl, tg_name0 S'.toSn 0 (.inr (hl _ (by simp))), ev_tup (ar_cons (ev_add (ev_var S' 1) ev_int) (ar_cons (ev_call S' 0 (ok_plus M) (by decide) (ar_cons (ev_ixT (ev_var S' 2) ev_int rfl) (ar_cons (ev_call S' 1 (ok_times M) (by decide) (ar_cons (ev_calld S' 2 (okd_fraction M) (by decide) (ar_cons (ev_var S' 0) ar_nil) ⟨(0 + (m : Int) * 1), 1, rfl, by decide, by decide, by rw [e1]⟩) (ar_cons (ev_var S' 3) ar_nil)) ⟨(((0 + (m : Int) * 1) : Int) : Rat), ppw p k, rfl, fc.mono (by decide), fp.mono (by decide), rfl⟩) ar_nil)) ⟨q, (((0 + (m : Int) * 1) : Int) : Rat) * ppw p k, rfl, fq.mono (by decide), (fc.mul fp).mono (by decide), rfl⟩) ar_nil))⟩
  refine ss_retO (ow_sortT Se 1 (l := (tiesL p k q).map trS) (ar_cons ?A ar_nil) (by rw [hl]; omega) (by rw [hl]; omega) M.b_sorted) rfl
  case A =>
    refine ev_lto (ev_catL (xs := [spotD (k - 1) (restQ p (k - 1) q)]) (ev_lst (ar_cons (ev_call Se 3 (ok_above31 M) (by decide) (ar_cons (ev_var Se 0) (ar_cons (ev_var Se 1) (ar_cons (ev_sub (ev_var Se 2) ev_int) ar_nil))) ⟨p, k, q, k - 1, rfl, hp, fq.mono (by decide), by omega, by omega, rfl⟩) ar_nil)) (ev_var Se 4) (by rw [List.length_map, List.length_range]; show 1 + _ ≤ _; omega)) (tiesL_D p k q)
abbrev s_over36 : Stmt := top 31
theorem sc_over36 : ScB ["p", "r", "count", "ring", "step"] ["p", "r"] ["range", "MOST_SPOTS"] (defScope s_over36) := ⟨⟨rfl, rfl, rfl, by decide +kernel, rfl, by decide +kernel, by decide +kernel⟩, by decide +kernel, by decide +kernel⟩
theorem ok_over36 {T : Tx} (M : Mo T) : FnD T 1 "is_over_most" R_over36 := by
  refine fn_D M.F_over36 sc_over36 (fun f fd F => F.binds fun _ _ _ _ _ _ us hl => match us, hl with | [_, _], _ => rfl) (by rintro _ _ ⟨_, _, rfl, _⟩; rfl) fun Y S Z ds d h => ?_
  have Se := S.toSe
  obtain ⟨p, r, rfl, hp, r0, r1, rfl⟩ := h
  have p2 := hp.two_le
  refine ss_set S 2 ev_int ?_
  refine ss_set S 3 (ev_add (ev_var Se 0) ev_int) ?_
  refine ss_for S (it_range1 Se 0 (ar_cons (ev_var Se 1) ar_nil) (by omega) (by omega) M.b_range) (fun i c => (∀ j, j < i → ¬ 400 < cntF p (j + 1)) ∧ ∃ s4 : Slot, c = [.val (.int p), .val (.int r), .val (.int (cntF p i)), .val (.int ((p + 1) * p ^ i)), s4]) ⟨fun j hj => absurd hj (by omega), .un, by rw [Int.pow_zero, Int.mul_one]; rfl⟩ ?_ ?_
  · rintro m d _ hd ⟨hno, s4, rfl⟩
    obtain ⟨hm, rfl⟩ := rangeD_of hd
    refine ⟨_, tg_name S 4, ?_⟩
    refine ss_set S 2 (d := .int (cntF p (m + 1))) (ev_add (ev_var Se 2) (ev_var Se 3)) ?_
    refine ss_if (te_gt (ev_var Se 2) (ev_cstI Se.toSn 1 M.k_MOST_SPOTS)) (fun h => ?_) (fun h => ss_nil ?_)
    · refine ss_ret ev_bl ?_
      have e : ovM p r.toNat = true := List.any_eq_true.mpr ⟨m, List.mem_range.mpr hm, h⟩
      show D.bl true = D.bl _
      rw [e]
    · have b1 := pw_bd hp m
      have b2 : Bd (3 * m + 1 + 4) ((p + 1) * p ^ m) := by
        have := Bd.mul (show Bd 4 (p + 1) from Bd.of 16 (by omega) (by omega) (by decide)) b1
        exact this.mono (by omega)
      refine ss_set S 3 (d := .int ((p + 1) * p ^ (m + 1))) ?M ?_
      case M =>
        rw [Int.pow_succ, ← Int.mul_assoc]
        exact ev_mul (ev_var Se 3) (ev_var Se 0) (mulOk b2 (show Bd 4 p from Bd.of 8 (by omega) (by omega) (by decide)) (by omega))
      refine ss_nil ⟨fun j hj => ?_, _, rfl⟩
      by_cases e : j = m
      · subst e; exact of_decide_eq_false h
      · exact hno j (by omega)
  · rintro _ ⟨hno, s4, rfl⟩
    rw [rangeD_length] at hno
    refine ss_ret ev_bl ?_
    have e : ovM p r.toNat = false := by
      refine List.any_eq_false.mpr fun i hi => ?_
      simpa using hno i (List.mem_range.mp hi)
    show D.bl false = D.bl _
    rw [e]
abbrev s_ringb35 : Stmt := top 32
theorem sc_ringb35 : ScB ["p", "ring", "told", "found", "spot"] ["p", "ring", "told"] ["sorted", "ties"] (defScope s_ringb35) := ⟨⟨rfl, rfl, rfl, by decide +kernel, rfl, by decide +kernel, by decide +kernel⟩, by decide +kernel, by decide +kernel⟩
theorem ok_ringb35 {T : Tx} (M : Mo T) : FnB T 6 "ring_behind" R_ringb := by
  refine fn_B M.F_ringb35 sc_ringb35 (fun f fd F => F.binds fun _ _ _ _ _ _ us hl => match us, hl with | [_, _, _], _ => rfl) (by rintro _ _ _ ⟨_, _, _, rfl, _⟩; rfl) fun Y S Z ds th d h => ?_
  have Se := S.toSe
  obtain ⟨p, ring, told, rfl, rfl, hp, hs, h2, hl, rfl⟩ := h
  have p2 := hp.two_le
  refine ss_own S 3 (ds := []) (ow_lst ar_nil) ?_
  refine ss_for S (it_list (ds := ring.map triD) (ev_var Se 1)) (fun i c => ∃ s4 : Slot, c = [.val (.int p), .val (.lst (ring.map triD)), .bor (DctT told), .own (((ring.take i).flatMap (newT p told)).map triD), s4]) ⟨_, rfl⟩ ?_ ?_
  · rintro i d _ hd ⟨s4, rfl⟩
    rw [List.getElem?_map] at hd
    cases hx : ring[i]? with
    | none => rw [hx] at hd; cases hd
    | some x =>
      rw [hx] at hd
      cases hd
      refine ⟨_, tg_name S 4, ?_⟩
      obtain ⟨s, rfl, ss⟩ := hs x (List.mem_of_getElem? hx)
      have tl := tieS_len hp s.1 s.2
      have en : (ring.take (i + 1)).flatMap (newT p told) = (ring.take i).flatMap (newT p told) ++ newT p told (trS s) := by
        rw [List.take_succ, hx, List.flatMap_append]
        simp
      have ln := fm_le (newT p told) ring (i + 1)
      have ln2 : (ring.flatMap (newT p told)).length < limS := hl
      have l64 : limS ≤ 100000 := by decide
      refine ss_ext S 3 (ds := ((ring.take i).flatMap (newT p told)).map triD) (ds2 := (newT p told (trS s)).map triD) rfl ?C (ss_nil ⟨.val (triD (trS s)), ?V⟩) ?L
      case L =>
        rw [List.length_map, List.length_map, ← List.length_append, ← en]
        omega
      case V =>
        show [_, _, _, Slot.own (_ ++ _), _] = _
        rw [en, List.map_append]
      case C =>
        refine ow_to (ow_comp (tn := ["tie"]) (fs := ["told"]) (ix := [2]) (G' := []) (items := (tieS p s.1 s.2).map triD) Se Z.sc ?B (it_list (ev_ow (ow_call Se 1 (ok_ties M) (by decide) (ar_cons (ev_var Se 0) (ar_cons (ev_var Se 4) ar_nil)) ⟨p, s.1, s.2, rfl, hp, ss, rfl⟩))) ((tieS p s.1 s.2).map fun u => if u ∈ told then none else some (triD u)) (by rw [List.length_map, List.length_map]) (by rw [List.length_map, tl]; omega) ?T) (new_fm p told s)
        case B => exact ⟨rfl, rfl, by decide +kernel, by decide +kernel, by decide +kernel, by decide +kernel, by decide +kernel, by decide +kernel, rfl, by decide +kernel⟩
        case T =>
          intro Y' S' hl' m d r hd hr ts hts
          obtain ⟨t1, rfl⟩ : ∃ t1, ts = [t1] := List.length_eq_one_iff.mp hts
          rw [List.getElem?_map] at hd hr
          cases hi : (tieS p s.1 s.2)[m]? with
          | none => rw [hi] at hd; cases hd
          | some u =>
            rw [hi] at hd hr
            cases hd
            have er : r = if u ∈ told then none else some (triD u) := by
              cases hr
              rfl
            clear hr
            refine ⟨[.val (triD u)], rfl, rfl, tg_name0 S'.toSn 0 (.inr (hl' _ (by simp))), ?_⟩
            by_cases h : u ∈ told
            · rw [if_pos h] at er
              subst er
              exact te_to36 (te_tnin S' 1 (ks := told) (t := u) (.inr rfl) (ev_var S' 0)) (by rw [decide_eq_true h]; rfl)
            · rw [if_neg h] at er
              subst er
              exact ⟨te_to36 (te_tnin S' 1 (ks := told) (t := u) (.inr rfl) (ev_var S' 0)) (by rw [decide_eq_false h]; rfl), ev_var S' 0⟩
  · rintro _ ⟨s4, rfl⟩
    rw [List.length_map, List.take_length]
    refine ss_freeze 3 (ds := (nxtR p told ring).map triD) rfl ?_
    exact ss_ret (ev_ow (ow_sf Se 0 (l := nxtR p told ring) (ar_cons (ev_var Se 3) ar_nil) h2 hl M.b_sorted)) rfl
abbrev s_within35 : Stmt := top 30
theorem sc_within35 : ScB ["p", "spot", "r", "told", "ring", "step", "one"] ["p", "spot", "r"] ["is_over_most", "range", "list", "TooMany", "ring_behind", "MOST_SPOTS"] (defScope s_within35) := ⟨⟨rfl, rfl, rfl, by decide +kernel, rfl, by decide +kernel, by decide +kernel⟩, by decide +kernel, by decide +kernel⟩
theorem okx_within35 {T : Tx} (M : Mo T) : FnX T 7 "within" R_withX := by
  refine fn_X M.F_within35 sc_within35 (fun f fd F => F.binds fun _ _ _ _ _ _ us hl => match us, hl with | [_, _, _], _ => rfl) (by rintro _ _ ⟨_, _, _, _, rfl, _⟩; rfl) fun Y S Z ds r h hz => ?_
  have Se := S.toSe
  obtain ⟨p, K, r, a, rfl, hp, sa, hK, r0, r7, hh⟩ := h
  have p2 := hp.two_le
  refine ss_if (te_val (ev_call Se 0 (ok_over36 M) (by decide) (ar_cons (ev_var Se 0) (ar_cons (ev_var Se 2) ar_nil)) ⟨p, r, rfl, hp, r0, r7, rfl⟩)) (fun h => ?_) (fun h0 => ss_nil ?_)
  · rcases hh with ⟨_, rfl⟩ | ⟨h2, _⟩
    case inr => rw [h2] at h; cases h
    refine ss_raise S 3 M.c_TooMany (ar_cons (ev_js (js_cons ev_str ?_ (js_cons (fv_int (ev_cstI Se.toSn 5 M.k_MOST_SPOTS) ?_) ?_ (js_cons ev_str ?_ js_nil))) ?_) ar_nil) (hz _ rfl _).2
    all_goals decide +kernel
  rcases hh with ⟨h2, _⟩ | ⟨hov, hlim, rfl⟩
  case inl => rw [h2] at h0; cases h0
  refine ss_if (te_lt (ev_var Se 2) ev_int) (fun h => absurd (of_decide_eq_true h) (by omega)) (fun _ => ss_nil ?_)
  refine ss_tnew S 3 (t := trS a) (ev_var Se 1) ?_
  refine ss_set S 4 (d := .lst ([trS a].map triD)) (ev_lst (ar_cons (ev_var Se 1) ar_nil)) ?_
  have ri := rngS_ri (sf := sfD) sfD_perm hp sa
  refine ss_for S (it_range1 Se 1 (ar_cons (ev_var Se 2) ar_nil) (by omega) (by omega) M.b_range) (fun i c => ∃ s5 s6 : Slot, c = [.val (.int p), .val (stD a), .val (.int r), .thg (DctT (rngS sfD p a i).2), .val (.lst ((rngS sfD p a i).1.map triD)), s5, s6]) ⟨_, _, rfl⟩ ?_ ?_
  · rintro i d _ hd ⟨s5, s6, rfl⟩
    obtain ⟨hm, rfl⟩ := rangeD_of hd
    refine ⟨_, tg_name S 5, ?_⟩
    obtain ⟨I, h1, _⟩ := ri i (by omega)
    obtain ⟨I', h1', _⟩ := ri (i + 1) (by omega)
    rw [if_neg (Nat.succ_ne_zero i), Nat.add_sub_cancel] at h1'
    have pw := pw_pos hp i
    have hx := hlim i hm
    have ge : (3 : Int) * 1 ≤ (p + 1) * p ^ i := Int.mul_le_mul (by omega) (by omega) (by omega) (by omega)
    have ne : nxtR p (rngS sfD p a i).2 (rngS sfD p a i).1 ≠ [] := fun z => by
      have e : (rngS sfD p a (i + 1)).1 = sfD [] := by show sfD _ = _; rw [z]
      have e2 := I.nxt_len hp (by omega)
      rw [z] at e2
      have e3 : (if i = 0 then p + 1 else p) * ((rngS sfD p a i).1.length : Int) = 0 := by rw [← e2]; rfl
      rcases Int.mul_eq_zero.mp e3 with q | q
      · split at q <;> omega
      · rw [h1] at q
        by_cases i0 : i = 0
        · rw [if_pos i0] at q; cases q
        · rw [if_neg i0] at q
          have := Int.mul_pos (show 0 < p + 1 by omega) (pw_pos hp (i - 1))
          omega
    have ln : (((nxtR p (rngS sfD p a i).2 (rngS sfD p a i).1).length : Nat) : Int) = (p + 1) * p ^ i := by
      rw [← h1']
      exact congrArg _ (sfD_perm _ ne).length_eq.symm
    refine ss_set S 4 (d := .lst ((rngS sfD p a (i + 1)).1.map triD)) (ev_callB3 Se 4 3 (ok_ringb35 M) (by decide) (ev_var Se 0) (ev_var Se 4) rfl ⟨p, (rngS sfD p a i).1, (rngS sfD p a i).2, rfl, rfl, hp, fun t ht => ?P, by omega, by omega, rfl⟩) ?_
    case P =>
      obtain ⟨s, e, ss, _⟩ := I.r1 t ht
      exact ⟨s, e, ss.mono (by omega)⟩
    have dn : ((rngS sfD p a i).2 ++ (rngS sfD p a (i + 1)).1).Nodup := I'.dn
    have l2 : ((rngS sfD p a i).2.length : Int) * (p - 1) = (p - 1) + (p + 1) * (p ^ i - 1) := (ri i (by omega)).2.2
    have lb : (rngS sfD p a i).2.length < 400000 := by
      have z : ((rngS sfD p a i).2.length : Int) * 1 ≤ ((rngS sfD p a i).2.length : Int) * (p - 1) := Int.mul_le_mul_of_nonneg_left (by omega) (by omega)
      have z2 : (p + 1) * (p ^ i - 1) = (p + 1) * p ^ i - (p + 1) := by rw [Int.mul_sub, Int.mul_one]
      have l64 : (limS : Int) ≤ 100000 := by decide
      omega
    have lr : (rngS sfD p a (i + 1)).1.length < 400000 := by
      have l64 : (limS : Int) ≤ 100000 := by decide
      omega
    refine ss_for S (it_list (ds := (rngS sfD p a (i + 1)).1.map triD) (ev_var Se 4)) (fun j c => ∃ s6 : Slot, c = [.val (.int p), .val (stD a), .val (.int r), .thg (DctT ((rngS sfD p a i).2 ++ (rngS sfD p a (i + 1)).1.take j)), .val (.lst ((rngS sfD p a (i + 1)).1.map triD)), .val (.int (0 + (i : Int) * 1)), s6]) ⟨s6, by rw [List.take_zero, List.append_nil]; rfl⟩ ?_ ?_
    · rintro j d _ hd ⟨s6, rfl⟩
      rw [List.getElem?_map] at hd
      cases hx : (rngS sfD p a (i + 1)).1[j]? with
      | none => rw [hx] at hd; cases hd
      | some u =>
        rw [hx] at hd
        cases hd
        refine ⟨_, tg_name S 6, ?_⟩
        have hj := (List.getElem?_eq_some_iff.mp hx).1
        refine ss_tput S 3 (ks := (rngS sfD p a i).2 ++ (rngS sfD p a (i + 1)).1.take j) (t := u) rfl (ev_var Se 6) (nd_take2 dn hx) (by rw [List.length_append, List.length_take]; omega) (ss_nil ⟨.val (triD u), ?_⟩)
        show [_, _, _, Slot.thg (DctT (((rngS sfD p a i).2 ++ (rngS sfD p a (i + 1)).1.take j) ++ [u])), _, _, _] = _
        rw [List.take_succ, hx, List.append_assoc]
        rfl
    · rintro _ ⟨s6, rfl⟩
      rw [List.length_map, List.take_length]
      exact ss_nil ⟨_, _, rfl⟩
  · rintro _ ⟨s5, s6, rfl⟩
    rw [rangeD_length]
    exact ss_ret (ev_ow (ow_listDct Se 2 3 rfl M.b_list)) rfl
theorem ok_within35 {T : Tx} (M : Mo T) : FnD T 7 "within" R_withD := (okx_within35 M).toD fun ds d h => by
  obtain ⟨p, K, r, a, rfl, hp, sa, hK, r0, r7, hov, hlim, rfl⟩ := h; exact ⟨p, K, r, a, rfl, hp, sa, hK, r0, r7, .inr ⟨hov, hlim, rfl⟩⟩
abbrev s_fcell : Stmt := top 34
theorem sc_fcell : ScB ["_law_script", "_law_k", "_law_cell_here"] ["_law_script", "_law_k"] ["len", "abs"] (defScope s_fcell) := ⟨⟨rfl, rfl, rfl, by decide +kernel, rfl, by decide +kernel, by decide +kernel⟩, by decide +kernel, by decide +kernel⟩
theorem ok_fcell {T : Tx} (M : Mo T) : FnD T 1 "_law_cell" R_fcell := by
  refine fn_D M.F_fcell sc_fcell (fun f fd F => F.binds fun _ _ _ _ _ _ us hl => match us, hl with | [_, _], _ => rfl) (by rintro _ _ ⟨a, b, rfl, _, _, _, rfl⟩; rfl) fun Y S Z ds d h => ?_
  have Se := S.toSe
  obtain ⟨ns, k, rfl, h63, h0, h1, rfl⟩ := h
  refine ss_set S 2 ev_int ?_
  have key : ∀ x : Int, SsD Y (((defBody s_fcell).drop 2)) [.val (.lst (ns.map D.int)), .val (.int k), .val (.int x)] (Ret (.int (fmix x k))) := by
    intro x
    refine ss_set S 2 (ev_add (ev_add (ev_add (ev_modP (ev_var Se 2) ev_int (by decide)) (ev_mul (ev_mul ev_int (ev_var Se 1) (.of_left (intBits_le_64 (by decide) (by decide)))) (ev_var Se 1) (.of_right (intBits_le_64 (by omega) (by omega))))) (ev_mul ev_int (ev_var Se 1) (.of_left (intBits_le_64 (by decide) (by decide))))) ev_int) ?_
    refine ss_set S 2 (ev_modP (ev_mul (ev_var Se 2) ev_int (.of_right (intBits_le_64 (by decide) (by decide)))) ev_int (by decide)) ?_
    exact ss_ret (ev_modP (ev_mul (ev_var Se 2) ev_int (.of_right (intBits_le_64 (by decide) (by decide)))) ev_int (by decide)) rfl
  unfold fcell
  refine ss_if (te_lt (ev_var Se 1) (ev_len Se 0 (ar_cons (ev_var Se 0) ar_nil) rfl M.b_len)) (fun h => ?_) (fun h => ?_)
  · have h' : k < (ns.length : Int) := by simpa using h
    rw [if_pos h']
    refine ss_set S 2 (ev_ixL (ev_var Se 0) (ev_var Se 1) (cell_at h0 h')) ?_
    refine ss_if (te_and (te_gt (ev_var Se 1) ev_int) fun _ => te_and1 (te_eqI (ev_modP (ev_ixL (ev_var Se 0) ev_int (cell_at (by decide) (by omega))) ev_int (by decide)) ev_int)).pt (fun h2 => ?_) (fun h2 => ss_nil (ss_nil ?_))
    · have h3 : 0 < k ∧ ns.getD 0 0 % 2 = 1 := by simpa using h2
      rw [if_pos h3]
      exact ss_ret (ev_abs Se 1 (ar_cons (ev_var Se 2) ar_nil) M.b_abs) rfl
    · have h3 : ¬ (0 < k ∧ ns.getD 0 0 % 2 = 1) := by
        intro z
        simp [z.1] at h2
        exact h2 (by simpa using z.2)
      rw [if_neg h3]
      exact key _
  · have h' : ¬ k < (ns.length : Int) := by simpa using h
    rw [if_neg h']
    exact ss_nil (key 0)
abbrev s_flow : Stmt := top 35
theorem sc_flow : ScB ["_law_top", "_law_bottom", "_law_one", "_law_other"] ["_law_top", "_law_bottom"] ["abs"] (defScope s_flow) := ⟨⟨rfl, rfl, rfl, by decide +kernel, rfl, by decide +kernel, by decide +kernel⟩, by decide +kernel, by decide +kernel⟩
theorem ok_flow {T : Tx} (M : Mo T) : FnD T 1 "_law_low" R_flow := by
  refine fn_D M.F_flow sc_flow (fun f fd F => F.binds fun _ _ _ _ _ _ us hl => match us, hl with | [_, _], _ => rfl) (by rintro _ _ ⟨a, b, rfl, _, _, rfl⟩; rfl) fun Y S Z ds d h => ?_
  have Se := S.toSe
  obtain ⟨t, b, rfl, hb0, bb, rfl⟩ := h
  have hb : b ≠ 0 := by omega
  have hx : Y.X.env.scope.names.lookup ("_law_one" : Str) = some NameKind.local := by rw [Z.sc]; decide +kernel
  have hy : Y.X.env.scope.names.lookup ("_law_other" : Str) = some NameKind.local := by rw [Z.sc]; decide +kernel
  refine ss_set S 2 (ev_abs Se 0 (ar_cons (ev_var Se 0) ar_nil) M.b_abs) ?_
  refine ss_set S 3 (ev_var Se 1) ?_
  refine ss_while S (fun c => ∃ x y : Int, c = [.val (.int t), .val (.int b), .val (.int x), .val (.int y)] ∧ 0 ≤ x ∧ 0 ≤ y ∧ Int.gcd x y = Int.gcd t b) (fun c => match c with | [_, _, _, .val (.int y)] => y.natAbs | _ => 0) ⟨_, _, rfl, by omega, by omega, by simp [Int.gcd]⟩ ?_
  rintro _ ⟨x, y, rfl, hx0, hy0, hg⟩
  refine ⟨_, te_gt (ev_var Se 3) ev_int, fun h => ?_, fun h => ?_⟩
  · have h1 : 0 < y := by simpa using h
    have h0 : y ≠ 0 := by omega
    refine ss_par S 2 3 (ar_cons (ev_var Se 3) (ar_cons (ev_mod (ev_var Se 2) (ev_var Se 3) h0) ar_nil)) hx hy (swap_at Z.sc fun _ => rfl) ?_
    refine ss_nil ⟨⟨y, x.fmod y, rfl, hy0, Int.fmod_nonneg_of_pos x (by omega), ?_⟩, ?_⟩
    · rw [gcd_step]; exact hg
    · exact fmod_small x h0
  · have h1 : ¬ 0 < y := by simpa using h
    have h0 : y = 0 := by omega
    subst h0
    have hx1 : x = (Int.gcd t b : Int) := by rw [Int.gcd_zero_right] at hg; omega
    subst hx1
    have q := low_bd (t := t) hb bb
    have l := low_num t hb
    rw [if_neg (by omega)] at q l
    refine ss_ret (ev_tup (ar_cons (ev_fdiv (ev_var Se 0) (ev_var Se 2) q.1 q.2) (ar_cons (ev_fdiv (ev_var Se 1) (ev_var Se 2) q.1 q.2) ar_nil))) ?_
    show D.tup _ = D.tup _
    rw [l.1, l.2]
abbrev s_fpw : Stmt := top 36
theorem sc_fpw : ScB ["_law_p", "_law_n", "_law_found", "_law_turn"] ["_law_p", "_law_n"] ["range"] (defScope s_fpw) := ⟨⟨rfl, rfl, rfl, by decide +kernel, rfl, by decide +kernel, by decide +kernel⟩, by decide +kernel, by decide +kernel⟩
theorem ok_fpw {T : Tx} (M : Mo T) : FnD T 1 "_law_power" R_fpw := by
  refine fn_D M.F_fpw sc_fpw (fun f fd F => F.binds fun _ _ _ _ _ _ us hl => match us, hl with | [_, _], _ => rfl) (by rintro _ _ ⟨a, b, rfl, _, _, _, rfl⟩; rfl) fun Y S Z ds d h => ?_
  have Se := S.toSe
  obtain ⟨p, n, rfl, hp, n0, n1, rfl⟩ := h
  have p2 := hp.two_le
  refine ss_set S 2 ev_int ?_
  refine ss_for S (it_range1 Se 0 (ar_cons (ev_var Se 1) ar_nil) (by omega) (by omega) M.b_range) (fun m c => m ≤ 3000 ∧ ∃ s3 : Slot, c = [.val (.int p), .val (.int n), .val (.int (p ^ m)), s3]) ⟨by decide, _, by rw [Int.pow_zero]; rfl⟩ ?_ ?_
  · rintro m d _ hd ⟨_, s3, rfl⟩
    obtain ⟨hm', rfl⟩ := rangeD_of hd
    refine ⟨_, tg_name S 3, ?_⟩
    have hm2 : m < 3000 := by omega
    refine ss_set S 2 (ev_mul (ev_var Se 2) (ev_var Se 0) (mulOk (pw_bd hp m) (Bd.of (n := 4) 8 (by omega) (by omega) (by decide)) (by omega))) (ss_nil ⟨by omega, .val (.int (0 + (m : Int) * 1)), ?_⟩)
    rw [Int.pow_succ]
    rfl
  · rintro _ ⟨_, s3, rfl⟩
    rw [rangeD_length]
    exact ss_ret (ev_var Se 2) rfl
abbrev s_fspot : Stmt := top 41
theorem sc_fspot : ScB ["_law_p", "_law_cell_here", "_law_k", "_law_deep", "_law_number"] ["_law_p", "_law_cell_here"] ["max", "_law_low", "int", "_law_power"] (defScope s_fspot) := ⟨⟨rfl, rfl, rfl, by decide +kernel, rfl, by decide +kernel, by decide +kernel⟩, by decide +kernel, by decide +kernel⟩
theorem ok_fspot {T : Tx} (M : Mo T) : FnD T 2 "_law_spot" R_fspot := by
  refine fn_D M.F_fspot sc_fspot (fun f fd F => F.binds fun _ _ _ _ _ _ us hl => match us, hl with | [_, _], _ => rfl) (by rintro _ _ ⟨_, _, rfl, _, _, rfl⟩; rfl) fun Y S Z ds d h => ?_
  have Se := S.toSe
  obtain ⟨p, n, rfl, hp, n0, rfl⟩ := h
  have dv : ∀ {x y : Int}, x = y → x = y := fun h => h
  refine ss_set S 2 (ev_sub (ev_modP (ev_var Se 1) ev_int (by decide)) ev_int) ?_
  refine ss_set S 1 (ev_fdivP (ev_var Se 1) ev_int (by decide) (by decide +kernel)) ?_
  refine ss_ifI S 2 (te_eqI (ev_modP (ev_var Se 1) ev_int (by decide)) ev_int) (fun _ => ev_sub (ev_modP (ev_fdivP (ev_var Se 1) ev_int (by decide) (by decide +kernel)) ev_int (by decide)) ev_int) ?_
  have e : (if decide (n / 25 % 8 = 1) = true then n / 25 / 8 % 401 - 200 else n % 25 - 12) = fK n := by unfold fK; simp
  rw [e]
  refine ss_set S 1 (ev_fdivP (ev_var Se 1) ev_int (by decide) (by decide +kernel)) ?_
  refine ss_set S 3 (ev_add (ev_max Se 0 (ar_cons ev_int (ar_cons (ev_neg (ev_var Se 2)) ar_nil)) M.b_max) (ev_modP (ev_var Se 1) ev_int (by decide))) ?_
  refine ss_set S 4 (ev_fdivP (ev_var Se 1) ev_int (by decide) (by decide +kernel)) ?_
  have hN : 0 ≤ n / 25 / 3208 / 7 := by omega
  have eN : fNum n = if n / 25 / 3208 / 7 < 2 ^ 61 then (if n / 25 / 3208 / 7 % 5 = 1 then n / 25 / 3208 / 7 / 5 % 9 else (n / 25 / 3208 / 7 + 1) * 1442695040888963407 ^ 12 + n / 25 / 3208 / 7) else n / 25 / 3208 / 7 := rfl
  have b := fDeep_bd n
  show SsD Y _ [.val (.int p), .val (.int (n / 25 / 3208)), .val (.int (fK n)), .val (.int (fDeep n)), .val (.int (n / 25 / 3208 / 7))] _
  unfold fQ
  generalize fDeep n = ee at *
  generalize fK n = k at *
  generalize n / 25 / 3208 / 7 = N at *
  generalize fNum n = u at *
  refine ss_ifI S 4 (b := N) (a := if N % 5 = 1 then N / 5 % 9 else (N + 1) * 1442695040888963407 ^ 12 + N) (te_lt (ev_var Se 4) (ev_pow ev_int ev_int ⟨by decide, by decide, by decide⟩)) (fun h => ?_) ?_
  · have h61 : N < 2 ^ 61 := of_decide_eq_true h
    have hat : atI [D.int ((N + 1) * 1442695040888963407 ^ 12 + N), D.int (N / 5 % 9)] (if decide (N % 5 = 1) = true then (1 : Int) else 0) = some (.int (if N % 5 = 1 then N / 5 % 9 else (N + 1) * 1442695040888963407 ^ 12 + N)) := by
      by_cases h5 : N % 5 = 1
      · rw [if_pos h5, if_pos (by simpa using h5)]; rfl
      · rw [if_neg h5, if_neg (by simpa using h5)]; rfl
    refine ev_ixL (ds := [D.int ((N + 1) * 1442695040888963407 ^ 12 + N), D.int (N / 5 % 9)]) ?ls (ev_intOf Se 2 (ar_cons (ev_eqI (ev_modP (ev_var Se 4) ev_int (by decide)) ev_int) ar_nil) M.b_int) hat
    case ls => exact ev_lst (ar_cons (ev_add (ev_mul (ev_add (ev_var Se 4) ev_int) (ev_pow ev_int ev_int ⟨by decide, by decide, by decide⟩) (.of_left (intBits_le_64 (by omega) (by omega)))) (ev_var Se 4)) (ar_cons (ev_modP (ev_fdivP (ev_var Se 4) ev_int (by decide) (by decide +kernel)) ev_int (by decide)) ar_nil))
  have e2 : (if decide (N < 2 ^ (61 : Int).toNat) = true then (if N % 5 = 1 then N / 5 % 9 else (N + 1) * 1442695040888963407 ^ 12 + N) else N) = u := by
    rw [eN]
    simp
  rw [e2]
  have pb := pw_bd hp ee.toNat
  exact ss_ret (ev_tup (ar_cons (ev_var Se 2) (ar_cons (ev_call Se 1 (ok_flow M) (by decide) (ar_cons (ev_modP (ev_var Se 4) (ev_call Se 3 (ok_fpw M) (by decide) (ar_cons (ev_var Se 0) (ar_cons (ev_add (ev_var Se 2) (ev_var Se 3)) ar_nil)) ⟨p, k + ee, rfl, hp, by omega, by omega, rfl⟩) (pw_pos hp _)) (ar_cons (ev_call Se 3 (ok_fpw M) (by decide) (ar_cons (ev_var Se 0) (ar_cons (ev_var Se 3) ar_nil)) ⟨p, ee, rfl, hp, by omega, by omega, rfl⟩) ar_nil)) ⟨_, _, rfl, pw_pos hp _, pb.mono (by omega), rfl⟩) ar_nil))) rfl
abbrev s_another35 : Stmt := top 43
theorem sc_another35 : ScB ["_law_error"] ["_law_error"] ["isinstance", "NoLine", "NoRow", "NothingDone", "TooFar", "NoPrime", "NoFraction", "NoText", "NoSpot", "NoTable", "ValueError"] (defScope s_another35) := ⟨⟨rfl, rfl, rfl, by decide +kernel, rfl, by decide +kernel, by decide +kernel⟩, by decide +kernel, by decide +kernel⟩
theorem ok_another35 {T : Tx} (M : Mo T) : FnH T 1 "_law_another" R_another35 := by
  refine fn_H M.F_another35 sc_another35 (fun f fd F => F.binds fun _ _ _ _ _ _ us hl => match us, hl with | [_], _ => rfl) rfl fun Y S C y d hC h => ?_
  obtain ⟨c_NoPrime, h_NoPrime⟩ := M.g_NoPrime
  obtain ⟨c_NoFraction, h_NoFraction⟩ := M.g_NoFraction
  obtain ⟨c_NoText, h_NoText⟩ := M.g_NoText
  obtain ⟨c_NoSpot, h_NoSpot⟩ := M.g_NoSpot
  obtain ⟨c_NoTable, h_NoTable⟩ := M.g_NoTable
  obtain ⟨c_NoLine, h_NoLine⟩ := M.g_NoLine
  obtain ⟨c_NoRow, h_NoRow⟩ := M.g_NoRow
  obtain ⟨c_NothingDone, h_NothingDone⟩ := M.g_NothingDone
  obtain ⟨c_TooFar, h_TooFar⟩ := M.g_TooFar
  obtain ⟨rfl, rfl⟩ := h
  refine ss_if (te_or (te_val (ev_isXT S.toSn 0 0 rfl (M.e_TooMany C hC) (gla_cons S.toSn 5 h_NoPrime (gla_cons S.toSn 6 h_NoFraction (gla_cons S.toSn 7 h_NoText (gla_cons S.toSn 8 h_NoSpot (gla_cons S.toSn 9 h_NoTable gla_nil))))) (Nat.le_of_ble_eq_true rfl) (any_f (M.i_TooMany_NoPrime C _ hC h_NoPrime) (any_f (M.i_TooMany_NoFraction C _ hC h_NoFraction) (any_f (M.i_TooMany_NoText C _ hC h_NoText) (any_f (M.i_TooMany_NoSpot C _ hC h_NoSpot) (any_f (M.i_TooMany_NoTable C _ hC h_NoTable) any_nil))))) M.b_isinstance)) fun _ => te_or1 (te_not (te_val (ev_isXB S.toSn 0 0 10 rfl (M.e_TooMany C hC) M.b_ValueError bt_ValueError (M.v_TooMany C hC) M.b_isinstance)))).pt (fun h => absurd h (by simp)) (fun _ => ss_nil ?_)
  exact ss_ret (ev_isXT S.toSn 0 0 rfl (M.e_TooMany C hC) (gla_cons S.toSn 1 h_NoLine (gla_cons S.toSn 2 h_NoRow (gla_cons S.toSn 3 h_NothingDone (gla_cons S.toSn 4 h_TooFar gla_nil)))) (Nat.le_of_ble_eq_true rfl) (any_f (M.i_TooMany_NoLine C _ hC h_NoLine) (any_f (M.i_TooMany_NoRow C _ hC h_NoRow) (any_f (M.i_TooMany_NothingDone C _ hC h_NothingDone) (any_f (M.i_TooMany_TooFar C _ hC h_TooFar) any_nil)))) M.b_isinstance) rfl
abbrev s_refused35 : Stmt := top 44
theorem sc_refused35 : ScB ["_law_p", "_law_spot_here", "_law_r", "_law_refused_here", "_law_error"] ["_law_p", "_law_spot_here", "_law_r"] ["TreeError", "within", "isinstance", "TooMany", "_law_another"] (defScope s_refused35) := ⟨⟨rfl, rfl, rfl, by decide +kernel, rfl, by decide +kernel, by decide +kernel⟩, by decide +kernel, by decide +kernel⟩
theorem ok_refused35 {T : Tx} (M : Mo T) : FnD T 8 "_law_refused" R_ref35 := by
  refine fn_D M.F_refused35 sc_refused35 (fun f fd F => F.binds fun _ _ _ _ _ _ us hl => match us, hl with | [_, _, _], _ => rfl) (by rintro _ _ ⟨_, _, _, _, rfl, _⟩; rfl) fun Y S Z ds d h => ?_
  have Se := S.toSe
  obtain ⟨p, K, r, a, rfl, hp, sa, hK, r0, r7, hlim, rfl⟩ := h
  refine ss_set S 3 ev_bl ?_
  obtain ⟨Ct, hCt⟩ := M.g_TreeError
  cases ho : ovM p r.toNat with
  | true =>
    refine ss_try S Z 4 0 (fun y => y = "TooMany") (by decide +kernel) hCt (fun y C hy hC => by subst hy; exact M.m_TooMany_TreeError C Ct hC hCt) (fun Y' S' hz => ?_) (fun Yh Sh y C hy hC => ?_)
    · exact ss_exprX (ev_callX S'.toSe 1 (okx_within35 M) (by decide) (ar_cons (ev_var S'.toSe 0) (ar_cons (ev_var S'.toSe 1) (ar_cons (ev_var S'.toSe 2) ar_nil))) ⟨p, K, r, a, rfl, hp, sa, hK, r0, r7, .inl ⟨ho, rfl⟩⟩ (hz _ rfl))
    · subst hy
      obtain ⟨c_TooMany, h_TooMany⟩ := M.g_TooMany
      refine ss_set0 Sh 3 (ev_and (ev_isX Sh.toSn 4 2 3 rfl (M.e_TooMany C hC) h_TooMany (M.i_TooMany_TooMany C _ hC h_TooMany) M.b_isinstance) fun _ => ev_one (ev_not (ev_callH Sh 4 4 (ok_another35 M) (by decide) rfl hC ⟨rfl, rfl⟩))) (ss_nil ?_)
      exact ss_ret (ev_var Se 3) rfl
  | false =>
    refine ss_try S Z 4 0 (fun _ => False) (by decide +kernel) hCt (fun y C hy => hy.elim) (fun Y' S' hz => ?_) (fun Yh Sh y C hy hC => hy.elim)
    exact ss_expr (ev_call S'.toSe 1 (ok_within35 M) (by decide) (ar_cons (ev_var S'.toSe 0) (ar_cons (ev_var S'.toSe 1) (ar_cons (ev_var S'.toSe 2) ar_nil))) ⟨p, K, r, a, rfl, hp, sa, hK, r0, r7, ho, hlim ho, rfl⟩) (ss_nil (ss_ret (ev_var Se 3) rfl))
abbrev s_law : Stmt := top 45
theorem sc_law : ScB ["_law_script", "_law_p", "_law_k", "_law_cell_here", "_law_spot_here", "_law_found", "_law_least"] ["_law_script"] ["range", "max", "_law_cell", "_law_spot", "min", "_law_refused", "within", "len", "abs", "sorted", "ties", "set"] (defScope s_law) := ⟨⟨rfl, rfl, rfl, by decide +kernel, rfl, by decide +kernel, by decide +kernel⟩, by decide +kernel, by decide +kernel⟩
theorem okk_law {T : Tx} (M : Mo T) {f : Addr} {fd : FuncData} (F : Fun T.K "law" "law" s_law f fd) : FnOk T.prog T.w T.K T.mg T.base CX0 9 f fd ["_law_script"] (spD T.K R_law) := by
  refine fn_Dk F sc_law (by rintro _ _ ⟨_, rfl, _, rfl⟩; rfl) fun Y S Z ds d h => ?_
  have Se := S.toSe
  obtain ⟨ns, rfl, h63, rfl⟩ := h
  obtain ⟨p, hp, hpa⟩ := prime_at (i := fcell ns 0 % 4) (by omega) (by omega)
  refine ss_set S 1 (ev_ixT (ev_tup (ar_cons ev_int (ar_cons ev_int (ar_cons ev_int (ar_cons ev_int ar_nil))))) (ev_modP (ev_call Se 2 (ok_fcell M) (by decide) (ar_cons (ev_var Se 0) (ar_cons ev_int ar_nil)) ⟨ns, 0, rfl, h63, by omega, by omega, rfl⟩) ev_int (by decide)) hpa) ?_

  have p2 := hp.two_le
  refine ss_for S (it_range2 Se 0 (ar_cons ev_int (ar_cons (ev_max Se 1 (ar_cons ev_int (ar_cons (ev_min Se 4 (ar_cons (ev_len Se 7 (ar_cons (ev_var Se 0) ar_nil) rfl M.b_len) (ar_cons ev_int ar_nil)) M.b_min) ar_nil)) M.b_max) ar_nil)) ⟨by decide, by decide, by omega, by omega⟩ M.b_range)
    (fun _ c => ∃ s2 s3 s4 s5 s6 : Slot, c = [.val (.lst (ns.map D.int)), .val (.int p), s2, s3, s4, s5, s6]) ⟨_, _, _, _, _, rfl⟩ ?_ ?_
  · rintro m d _ hd ⟨s2, s3, s4, s5, s6, rfl⟩
    obtain ⟨hm', rfl⟩ := rangeD_of hd
    refine ⟨_, tg_name S 2, ?_⟩
    have hk : 0 ≤ (1 : Int) + (m : Int) * 1 ∧ (1 : Int) + (m : Int) * 1 < 70 := by omega
    generalize (1 : Int) + (m : Int) * 1 = k at hk
    refine ss_set S 3 (d := .int (fcell ns k)) (ev_call Se 2 (ok_fcell M) (by decide) (ar_cons (ev_var Se 0) (ar_cons (ev_var Se 2) ar_nil)) ⟨ns, k, rfl, h63, by omega, by omega, rfl⟩) ?_
    have cn := fcell_nn ns k
    generalize fcell ns k = cc at cn ⊢
    refine ss_set S 4 (d := stD (fK (cc / 64), fQ p (cc / 64))) (ev_call Se 3 (ok_fspot M) (by decide) (ar_cons (ev_var Se 1) (ar_cons (ev_fdivP (ev_var Se 3) ev_int (by decide) (by decide +kernel)) ar_nil)) ⟨p, cc / 64, rfl, hp, by omega, rfl⟩) ?_
    have sa := fQ_is hp (cc / 64)
    generalize hb0 : (fK (cc / 64), fQ p (cc / 64)) = a
    have sa : Spt p 200 a.1 a.2 := by rw [← hb0]; exact sa
    clear hb0
    refine ss_ifJ (fun c => ∃ s5 : Slot, c = [.val (.lst (ns.map D.int)), .val (.int p), .val (.int k), .val (.int cc), .val (stD a), s5, s6]) (v := decide (p = 2) && (decide (k = 1) && decide (((a.1.natAbs : Nat) : Int) < 30))) (te_and (te_eqI (ev_var Se 1) ev_int) fun _ => te_and (te_eqI (ev_var Se 2) ev_int) fun _ => te_and1 (te_lt (ev_abs Se 8 (ar_cons (ev_ixT (ev_var Se 4) ev_int rfl) ar_nil) M.b_abs) ev_int)).pt (fun h => ?A) (fun _ => ⟨_, rfl⟩) ?_
    case A =>
      have hp2 : p = 2 := by
        rw [Bool.and_eq_true] at h
        exact of_decide_eq_true h.1
      subst hp2
      have ov : ovM 2 (7 : Int).toNat = false := by decide
      have lim7 : ∀ n, n < (7 : Int).toNat → ((2 : Int) + 1) * 2 ^ n < limS := by decide
      refine ss_if (te_to36 (b' := false) (te_val (ev_call Se 5 (ok_refused35 M) (by decide) (ar_cons (ev_var Se 1) (ar_cons (ev_var Se 4) (ar_cons ev_int ar_nil))) ⟨2, 200, 7, a, rfl, hp, sa, by decide, by decide, by decide, fun _ => lim7, rfl⟩)) ov) (fun h => nomatch h) (fun _ => ss_nil ?_)
      refine ss_set S 5 (d := .lst (((rngS sfD 2 a (7 : Int).toNat).2).map triD)) (ev_call Se 6 (ok_within35 M) (by decide) (ar_cons (ev_var Se 1) (ar_cons (ev_var Se 4) (ar_cons ev_int ar_nil))) ⟨2, 200, 7, a, rfl, hp, sa, by decide, by decide, by decide, ov, lim7, rfl⟩) ?_
      obtain ⟨I, _, c382⟩ := rngS_ri (sf := sfD) sfD_perm hp sa (7 : Int).toNat (by decide)
      have l382 : (rngS sfD 2 a (7 : Int).toNat).2.length = 382 := by
        have e : (2 : Int) ^ (7 : Int).toNat = 128 := by decide
        rw [e] at c382
        omega
      refine ss_if (te_or (te_neI (i := ((382 : Nat) : Int)) (j := 382) (ev_len Se 7 (n := 382) (ar_cons (ev_var Se 5) ar_nil) ?L M.b_len) ev_int) fun _ => te_or1 (te_neI (i := ((382 : Nat) : Int)) (j := 382) ?M ev_int)).pt (fun h => by cases h) (fun _ => ss_nil (ss_nil ⟨_, rfl⟩))
      case L =>
        show some _ = some _
        rw [List.length_map, l382]
      case M =>
        have e : D.int ((382 : Nat) : Int) = .int ((((rngS sfD 2 a (7 : Int).toNat).2.length) : Nat) : Int) := by rw [l382]
        rw [e]
        exact ev_lenset Se 7 11 (l := (rngS sfD 2 a (7 : Int).toNat).2) (ev_var Se 5) I.dn (by rw [l382]; decide) M.b_len M.b_set
    rintro _ ⟨s5, rfl⟩
    refine ss_ifJ (fun c => ∃ s5 s6 : Slot, c = [.val (.lst (ns.map D.int)), .val (.int p), .val (.int k), .val (.int cc), .val (stD a), s5, s6]) (te_gt (ev_var Se 1) ev_int) (fun h => ?A) (fun _ => ⟨_, _, rfl⟩) ?_
    case A =>
      obtain ⟨v, hv, v3, v5, hov⟩ := rdict35 hp (of_decide_eq_true h)
      refine ss_set S 6 (d := .int v) ?DL ?_
      case DL => exact ev_dlit3 Se pe_int pe_int pe_int pe_int pe_int pe_int (ev_var Se 1) hv (by intro _ _; rfl)
      have q0 := Int.emod_nonneg cc (show 8 - v ≠ 0 by omega)
      have q1 := Int.emod_lt_of_pos cc (show 0 < 8 - v by omega)
      have o1 := hov v (by omega) (by omega)
      have o2 := hov (v + cc % (8 - v)) (by omega) (by omega)
      refine ss_if (te_or (te_not (te_val (ev_call Se 5 (ok_refused35 M) (by decide) (ar_cons (ev_var Se 1) (ar_cons (ev_var Se 4) (ar_cons (ev_var Se 6) ar_nil))) ⟨p, 200, v, a, rfl, hp, sa, by omega, by omega, by omega, (fun z => by rw [o1] at z; cases z), rfl⟩))) fun _ => te_or1 (te_not (te_val (ev_call Se 5 (ok_refused35 M) (by decide) (ar_cons (ev_var Se 1) (ar_cons (ev_var Se 4) (ar_cons (ev_add (ev_var Se 6) (ev_modP (ev_var Se 3) (ev_sub ev_int (ev_var Se 6)) (by omega))) ar_nil))) ⟨p, 200, v + cc % (8 - v), a, rfl, hp, sa, by omega, by omega, by omega, (fun z => by rw [o2] at z; cases z), rfl⟩)))).pt (fun h => ?_) (fun _ => ss_nil (ss_nil ⟨_, _, rfl⟩))
      rw [o1, o2] at h
      cases h
    rintro _ ⟨s5, s6, rfl⟩
    have p7 : p ≤ 7 := by rcases hp with rfl | rfl | rfl | rfl <;> decide
    have e1 := one35 hp (by decide) sa
    have l1 := tieS_len hp a.1 a.2
    have ov1 : ovM p (1 : Int).toNat = false := by rcases hp with rfl | rfl | rfl | rfl <;> decide
    have lim1 : ∀ n, n < (1 : Int).toNat → (p + 1) * p ^ n < limS := by rcases hp with rfl | rfl | rfl | rfl <;> decide
    refine ss_if (te_or (te_neD Se (d1 := .lst ((triS (tieS p a.1 a.2)).map triD)) (d2 := .lst ((tieS p a.1 a.2).map triD)) (ev_ow (ow_sortT Se 9 (l := tieS p a.1 a.2) (ar_cons ?X ar_nil) (by omega) (by omega) M.b_sorted)) (ev_ow (ow_call Se 10 (ok_ties M) (by decide) (ar_cons (ev_var Se 1) (ar_cons (ev_var Se 4) ar_nil)) ⟨p, a.1, a.2, rfl, hp, sa.mono (by decide), rfl⟩)) (sh_tris _) (sh_tris _)) fun _ => te_or1 (te_neD Se (d1 := .lst ([trS a].map triD)) (d2 := .lst ([trS a].map triD)) ?W0 (ev_lst (ar_cons (ev_var Se 4) ar_nil)) (sh_tris _) (sh_tris _))).pt (fun h => ?_) (fun _ => ss_nil (ss_nil ⟨_, _, _, _, _, rfl⟩))
    case X =>
      have e2 : (((rngS sfD p a (1 : Int).toNat).2).map triD).drop 1 = (tieS p a.1 a.2).map triD := by
        rw [← e1]
        rfl
      refine ev_lto (ev_slFrom (j := 1) ?W1 ev_int) e2
      case W1 => exact (ev_call Se 6 (ok_within35 M) (by decide) (ar_cons (ev_var Se 1) (ar_cons (ev_var Se 4) (ar_cons ev_int ar_nil))) ⟨p, 200, 1, a, rfl, hp, sa, by decide, by decide, by decide, ov1, lim1, rfl⟩)
    case W0 => exact (ev_call Se 6 (ok_within35 M) (by decide) (ar_cons (ev_var Se 1) (ar_cons (ev_var Se 4) (ar_cons ev_int ar_nil))) ⟨p, 200, 0, a, rfl, hp, sa, by decide, by decide, by decide, rfl, (fun n hn => absurd hn (Nat.not_lt_zero n)), rfl⟩)
    rw [again35 hp a, eq_tris, eq_tris] at h
    cases h
  · rintro _ ⟨s2, s3, s4, s5, s6, rfl⟩
    exact ss_ret ev_bl rfl
theorem all_mk {l : PySem.W.OpenLaw} {w : World} {K : PySem.W.Frag} {h : Heap} {mg : Str → Option Value} {fa f0 f1 f2 f3 f4 f5 f6 f7 f8 f9 f10 f11 f12 f13 f14 f15 f16 f17 f18 f19 f20 f21 c_TreeError c_NoPrime c_NoFraction c_NoText c_NoSpot c_NoTable c_TooMany c_NoLine c_NoRow c_NothingDone c_TooFar c_NOUGHT : Addr} (X : K.In h) (G : h.Ns mainGlobals mg) (hfa : mg "law" = some (.ref fa))
    {od0 an0 od1 an1 od2 an2 od3 an3 od4 an4 od5 an5 od6 an6 od7 an7 od8 an8 od9 an9 od10 an10 od11 an11 od12 an12 od13 an13 od14 an14 od15 an15 od16 an16 od17 an17 od18 an18 od19 an19 od20 an20 od21 an21 : Option Addr} {sl0 sl1 sl2 sl3 sl4 sl5 sl6 sl7 sl8 sl9 sl10 sl11 sl12 sl13 sl14 sl15 sl16 sl17 sl18 sl19 sl20 sl21 : Array (Option Value)} {oc0 kV0 dc0 pm0 cd0 ct0 oc1 kV1 dc1 pm1 cd1 ct1 oc2 kV2 dc2 pm2 cd2 ct2 oc3 kV3 dc3 pm3 cd3 ct3 oc4 kV4 dc4 pm4 cd4 ct4 oc5 toc5 kV5 dc5 pm5 cd5 ct5 oc6 kV6 dc6 pm6 cd6 ct6 oc7 kV7 dc7 pm7 cd7 ct7 oc8 kV8 dc8 pm8 cd8 ct8 oc9 kV9 dc9 pm9 cd9 ct9 oc10 kV10 dc10 pm10 cd10 ct10 oc11 kV11 dc11 pm11 cd11 ct11 oc12 kV12 dc12 pm12 cd12 ct12 oc13 kV13 dc13 pm13 cd13 ct13 oc14 kV14 dc14 pm14 cd14 ct14 oc15 kV15 dc15 pm15 cd15 ct15 oc16 kV16 dc16 pm16 cd16 ct16 oc17 kV17 dc17 pm17 cd17 ct17 oc18 kV18 dc18 pm18 cd18 ct18 oc19 kV19 dc19 pm19 cd19 ct19 oc20 kV20 dc20 pm20 cd20 ct20 oc21 kV21 dc21 pm21 cd21 ct21 : Value}
    {Td5 : Addr} {ttk5 : Tok} {tn5 : Nat} {tod5 : Option Addr} {tsl5 : Array (Option Value)}
    (a0 : PySem.W.nsIn K mainGlobals "shared" = some (some (.ref f0))) (l0 : K.lookup f0 = some ⟨oc0, od0, .func (PySem.W.fnOf "shared" "shared" (defArgs s_shared) (defBody s_shared) (defScope s_shared) .none kV0 dc0 pm0 an0 cd0 ct0), sl0⟩) (c0 : PySem.W.codeIn K cd0 "shared" = true) (k0 : PySem.W.keepIn K (.ref f0) = true)
    (a1 : PySem.W.nsIn K mainGlobals "power_of" = some (some (.ref f1))) (l1 : K.lookup f1 = some ⟨oc1, od1, .func (PySem.W.fnOf "power_of" "power_of" (defArgs s_power_of) (defBody s_power_of) (defScope s_power_of) .none kV1 dc1 pm1 an1 cd1 ct1), sl1⟩) (c1 : PySem.W.codeIn K cd1 "power_of" = true) (k1 : PySem.W.keepIn K (.ref f1) = true)
    (a2 : PySem.W.nsIn K mainGlobals "raised" = some (some (.ref f2))) (l2 : K.lookup f2 = some ⟨oc2, od2, .func (PySem.W.fnOf "raised" "raised" (defArgs s_raised) (defBody s_raised) (defScope s_raised) .none kV2 dc2 pm2 an2 cd2 ct2), sl2⟩) (c2 : PySem.W.codeIn K cd2 "raised" = true) (k2 : PySem.W.keepIn K (.ref f2) = true)
    (a3 : PySem.W.nsIn K mainGlobals "over_by" = some (some (.ref f3))) (l3 : K.lookup f3 = some ⟨oc3, od3, .func (PySem.W.fnOf "over_by" "over_by" (defArgs s_over_by) (defBody s_over_by) (defScope s_over_by) .none kV3 dc3 pm3 an3 cd3 ct3), sl3⟩) (c3 : PySem.W.codeIn K cd3 "over_by" = true) (k3 : PySem.W.keepIn K (.ref f3) = true)
    (a4 : PySem.W.nsIn K mainGlobals "over_by_prime" = some (some (.ref f4))) (l4 : K.lookup f4 = some ⟨oc4, od4, .func (PySem.W.fnOf "over_by_prime" "over_by_prime" (defArgs s_obp) (defBody s_obp) (defScope s_obp) .none kV4 dc4 pm4 an4 cd4 ct4), sl4⟩) (c4 : PySem.W.codeIn K cd4 "over_by_prime" = true) (k4 : PySem.W.keepIn K (.ref f4) = true)
    (a5 : PySem.W.nsIn K mainGlobals "fraction" = some (some (.ref f5))) (l5 : K.lookup f5 = some ⟨oc5, od5, .func (PySem.W.fnOf "fraction" "fraction" (defArgs s_fraction) (defBody s_fraction) (defScope s_fraction) (.ref Td5) kV5 dc5 pm5 an5 cd5 ct5), sl5⟩) (c5 : PySem.W.codeIn K cd5 "fraction" = true) (k5 : PySem.W.keepIn K (.ref f5) = true)
    (a6 : PySem.W.nsIn K mainGlobals "plus" = some (some (.ref f6))) (l6 : K.lookup f6 = some ⟨oc6, od6, .func (PySem.W.fnOf "plus" "plus" (defArgs s_plus) (defBody s_plus) (defScope s_plus) .none kV6 dc6 pm6 an6 cd6 ct6), sl6⟩) (c6 : PySem.W.codeIn K cd6 "plus" = true) (k6 : PySem.W.keepIn K (.ref f6) = true)
    (a7 : PySem.W.nsIn K mainGlobals "times" = some (some (.ref f7))) (l7 : K.lookup f7 = some ⟨oc7, od7, .func (PySem.W.fnOf "times" "times" (defArgs s_times) (defBody s_times) (defScope s_times) .none kV7 dc7 pm7 an7 cd7 ct7), sl7⟩) (c7 : PySem.W.codeIn K cd7 "times" = true) (k7 : PySem.W.keepIn K (.ref f7) = true)
    (a8 : PySem.W.nsIn K mainGlobals "prime_power" = some (some (.ref f8))) (l8 : K.lookup f8 = some ⟨oc8, od8, .func (PySem.W.fnOf "prime_power" "prime_power" (defArgs s_prime_power) (defBody s_prime_power) (defScope s_prime_power) .none kV8 dc8 pm8 an8 cd8 ct8), sl8⟩) (c8 : PySem.W.codeIn K cd8 "prime_power" = true) (k8 : PySem.W.keepIn K (.ref f8) = true)
    (a9 : PySem.W.nsIn K mainGlobals "rest_by" = some (some (.ref f9))) (l9 : K.lookup f9 = some ⟨oc9, od9, .func (PySem.W.fnOf "rest_by" "rest_by" (defArgs s_rest_byN) (defBody s_rest_byN) (defScope s_rest_byN) .none kV9 dc9 pm9 an9 cd9 ct9), sl9⟩) (c9 : PySem.W.codeIn K cd9 "rest_by" = true) (k9 : PySem.W.keepIn K (.ref f9) = true)
    (a10 : PySem.W.nsIn K mainGlobals "spot_above" = some (some (.ref f10))) (l10 : K.lookup f10 = some ⟨oc10, od10, .func (PySem.W.fnOf "spot_above" "spot_above" (defArgs s_above31) (defBody s_above31) (defScope s_above31) .none kV10 dc10 pm10 an10 cd10 ct10), sl10⟩) (c10 : PySem.W.codeIn K cd10 "spot_above" = true) (k10 : PySem.W.keepIn K (.ref f10) = true)
    (a11 : PySem.W.nsIn K mainGlobals "ties" = some (some (.ref f11))) (l11 : K.lookup f11 = some ⟨oc11, od11, .func (PySem.W.fnOf "ties" "ties" (defArgs s_ties) (defBody s_ties) (defScope s_ties) .none kV11 dc11 pm11 an11 cd11 ct11), sl11⟩) (c11 : PySem.W.codeIn K cd11 "ties" = true) (k11 : PySem.W.keepIn K (.ref f11) = true)
    (a12 : PySem.W.nsIn K mainGlobals "within" = some (some (.ref f12))) (l12 : K.lookup f12 = some ⟨oc12, od12, .func (PySem.W.fnOf "within" "within" (defArgs s_within35) (defBody s_within35) (defScope s_within35) .none kV12 dc12 pm12 an12 cd12 ct12), sl12⟩) (c12 : PySem.W.codeIn K cd12 "within" = true) (k12 : PySem.W.keepIn K (.ref f12) = true)
    (a13 : PySem.W.nsIn K mainGlobals "is_over_most" = some (some (.ref f13))) (l13 : K.lookup f13 = some ⟨oc13, od13, .func (PySem.W.fnOf "is_over_most" "is_over_most" (defArgs s_over36) (defBody s_over36) (defScope s_over36) .none kV13 dc13 pm13 an13 cd13 ct13), sl13⟩) (c13 : PySem.W.codeIn K cd13 "is_over_most" = true) (k13 : PySem.W.keepIn K (.ref f13) = true)
    (a14 : PySem.W.nsIn K mainGlobals "ring_behind" = some (some (.ref f14))) (l14 : K.lookup f14 = some ⟨oc14, od14, .func (PySem.W.fnOf "ring_behind" "ring_behind" (defArgs s_ringb35) (defBody s_ringb35) (defScope s_ringb35) .none kV14 dc14 pm14 an14 cd14 ct14), sl14⟩) (c14 : PySem.W.codeIn K cd14 "ring_behind" = true) (k14 : PySem.W.keepIn K (.ref f14) = true)
    (a15 : PySem.W.nsIn K mainGlobals "_law_cell" = some (some (.ref f15))) (l15 : K.lookup f15 = some ⟨oc15, od15, .func (PySem.W.fnOf "_law_cell" "_law_cell" (defArgs s_fcell) (defBody s_fcell) (defScope s_fcell) .none kV15 dc15 pm15 an15 cd15 ct15), sl15⟩) (c15 : PySem.W.codeIn K cd15 "_law_cell" = true) (k15 : PySem.W.keepIn K (.ref f15) = true)
    (a16 : PySem.W.nsIn K mainGlobals "_law_low" = some (some (.ref f16))) (l16 : K.lookup f16 = some ⟨oc16, od16, .func (PySem.W.fnOf "_law_low" "_law_low" (defArgs s_flow) (defBody s_flow) (defScope s_flow) .none kV16 dc16 pm16 an16 cd16 ct16), sl16⟩) (c16 : PySem.W.codeIn K cd16 "_law_low" = true) (k16 : PySem.W.keepIn K (.ref f16) = true)
    (a17 : PySem.W.nsIn K mainGlobals "_law_power" = some (some (.ref f17))) (l17 : K.lookup f17 = some ⟨oc17, od17, .func (PySem.W.fnOf "_law_power" "_law_power" (defArgs s_fpw) (defBody s_fpw) (defScope s_fpw) .none kV17 dc17 pm17 an17 cd17 ct17), sl17⟩) (c17 : PySem.W.codeIn K cd17 "_law_power" = true) (k17 : PySem.W.keepIn K (.ref f17) = true)
    (a18 : PySem.W.nsIn K mainGlobals "_law_spot" = some (some (.ref f18))) (l18 : K.lookup f18 = some ⟨oc18, od18, .func (PySem.W.fnOf "_law_spot" "_law_spot" (defArgs s_fspot) (defBody s_fspot) (defScope s_fspot) .none kV18 dc18 pm18 an18 cd18 ct18), sl18⟩) (c18 : PySem.W.codeIn K cd18 "_law_spot" = true) (k18 : PySem.W.keepIn K (.ref f18) = true)
    (a19 : PySem.W.nsIn K mainGlobals "_law_another" = some (some (.ref f19))) (l19 : K.lookup f19 = some ⟨oc19, od19, .func (PySem.W.fnOf "_law_another" "_law_another" (defArgs s_another35) (defBody s_another35) (defScope s_another35) .none kV19 dc19 pm19 an19 cd19 ct19), sl19⟩) (c19 : PySem.W.codeIn K cd19 "_law_another" = true) (k19 : PySem.W.keepIn K (.ref f19) = true)
    (a20 : PySem.W.nsIn K mainGlobals "_law_refused" = some (some (.ref f20))) (l20 : K.lookup f20 = some ⟨oc20, od20, .func (PySem.W.fnOf "_law_refused" "_law_refused" (defArgs s_refused35) (defBody s_refused35) (defScope s_refused35) .none kV20 dc20 pm20 an20 cd20 ct20), sl20⟩) (c20 : PySem.W.codeIn K cd20 "_law_refused" = true) (k20 : PySem.W.keepIn K (.ref f20) = true)
    (a21 : PySem.W.nsIn K mainGlobals "law" = some (some (.ref f21))) (l21 : K.lookup f21 = some ⟨oc21, od21, .func (PySem.W.fnOf "law" "law" (defArgs s_law) (defBody s_law) (defScope s_law) .none kV21 dc21 pm21 an21 cd21 ct21), sl21⟩) (c21 : PySem.W.codeIn K cd21 "law" = true) (k21 : PySem.W.keepIn K (.ref f21) = true)
    (d5 : K.lookup Td5 = some ⟨toc5, tod5, .seq #[.int 1 ttk5] tn5, tsl5⟩)
    (z_abs : PySem.W.nsIn K mainGlobals "abs" = some none)
    (z_sorted : PySem.W.nsIn K mainGlobals "sorted" = some none)
    (z_range : PySem.W.nsIn K mainGlobals "range" = some none)
    (z_list : PySem.W.nsIn K mainGlobals "list" = some none)
    (z_len : PySem.W.nsIn K mainGlobals "len" = some none)
    (z_max : PySem.W.nsIn K mainGlobals "max" = some none)
    (z_int : PySem.W.nsIn K mainGlobals "int" = some none)
    (z_isinstance : PySem.W.nsIn K mainGlobals "isinstance" = some none)
    (z_ValueError : PySem.W.nsIn K mainGlobals "ValueError" = some none)
    (z_min : PySem.W.nsIn K mainGlobals "min" = some none)
    (z_set : PySem.W.nsIn K mainGlobals "set" = some none)
    {ko_NOUGHT : Option Addr} {kn_NOUGHT : Nat} {ks_NOUGHT : Array (Option Value)} {kt_NOUGHT_0 kt_NOUGHT_1 : Tok}
    {kt_MOST_SPOTS : Tok}
    (g_TreeError : PySem.W.nsIn K mainGlobals "TreeError" = some (some (.ref c_TreeError)))
    (g_NoPrime : PySem.W.nsIn K mainGlobals "NoPrime" = some (some (.ref c_NoPrime)))
    (g_NoFraction : PySem.W.nsIn K mainGlobals "NoFraction" = some (some (.ref c_NoFraction)))
    (g_NoText : PySem.W.nsIn K mainGlobals "NoText" = some (some (.ref c_NoText)))
    (g_NoSpot : PySem.W.nsIn K mainGlobals "NoSpot" = some (some (.ref c_NoSpot)))
    (g_NoTable : PySem.W.nsIn K mainGlobals "NoTable" = some (some (.ref c_NoTable)))
    (g_TooMany : PySem.W.nsIn K mainGlobals "TooMany" = some (some (.ref c_TooMany)))
    (g_NoLine : PySem.W.nsIn K mainGlobals "NoLine" = some (some (.ref c_NoLine)))
    (g_NoRow : PySem.W.nsIn K mainGlobals "NoRow" = some (some (.ref c_NoRow)))
    (g_NothingDone : PySem.W.nsIn K mainGlobals "NothingDone" = some (some (.ref c_NothingDone)))
    (g_TooFar : PySem.W.nsIn K mainGlobals "TooFar" = some (some (.ref c_TooFar)))
    (x_TooMany : PySem.W.excIn K c_TooMany [.type "ValueError", .type "Exception", .type "BaseException", .type "object"] "ValueError.__new__" = true)
    (e_TooMany : excKb K c_TooMany = true)
    (v_TooMany : PySem.W.kitOne K (.ref c_TooMany) (.type "ValueError") = some true)
    (i_TooMany_NoLine : PySem.W.kitOne K (.ref c_TooMany) (.ref c_NoLine) = some false)
    (i_TooMany_NoRow : PySem.W.kitOne K (.ref c_TooMany) (.ref c_NoRow) = some false)
    (i_TooMany_NothingDone : PySem.W.kitOne K (.ref c_TooMany) (.ref c_NothingDone) = some false)
    (i_TooMany_TooFar : PySem.W.kitOne K (.ref c_TooMany) (.ref c_TooFar) = some false)
    (i_TooMany_NoPrime : PySem.W.kitOne K (.ref c_TooMany) (.ref c_NoPrime) = some false)
    (i_TooMany_NoFraction : PySem.W.kitOne K (.ref c_TooMany) (.ref c_NoFraction) = some false)
    (i_TooMany_NoText : PySem.W.kitOne K (.ref c_TooMany) (.ref c_NoText) = some false)
    (i_TooMany_NoSpot : PySem.W.kitOne K (.ref c_TooMany) (.ref c_NoSpot) = some false)
    (i_TooMany_NoTable : PySem.W.kitOne K (.ref c_TooMany) (.ref c_NoTable) = some false)
    (i_TooMany_TooMany : PySem.W.kitOne K (.ref c_TooMany) (.ref c_TooMany) = some true)
    (m_TooMany_TreeError : PySem.W.exmOne K (.ref c_TooMany) (.ref c_TreeError) = some true)
    (ka_NOUGHT : PySem.W.nsIn K mainGlobals "NOUGHT" = some (some (.ref c_NOUGHT)))
    (kl_NOUGHT : K.lookup c_NOUGHT = some ⟨.type "tuple", ko_NOUGHT, .seq #[.int 0 kt_NOUGHT_0, .int 1 kt_NOUGHT_1] kn_NOUGHT, ks_NOUGHT⟩)
    (ka_MOST_SPOTS : PySem.W.nsIn K mainGlobals "MOST_SPOTS" = some (some (.int 400 kt_MOST_SPOTS)))
    : ∃ fd : FuncData, (∀ (s : Shared) (v : Value), BindsTo s fd ⟨[v], []⟩ [("_law_script", v)]) ∧ ∀ base : Heap, K.In base → base.Ns mainGlobals mg → FnOk l.prog w K mg base CX0 9 fa fd ["_law_script"] (spD K R_law) := by
  have e := hfa.symm.trans (PySem.W.mg_of X G a21)
  cases e
  have FL := fun_mk (st := s_law) l21 c21 k21
  refine ⟨PySem.W.fnOf "law" "law" (defArgs s_law) (defBody s_law) (defScope s_law) .none kV21 dc21 pm21 an21 cd21 ct21, fun s v => .of_eq rfl, fun base _ _ => ?_⟩
  have M : Mo ⟨l.prog, w, K, mg, base⟩ := {
    b_abs := PySem.W.mg_none_of X G z_abs
    b_sorted := PySem.W.mg_none_of X G z_sorted
    b_range := PySem.W.mg_none_of X G z_range
    b_list := PySem.W.mg_none_of X G z_list
    b_len := PySem.W.mg_none_of X G z_len
    b_max := PySem.W.mg_none_of X G z_max
    b_int := PySem.W.mg_none_of X G z_int
    b_isinstance := PySem.W.mg_none_of X G z_isinstance
    b_ValueError := PySem.W.mg_none_of X G z_ValueError
    b_min := PySem.W.mg_none_of X G z_min
    b_set := PySem.W.mg_none_of X G z_set
    F_shared := ⟨_, _, fun_mk (st := s_shared) l0 c0 k0, PySem.W.mg_of X G a0⟩
    F_power_of := ⟨_, _, fun_mk (st := s_power_of) l1 c1 k1, PySem.W.mg_of X G a1⟩
    F_raised := ⟨_, _, fun_mk (st := s_raised) l2 c2 k2, PySem.W.mg_of X G a2⟩
    F_over_by := ⟨_, _, fun_mk (st := s_over_by) l3 c3 k3, PySem.W.mg_of X G a3⟩
    F_obp := ⟨_, _, fun_mk (st := s_obp) l4 c4 k4, PySem.W.mg_of X G a4⟩
    F_fraction := ⟨_, _, _, _, _, _, _, _, _, _, _, _, _, _, l5, d5, rfl, c5, k5, PySem.W.mg_of X G a5⟩
    F_plus := ⟨_, _, fun_mk (st := s_plus) l6 c6 k6, PySem.W.mg_of X G a6⟩
    F_times := ⟨_, _, fun_mk (st := s_times) l7 c7 k7, PySem.W.mg_of X G a7⟩
    F_prime_power := ⟨_, _, fun_mk (st := s_prime_power) l8 c8 k8, PySem.W.mg_of X G a8⟩
    F_rest_byN := ⟨_, _, fun_mk (st := s_rest_byN) l9 c9 k9, PySem.W.mg_of X G a9⟩
    F_above31 := ⟨_, _, fun_mk (st := s_above31) l10 c10 k10, PySem.W.mg_of X G a10⟩
    F_ties := ⟨_, _, fun_mk (st := s_ties) l11 c11 k11, PySem.W.mg_of X G a11⟩
    F_within35 := ⟨_, _, fun_mk (st := s_within35) l12 c12 k12, PySem.W.mg_of X G a12⟩
    F_over36 := ⟨_, _, fun_mk (st := s_over36) l13 c13 k13, PySem.W.mg_of X G a13⟩
    F_ringb35 := ⟨_, _, fun_mk (st := s_ringb35) l14 c14 k14, PySem.W.mg_of X G a14⟩
    F_fcell := ⟨_, _, fun_mk (st := s_fcell) l15 c15 k15, PySem.W.mg_of X G a15⟩
    F_flow := ⟨_, _, fun_mk (st := s_flow) l16 c16 k16, PySem.W.mg_of X G a16⟩
    F_fpw := ⟨_, _, fun_mk (st := s_fpw) l17 c17 k17, PySem.W.mg_of X G a17⟩
    F_fspot := ⟨_, _, fun_mk (st := s_fspot) l18 c18 k18, PySem.W.mg_of X G a18⟩
    F_another35 := ⟨_, _, fun_mk (st := s_another35) l19 c19 k19, PySem.W.mg_of X G a19⟩
    F_refused35 := ⟨_, _, fun_mk (st := s_refused35) l20 c20 k20, PySem.W.mg_of X G a20⟩
    g_TreeError := ⟨_, PySem.W.mg_of X G g_TreeError⟩
    g_NoPrime := ⟨_, PySem.W.mg_of X G g_NoPrime⟩
    g_NoFraction := ⟨_, PySem.W.mg_of X G g_NoFraction⟩
    g_NoText := ⟨_, PySem.W.mg_of X G g_NoText⟩
    g_NoSpot := ⟨_, PySem.W.mg_of X G g_NoSpot⟩
    g_NoTable := ⟨_, PySem.W.mg_of X G g_NoTable⟩
    g_TooMany := ⟨_, PySem.W.mg_of X G g_TooMany⟩
    g_NoLine := ⟨_, PySem.W.mg_of X G g_NoLine⟩
    g_NoRow := ⟨_, PySem.W.mg_of X G g_NoRow⟩
    g_NothingDone := ⟨_, PySem.W.mg_of X G g_NothingDone⟩
    g_TooFar := ⟨_, PySem.W.mg_of X G g_TooFar⟩
    c_TooMany := ⟨_, PySem.W.mg_of X G g_TooMany, x_TooMany⟩
    e_TooMany := fun C h1 => by cases h1.symm.trans (PySem.W.mg_of X G g_TooMany); exact excK_of e_TooMany
    v_TooMany := fun C h1 => by cases h1.symm.trans (PySem.W.mg_of X G g_TooMany); exact v_TooMany
    i_TooMany_NoLine := fun C C' h1 h2 => by cases h1.symm.trans (PySem.W.mg_of X G g_TooMany); cases h2.symm.trans (PySem.W.mg_of X G g_NoLine); exact i_TooMany_NoLine
    i_TooMany_NoRow := fun C C' h1 h2 => by cases h1.symm.trans (PySem.W.mg_of X G g_TooMany); cases h2.symm.trans (PySem.W.mg_of X G g_NoRow); exact i_TooMany_NoRow
    i_TooMany_NothingDone := fun C C' h1 h2 => by cases h1.symm.trans (PySem.W.mg_of X G g_TooMany); cases h2.symm.trans (PySem.W.mg_of X G g_NothingDone); exact i_TooMany_NothingDone
    i_TooMany_TooFar := fun C C' h1 h2 => by cases h1.symm.trans (PySem.W.mg_of X G g_TooMany); cases h2.symm.trans (PySem.W.mg_of X G g_TooFar); exact i_TooMany_TooFar
    i_TooMany_NoPrime := fun C C' h1 h2 => by cases h1.symm.trans (PySem.W.mg_of X G g_TooMany); cases h2.symm.trans (PySem.W.mg_of X G g_NoPrime); exact i_TooMany_NoPrime
    i_TooMany_NoFraction := fun C C' h1 h2 => by cases h1.symm.trans (PySem.W.mg_of X G g_TooMany); cases h2.symm.trans (PySem.W.mg_of X G g_NoFraction); exact i_TooMany_NoFraction
    i_TooMany_NoText := fun C C' h1 h2 => by cases h1.symm.trans (PySem.W.mg_of X G g_TooMany); cases h2.symm.trans (PySem.W.mg_of X G g_NoText); exact i_TooMany_NoText
    i_TooMany_NoSpot := fun C C' h1 h2 => by cases h1.symm.trans (PySem.W.mg_of X G g_TooMany); cases h2.symm.trans (PySem.W.mg_of X G g_NoSpot); exact i_TooMany_NoSpot
    i_TooMany_NoTable := fun C C' h1 h2 => by cases h1.symm.trans (PySem.W.mg_of X G g_TooMany); cases h2.symm.trans (PySem.W.mg_of X G g_NoTable); exact i_TooMany_NoTable
    i_TooMany_TooMany := fun C C' h1 h2 => by cases h1.symm.trans (PySem.W.mg_of X G g_TooMany); cases h2.symm.trans (PySem.W.mg_of X G g_TooMany); exact i_TooMany_TooMany
    m_TooMany_TreeError := fun C C' h1 h2 => by cases h1.symm.trans (PySem.W.mg_of X G g_TooMany); cases h2.symm.trans (PySem.W.mg_of X G g_TreeError); exact m_TooMany_TreeError
    k_NOUGHT := ⟨_, PySem.W.mg_of X G ka_NOUGHT, _, _, _, kl_NOUGHT, rfl, rfl, of_decide_eq_true rfl, .cons ⟨_, rfl⟩ (.cons ⟨_, rfl⟩ (.nil))⟩
    k_MOST_SPOTS := ⟨_, PySem.W.mg_of X G ka_MOST_SPOTS⟩
    }
  exact okk_law M FL
theorem walk {l : PySem.W.OpenLaw} {q : Program} {loose : List Str} {XP : (Str → Option Value) → Heap → Prop} {YP : World → Heap → Prop} {d : DefRec} {K : Params → PySem.W.Frag} (hn : l.most = some 63) (hdf : d.params.defaults = [])
    (hY : ∀ (w : World) (h : Heap), YP w h → (K w.params).In h)
    (F : ∀ (w : World) (mg : Str → Option Value) (fa : Addr) (h : Heap), (K w.params).In h → h.Ns mainGlobals mg → mg d.name = some (.ref fa) →
      ∃ fd : FuncData, (∀ (s : Shared) (u : Value), BindsTo s fd ⟨[u], []⟩ [("_law_script", u)]) ∧ ∀ base : Heap, (K w.params).In base → base.Ns mainGlobals mg → FnOk l.prog w (K w.params) mg base CX0 9 fa fd ["_law_script"] (spD (K w.params) R_law)) :
    PySem.W.WalkO q loose XP YP l.row.toRowW d [] (fun f vs => PySem.call f vs) :=
  L2.walk_of (n := 63) (k := 9) (x := "_law_script") (CX := fun _ => CX0) (sp := fun w => spD (K w.params) R_law) hn (by decide) hdf ⟨rfl, by decide, by decide⟩ hY F (fun w H a ns hl _ hS => law_sp _ H a ns hl hS) fun _ _ _ _ _ z => z
end R
open PySem PySem.W PyProof.Rows
def PySem.W.Fast.tw15977778287157591385 : Unit := ()
def PySem.W.Fast.tw1282665972559522884 : Unit := ()
def PySem.W.Fast.tw2939010412531550256 : Unit := ()
def PySem.W.Fast.tw9542604762285133695 : Unit := ()
def PySem.W.Fast.tw16350865118398942549 : Unit := ()
def PySem.W.Fast.tw16505983212672424661 : Unit := ()
def PySem.W.Fast.tw8293991673084900513 : Unit := ()
def PySem.W.Fast.tw18438051533789571680 : Unit := ()
def PySem.W.Fast.tw6109314471993186058 : Unit := ()
def PySem.W.Fast.tw10051629472922520267 : Unit := ()
set_option maxRecDepth 100000 in
set_option maxHeartbeats 0 in
theorem PySem.Challenge.cw_primetree_k35_too_many_within_holds : PySem.Challenge.rw_primetree_k35_too_many_within.Holds := by
  w_on; o_law; k_head; (case hw => w_witness2)
  k_fill
  refine R.walk (l := PySem.Challenge.rw_primetree_k35_too_many_within) rfl rfl (fun w h Y => PySem.W.kIn_of Y) ?F
  case F =>
    intro w mg fa h KX G hmg
    refine' R.all_mk KX G hmg ?a0 ?l0 ?c0 ?k0 ?a1 ?l1 ?c1 ?k1 ?a2 ?l2 ?c2 ?k2 ?a3 ?l3 ?c3 ?k3 ?a4 ?l4 ?c4 ?k4 ?a5 ?l5 ?c5 ?k5 ?a6 ?l6 ?c6 ?k6 ?a7 ?l7 ?c7 ?k7 ?a8 ?l8 ?c8 ?k8 ?a9 ?l9 ?c9 ?k9 ?a10 ?l10 ?c10 ?k10 ?a11 ?l11 ?c11 ?k11 ?a12 ?l12 ?c12 ?k12 ?a13 ?l13 ?c13 ?k13 ?a14 ?l14 ?c14 ?k14 ?a15 ?l15 ?c15 ?k15 ?a16 ?l16 ?c16 ?k16 ?a17 ?l17 ?c17 ?k17 ?a18 ?l18 ?c18 ?k18 ?a19 ?l19 ?c19 ?k19 ?a20 ?l20 ?c20 ?k20 ?a21 ?l21 ?c21 ?k21 ?d5 ?z_abs ?z_sorted ?z_range ?z_list ?z_len ?z_max ?z_int ?z_isinstance ?z_ValueError ?z_min ?z_set ?q_g_TreeError ?q_g_NoPrime ?q_g_NoFraction ?q_g_NoText ?q_g_NoSpot ?q_g_NoTable ?q_g_TooMany ?q_g_NoLine ?q_g_NoRow ?q_g_NothingDone ?q_g_TooFar ?q_x_TooMany ?q_e_TooMany ?q_v_TooMany ?q_i_TooMany_NoLine ?q_i_TooMany_NoRow ?q_i_TooMany_NothingDone ?q_i_TooMany_TooFar ?q_i_TooMany_NoPrime ?q_i_TooMany_NoFraction ?q_i_TooMany_NoText ?q_i_TooMany_NoSpot ?q_i_TooMany_NoTable ?q_i_TooMany_TooMany ?q_m_TooMany_TreeError ?q_ka_NOUGHT ?q_kl_NOUGHT ?q_ka_MOST_SPOTS
    (case a0 => k_is); (case l0 => k_is); (case c0 => k_is); (case k0 => k_is)
    (case a1 => k_is); (case l1 => k_is); (case c1 => k_is); (case k1 => k_is)
    (case a2 => k_is); (case l2 => k_is); (case c2 => k_is); (case k2 => k_is)
    (case a3 => k_is); (case l3 => k_is); (case c3 => k_is); (case k3 => k_is)
    (case a4 => k_is); (case l4 => k_is); (case c4 => k_is); (case k4 => k_is)
    (case a5 => k_is); (case l5 => k_is); (case c5 => k_is); (case k5 => k_is)
    (case a6 => k_is); (case l6 => k_is); (case c6 => k_is); (case k6 => k_is)
    (case a7 => k_is); (case l7 => k_is); (case c7 => k_is); (case k7 => k_is)
    (case a8 => k_is); (case l8 => k_is); (case c8 => k_is); (case k8 => k_is)
    (case a9 => k_is); (case l9 => k_is); (case c9 => k_is); (case k9 => k_is)
    (case a10 => k_is); (case l10 => k_is); (case c10 => k_is); (case k10 => k_is)
    (case a11 => k_is); (case l11 => k_is); (case c11 => k_is); (case k11 => k_is)
    (case a12 => k_is); (case l12 => k_is); (case c12 => k_is); (case k12 => k_is)
    (case a13 => k_is); (case l13 => k_is); (case c13 => k_is); (case k13 => k_is)
    (case a14 => k_is); (case l14 => k_is); (case c14 => k_is); (case k14 => k_is)
    (case a15 => k_is); (case l15 => k_is); (case c15 => k_is); (case k15 => k_is)
    (case a16 => k_is); (case l16 => k_is); (case c16 => k_is); (case k16 => k_is)
    (case a17 => k_is); (case l17 => k_is); (case c17 => k_is); (case k17 => k_is)
    (case a18 => k_is); (case l18 => k_is); (case c18 => k_is); (case k18 => k_is)
    (case a19 => k_is); (case l19 => k_is); (case c19 => k_is); (case k19 => k_is)
    (case a20 => k_is); (case l20 => k_is); (case c20 => k_is); (case k20 => k_is)
    (case a21 => k_is); (case l21 => k_is); (case c21 => k_is); (case k21 => k_is)
    (case d5 => k_is)
    (case z_abs => k_is)
    (case z_sorted => k_is)
    (case z_range => k_is)
    (case z_list => k_is)
    (case z_len => k_is)
    (case z_max => k_is)
    (case z_int => k_is)
    (case z_isinstance => k_is)
    (case z_ValueError => k_is)
    (case z_min => k_is)
    (case z_set => k_is)
    (case q_g_TreeError => k_is)
    (case q_g_NoPrime => k_is)
    (case q_g_NoFraction => k_is)
    (case q_g_NoText => k_is)
    (case q_g_NoSpot => k_is)
    (case q_g_NoTable => k_is)
    (case q_g_TooMany => k_is)
    (case q_g_NoLine => k_is)
    (case q_g_NoRow => k_is)
    (case q_g_NothingDone => k_is)
    (case q_g_TooFar => k_is)
    (case q_x_TooMany => kernel_rfl)
    (case q_e_TooMany => kernel_rfl)
    (case q_v_TooMany => kernel_rfl)
    (case q_i_TooMany_NoLine => kernel_rfl)
    (case q_i_TooMany_NoRow => kernel_rfl)
    (case q_i_TooMany_NothingDone => kernel_rfl)
    (case q_i_TooMany_TooFar => kernel_rfl)
    (case q_i_TooMany_NoPrime => kernel_rfl)
    (case q_i_TooMany_NoFraction => kernel_rfl)
    (case q_i_TooMany_NoText => kernel_rfl)
    (case q_i_TooMany_NoSpot => kernel_rfl)
    (case q_i_TooMany_NoTable => kernel_rfl)
    (case q_i_TooMany_TooMany => kernel_rfl)
    (case q_m_TooMany_TreeError => kernel_rfl)
    (case q_ka_NOUGHT => k_is)
    (case q_kl_NOUGHT => k_is)
    (case q_ka_MOST_SPOTS => k_is)
#print axioms PySem.Challenge.cw_primetree_k35_too_many_within_holds
