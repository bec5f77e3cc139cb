import PyProof.Rows.All
import Wide.All
import OpenK.AllK
import Wide.FinOn
import Lean
import PyProof.EqAt
import PyProof.EqKinds
import PyProof.TupleCall
import PyProof.ExcArgsOwn
import KE.KIntText
import PyProof.StrLawsRepr
import PyProof.StrLawsOcc
import PyProof.SliceStr2
import PyProof.FString
import PyProof.StrOps2
import PyProof.AutoIntG2
import PyProof.ConsumeWalk
import PyProof.MinMaxWalk
import PyProof.WalkInts
import PyProof.ZipIter
import PyProof.SumWalk
import PyProof.SeqI3
import PyProof.CompUse
import PyProof.Rows.SortWalk
import KE.KSortTup
import KE.KRevIter
import PyProof.ListRange
import PyProof.Rows.SetFrom
import PyProof.TupleKey
import PyProof.SetRoads
import PySem.SetTable
import PyProof.MaxThree
import PyProof.P3In
import PyProof.WalksEnum
import PyProof.EnumMake
import PySem.Challenge.RW_primetree_k79_whole_kinds_led
set_option Elab.async false
set_option linter.all false
set_option maxRecDepth 100000
/-! THE HAND LAYER, for ints, bools, texts, own classes, LISTS and tuples (index, slices, in, append, pop ..), calls, loops. Paste it whole ahead of your own text; what your proof does not reach may be deleted. -/
namespace L2
open PySem PySem.Spec PyProof.Rows

/-- a key: an int or a str -/
abbrev Key := Sum Int Str
def keyIs : Key → Value → Bool
  | .inl k, v => Value.isInt k v
  | .inr x, v => Value.isStrOf x v
def keyH (w : World) : Key → Int
  | .inl k => hashInt k
  | .inr x => hashStr w x
theorem keyIs_shape : ∀ {k : Key} {v : Value}, keyIs k v = true → (∃ i t, k = Sum.inl i ∧ v = Value.int i t) ∨ (∃ x t, k = Sum.inr x ∧ v = Value.str x t)
  | .inl i, v, h => by
    obtain ⟨t, e⟩ := Value.isInt_shape (k := i) (v := v) h
    exact .inl ⟨i, t, rfl, e⟩
  | .inr x, v, h => by
    obtain ⟨t, e⟩ := Value.isStrOf_shape (x := x) (v := v) h
    exact .inr ⟨x, t, rfl, e⟩
theorem keyIs_int (i : Int) (t : Tok) : keyIs (.inl i) (.int i t) = true := by simp [keyIs, Value.isInt]
theorem keyIs_str (x : Str) (t : Tok) : keyIs (.inr x) (.str x t) = true := by simp [keyIs, Value.isStrOf]
theorem key_ll (a b : Int) : decide ((Sum.inl a : Key) = Sum.inl b) = (a == b) := by
  by_cases e : a = b
  · subst e; simp
  · have h : ¬ (Sum.inl a : Key) = Sum.inl b := fun q => e (Sum.inl.inj q)
    rw [decide_eq_false h]
    exact (beq_eq_false_iff_ne.mpr e).symm
theorem key_rr (a b : Str) : decide ((Sum.inr a : Key) = Sum.inr b) = decide (a = b) := by
  by_cases e : a = b
  · subst e; simp
  · have h : ¬ (Sum.inr a : Key) = Sum.inr b := fun q => e (Sum.inr.inj q)
    rw [decide_eq_false h, decide_eq_false e]
theorem key_lr (a : Int) (b : Str) : decide ((Sum.inl a : Key) = Sum.inr b) = false := decide_eq_false (fun q => nomatch q)
theorem key_rl (a : Str) (b : Int) : decide ((Sum.inr a : Key) = Sum.inl b) = false := decide_eq_false (fun q => nomatch q)

def mixKind (prog : Program) (w : World) : PySem.KeyKind prog w Key where
  is := keyIs
  hash := keyH w
  inj := fun v a b ha hb => by
    rcases keyIs_shape ha with ⟨i, t, rfl, rfl⟩ | ⟨x, t, rfl, rfl⟩
    · rcases keyIs_shape hb with ⟨j, u, rfl, e⟩ | ⟨y, u, rfl, e⟩
      · injection e with e1 _; rw [e1]
      · exact nomatch e
    · rcases keyIs_shape hb with ⟨j, u, rfl, e⟩ | ⟨y, u, rfl, e⟩
      · exact nomatch e
      · injection e with e1 _; rw [e1]
  byValue := fun k v h => by
    rcases keyIs_shape h with ⟨i, t, rfl, rfl⟩ | ⟨x, t, rfl, rfl⟩ <;> rfl
  pyHash := fun hv h => by
    rcases keyIs_shape hv with ⟨i, t, rfl, rfl⟩ | ⟨x, t, rfl, rfl⟩
    · exact wpAny_pyHash_int h
    · exact wpAny_pyHash_str h
  eqBool := fun hu hv h => by
    rcases keyIs_shape hu with ⟨i, t, rfl, rfl⟩ | ⟨x, t, rfl, rfl⟩
    · rcases keyIs_shape hv with ⟨j, u, rfl, rfl⟩ | ⟨y, u, rfl, rfl⟩
      · rw [key_ll] at h; exact wpAny_eqBool_int h
      · rw [key_lr] at h; exact SeqAt.EqAt.int_str i t y u _ _ _ _ h
    · rcases keyIs_shape hv with ⟨j, u, rfl, rfl⟩ | ⟨y, u, rfl, rfl⟩
      · rw [key_rl] at h; exact SeqAt.EqAt.str_int x t j u _ _ _ _ h
      · rw [key_rr] at h; exact wpAny_eqBool_str h
  «strs» := fun k x t v h => by
    rcases keyIs_shape h with ⟨i, u, rfl, e⟩ | ⟨y, u, rfl, e⟩
    · exact nomatch e
    · injection e with e1 _
      subst e1
      cases v <;> rfl

theorem mixKind_int (prog : Program) (w : World) (i : Int) (t : Tok) : (mixKind prog w).is (.inl i) (.int i t) = true := keyIs_int i t
theorem mixKind_str (prog : Program) (w : World) (x : Str) (t : Tok) : (mixKind prog w).is (.inr x) (.str x t) = true := keyIs_str x t
end L2

namespace L2
open PySem PySem.Spec PyProof.Rows

/-- a value, without the heap -/
inductive V where
  | non | bl (b : Bool) | int (i : Int) | str (x : Str) | byt (b : Array UInt8) | flt (b : UInt64) | ref (a : Addr) | ty (n : String)
  deriving DecidableEq

def RelV : V → Value → Prop
  | .non, u => u = Value.none
  | .bl b, u => u = Value.bool b
  | .int i, u => ∃ t, u = Value.int i t
  | .str x, u => ∃ t, u = Value.str x t
  | .byt b, u => ∃ t, u = Value.bytes b t
  | .flt b, u => ∃ t, u = Value.float b t
  | .ref a, u => u = Value.ref a
  | .ty n, u => u = Value.type n

abbrev Vals : List V → List Value → Prop := Paired RelV
theorem Vals.length {xs : List V} {us : List Value} (r : Vals xs us) : xs.length = us.length := Paired.length r
theorem Vals.get : ∀ {xs : List V} {us : List Value} {i : Nat} {x : V}, Vals xs us → xs[i]? = some x → ∃ u, us[i]? = some u ∧ RelV x u
  | _, _, _, _, .nil, e => by simp at e
  | _, _, 0, _, .cons r _, e => by simp at e; subst e; exact ⟨_, rfl, r⟩
  | _, _, i + 1, x, .cons _ t, e => by
    obtain ⟨u, h1, h2⟩ := Vals.get (i := i) (x := x) t (by simpa using e)
    exact ⟨u, by simpa using h1, h2⟩
theorem Vals.append : ∀ {xs ys : List V} {us ws : List Value}, Vals xs us → Vals ys ws → Vals (xs ++ ys) (us ++ ws)
  | _, _, _, _, .nil, s => s
  | _, _, _, _, .cons r t, s => .cons r (Vals.append t s)
theorem Vals.take : ∀ {xs : List V} {us : List Value} (n : Nat), Vals xs us → Vals (xs.take n) (us.take n)
  | _, _, 0, _ => .nil
  | _, _, _ + 1, .nil => .nil
  | _, _, n + 1, .cons r t => .cons r (Vals.take n t)
theorem Vals.drop : ∀ {xs : List V} {us : List Value} (n : Nat), Vals xs us → Vals (xs.drop n) (us.drop n)
  | _, _, 0, r => r
  | _, _, _ + 1, .nil => .nil
  | _, _, n + 1, .cons _ t => Vals.drop n t
def RelO : Option V → Option Value → Prop
  | some v, some u => RelV v u
  | none, none => True
  | _, _ => False
def KV {κ : Type} : List (κ × V) → List (κ × Value) → Prop := Paired fun (p : κ × V) (q : κ × Value) => p.1 = q.1 ∧ RelV p.2 q.2

/-- a key of a dict (00_mix): an int or a text -/
def kV : Key → V
  | .inl i => .int i
  | .inr x => .str x

/-- what stands at a tracked address -/
inductive HO where
  /-- a list -/
  | lst (xs : List V)
  /-- a tuple (never changes) -/
  | tup (xs : List V)
  /-- a dict whose keys are ints and texts; one whose keys are tuples of ints and texts (the empty one is both) -/
  | dK (kvs : List (Key × V)) | dT (kvs : List (List Key × V))
  /-- a set of ints: its members, its size -/
  | set (S : Int → Bool) (n : Nat)
  /-- an instance of the class at C, its dict at dx, its attributes -/
  | ins (C dx : Addr) (fs : List (Str × V))
  /-- the dict of the instance at x -/
  | own (x : Addr)
  /-- the dict of an exception -/
  | xd (fs : List (Str × V))
  /-- a bound method, f of x -/
  | met (f x : Addr)
  /-- a range object lo, lo + 1, .. below hi -/
  | rng (lo hi : Int)
  /-- a thing that is known to the object (the script; a dict while a loop walks it): read, never written while it is so -/
  | frz (o : Obj) (u : HO)
  /-- a code object's table -/
  | tbl (ps : Array Value)
  /-- any other thing, by what is true of its one object (a def of one's own: SetO a S n := HO.ext fun h => ..) -/
  | ext (φ : Heap → Prop)

abbrev Hp := Addr → Option HO
def upd (H : Hp) (a : Addr) (o : HO) : Hp := fun b => if b = a then some o else H b
theorem upd_same {H : Hp} {a : Addr} {o : HO} : upd H a o a = some o := by unfold upd; rw [if_pos rfl]
theorem upd_ne {H : Hp} {a b : Addr} {o : HO} (h : b ≠ a) : upd H a o b = H b := by unfold upd; rw [if_neg h]
theorem ne_of_none {H : Hp} {a b : Addr} {o : HO} (h : H a = some o) (h' : H b = none) : a ≠ b := by
  intro e; subst e; rw [h] at h'; cases h'

section
variable (P : Program) (w : World)
def ObjOk (H : Hp) (h : Heap) (a : Addr) : HO → Prop
  | .lst xs => xs.length ≤ sizeLine ∧ ∃ (its : List Value) (n : Nat), Vals xs its ∧ h.get? a = some { cls := .type "list", data := .seq its.toArray n }
  | .tup xs => xs.length ≤ sizeLine ∧ ∃ its : List Value, Vals xs its ∧ IsTup h a its.toArray
  | .dK kvs => kvs.length ≤ sizeLine ∧ (a == sysModules) = false ∧ ∃ vs, KV kvs vs ∧ h.DictOf (mixKind P w) a vs
  | .dT kvs => kvs.length ≤ sizeLine ∧ (a == sysModules) = false ∧ ∃ xs : List (List Key × Addr × Value),
      Paired (fun (p : List Key × V) (q : List Key × Addr × Value) => p.1 = q.1 ∧ H q.2.1 = some (.tup (p.1.map kV)) ∧ RelV p.2 q.2.2) kvs xs ∧
      ∃ o es ep, h.get? a = some o ∧ o.ExactDict ∧ o.data = .dict es ep ∧ es.toList = xs.map (entryOfKey (tupleKind (mixKind P w))) ∧ (xs.map (·.1)).Nodup
  | .set S n => h.SetOf (intKind P w) a S n
  | .ins C dx fs => H dx = some (.own a) ∧ fs.length ≤ 1000 ∧ dx ≠ a ∧ h.get? a = some (PySem.W.instObj C dx) ∧
      ∃ mA, h.Ns1 dx mA ∧ (∀ f, RelO (fs.lookup f) (mA f)) ∧ PySem.Within mA (fs.map (·.1))
  | .own _ => ∃ o, h.get? a = some o
  | .xd fs => ∃ mA, h.Ns1 a mA ∧ ∀ f, RelO (fs.lookup f) (mA f)
  | .rng lo hi => ∃ t u v, h.get? a = some { cls := .type "range", data := .fields #[.int lo t, .int hi u, .int 1 v] }
  | .frz o u => h.get? a = some o ∧ ObjOk H h a u
  | .tbl ps => h.get? a = some { cls := .none, data := .fields ps }
  | .met f x => h.get? a = some (PySem.W.methodObj (.ref f) (.ref x))
  | .ext φ => φ h ∧ (∃ o, h.get? a = some o) ∧ ∀ h1 h2 : Heap, φ h1 → (∀ o, h1.get? a = some o → h2.get? a = some o) → φ h2
/-- the abstract heap is held -/
def HOk (H : Hp) (h : Heap) : Prop := ∀ a o, H a = some o → ObjOk P w H h a o
end

section
variable {P : Program} {w : World} {H H' : Hp} {h h' : Heap} {a : Addr} {o : HO}
theorem ObjOk.lt (x : ObjOk P w H h a o) : a < h.objs.size := by
  cases o with
  | lst xs => obtain ⟨_, _, _, _, e⟩ := x; exact Heap.lt_size e
  | tup xs => obtain ⟨_, _, _, p⟩ := x; exact p.lt
  | dK kvs => obtain ⟨_, _, _, _, o, _, _, e, _⟩ := x; exact Heap.lt_size e
  | dT kvs => obtain ⟨_, _, _, _, o, _, _, e, _⟩ := x; exact Heap.lt_size e
  | set S n => obtain ⟨o, _, _, _, e, _⟩ := x; exact Heap.lt_size e
  | ins C dx fs => obtain ⟨_, _, _, e, _⟩ := x; exact Heap.lt_size e
  | own y => obtain ⟨_, e⟩ := x; exact Heap.lt_size e
  | xd fs => obtain ⟨_, ⟨_, _, _, e, _⟩, _⟩ := x; exact Heap.lt_size e
  | rng lo hi => obtain ⟨_, _, _, e⟩ := x; exact Heap.lt_size e
  | frz ob u => obtain ⟨e, _⟩ := x; exact Heap.lt_size e
  | tbl ps => exact Heap.lt_size (show h.get? a = some _ from x)
  | met f y => exact Heap.lt_size (show h.get? a = some _ from x)
  | ext φ => obtain ⟨_, ⟨_, e⟩, _⟩ := x; exact Heap.lt_size e
theorem Paired.mapP {α β : Type} {F G : α → β → Prop} : ∀ {l₁ : List α} {l₂ : List β}, Paired F l₁ l₂ → (∀ a b, F a b → G a b) → Paired G l₁ l₂
  | _, _, .nil, _ => .nil
  | _, _, .cons r t, f => .cons (f _ _ r) (Paired.mapP t f)
/-- what an object's description leans on: its own object, its own dict, the tuples -/
theorem ObjOk.stay (x : ObjOk P w H h a o) (k : ∀ b u, (b = a ∨ H b = some (.own a)) → h.get? b = some u → h'.get? b = some u)
    (ho : ∀ b, H b = some (.own a) → H' b = some (.own a)) (ht : ∀ b xs, H b = some (.tup xs) → H' b = some (.tup xs)) : ObjOk P w H' h' a o := by
  induction o with
  | lst xs => obtain ⟨z, its, n, r, e⟩ := x; exact ⟨z, its, n, r, k _ _ (.inl rfl) e⟩
  | tup xs => obtain ⟨z, its, r, ob, e, c⟩ := x; exact ⟨z, its, r, ob, k _ _ (.inl rfl) e, c⟩
  | dK kvs => obtain ⟨z, y, vs, r, ob, es, ep, e, c⟩ := x; exact ⟨z, y, vs, r, ob, es, ep, k _ _ (.inl rfl) e, c⟩
  | dT kvs =>
    obtain ⟨z, y, xs, r, ob, es, ep, e, c⟩ := x
    exact ⟨z, y, xs, Paired.mapP r fun p q z => ⟨z.1, ht _ _ z.2.1, z.2.2⟩, ob, es, ep, k _ _ (.inl rfl) e, c⟩
  | set S n => obtain ⟨ob, es, ep, t, e, c⟩ := x; exact ⟨ob, es, ep, t, k _ _ (.inl rfl) e, c⟩
  | ins C dx fs =>
    obtain ⟨d, z, ne, e, mA, ⟨od, es, ep, e2, c⟩, r⟩ := x
    exact ⟨ho _ d, z, ne, k _ _ (.inl rfl) e, mA, ⟨od, es, ep, k _ _ (.inr d) e2, c⟩, r⟩
  | own y => obtain ⟨ob, e⟩ := x; exact ⟨ob, k _ _ (.inl rfl) e⟩
  | xd fs => obtain ⟨mA, ⟨od, es, ep, e, c⟩, r⟩ := x; exact ⟨mA, ⟨od, es, ep, k _ _ (.inl rfl) e, c⟩, r⟩
  | rng lo hi => obtain ⟨t, u, v, e⟩ := x; exact ⟨t, u, v, k _ _ (.inl rfl) e⟩
  | frz ob u ih => obtain ⟨e, q⟩ := x; exact ⟨k _ _ (.inl rfl) e, ih q⟩
  | tbl ps =>
    have e : h.get? a = some { cls := .none, data := .fields ps } := x
    show h'.get? a = some { cls := .none, data := .fields ps }
    exact k a _ (.inl rfl) e
  | met f y =>
    have e : h.get? a = some (PySem.W.methodObj (.ref f) (.ref y)) := x
    show h'.get? a = some (PySem.W.methodObj (.ref f) (.ref y))
    exact k a _ (.inl rfl) e
  | ext φ => obtain ⟨p, ⟨o, e⟩, st⟩ := x; exact ⟨st _ _ p fun o q => k _ _ (.inl rfl) q, ⟨o, k _ _ (.inl rfl) e⟩, st⟩
theorem HOk.lt (x : HOk P w H h) (e : H a = some o) : a < h.objs.size := (x a o e).lt
theorem HOk.fresh (x : HOk P w H h) (e : h.objs.size ≤ a) : H a = none := by
  cases q : H a with
  | none => rfl
  | some u => exact absurd (Nat.lt_of_lt_of_le (x.lt q) e) (Nat.lt_irrefl _)
/-- every object of the heap is kept -/
theorem HOk.kept (x : HOk P w H h) (k : ∀ b u, h.get? b = some u → h'.get? b = some u) : HOk P w H h' := fun a o e =>
  (x a o e).stay (fun b u _ q => k b u q) (fun _ q => q) fun _ _ q => q
/-- a new object is laid and tracked -/
theorem HOk.laid (x : HOk P w H h) (k : ∀ b u, h.get? b = some u → h'.get? b = some u) (hp : h.objs.size ≤ a) (new : ObjOk P w (upd H a o) h' a o) : HOk P w (upd H a o) h' := fun b u e => by
  have hn := x.fresh hp
  by_cases hb : b = a
  · subst hb; rw [upd_same] at e; cases e; exact new
  · rw [upd_ne hb] at e
    exact (x b u e).stay (fun c v _ q => k c v q) (fun c q => by rw [upd_ne (ne_of_none q hn)]; exact q) fun c xs q => by rw [upd_ne (ne_of_none q hn)]; exact q
end

/-- what may be read as u: it is u, or a known u -/
def Rd (H : Hp) (a : Addr) (u : HO) : Prop := H a = some u ∨ ∃ o, H a = some (.frz o u)
theorem Rd.ok {P : Program} {w : World} {H : Hp} {h : Heap} {a : Addr} {u : HO} (r : Rd H a u) (x : HOk P w H h) : ObjOk P w H h a u := by
  rcases r with r | ⟨o, r⟩
  · exact x a u r
  · obtain ⟨_, q⟩ := x a _ r
    exact q
/-- what may be written -/
def Mut : Option HO → Prop
  | some (.lst _) => True
  | some (.dK _) => True
  | some (.dT _) => True
  | some (.set _ _) => True
  | some (.ins _ _ _) => True
  | some (.ext _) => True
  | _ => False
section
variable {P : Program} {w : World} {H : Hp} {h h' : Heap} {x e : Addr} {o' : HO}
/-- the object at e is changed: x itself, or the dict of the instance x -/
theorem HOk.write (ok : HOk P w H h) (mu : Mut (H x)) (he : e = x ∨ H e = some (.own x)) (k : ∀ b u, b ≠ e → h.get? b = some u → h'.get? b = some u) (heo : ∃ u, h'.get? e = some u)
    (new : ObjOk P w (upd H x o') h' x o') : HOk P w (upd H x o') h' := fun b u q => by
  have nown : ∀ c y, H c = some (.own y) → c ≠ x := fun c y r z => by subst z; rw [r] at mu; exact mu
  have ntup : ∀ c xs, H c = some (.tup xs) → c ≠ x := fun c xs r z => by subst z; rw [r] at mu; exact mu
  by_cases hb : b = x
  · subst hb; rw [upd_same] at q; cases q; exact new
  · rw [upd_ne hb] at q
    by_cases hbe : b = e
    · have q' : H b = some (.own x) := by
        rcases he with z | z
        · exact absurd (hbe.trans z) hb
        · rw [hbe]; exact z
      rw [q] at q'; cases q'
      obtain ⟨v, hv⟩ := heo
      exact ⟨v, by rw [hbe]; exact hv⟩
    · refine (ok b u q).stay (fun c v hc r => k c v ?_ r) (fun c r => by rw [upd_ne (nown c b r)]; exact r) fun c xs r => by rw [upd_ne (ntup c xs r)]; exact r
      rcases hc with rfl | hc
      · exact hbe
      · rintro rfl
        rcases he with z | z
        · exact nown c b hc z
        · rw [hc] at z; cases z; exact hb rfl
end

/-! ### kept unless tracked; of the frames at fs (the callers') the slots may change (an exception that passes writes there); of the records at ex (iterators) nothing is said -/
structure Un (fs ex : List Addr) (H H' : Hp) (h h' : Heap) : Prop where
  keep : ∀ b o, h.get? b = some o → H b = none → b ∉ fs → b ∉ ex → h'.get? b = some o
  slot : ∀ b o, h.get? b = some o → H b = none → b ∈ fs → b ∉ ex → ∃ sl, h'.get? b = some { o with slots := sl }
  free : ∀ b o, h.get? b = some o → H b = none → b ∉ ex → H' b = none
  there : ∀ b o, h.get? b = some o → b ∉ ex → ∃ o', h'.get? b = some o'
  tups : ∀ b xs, H b = some (.tup xs) → H' b = some (.tup xs)
  frzs : ∀ b o u, H b = some (.frz o u) → H' b = some (.frz o u)
  tbls : ∀ b ps, H b = some (.tbl ps) → ∃ more, H' b = some (.tbl (ps ++ more))
section
variable {fs fs' ex ex' : List Addr} {H H1 H2 : Hp} {h h1 h2 h' : Heap} {a x e : Addr} {o : HO}
theorem Un.any (u : Un fs ex H H1 h h1) {b : Addr} {ob : Obj} (q : h.get? b = some ob) (n : H b = none) (hx : b ∉ ex) : ∃ sl, h1.get? b = some { ob with slots := sl } := by
  by_cases hb : b ∈ fs
  · exact u.slot b ob q n hb hx
  · exact ⟨ob.slots, u.keep b ob q n hb hx⟩
theorem Un.kept (k : ∀ b u, h.get? b = some u → h'.get? b = some u) : Un fs ex H H h h' :=
  ⟨fun b ob q _ _ _ => k b ob q, fun b ob q _ _ _ => ⟨ob.slots, k b ob q⟩, fun _ _ _ n _ => n, fun b ob q _ => ⟨ob, k b ob q⟩, fun _ _ q => q, fun _ _ _ q => q, fun _ ps q => ⟨#[], by rw [q]; simp⟩⟩
theorem Un.refl : Un fs ex H H h h := Un.kept fun _ _ q => q
theorem Un.laid (k : ∀ b u, h.get? b = some u → h'.get? b = some u) (hp : h.objs.size ≤ a) (hn : H a = none) : Un fs ex H (upd H a o) h h' where
  keep := fun b u q _ _ _ => k b u q
  slot := fun b u q _ _ _ => ⟨u.slots, k b u q⟩
  free := fun b u q n _ => by rw [upd_ne (Nat.ne_of_lt (Nat.lt_of_lt_of_le (Heap.lt_size q) hp))]; exact n
  there := fun b u q _ => ⟨u, k b u q⟩
  tups := fun b xs q => by rw [upd_ne (ne_of_none q hn)]; exact q
  frzs := fun b u xs q => by rw [upd_ne (ne_of_none q hn)]; exact q
  tbls := fun b ps q => ⟨#[], by rw [upd_ne (ne_of_none q hn), q]; simp⟩
theorem Un.write (mu : Mut (H x)) (he : e = x ∨ H e = some (.own x)) (k : ∀ b u, b ≠ e → h.get? b = some u → h'.get? b = some u) (heo : ∃ u, h'.get? e = some u) : Un fs ex H (upd H x o) h h' := by
  have hx : ∀ b, H b = none → b ≠ x := fun b n z => by subst z; rw [n] at mu; exact mu
  have hb : ∀ b, H b = none → b ≠ e := fun b n z => by
    subst z
    rcases he with r | r
    · exact hx b n r
    · rw [n] at r; cases r
  have hm : ∀ b u, H b = some u → ¬ Mut (some u) → b ≠ x := fun b u q nm z => by subst z; rw [q] at mu; exact nm mu
  refine ⟨fun b u q n _ _ => k b u (hb b n) q, fun b u q n _ _ => ⟨u.slots, k b u (hb b n) q⟩, fun b u q n _ => by rw [upd_ne (hx b n)]; exact n, fun b u q _ => ?_,
    fun b xs q => by rw [upd_ne (hm b _ q fun z => z)]; exact q, fun b u xs q => by rw [upd_ne (hm b _ q fun z => z)]; exact q, fun b ps q => ⟨#[], by rw [upd_ne (hm b _ q fun z => z), q]; simp⟩⟩
  by_cases hbe : b = e
  · subst hbe; exact heo
  · exact ⟨u, k b u hbe q⟩
end

/-! ### the heap without what is tracked -/
def trk (h : Heap) (H : Hp) : List Addr := (List.range h.objs.size).filter fun a => (H a).isSome
def hidT (h : Heap) (H : Hp) : Heap := PySem.W.hideAll h (trk h H)
theorem hidT_size (h : Heap) (H : Hp) : (hidT h H).objs.size = h.objs.size := PySem.W.hideAll_size _ _
theorem hidT_get {h : Heap} {H : Hp} {b : Addr} {o : Obj} (e : h.get? b = some o) (n : H b = none) : (hidT h H).get? b = some o :=
  PySem.W.hideAll_get _ e fun hm => by
    have q : (H b).isSome = true := (List.mem_filter.mp hm).2
    rw [n] at q; simp at q
theorem of_hidT {h : Heap} {H : Hp} {b : Addr} {o : Obj} (e : (hidT h H).get? b = some o) : h.get? b = some o ∧ H b = none := by
  have e' : h.get? b = some o := PySem.W.of_hideAll (trk h H) e
  refine ⟨e', ?_⟩
  cases q : H b with
  | none => rfl
  | some x =>
    have hm : b ∈ trk h H := List.mem_filter.mpr ⟨List.mem_range.mpr (Heap.lt_size e'), by simp [q]⟩
    have z : (hidT h H).get? b = none := PySem.W.hideAll_none (trk h H) hm
    rw [z] at e; cases e

/-! ### OpenK's ledger, filled with every new object but one -/
def allNews (g h : Heap) (L : Addr) : List (Addr × Obj) := (List.range h.objs.size).filterMap fun a => if a = L ∨ (g.get? a).isSome = true then none else (h.get? a).map fun o => (a, o)
def rest (g h : Heap) (L d : Addr) : List (Addr × Obj) := (allNews g h L).filter fun p => decide (p.1 ≠ d)
end L2

namespace L2
open PySem PySem.Spec PyProof.Rows

/-- the module's facts, over the base: the heap at the law's entry without what is tracked there -/
structure Mod (K : PySem.W.Frag) (mg : Str → Option Value) (base : Heap) : Prop where
  kin : K.In base
  glob : base.Ns mainGlobals mg
  blt : ∃ mb, base.Ns builtinsNs mb ∧ ∀ x : Str, x ≠ "__name__" → mb x = bootBuiltins x
  nolimit : base.NoLimit

/-- the context: a def's body (or a comprehension's block) running. base: fixed through the whole law; s₀, H₀: the entry; outer: the frames whose slots others may change (a def's callers); stack: all frames that run;
   ex: iterators that were made ahead of the entry and are walked here (a comprehension's); fn: the names whose cells were made at the entry (a def: all; a comprehension's block: its own); calm: not within an except suite; pn: pins that every state bears; xe: what is wanted of an exception that leaves the code -/
structure Cx where
  prog : Program
  w : World
  K : PySem.W.Frag
  mg : Str → Option Value
  base : Heap
  A : Around
  N : List Str
  s₀ : Shared
  H₀ : Hp
  env : Env
  outer : List Env
  stack : List Env
  ex : List Addr
  fn : Str → Bool
  calm : Bool
  pn : List (Addr × Obj)
  xe : Value → Shared → Prop
/-- the callers' frames -/
def frs (l : List Env) : List Addr := l.filterMap (·.frame)
abbrev Cx.fs (X : Cx) : List Addr := frs X.outer

def Vis (sc : Scope) (x : Str) : Prop := sc.names.lookup x = some .local ∨ sc.names.lookup x = some .cell ∨ sc.names.lookup x = some .free
def Loc (sc : Scope) (x : Str) : Prop := sc.names.lookup x = some .local ∨ sc.names.lookup x = some .cell
def Look (env : Env) (h : Heap) (m : Str → Option Value) (x : Str) (u : Value) : Prop :=
  (env.kindOf x = some .local ∧ m x = some u) ∨ ((env.kindOf x = some .cell ∨ env.kindOf x = some .free) ∧ ∃ c, env.cells.lookup x = some c ∧ h.IsCell c (some u))

structure Cx.Ok (X : Cx) : Prop where
  mod : Mod X.K X.mg X.base
  kind : X.env.scope.kind = .function
  glob : X.env.globals = mainGlobals
  blt : X.env.builtins = builtinsNs
  above : X.s₀.heap.objs.size ≤ X.env.locals
  inj : ∀ x y c, X.env.cells.lookup x = some c → X.env.cells.lookup y = some c → x = y
  has : ∀ x, (X.env.kindOf x = some .cell ∨ X.env.kindOf x = some .free) → ∃ c, X.env.cells.lookup x = some c
  cab : ∀ x c, X.fn x = true → X.env.cells.lookup x = some c → X.s₀.heap.objs.size ≤ c
  hd : X.calm = true → X.A.handled = none
  frames : X.A.frames = some X.stack
  stk : X.stack = X.outer ∨ (X.stack = X.env :: X.outer ∧ X.env.frame = some X.env.locals)
  exf : ∀ b ∈ X.ex, b ≠ X.env.locals ∧ ∀ x c, X.env.cells.lookup x = some c → c ≠ b
  bs : ∀ b o, X.base.get? b = some o → X.s₀.heap.get? b = some o ∧ X.H₀ b = none
  bsz : X.base.objs.size ≤ X.s₀.heap.objs.size
  noex : ∀ b o, X.base.get? b = some o → b ∉ X.ex
  exfs : ∀ b ∈ X.ex, b ∉ X.fs
  funs : X.s₀.heap.FunFrames X.base X.outer
  frf : ∀ b ∈ X.fs, X.H₀ b = none

structure Inv (X : Cx) (pins : List (Addr × Obj)) (σ : List (Option V)) (H : Hp) (s : Shared) : Prop where
  ok : X.Ok
  os : s.os = X.s₀.os
  bare : AllBare s.gens
  base : Un X.fs X.ex X.H₀ H X.s₀.heap s.heap
  loc : ∃ m, s.heap.Ns X.env.locals m ∧ ∀ (i : Nat) (x : Str) (v : V), X.N[i]? = some x → σ[i]? = some (some v) → Vis X.env.scope x → ∃ u, RelV v u ∧ Look X.env s.heap m x u
  cell : ∀ x c, X.env.cells.lookup x = some c → ∃ v, s.heap.IsCell c v
  free : H X.env.locals = none
  freeC : ∀ x c, X.env.cells.lookup x = some c → H c = none
  pin : ∀ p ∈ X.pn ++ pins, s.heap.get? p.1 = some p.2 ∧ H p.1 = none ∧ p.1 ≠ X.env.locals ∧ p.1 ∉ X.fs ∧ ∀ v, p.2.data ≠ .cell v
  hok : HOk X.prog X.w H s.heap
  len : σ.length = X.N.length

section
variable {X : Cx} {pins : List (Addr × Obj)} {σ : List (Option V)} {H H' : Hp} {s : Shared} {h' : Heap}

theorem Cx.Ok.nofr (ok : X.Ok) {b : Addr} {o : Obj} (e : X.base.get? b = some o) : b ∉ X.fs := fun hb => by
  have := (ok.funs.mem hb).1
  rw [e] at this; cases this
theorem Inv.bs (I : Inv X pins σ H s) : ∀ b o, X.base.get? b = some o → s.heap.get? b = some o ∧ H b = none := fun b o e =>
  ⟨I.base.keep b o (I.ok.bs b o e).1 (I.ok.bs b o e).2 (I.ok.nofr e) (I.ok.noex b o e), I.base.free b o (I.ok.bs b o e).1 (I.ok.bs b o e).2 (I.ok.noex b o e)⟩
theorem Inv.bk (I : Inv X pins σ H s) : ∀ b o, X.base.get? b = some o → s.heap.get? b = some o := fun b o e => (I.bs b o e).1
theorem Inv.mod (I : Inv X pins σ H s) : Mod X.K X.mg X.base := I.ok.mod
theorem Inv.kIn (I : Inv X pins σ H s) : X.K.In s.heap := I.ok.mod.kin.keeps I.bk
theorem Inv.lt (I : Inv X pins σ H s) : X.env.locals < s.heap.objs.size := let ⟨_, hn, _⟩ := I.loc; hn.lt
theorem Inv.sz (I : Inv X pins σ H s) : X.s₀.heap.objs.size ≤ s.heap.objs.size := Nat.le_trans I.ok.above (Nat.le_of_lt I.lt)
theorem Inv.nofs (I : Inv X pins σ H s) {a : Addr} (h : s.heap.objs.size ≤ a) : a ∉ X.fs := fun hb => by
  obtain ⟨_, o, ho, _⟩ := I.ok.funs.mem hb
  exact absurd (Nat.lt_of_lt_of_le (Heap.lt_size ho) (Nat.le_trans I.sz h)) (Nat.lt_irrefl _)
theorem Inv.cne (I : Inv X pins σ H s) : ∀ x c, X.env.cells.lookup x = some c → c ≠ X.env.locals := fun x c e z => by
  obtain ⟨v, o, ho, hd⟩ := I.cell x c e
  obtain ⟨m, ⟨o', es, ep, ho', hd', _⟩, _⟩ := I.loc
  rw [z, ho'] at ho; cases ho; rw [hd'] at hd; cases hd
theorem Inv.funs (I : Inv X pins σ H s) : s.heap.FunFrames X.base X.outer := by
  have all : ∀ (l : List Env), (∀ b ∈ frs l, b ∈ X.fs) → X.s₀.heap.FunFrames X.base l → s.heap.FunFrames X.base l := by
    intro l
    induction l with
    | nil => intro _ _; trivial
    | cons env r ih =>
      intro hs hl
      obtain ⟨hk, ⟨L, o, hf, hn, ho, hd⟩, hr⟩ := hl
      have hL : L ∈ X.fs := hs L (by unfold frs; rw [List.filterMap_cons, hf]; exact List.mem_cons_self)
      obtain ⟨sl, e⟩ := I.base.slot L o ho (I.ok.frf L hL) hL fun z => I.ok.exfs L z hL
      exact ⟨hk, ⟨L, _, hf, hn, e, hd⟩, ih (fun b hb => hs b (by unfold frs; rw [List.filterMap_cons, hf]; exact List.mem_cons_of_mem _ hb)) hr⟩
  exact all X.outer (fun _ hb => hb) I.ok.funs

/-- the frames that run, for a call -/
theorem Inv.stack (I : Inv X pins σ H s) : s.heap.FunFrames X.base X.stack := by
  rcases I.ok.stk with e | ⟨e, hf⟩
  · rw [e]; exact I.funs
  · rw [e]
    obtain ⟨m, hn, _⟩ := I.loc
    refine .cons (by rw [I.ok.kind]; decide) hf hn ?_ I.funs
    exact Heap.get?_none_of_le (Nat.le_trans I.ok.bsz I.ok.above)
theorem Inv.stkSub (I : Inv X pins σ H s) : ∀ b ∈ frs X.stack, b ∈ X.env.locals :: X.fs := fun b hb => by
  rcases I.ok.stk with e | ⟨e, hf⟩
  · rw [e] at hb; exact List.mem_cons_of_mem _ hb
  · rw [e] at hb
    unfold frs at hb
    rw [List.filterMap_cons, hf] at hb
    exact hb
theorem Inv.stkFree (I : Inv X pins σ H s) : ∀ b ∈ frs X.stack, H b = none := fun b hb => by
  rcases List.mem_cons.mp (I.stkSub b hb) with e | hb
  · rw [e]; exact I.free
  · obtain ⟨_, o, ho, _⟩ := I.ok.funs.mem hb
    exact I.base.free b o ho (I.ok.frf b hb) fun z => I.ok.exfs b z hb

/-- THE STEP: the untracked objects but the frame and the records at ch are kept (the callers' frames up to slots), the frame's map is kept, the new abstract heap is held -/
theorem Inv.step {g' : Array GenState} {t' : Nat} {d' : Drawn} {ch : List Addr} (I : Inv X pins σ H s)
    (hch : ∀ b ∈ ch, (b ∈ X.ex ∨ X.s₀.heap.objs.size ≤ b) ∧ b ≠ X.env.locals ∧ (∀ x c, X.env.cells.lookup x = some c → c ≠ b) ∧ ∀ p ∈ X.pn ++ pins, p.1 ≠ b)
    (keep : ∀ b o, b ≠ X.env.locals → b ∉ X.fs → b ∉ ch → s.heap.get? b = some o → H b = none → h'.get? b = some o)
    (slot : ∀ b o, b ≠ X.env.locals → b ∈ X.fs → b ∉ ch → s.heap.get? b = some o → H b = none → ∃ sl, h'.get? b = some { o with slots := sl }) (free : ∀ b o, b ∉ ch → s.heap.get? b = some o → H b = none → H' b = none)
    (there : ∀ b o, b ∉ ch → s.heap.get? b = some o → ∃ o', h'.get? b = some o')
    (tups : ∀ b xs, H b = some (.tup xs) → H' b = some (.tup xs)) (frzs : ∀ b o u, H b = some (.frz o u) → H' b = some (.frz o u)) (tbls : ∀ b ps, H b = some (.tbl ps) → ∃ more, H' b = some (.tbl (ps ++ more)))
    (ns : ∀ m, s.heap.Ns X.env.locals m → h'.Ns X.env.locals m) (hok : HOk X.prog X.w H' h') (hg : AllBare g') :
    Inv X pins σ H' { s with heap := h', gens := g', drawn := d', toks := t' } := by
  have neL : ∀ b o, X.s₀.heap.get? b = some o → b ≠ X.env.locals := fun b o e => Nat.ne_of_lt (Nat.lt_of_lt_of_le (Heap.lt_size e) I.ok.above)
  have neC : ∀ b o, X.s₀.heap.get? b = some o → b ∉ X.ex → b ∉ ch := fun b o e hx hb => by
    rcases (hch b hb).1 with z | z
    · exact hx z
    · exact absurd (Nat.lt_of_lt_of_le (Heap.lt_size e) z) (Nat.lt_irrefl _)
  have cellK : ∀ x c, X.env.cells.lookup x = some c → ∀ v, s.heap.IsCell c v → h'.IsCell c v := fun x c e v ⟨o, ho, hd⟩ => by
    have nch : c ∉ ch := fun z => (hch c z).2.2.1 x c e rfl
    by_cases hc : c ∈ X.fs
    · obtain ⟨sl, q⟩ := slot c o (I.cne x c e) hc nch ho (I.freeC x c e)
      exact ⟨_, q, hd⟩
    · exact ⟨o, keep c o (I.cne x c e) hc nch ho (I.freeC x c e), hd⟩
  refine ⟨I.ok, I.os, hg, ⟨fun b o e n hb hx => ?_, fun b o e n hb hx => ?_, fun b o e n hx => ?_, fun b o e hx => ?_, fun b xs e => tups b xs (I.base.tups b xs e), fun b o xs e => frzs b o xs (I.base.frzs b o xs e), fun b ps e => ?_⟩, ?_, fun x c e => ?_, ?_, fun x c e => ?_, fun p hp => ?_, hok, I.len⟩
  · exact keep b o (neL b o e) hb (neC b o e hx) (I.base.keep b o e n hb hx) (I.base.free b o e n hx)
  · obtain ⟨sl, e1⟩ := I.base.slot b o e n hb hx
    obtain ⟨sl', e2⟩ := slot b _ (neL b o e) hb (neC b o e hx) e1 (I.base.free b o e n hx)
    exact ⟨sl', e2⟩
  · obtain ⟨o', e1⟩ := I.base.there b o e hx
    exact free b o' (neC b o e hx) e1 (I.base.free b o e n hx)
  · obtain ⟨o', e1⟩ := I.base.there b o e hx
    exact there b o' (neC b o e hx) e1
  · obtain ⟨m1, e1⟩ := I.base.tbls b ps e
    obtain ⟨m2, e2⟩ := tbls b _ e1
    exact ⟨m1 ++ m2, by rw [e2, Array.append_assoc]⟩
  · obtain ⟨m, hn, hl⟩ := I.loc
    refine ⟨m, ns m hn, fun i x v e1 e2 e3 => ?_⟩
    obtain ⟨u, r, l⟩ := hl i x v e1 e2 e3
    refine ⟨u, r, ?_⟩
    rcases l with l | ⟨k, c, e, z⟩
    · exact .inl l
    · exact .inr ⟨k, c, e, cellK x c e _ z⟩
  · obtain ⟨v, z⟩ := I.cell x c e
    exact ⟨v, cellK x c e v z⟩
  · obtain ⟨m, ⟨o, _, _, ho, _⟩, _⟩ := I.loc
    exact free _ o (fun z => (hch _ z).2.1 rfl) ho I.free
  · obtain ⟨v, o, ho, hd⟩ := I.cell x c e
    exact free c o (fun z => (hch c z).2.2.1 x c e rfl) ho (I.freeC x c e)
  · obtain ⟨e, n, ne, nf, d⟩ := I.pin p hp
    have nch : p.1 ∉ ch := fun z => (hch p.1 z).2.2.2 p hp rfl
    exact ⟨keep p.1 p.2 ne nf nch e n, free p.1 p.2 nch e n, ne, nf, d⟩
/-- .. where the frame's own object is kept too -/
theorem Inv.un {t' : Nat} (I : Inv X pins σ H s) (u : Un X.fs [] H H' s.heap h') (hok : HOk X.prog X.w H' h') : Inv X pins σ H' { s with heap := h', toks := t' } := by
  obtain ⟨m, ⟨o, es, ep, ho, r⟩, _⟩ := id I.loc
  obtain ⟨sl, hL⟩ := u.any ho I.free (by simp)
  exact I.step (g' := s.gens) (d' := s.drawn) (ch := []) (fun _ z => nomatch z) (fun b o _ hb _ e n => u.keep b o e n hb (by simp)) (fun b o _ hb _ e n => u.slot b o e n hb (by simp)) (fun b o _ e n => u.free b o e n (by simp)) (fun b o _ e => u.there b o e (by simp)) u.tups u.frzs u.tbls (fun m' hm => by
    obtain ⟨o', es', ep', ho', r'⟩ := hm
    rw [ho] at ho'; cases ho'
    exact ⟨_, es', ep', hL, r'⟩) hok I.bare
/-- behind a call (or a comprehension's block): the slots of this frame may have changed too, the records at ch may have turned -/
theorem Inv.call {g' : Array GenState} {t' : Nat} {d' : Drawn} {ch : List Addr} (I : Inv X pins σ H s) (u : Un (frs X.stack) ch H H' s.heap h') (hok : HOk X.prog X.w H' h') (hg : AllBare g')
    (hch : ∀ b ∈ ch, (b ∈ X.ex ∨ X.s₀.heap.objs.size ≤ b) ∧ b ≠ X.env.locals ∧ (∀ x c, X.env.cells.lookup x = some c → c ≠ b) ∧ ∀ p ∈ X.pn ++ pins, p.1 ≠ b) :
    Inv X pins σ H' { s with heap := h', gens := g', drawn := d', toks := t' } := by
  obtain ⟨m, ⟨o, es, ep, ho, r⟩, _⟩ := id I.loc
  obtain ⟨sl, hL⟩ := u.any ho I.free fun z => (hch _ z).2.1 rfl
  exact I.step (ch := ch) hch (fun b o hL hb hc e n => u.keep b o e n (fun z => (List.mem_cons.mp (I.stkSub b z)).elim hL hb) hc) (fun b o _ _ hc e n => u.any e n hc) (fun b o hc e n => u.free b o e n hc) (fun b o hc e => u.there b o e hc) u.tups u.frzs u.tbls (fun m' hm => by
    obtain ⟨o', es', ep', ho', r'⟩ := hm
    rw [ho] at ho'; cases ho'
    exact ⟨_, es', ep', hL, r'⟩) hok hg
/-- an untracked record of ours (an iterator) has turned -/
theorem Inv.turned {t' : Nat} {it : Addr} (I : Inv X pins σ H s) (k : ∀ b o, b ≠ it → s.heap.get? b = some o → h'.get? b = some o) (hn : H it = none) (hL : it ≠ X.env.locals)
    (h1 : it ∈ X.ex ∨ X.s₀.heap.objs.size ≤ it) (h2 : ∀ x c, X.env.cells.lookup x = some c → c ≠ it) (h3 : ∀ p ∈ X.pn ++ pins, p.1 ≠ it) : Inv X pins σ H { s with heap := h', toks := t' } := by
  have nit : ∀ b u, H b = some u → b ≠ it := fun b u e z => by rw [z, hn] at e; cases e
  refine I.step (g' := s.gens) (d' := s.drawn) (ch := [it]) (fun b hb => ?_) (fun b o _ _ hc e _ => k b o (fun z => hc (by simp [z])) e) (fun b o _ _ hc e _ => ⟨o.slots, k b o (fun z => hc (by simp [z])) e⟩) (fun _ _ _ _ n => n)
    (fun b o hc e => ⟨o, k b o (fun z => hc (by simp [z])) e⟩) (fun _ _ e => e) (fun _ _ _ e => e) (fun b ps e => ⟨#[], by rw [e]; simp⟩) (fun m hm => ?_) (fun b u e => ?_) I.bare
  · have e : b = it := by simpa using hb
    subst e
    exact ⟨h1, hL, h2, h3⟩
  · obtain ⟨o, es, ep, ho, r⟩ := hm
    exact ⟨o, es, ep, k _ o (Ne.symm hL) ho, r⟩
  · refine (I.hok b u e).stay (fun c v hc q => k c v ?_ q) (fun _ q => q) fun _ _ q => q
    rcases hc with z | z
    · rw [z]; exact nit b u e
    · exact nit c _ z
theorem Inv.tok (I : Inv X pins σ H s) (t : Nat) : Inv X pins σ H { s with toks := t } := I.un (h' := s.heap) (t' := t) Un.refl I.hok
/-- all objects kept -/
theorem Inv.kept {t' : Nat} (I : Inv X pins σ H s) (k : ∀ b u, s.heap.get? b = some u → h'.get? b = some u) : Inv X pins σ H { s with heap := h', toks := t' } := I.un (Un.kept k) (I.hok.kept k)
/-- a new object laid and tracked -/
theorem Inv.laid {a : Addr} {o : HO} {t' : Nat} (I : Inv X pins σ H s) (k : ∀ b u, s.heap.get? b = some u → h'.get? b = some u) (hp : s.heap.objs.size ≤ a) (new : ObjOk X.prog X.w (upd H a o) h' a o) :
    Inv X pins σ (upd H a o) { s with heap := h', toks := t' } := I.un (Un.laid k hp (I.hok.fresh hp)) (I.hok.laid k hp new)
/-- an object written -/
theorem Inv.write {x e : Addr} {o : HO} {t' : Nat} (I : Inv X pins σ H s) (mu : Mut (H x)) (he : e = x ∨ H e = some (.own x)) (k : ∀ b u, b ≠ e → s.heap.get? b = some u → h'.get? b = some u) (heo : ∃ u, h'.get? e = some u)
    (new : ObjOk X.prog X.w (upd H x o) h' x o) : Inv X pins σ (upd H x o) { s with heap := h', toks := t' } := I.un (Un.write mu he k heo) (I.hok.write mu he k heo new)
theorem Inv.pins_of {pins' : List (Addr × Obj)} (I : Inv X pins σ H s) (h : ∀ p ∈ pins', s.heap.get? p.1 = some p.2 ∧ H p.1 = none ∧ p.1 ≠ X.env.locals ∧ p.1 ∉ X.fs ∧ ∀ v, p.2.data ≠ .cell v) : Inv X pins' σ H s :=
  ⟨I.ok, I.os, I.bare, I.base, I.loc, I.cell, I.free, I.freeC, fun p hp => (List.mem_append.mp hp).elim (fun z => I.pin p (List.mem_append_left _ z)) (h p), I.hok, I.len⟩

theorem nodup_ix {N : List Str} (hN : N.Nodup) {i j : Nat} {x : Str} (a : N[i]? = some x) (b : N[j]? = some x) : i = j := by
  obtain ⟨h1, e1⟩ := List.getElem?_eq_some_iff.mp a
  obtain ⟨h2, e2⟩ := List.getElem?_eq_some_iff.mp b
  exact (List.getElem_inj hN).mp (e1.trans e2.symm)

/-- a name is stored; what changed -/
theorem store_ok2 {M : Model} {A : Around} {E : Value → Shared → Prop} {i : Nat} {x : Str} {v : V} {u : Value} {Q : Unit → Shared → Prop} (I : Inv X pins σ H s) (hN : X.N.Nodup) (hi : X.N[i]? = some x) (hx : Loc X.env.scope x) (r : RelV v u)
    (h : ∀ s', Inv X pins (σ.set i (some v)) H s' → (∃ a, Heap.SameBut a s.heap s'.heap ∧ (a = X.env.locals ∨ X.env.cells.lookup x = some a)) → Q () s') (hf : X.fn x = true ∨ X.env.scope.names.lookup x = some .local := by first | exact .inl rfl | exact .inr rfl | assumption) : wpAny M A (storeName X.env x u) Q E s := by
  obtain ⟨m, hn, hl⟩ := id I.loc
  have hcls : (X.env.scope.kind == .class || (X.env.scope.kind == .module && X.env.locals != X.env.globals)) = false := by rw [I.ok.kind]; rfl
  have hiσ : i < σ.length := by rw [I.len]; exact (List.getElem?_eq_some_iff.mp hi).1
  have cne := I.cne
  have tracked : ∀ {a : Addr} {h' : Heap}, (∃ o, s.heap.get? a = some o ∧ H a = none) → Heap.SameBut a s.heap h' → HOk X.prog X.w H h' := fun {a h'} ha hs b ob e => by
    obtain ⟨_, _, hfree⟩ := ha
    refine (I.hok b ob e).stay (fun c w' hc q => (hs.2 c ?_).trans q) (fun _ q => q) fun _ _ q => q
    rintro rfl
    rcases hc with rfl | hc
    · rw [hfree] at e; cases e
    · rw [hfree] at hc; cases hc
  rcases hx with hk | hk
  · refine wpAny_storeName_local hk hn (fun h' hn' hs => ?_) hcls
    obtain ⟨oL, _, _, hoL, _⟩ := id hn
    refine h _ ⟨I.ok, I.os, I.bare, ⟨fun b o e n hb hx => ?_, fun b o e n hb hx => ?_, I.base.free, fun b o e hx => ?_, I.base.tups, I.base.frzs, I.base.tbls⟩, ⟨_, hn', fun j y v' e1 e2 e3 => ?_⟩, fun y c e => ?_, I.free, I.freeC, fun p hp => ?_, tracked ⟨oL, hoL, I.free⟩ hs, by simpa using I.len⟩ ⟨_, hs, .inl rfl⟩
    · exact (hs.2 b (Nat.ne_of_lt (Nat.lt_of_lt_of_le (Heap.lt_size e) I.ok.above))).trans (I.base.keep b o e n hb hx)
    · obtain ⟨sl, e1⟩ := I.base.slot b o e n hb hx
      exact ⟨sl, (hs.2 b (Nat.ne_of_lt (Nat.lt_of_lt_of_le (Heap.lt_size e) I.ok.above))).trans e1⟩
    · obtain ⟨o', e1⟩ := I.base.there b o e hx
      exact ⟨o', (hs.2 b (Nat.ne_of_lt (Nat.lt_of_lt_of_le (Heap.lt_size e) I.ok.above))).trans e1⟩
    · by_cases hj : j = i
      · subst hj
        rw [hi] at e1; cases e1
        rw [List.getElem?_set_self hiσ] at e2
        cases e2
        exact ⟨u, r, .inl ⟨hk, by simp⟩⟩
      · rw [List.getElem?_set_ne (Ne.symm hj)] at e2
        obtain ⟨u', r', q⟩ := hl j y v' e1 e2 e3
        refine ⟨u', r', ?_⟩
        rcases q with ⟨k, e⟩ | ⟨k, c, e, z⟩
        · refine .inl ⟨k, ?_⟩
          have : y ≠ x := fun e => hj (nodup_ix hN e1 (e ▸ hi))
          simp [this, e]
        · exact .inr ⟨k, c, e, z.sameBut hs (cne y c e)⟩
    · obtain ⟨w', z⟩ := I.cell y c e
      exact ⟨w', z.sameBut hs (cne y c e)⟩
    · obtain ⟨e, n, ne, nf, d⟩ := I.pin p hp
      exact ⟨(hs.2 p.1 ne).trans e, n, ne, nf, d⟩
  · have hfn : X.fn x = true := by
      rcases hf with z | z
      · exact z
      · rw [z] at hk; cases hk
    obtain ⟨c, hc⟩ := I.ok.has x (.inl hk)
    obtain ⟨w', z⟩ := I.cell x c hc
    refine wpAny_storeName_cell I.ok.kind hk hc z (fun h' hc' hs => ?_)
    obtain ⟨oc, hoc, hocd⟩ := id z
    refine h { s with heap := h' } ⟨I.ok, I.os, I.bare, ⟨fun b o e n hb hx => ?_, fun b o e n hb hx => ?_, I.base.free, fun b o e hx => ?_, I.base.tups, I.base.frzs, I.base.tbls⟩, ⟨m, hn.sameBut hs (Ne.symm (cne x c hc)), fun j y v' e1 e2 e3 => ?_⟩, fun y c' e => ?_, I.free, I.freeC, fun p hp => ?_, tracked ⟨oc, hoc, I.freeC x c hc⟩ hs, by simpa using I.len⟩ ⟨c, hs, .inr hc⟩
    · exact (hs.2 b (Nat.ne_of_lt (Nat.lt_of_lt_of_le (Heap.lt_size e) (I.ok.cab x c hfn hc)))).trans (I.base.keep b o e n hb hx)
    · obtain ⟨sl, e1⟩ := I.base.slot b o e n hb hx
      exact ⟨sl, (hs.2 b (Nat.ne_of_lt (Nat.lt_of_lt_of_le (Heap.lt_size e) (I.ok.cab x c hfn hc)))).trans e1⟩
    · obtain ⟨o', e1⟩ := I.base.there b o e hx
      exact ⟨o', (hs.2 b (Nat.ne_of_lt (Nat.lt_of_lt_of_le (Heap.lt_size e) (I.ok.cab x c hfn hc)))).trans e1⟩
    · by_cases hj : j = i
      · subst hj
        rw [hi] at e1; cases e1
        rw [List.getElem?_set_self hiσ] at e2
        cases e2
        exact ⟨u, r, .inr ⟨.inl hk, c, hc, hc'⟩⟩
      · rw [List.getElem?_set_ne (Ne.symm hj)] at e2
        obtain ⟨u', r', q⟩ := hl j y v' e1 e2 e3
        refine ⟨u', r', ?_⟩
        rcases q with q | ⟨k, c', e, z'⟩
        · exact .inl q
        · refine .inr ⟨k, c', e, z'.sameBut hs ?_⟩
          rintro rfl
          exact hj (nodup_ix hN e1 (I.ok.inj _ _ _ e hc ▸ hi))
    · by_cases hcc : c' = c
      · subst hcc; exact ⟨_, hc'⟩
      · obtain ⟨w2, z2⟩ := I.cell y c' e
        exact ⟨w2, z2.sameBut hs hcc⟩
    · obtain ⟨e, n, ne, nf, d⟩ := I.pin p hp
      refine ⟨(hs.2 p.1 ?_).trans e, n, ne, nf, d⟩
      intro q
      rw [q, hoc] at e
      have q' : oc = p.2 := Option.some.inj e
      exact d w' (by rw [← q']; exact hocd)
theorem store_ok {M : Model} {A : Around} {E : Value → Shared → Prop} {i : Nat} {x : Str} {v : V} {u : Value} {Q : Unit → Shared → Prop} (I : Inv X pins σ H s) (hN : X.N.Nodup) (hi : X.N[i]? = some x) (hx : Loc X.env.scope x) (r : RelV v u)
    (h : ∀ s', Inv X pins (σ.set i (some v)) H s' → Q () s') (hf : X.fn x = true ∨ X.env.scope.names.lookup x = some .local := by first | exact .inl rfl | exact .inr rfl | assumption) : wpAny M A (storeName X.env x u) Q E s :=
  store_ok2 I hN hi hx r (fun s' I' _ => h s' I') hf
/-- behind a call or a block, the state as it is -/
theorem Inv.call' {s' : Shared} {ch : List Addr} (I : Inv X pins σ H s) (ho : s'.os = s.os) (u : Un (frs X.stack) ch H H' s.heap s'.heap) (hok : HOk X.prog X.w H' s'.heap) (hg : AllBare s'.gens)
    (hch : ∀ b ∈ ch, (b ∈ X.ex ∨ X.s₀.heap.objs.size ≤ b) ∧ b ≠ X.env.locals ∧ (∀ x c, X.env.cells.lookup x = some c → c ≠ b) ∧ ∀ p ∈ X.pn ++ pins, p.1 ≠ b) : Inv X pins σ H' s' := by
  obtain ⟨h', g', d', t', o'⟩ := s'
  have e : o' = s.os := ho
  subst e
  exact I.call (g' := g') (t' := t') (d' := d') u hok hg hch
end

/-! ### the judgements -/
/-- an exception: its class, its own dict's address (where it has one), the abstract heap behind it -/
abbrev XK := Value → Option Addr → Hp → Prop
abbrev St := List (Option V)
abbrev VK := V → Hp → Prop
/-- an expression's reading; a test's; an argument list's -/
abbrev TE := St → Hp → VK → Prop
abbrev TT := St → Hp → (Bool → Hp → Prop) → Prop
abbrev TA := St → Hp → (List V → Hp → Prop) → Prop
/-- what is wanted behind a statement -/
structure Ends where
  nx : St → Hp → Prop
  rt : VK
  bk : St → Hp → Prop := fun _ _ => False
  ct : St → Hp → Prop := fun _ _ => False
abbrev TS := Ends → St → Hp → Prop

def EP (X : Cx) (pins : List (Addr × Obj)) (σ : St) (Q : VK) (u : Value) (s' : Shared) : Prop := ∃ v H', Inv X pins σ H' s' ∧ RelV v u ∧ Q v H'
def TP (X : Cx) (pins : List (Addr × Obj)) (σ : St) (Q : Bool → Hp → Prop) (b : Bool) (s' : Shared) : Prop := ∃ H', Inv X pins σ H' s' ∧ Q b H'
def AP (X : Cx) (pins : List (Addr × Obj)) (σ : St) (Q : List V → Hp → Prop) (us : List Value) (s' : Shared) : Prop := ∃ vs H', Inv X pins σ H' s' ∧ Vals vs us ∧ Q vs H'
def SP (X : Cx) (pins : List (Addr × Obj)) (D : Ends) (f : Flow) (s' : Shared) : Prop :=
  match f with
  | .next => ∃ σ' H', Inv X pins σ' H' s' ∧ D.nx σ' H'
  | .brk => ∃ σ' H', Inv X pins σ' H' s' ∧ D.bk σ' H'
  | .cont => ∃ σ' H', Inv X pins σ' H' s' ∧ D.ct σ' H'
  | .ret u => ∃ v σ' H', Inv X pins σ' H' s' ∧ RelV v u ∧ D.rt v H'

def PE (X : Cx) (e : Expr) (t : TE) : Prop :=
  ∀ (pins : List (Addr × Obj)) (s : Shared) (σ : St) (H : Hp) (Q : VK), Inv X pins σ H s → t σ H Q → wpAny (model X.prog X.w) X.A (eval e X.env) (EP X pins σ Q) X.xe s
def PT (X : Cx) (e : Expr) (t : TT) : Prop :=
  ∀ (pins : List (Addr × Obj)) (s : Shared) (σ : St) (H : Hp) (Q : Bool → Hp → Prop), Inv X pins σ H s → t σ H Q → wpAny (model X.prog X.w) X.A (isTrue e X.env (eval e X.env)) (TP X pins σ Q) X.xe s
/-- a test whatever its 'whole' is (and, or) -/
def PW (X : Cx) (e : Expr) (t : TT) : Prop :=
  ∀ (whole : Sem Value) (pins : List (Addr × Obj)) (s : Shared) (σ : St) (H : Hp) (Q : Bool → Hp → Prop), Inv X pins σ H s → t σ H Q → wpAny (model X.prog X.w) X.A (isTrue e X.env whole) (TP X pins σ Q) X.xe s
theorem PW.pt {X : Cx} {e : Expr} {t : TT} (h : PW X e t) : PT X e t := h _
/-- an argument list (no star), from the left -/
def PA (X : Cx) (es : List Expr) (t : TA) : Prop :=
  ∀ (pos : Pos) (pins : List (Addr × Obj)) (s : Shared) (σ : St) (H : Hp) (Q : List V → Hp → Prop), Inv X pins σ H s → t σ H Q → wpAny (model X.prog X.w) X.A (spliced (backTo pos (starEach es X.env))) (AP X pins σ Q) X.xe s
def PS (X : Cx) (st : Stmt) (t : TS) : Prop :=
  ∀ (pins : List (Addr × Obj)) (s : Shared) (σ : St) (H : Hp) (D : Ends), Inv X pins σ H s → t D σ H → wpAny (model X.prog X.w) X.A (exec st X.env) (SP X pins D) X.xe s
def PSs (X : Cx) (st : List Stmt) (t : TS) : Prop :=
  ∀ (pins : List (Addr × Obj)) (s : Shared) (σ : St) (H : Hp) (D : Ends), Inv X pins σ H s → t D σ H → wpAny (model X.prog X.w) X.A (execs st X.env) (SP X pins D) X.xe s
/-- weaken the end -/
theorem thn {α : Type} {t : Sem α} {Q Q' : α → Shared → Prop} {M : Model} {A : Around} {E : Value → Shared → Prop} {s : Shared} (h : wpAny M A t Q E s) (hQ : ∀ a s, Q a s → Q' a s) : wpAny M A t Q' E s := wpAny_mono h hQ fun _ _ x => x
end L2

namespace L2
open PySem PySem.Spec PyProof.Rows
section
variable {X : Cx}

/-! ### names and constants -/
def tVar (i : Nat) : TE := fun σ H Q => ∃ v, σ[i]? = some (some v) ∧ Q v H
def tC (v : V) : TE := fun _ H Q => Q v H
theorem pe_var {i : Nat} {x : Str} {pos : Pos} (hN : X.N[i]? = some x) (hv : Vis X.env.scope x) (hd : (x == ("__debug__" : Str)) = false := by decide) (hcd : (x == ("__classdict__" : Str)) = false := by decide) : PE X (.Name x pos) (tVar i) := by
  intro pins s σ H Q I h
  obtain ⟨v, e, h⟩ := h
  obtain ⟨m, hn, hl⟩ := I.loc
  obtain ⟨u, r, l⟩ := hl i x v hN e hv
  have fin : EP X pins σ Q u s := ⟨v, H, I, r, h⟩
  rcases l with ⟨hk, hm⟩ | ⟨hk, c, hc, hcell⟩
  · exact wpAny_Name (wpAny_loadName_local I.ok.kind hk hn hm fin) hd
  · rcases hk with hk | hk
    · exact wpAny_Name (wpAny_loadName_cell I.ok.kind hk hc hcell fin) hd
    · exact wpAny_Name (wpAny_loadName_free I.ok.kind hk hc hcell fin hcd) hd
theorem pe_int {i j pos} : PE X (.Constant (.int i) j pos) (tC (.int i)) := fun _ _ _ H _ I h => wpAny_Constant_int ⟨.int i, H, I.tok _, ⟨_, rfl⟩, h⟩
theorem pe_bl {b j pos} : PE X (.Constant (.bool b) j pos) (tC (.bl b)) := fun _ _ _ H _ I h => Constant_bool ⟨.bl b, H, I, rfl, h⟩
theorem pe_non {j pos} : PE X (.Constant .none j pos) (tC .non) := fun _ _ _ H _ I h => Constant_none ⟨.non, H, I, rfl, h⟩
theorem pe_str {x j pos} : PE X (.Constant (.str x) j pos) (tC (.str x)) := fun _ _ _ H _ I h => Calls.Constant_str ⟨.str x, H, I.tok _, ⟨_, rfl⟩, h⟩

/-- a global name of the def -/
def Gl (X : Cx) (x : Str) : Prop := X.env.kindOf x = some .globalImplicit
theorem ld_glob {E : Value → Shared → Prop} {pins : List (Addr × Obj)} {s : Shared} {σ : St} {H : Hp} {x : Str} {u : Value} {pos : Pos} {Q : Value → Shared → Prop} (I : Inv X pins σ H s) (hg : Gl X x) (hm : X.mg x = some u) (h : Q u s)
    (hd : (x == ("__debug__" : Str)) = false := by decide) : wpAny (model X.prog X.w) X.A (eval (.Name x pos) X.env) Q E s :=
  Calls.Name_function_global I.ok.kind hg (Calls.loadGlobal_global (by rw [I.ok.glob]; exact I.mod.glob.keeps I.bk) hm h) hd
theorem ld_blt {E : Value → Shared → Prop} {pins : List (Addr × Obj)} {s : Shared} {σ : St} {H : Hp} {x : Str} {u : Value} {pos : Pos} {Q : Value → Shared → Prop} (I : Inv X pins σ H s) (hg : Gl X x) (hm : X.mg x = none) (hv : bootBuiltins x = some u) (h : Q u s)
    (hn : x ≠ "__name__" := by decide) (hd : (x == ("__debug__" : Str)) = false := by decide) : wpAny (model X.prog X.w) X.A (eval (.Name x pos) X.env) Q E s := by
  obtain ⟨mb, h1, h2⟩ := I.mod.blt
  exact Calls.Name_function_global I.ok.kind hg (Calls.loadGlobal_builtin (by rw [I.ok.glob]; exact I.mod.glob.keeps I.bk) hm (by rw [I.ok.blt]; exact h1.keeps I.bk) ((h2 x hn).trans hv) h) hd
/-- a module's constant, a class, a function, as a value -/
theorem pe_glob {x : Str} {v : V} {u : Value} {pos : Pos} (hg : Gl X x) (hm : X.mg x = some u) (r : RelV v u) (hd : (x == ("__debug__" : Str)) = false := by decide) : PE X (.Name x pos) (tC v) :=
  fun _ _ _ H _ I h => ld_glob I hg hm ⟨v, H, I, r, h⟩ hd
/-! ### arithmetic -/
variable {a b : Expr} {ta tb : TE} {pos : Pos}
/-! ### comparisons -/
def PC (X : Cx) (op : CmpOp) (a b : Expr) (t : TE) : Prop :=
  ∀ (pins : List (Addr × Obj)) (s : Shared) (σ : St) (H : Hp) (Q : VK), Inv X pins σ H s → t σ H Q →
    wpAny (model X.prog X.w) X.A (eval a X.env) (fun v s₁ => wpAny (model X.prog X.w) X.A (eval b X.env) (fun u s₂ => wpAny (model X.prog X.w) X.A (compareOp op v u) (EP X pins σ Q) X.xe s₂) X.xe s₁) X.xe s
theorem nobehind (b : Expr) {op : CmpOp} (h : op ≠ .In) (h2 : op ≠ .NotIn) : behindInMarks op b = false := by
  have e1 : (op == CmpOp.In) = false := by cases op <;> first | rfl | exact absurd rfl h
  have e2 : (op == CmpOp.NotIn) = false := by cases op <;> first | rfl | exact absurd rfl h2
  cases b <;> simp [behindInMarks, e1, e2]
/-- is None -/
def tIsN (ta : TE) : TE := fun σ H Q => ta σ H fun x H1 => Q (.bl (decide (x = .non))) H1
theorem RelV.none_iff {x : V} {v : Value} (r : RelV x v) : (v == Value.none) = decide (x = .non) := by
  cases x with
  | non => cases r; rfl
  | bl _ => cases r; rfl
  | int _ => obtain ⟨t, rfl⟩ := r; rfl
  | str _ => obtain ⟨t, rfl⟩ := r; rfl
  | byt _ => obtain ⟨t, rfl⟩ := r; rfl
  | flt _ => obtain ⟨t, rfl⟩ := r; rfl
  | ref _ => cases r; rfl
  | ty _ => cases r; rfl
theorem pc_isN {j pos'} (ha : PE X a ta) : PC X .Is a (.Constant .none j pos') (tIsN ta) := by
  intro pins s σ H Q I h
  refine thn (ha pins s σ H _ I h) fun v s1 ⟨x, H1, I1, r1, q1⟩ => ?_
  exact Constant_none (is_none_gen ⟨.bl _, H1, I1, by rw [r1.none_iff]; rfl, q1⟩)
/-- a comparison as a value, as a test -/
def tB (t : TE) : TT := fun σ H Q => t σ H fun x H1 => ∃ c, x = .bl c ∧ Q c H1
theorem pt_cmp {op : CmpOp} {t : TE} (h : PC X op a b t) (h1 : behindInMarks op b = false := by first | exact nobehind _ (by decide) (by decide) | rfl) : PT X (.Compare a [op] [b] pos) (tB t) := by
  intro pins s σ H Q I hw
  refine wpAny_isTrue_Compare1 (thn (h pins s σ H _ I hw) fun v s1 h1 => thn h1 fun u s2 h2 => thn h2 fun c s3 ⟨x, H1, I1, r1, q1⟩ => ?_) h1
  obtain ⟨d, rfl, q⟩ := q1
  cases r1
  exact wpAny_truthy_bool ⟨H1, I1, q⟩
/-- an expression whose value is a bool, as a test -/
theorem pt_val {e : Expr} {t : TE} (h : PE X e t) (he : ∀ whole, isTrue e X.env whole = (do let v ← whole; standAt e.pos; holding [v] (truthy v)) := by intro _; rfl) : PT X e (tB t) := by
  intro pins s σ H Q I hw
  refine isTrue_plain (thn (h pins s σ H _ I hw) fun v s1 ⟨x, H1, I1, r1, q1⟩ => ?_) (he _)
  obtain ⟨d, rfl, q⟩ := q1
  cases r1
  exact wpAny_truthy_bool ⟨H1, I1, q⟩

/-! ### and, or, not -/
variable {tA tB' : TT} {rest : List Expr}
def tAnd (t u : TT) : TT := fun σ H Q => t σ H fun c H1 => if c = true then u σ H1 Q else Q false H1
def tOr (t u : TT) : TT := fun σ H Q => t σ H fun c H1 => if c = true then Q true H1 else u σ H1 Q
def tNot (t : TT) : TT := fun σ H Q => t σ H fun c H1 => Q (!c) H1
theorem pw_and1 (ha : PT X a tA) : PW X (.BoolOp .And [a] pos) tA := by
  intro wh pins s σ H Q I h
  refine isTrue_and (thn (ha pins s σ H Q I h) fun c s1 e => ?_)
  cases c with
  | true => exact isTrue_and_nil e
  | false => exact e
theorem pw_or1 (ha : PT X a tA) : PW X (.BoolOp .Or [a] pos) tA := by
  intro wh pins s σ H Q I h
  refine isTrue_or (thn (ha pins s σ H Q I h) fun c s1 e => ?_)
  cases c with
  | false => exact isTrue_or_nil e
  | true => exact e
theorem pw_and (ha : PT X a tA) (hb : PW X (.BoolOp .And (b :: rest) pos) tB') : PW X (.BoolOp .And (a :: b :: rest) pos) (tAnd tA tB') := by
  intro wh pins s σ H Q I h
  refine isTrue_and (thn (ha pins s σ H _ I h) fun c s1 ⟨H1, I1, q1⟩ => ?_)
  cases c with
  | true => exact hb wh pins s1 σ H1 Q I1 q1
  | false => exact ⟨H1, I1, q1⟩
theorem pw_or (ha : PT X a tA) (hb : PW X (.BoolOp .Or (b :: rest) pos) tB') : PW X (.BoolOp .Or (a :: b :: rest) pos) (tOr tA tB') := by
  intro wh pins s σ H Q I h
  refine isTrue_or (thn (ha pins s σ H _ I h) fun c s1 ⟨H1, I1, q1⟩ => ?_)
  cases c with
  | true => exact ⟨H1, I1, q1⟩
  | false => exact hb wh pins s1 σ H1 Q I1 q1
theorem pt_not (ha : PT X a tA) : PT X (.UnaryOp .Not a pos) (tNot tA) := by
  intro pins s σ H Q I h
  exact isTrue_not (ha pins s σ H (fun c H1 => Q (!c) H1) I h)
/-- .. as values (bools) -/
def tAndV (ta tb : TE) : TE := fun σ H Q => ta σ H fun x H1 => ∃ c, x = .bl c ∧ if c = true then tb σ H1 Q else Q (.bl false) H1
def tOrV (ta tb : TE) : TE := fun σ H Q => ta σ H fun x H1 => ∃ c, x = .bl c ∧ if c = true then Q (.bl true) H1 else tb σ H1 Q
theorem pe_one {op} {t : TE} (h : PE X a t) : PE X (.BoolOp op [a] pos) t := fun pins s σ H Q I hw => BoolOp_one (h pins s σ H Q I hw)
theorem pe_and (ha : PE X a ta) (hb : PE X (.BoolOp .And (b :: rest) pos) tb) : PE X (.BoolOp .And (a :: b :: rest) pos) (tAndV ta tb) := by
  intro pins s σ H Q I h
  refine BoolOp_and (thn (ha pins s σ H _ I h) fun v s1 ⟨x, H1, I1, r1, q1⟩ => ?_)
  obtain ⟨c, rfl, q1⟩ := q1
  cases r1
  refine wpAny_truthy_bool ?_
  cases c with
  | true => exact hb pins s1 σ H1 Q I1 q1
  | false => exact ⟨.bl false, H1, I1, rfl, q1⟩
theorem pe_or (ha : PE X a ta) (hb : PE X (.BoolOp .Or (b :: rest) pos) tb) : PE X (.BoolOp .Or (a :: b :: rest) pos) (tOrV ta tb) := by
  intro pins s σ H Q I h
  refine BoolOp_or (thn (ha pins s σ H _ I h) fun v s1 ⟨x, H1, I1, r1, q1⟩ => ?_)
  obtain ⟨c, rfl, q1⟩ := q1
  cases r1
  refine wpAny_truthy_bool ?_
  cases c with
  | false => exact hb pins s1 σ H1 Q I1 q1
  | true => exact ⟨.bl true, H1, I1, rfl, q1⟩
end
end L2

namespace L2
open PySem PySem.Spec PyProof.Rows

/-! ### a list, a tuple that is read: tracked, frozen, or an object of the module -/
def SqL (K : PySem.W.Frag) (H : Hp) (a : Addr) (xs : List V) : Prop :=
  Rd H a (.lst xs) ∨
    ∃ (o : Obj) (its : Array Value) (n : Nat), K.lookup a = some o ∧ o.cls = .type "list" ∧ o.dict = none ∧ o.data = .seq its n ∧ its.size ≤ sizeLine ∧ Vals xs its.toList
def SqT (K : PySem.W.Frag) (H : Hp) (a : Addr) (xs : List V) : Prop :=
  Rd H a (.tup xs) ∨
    ∃ (o : Obj) (its : Array Value) (n : Nat), K.lookup a = some o ∧ o.cls = .type "tuple" ∧ o.data = .seq its n ∧ its.size ≤ sizeLine ∧ Vals xs its.toList
def absV : Value → Option V
  | .none => some .non
  | .bool b => some (.bl b)
  | .int i _ => some (.int i)
  | .str x _ => some (.str x)
  | .bytes b _ => some (.byt b)
  | .float b _ => some (.flt b)
  | .ref a => some (.ref a)
  | .type n => some (.ty n)
  | _ => none
theorem RelV.abs {x : V} {u : Value} (r : RelV x u) : absV u = some x := by
  cases x with
  | non => cases r; rfl
  | bl _ => cases r; rfl
  | int _ => obtain ⟨t, rfl⟩ := r; rfl
  | str _ => obtain ⟨t, rfl⟩ := r; rfl
  | byt _ => obtain ⟨t, rfl⟩ := r; rfl
  | flt _ => obtain ⟨t, rfl⟩ := r; rfl
  | ref _ => cases r; rfl
  | ty _ => cases r; rfl
theorem RelV.inj {x y : V} {u : Value} (r : RelV x u) (q : RelV y u) : x = y := Option.some.inj (r.abs.symm.trans q.abs)
theorem Vals.inj : ∀ {xs ys : List V} {us : List Value}, Vals xs us → Vals ys us → xs = ys
  | _, _, _, .nil, .nil => rfl
  | _, _, _, .cons r t, .cons r' t' => by rw [r.inj r', Vals.inj t t']
section
variable {X : Cx} {pins : List (Addr × Obj)} {σ : St} {H : Hp} {s : Shared} {a : Addr} {xs ys : List V}
theorem SqL.of {K : PySem.W.Frag} (h : H a = some (.lst xs)) : SqL K H a xs := .inl (.inl h)
theorem SqT.of {K : PySem.W.Frag} (h : H a = some (.tup xs)) : SqT K H a xs := .inl (.inl h)
theorem Inv.list (I : Inv X pins σ H s) (h : SqL X.K H a xs) : ∃ its : List Value, Vals xs its ∧ PlainL s.heap a its.toArray ∧ xs.length ≤ sizeLine := by
  rcases h with h | ⟨o, its, n, hk, hc, hd, hs, hz, r⟩
  · obtain ⟨z, its, n, r, e⟩ := h.ok I.hok
    exact ⟨its, r, ⟨_, n, e, rfl, rfl, rfl⟩, z⟩
  · refine ⟨its.toList, r, ⟨o, n, I.kIn a o hk, hc, hd, by simpa using hs⟩, ?_⟩
    have e := r.length
    simp only [Array.length_toList] at e
    omega
theorem Inv.tuple (I : Inv X pins σ H s) (h : SqT X.K H a xs) : ∃ its : List Value, Vals xs its ∧ IsTup s.heap a its.toArray ∧ xs.length ≤ sizeLine := by
  rcases h with h | ⟨o, its, n, hk, hc, hs, hz, r⟩
  · obtain ⟨z, its, r, p⟩ := h.ok I.hok
    exact ⟨its, r, p, z⟩
  · refine ⟨its.toList, r, ⟨o, I.kIn a o hk, hc, n, by simpa using hs⟩, ?_⟩
    have e := r.length
    simp only [Array.length_toList] at e
    omega
theorem Inv.list_inj (I : Inv X pins σ H s) (h : SqL X.K H a xs) (h' : SqL X.K H a ys) : xs = ys := by
  obtain ⟨its, r, ⟨o, n, e, _, _, d⟩, _⟩ := I.list h
  obtain ⟨its', r', ⟨o', n', e', _, _, d'⟩, _⟩ := I.list h'
  rw [e] at e'; cases e'
  rw [d] at d'
  injection d' with d1 _
  have : its = its' := by simpa using congrArg Array.toList d1
  subst this
  exact r.inj r'
theorem Inv.tuple_inj (I : Inv X pins σ H s) (h : SqT X.K H a xs) (h' : SqT X.K H a ys) : xs = ys := by
  obtain ⟨its, r, ⟨o, e, _, n, d⟩, _⟩ := I.tuple h
  obtain ⟨its', r', ⟨o', e', _, n', d'⟩, _⟩ := I.tuple h'
  rw [e] at e'; cases e'
  rw [d] at d'
  injection d' with d1 _
  have : its = its' := by simpa using congrArg Array.toList d1
  subst this
  exact r.inj r'
end

/-! ### another wish about exceptions -/
abbrev Cx.wish (X : Cx) (E : Value → Shared → Prop) : Cx := { X with xe := E }
/-- no exception leaves -/
abbrev Cx.nox (X : Cx) : Cx := X.wish fun _ _ => False
theorem Cx.Ok.wish {X : Cx} (ok : X.Ok) (E : Value → Shared → Prop) : (X.wish E).Ok :=
  ⟨ok.mod, ok.kind, ok.glob, ok.blt, ok.above, ok.inj, ok.has, ok.cab, ok.hd, ok.frames, ok.stk, ok.exf, ok.bs, ok.bsz, ok.noex, ok.exfs, ok.funs, ok.frf⟩
theorem Cx.Ok.unwish {X : Cx} {E : Value → Shared → Prop} (ok : (X.wish E).Ok) : X.Ok :=
  ⟨ok.mod, ok.kind, ok.glob, ok.blt, ok.above, ok.inj, ok.has, ok.cab, ok.hd, ok.frames, ok.stk, ok.exf, ok.bs, ok.bsz, ok.noex, ok.exfs, ok.funs, ok.frf⟩
section
variable {X : Cx} {pins : List (Addr × Obj)} {σ : St} {H : Hp} {s : Shared} {E : Value → Shared → Prop}
theorem Inv.wish (I : Inv X pins σ H s) (E : Value → Shared → Prop) : Inv (X.wish E) pins σ H s := ⟨I.ok.wish E, I.os, I.bare, I.base, I.loc, I.cell, I.free, I.freeC, I.pin, I.hok, I.len⟩
theorem Inv.unwish (I : Inv (X.wish E) pins σ H s) : Inv X pins σ H s := ⟨I.ok.unwish, I.os, I.bare, I.base, I.loc, I.cell, I.free, I.freeC, I.pin, I.hok, I.len⟩
theorem SP.unwish {D : Ends} {f : Flow} {s' : Shared} (h : SP (X.wish E) pins D f s') : SP X pins D f s' := by
  cases f with
  | next => obtain ⟨σ', H', I, q⟩ := h; exact ⟨σ', H', I.unwish, q⟩
  | brk => obtain ⟨σ', H', I, q⟩ := h; exact ⟨σ', H', I.unwish, q⟩
  | cont => obtain ⟨σ', H', I, q⟩ := h; exact ⟨σ', H', I.unwish, q⟩
  | ret u => obtain ⟨v, σ', H', I, r, q⟩ := h; exact ⟨v, σ', H', I.unwish, r, q⟩
theorem PSs.nox {st : List Stmt} {t : TS} (h : PSs X.nox st t) : PSs X st t := fun pins s σ H D I hw =>
  wpAny_mono (h pins s σ H D (I.wish _) hw) (fun _ _ q => q.unwish) fun _ _ z => False.elim z
end

/-! ### blocks and small statements -/
section
variable {X : Cx} {st : Stmt} {rest : List Stmt} {t u : TS} {e : Expr} {te : TE} {pos : Pos}
def tNext : TS := fun D σ H => D.nx σ H
def tSeq (t u : TS) : TS := fun D σ H => t { D with nx := u D } σ H
theorem pss_nil : PSs X [] tNext := fun _ _ σ H _ I h => wpAny_execs_nil ⟨σ, H, I, h⟩
theorem pss_cons (h1 : PS X st t) (h2 : PSs X rest u) : PSs X (st :: rest) (tSeq t u) := by
  intro pins s σ H D I h
  refine wpAny_execs_cons (thn (h1 pins s σ H { D with nx := u D } I h) fun f s1 q => ?_)
  cases f with
  | next =>
    obtain ⟨σ', H', I', q⟩ := q
    exact h2 pins s1 σ' H' D I' q
  | ret v => exact q
  | brk => exact q
  | cont => exact q
def tRet (te : TE) : TS := fun D σ H => te σ H D.rt
theorem ps_ret (he : PE X e te) : PS X (.Return (some e) pos) (tRet te) := by
  intro pins s σ H D I h
  exact wpAny_Return_some (thn (he pins s σ H _ I h) fun v s1 ⟨x, H1, I1, r1, q1⟩ => ⟨x, σ, H1, I1, r1, q1⟩)
def tIfS (c : TT) (t u : TS) : TS := fun D σ H => c σ H fun b H1 => if b = true then t D σ H1 else u D σ H1
theorem ps_if {c : Expr} {a b : List Stmt} {tc : TT} (hc : PT X c tc) (ha : PSs X a t) (hb : PSs X b u) : PS X (.If c a b pos) (tIfS tc t u) := by
  intro pins s σ H D I h
  refine wpAny_If (thn (hc pins s σ H _ I h) fun d s1 ⟨H1, I1, q1⟩ => ?_)
  cases d with
  | true => exact ha pins s1 σ H1 D I1 q1
  | false => exact hb pins s1 σ H1 D I1 q1
/-- code that the proof never comes to -/
def tNever : TS := fun _ _ _ => False
theorem pss_never {sts : List Stmt} : PSs X sts tNever := fun _ _ _ _ _ _ h => h.elim
end

/-! ### targets -/
abbrev TG := V → St → Hp → (St → Hp → Prop) → Prop
abbrev TGs := List V → St → Hp → (St → Hp → Prop) → Prop
def PG (X : Cx) (target : Expr) (t : TG) : Prop :=
  ∀ (pins : List (Addr × Obj)) (s : Shared) (σ : St) (H : Hp) (v : V) (u : Value) (Q : St → Hp → Prop), Inv X pins σ H s → RelV v u → t v σ H Q →
    wpAny (model X.prog X.w) X.A (assign target X.env u) (fun _ s' => ∃ σ' H', Inv X pins σ' H' s' ∧ Q σ' H') X.xe s
/-- several targets, one after another -/
def PGs (X : Cx) (ts : List Expr) (t : TGs) : Prop :=
  ∀ (pins : List (Addr × Obj)) (s : Shared) (σ : St) (H : Hp) (vs : List V) (us : List Value) (Q : St → Hp → Prop), Inv X pins σ H s → Vals vs us → t vs σ H Q →
    wpAny (model X.prog X.w) X.A (assignInOrder ((assignEach ts X.env).map (·.2)) us) (fun _ s' => ∃ σ' H', Inv X pins σ' H' s' ∧ Q σ' H') X.xe s
section
variable {X : Cx} {pos : Pos}
def gName (i : Nat) : TG := fun v σ H Q => Q (σ.set i (some v)) H
theorem pg_name {i : Nat} {x : Str} (hN : X.N.Nodup) (hi : X.N[i]? = some x) (hx : Loc X.env.scope x) (hf : X.fn x = true ∨ X.env.scope.names.lookup x = some .local := by first | exact .inl rfl | exact .inr rfl | assumption) : PG X (.Name x pos) (gName i) := by
  intro pins s σ H v u Q I r h
  exact wpAny_assign_Name (store_ok I hN hi hx r (fun s' I' => ⟨_, H, I', h⟩) hf)
def gNil : TGs := fun vs σ H Q => vs = [] ∧ Q σ H
def gCons (t : TG) (u : TGs) : TGs := fun vs σ H Q => ∃ v r, vs = v :: r ∧ t v σ H fun σ' H' => u r σ' H' Q
theorem pgs_nil : PGs X [] gNil := by
  intro pins s σ H vs us Q I r h
  obtain ⟨e, h⟩ := h
  subst e
  cases r
  exact assignInOrder_nil ⟨σ, H, I, h⟩
theorem pgs_cons {e : Expr} {es : List Expr} {t : TG} {u : TGs} (h1 : PG X e t) (h2 : PGs X es u)
    (hs : (assignEach (e :: es) X.env).map (·.2) = assign e X.env :: (assignEach es X.env).map (·.2) := by rfl) : PGs X (e :: es) (gCons t u) := by
  intro pins s σ H vs us Q I r h
  obtain ⟨v, vr, e1, h⟩ := h
  subst e1
  cases r with
  | cons r rr =>
    rw [hs]
    refine assignInOrder_cons (thn (h1 pins s σ H _ _ _ I r h) fun _ s1 ⟨σ1, H1, I1, q1⟩ => ?_)
    exact h2 pins s1 σ1 H1 _ _ Q I1 rr q1
/-- (a, b, ..) = a tuple of that length -/
def gTup (K : PySem.W.Frag) (n : Nat) (t : TGs) : TG := fun v σ H Q => ∃ a xs, v = .ref a ∧ SqT K H a xs ∧ xs.length = n ∧ t xs σ H Q
theorem pg_tup {es : List Expr} {k : Nat} {t : TGs} {n : Nat} (hc : X.calm = true) (h : PGs X es t)
    (hn : (assignEach es X.env).length = n := by rfl) (hst : (assignEach es X.env).findIdx? (·.1) = none := by rfl) : PG X (.Tuple es k pos) (gTup X.K n t) := by
  intro pins s σ H v u Q I r hw
  obtain ⟨a, xs, e1, hq, hl, hw⟩ := hw
  subst e1
  cases r
  obtain ⟨its, rv, ht, hz⟩ := I.tuple hq
  refine assign_Tuple_tuple (I.ok.hd hc) ht (by simp [hn, ← hl, rv.length]) hst fun h' hx => ?_
  have I1 : Inv X pins σ H { s with heap := h' } := I.kept (t' := s.toks) fun b o e => hx b o (Nat.ne_of_lt (Heap.lt_size e)) e
  exact h pins _ σ H xs _ Q I1 (by simpa using rv) hw
/-- target = value -/
def tAsg (te : TE) (g : TG) : TS := fun D σ H => te σ H fun x H1 => g x σ H1 D.nx
theorem ps_asg {tg e : Expr} {te : TE} {g : TG} (he : PE X e te) (hg : PG X tg g) (hs : swapsWithSole [tg] e pos.line X.env = pure false := by rfl) (hw : swappedStores [tg] e X.env = pure none := by rfl)
    (h1 : (assignEach [tg] X.env).map (·.2) = [assign tg X.env] := by rfl) : PS X (.Assign [tg] e pos) (tAsg te g) := by
  intro pins s σ H D I h
  refine wpAny_Assign_stores (thn (he pins s σ H _ I h) fun v s1 ⟨x, H1, I1, r1, q1⟩ => ?_) hs hw
  rw [h1]
  exact thn (hg pins s1 σ H1 x v _ I1 r1 q1) fun _ s2 q => q
/-- name = value -/
theorem ps_set {i : Nat} {x : Str} {e : Expr} {te : TE} {pos' : Pos} (hN : X.N.Nodup) (hi : X.N[i]? = some x) (hx : Loc X.env.scope x) (he : PE X e te) (hs : swapsWith e (some (.Name x pos')) pos.line X.env = pure false := by rfl) (hf : X.fn x = true ∨ X.env.scope.names.lookup x = some .local := by first | exact .inl rfl | exact .inr rfl | assumption) :
    PS X (.Assign [.Name x pos'] e pos) (tAsg te (gName i)) := by
  intro pins s σ H D I h
  refine wpAny_Assign_Name (thn (he pins s σ H _ I h) fun v s1 ⟨y, H1, I1, r1, q1⟩ => ?_) hs
  exact store_ok I1 hN hi hx r1 (fun s2 I2 => ⟨_, H1, I2, q1⟩) hf
/-- a, b = x, y with plain local names: stored from the right; the pair itself is not tracked (the opening rows as in PyProof/Rows/TupAssign.lean:23) -/
def tPar (i j : Nat) (ta : TA) : TS := fun D σ H => ta σ H fun vs H1 => ∃ v w, vs = [v, w] ∧ D.nx ((σ.set i (some v)).set j (some w)) H1
theorem ps_par {i j : Nat} {x y : Str} {a b : Expr} {ta : TA} {px py pt : Pos} {kt k2 pt2} (hc : X.calm = true) (hN : X.N.Nodup) (hi : X.N[i]? = some x) (hj : X.N[j]? = some y) (hij : i ≠ j)
    (hx : X.env.scope.names.lookup x = some .local) (hy : X.env.scope.names.lookup y = some .local) (ha : PA X [a, b] ta)
    (hw : swappedStores [.Tuple [.Name x px, .Name y py] kt pt] (.Tuple [a, b] k2 pt2) X.env = pure (some [x, y]))
    (hs : swapsWithSole [.Tuple [.Name x px, .Name y py] kt pt] (.Tuple [a, b] k2 pt2) pos.line X.env = pure false := by rfl) :
    PS X (.Assign [.Tuple [.Name x px, .Name y py] kt pt] (.Tuple [a, b] k2 pt2) pos) (tPar i j ta) := by
  intro pins s σ H D I h
  rw [exec_Assign_arm]
  refine wpAny_bind (wpAny_standAt ?_)
  rw [hs]
  refine wpAny_bind (wpAny_pure ?_)
  rw [if_neg (by decide)]
  refine wpAny_bind (Tuple_ (thn (ha _ pins s σ H _ I h) fun us s1 ⟨vs, H1, I1, r1, q1⟩ => ?_))
  obtain ⟨v, w, e1, q1⟩ := q1
  subst e1
  obtain ⟨u1, u2, rfl, rv, rw'⟩ : ∃ u1 u2, us = [u1, u2] ∧ RelV v u1 ∧ RelV w u2 := by
    cases r1 with
    | cons p q =>
      cases q with
      | cons p' q' =>
        cases q'
        exact ⟨_, _, rfl, p, p'⟩
  refine wpAny_newObj_type ?_ (by show 2 ≤ sizeLine; decide)
  have I2 : Inv X pins σ H1 { s1 with heap := s1.heap.push { cls := .type "tuple", data := .seq [u1, u2].toArray } } := I1.kept (t' := s1.toks) fun b o e => Heap.get?_push_of_some _ e
  rw [hw]
  refine wpAny_bind (wpAny_pure ?_)
  show wpAny (model X.prog X.w) X.A (do rule "assign.swapped-stores"; let items ← unpackItems (.ref s1.heap.objs.size) 2 none; assignInOrder [fun v => bindName X.env y v, fun v => bindName X.env x v] items.reverse; pure Flow.next) _ _ _
  refine wpAny_bind (wpAny_rule (wpAny_bind (unpackItems_tuple (items := #[u1, u2]) (I.ok.hd hc) (IsTup.new s1.heap _) fun h' hx' => ?_)))
  have I3 := I2.kept (h' := h') (t' := s1.toks) fun b o e => hx' b o (Nat.ne_of_lt (Heap.lt_size e)) e
  show wpAny _ _ (assignInOrder [fun v => bindName X.env y v, fun v => bindName X.env x v] [u2, u1] >>= fun _ => pure Flow.next) _ _ _
  refine wpAny_bind (assignInOrder_cons (wpAny_bindName (store_ok I3 hN hj (.inl hy) rw' (fun s2 I4 => ?_) (.inr hy))))
  refine assignInOrder_cons (wpAny_bindName (store_ok I4 hN hi (.inl hx) rv (fun s3 I5 => assignInOrder_nil (wpAny_pure ?_)) (.inr hx)))
  rw [List.set_comm _ _ (Ne.symm hij)] at I5
  exact ⟨_, H1, I5, q1⟩
end

/-! ### while -/
section
variable {X : Cx} {pos : Pos}
/-- the invariant W with its measure -/
def tWhile (c : TT) (tb : TS) : TS := fun D σ H => ∃ W : Nat → St → Hp → Prop, (∃ m, W m σ H) ∧ ∀ m σ H, W m σ H →
  c σ H fun b H1 => if b = true then ∃ N : St → Hp → Prop, (∀ σ' H', N σ' H' → ∃ m', m' < m ∧ W m' σ' H') ∧ tb { D with nx := N, ct := N, bk := D.nx } σ H1 else D.nx σ H1
theorem ps_while {c : Expr} {body : List Stmt} {tc : TT} {tb : TS} (hp : PassesOwn (model X.prog X.w) X.A X.env X.xe) (hc : PT X c tc) (hb : PSs X body tb) : PS X (.While c body [] pos) (tWhile tc tb) := by
  intro pins s σ H D I h
  obtain ⟨W, ⟨m0, w0⟩, turn⟩ := h
  refine wpAny_While (codeAny_whileLoop (fun n s' => ∃ σ' H', Inv X pins σ' H' s' ∧ W n σ' H') ?_ m0 ⟨σ, H, I, w0⟩)
  rintro n s1 ⟨σ1, H1, I1, w1⟩
  refine wpAny_passesOwn hp (thn (hc pins s1 σ1 H1 _ I1 (turn n σ1 H1 w1)) fun b s2 ⟨H2, I2, q2⟩ => ?_)
  cases b with
  | true =>
    obtain ⟨N, hN, q2⟩ := q2
    rw [if_pos rfl]
    refine wpAny_passesOwn hp (thn (hb pins s2 σ1 H2 _ I2 q2) fun f s3 q3 => ?_)
    cases f with
    | next =>
      obtain ⟨σ3, H3, I3, n3⟩ := q3
      obtain ⟨m', hm, w3⟩ := hN σ3 H3 n3
      exact ⟨m', hm, σ3, H3, I3, w3⟩
    | cont =>
      obtain ⟨σ3, H3, I3, n3⟩ := q3
      obtain ⟨m', hm, w3⟩ := hN σ3 H3 n3
      exact ⟨m', hm, σ3, H3, I3, w3⟩
    | brk => exact q3
    | ret v => exact q3
  | false =>
    rw [if_neg Bool.false_ne_true]
    exact wpAny_execs_nil ⟨σ1, H2, I2, q2⟩
end

/-! ### what a loop or a comprehension walks -/
/-- at turn i: it yields x (the heap may grow), or it stops -/
structure It where
  go : Nat → Hp → Prop
  yld : Nat → Hp → V → Hp → Prop
  stop : Nat → Hp → Prop
/-- the iterator's own objects may turn: they are not the frame's, not pinned, younger than the entry (or a comprehension's own) -/
def FpOk (X : Cx) (pins : List (Addr × Obj)) (H : Hp) (b : Addr) : Prop :=
  H b = none ∧ b ≠ X.env.locals ∧ b ∉ X.fs ∧ (b ∈ X.ex ∨ X.s₀.heap.objs.size ≤ b) ∧ (∀ x c, X.env.cells.lookup x = some c → c ≠ b) ∧ ∀ p ∈ X.pn ++ pins, p.1 ≠ b
theorem Inv.fpOk {X : Cx} {pins : List (Addr × Obj)} {σ : St} {H H' : Hp} {s : Shared} {b : Addr} (I : Inv X pins σ H s) (hb : s.heap.objs.size ≤ b) (hn : H' b = none) : FpOk X pins H' b := by
  refine ⟨hn, Nat.ne_of_gt (Nat.lt_of_lt_of_le I.lt hb), I.nofs hb, .inr (Nat.le_trans I.sz hb), fun x c e z => ?_, fun p hp z => ?_⟩
  · obtain ⟨v, q⟩ := I.cell x c e
    exact absurd (Nat.lt_of_lt_of_le q.lt (by rw [z]; exact hb)) (Nat.lt_irrefl _)
  · exact absurd (Nat.lt_of_lt_of_le (Heap.lt_size (I.pin p hp).1) (by rw [z]; exact hb)) (Nat.lt_irrefl _)
structure Turn (P : Program) (w : World) (K : PySem.W.Frag) (tg : Expr) (J : It) (fp : List Addr) (it : Addr) (tn : Nat → Heap → Prop) : Prop where
  mem : it ∈ fp
  obj : ∀ i h, tn i h → ∀ b ∈ fp, ∃ o, h.get? b = some o ∧ ∀ v, o.data ≠ .cell v
  keep : ∀ i h h', tn i h → (∀ b ∈ fp, ∀ o, h.get? b = some o → h'.get? b = some o) → tn i h'
  item : ∀ (X : Cx), X.prog = P → X.w = w → X.K = K → X.calm = true → ∀ (i : Nat) (pins : List (Addr × Obj)) (s : Shared) (σ : St) (H : Hp) (E : Value → Shared → Prop), Inv X pins σ H s → (∀ b ∈ fp, FpOk X pins H b) → tn i s.heap → J.go i H →
    wpAny (model P w) X.A (pyNext (.ref it)) (fun r s1 => ∃ u, r = some u ∧
      wpAny (model P w) X.A (letOwnedTupleGo tg (.ref it) u) (fun _ s2 => ∃ x H', Inv X pins σ H' s2 ∧ RelV x u ∧ J.yld i H x H' ∧ tn (i + 1) s2.heap ∧ ∀ b ∈ fp, H' b = none) E s1) E s
  done : ∀ (X : Cx), X.prog = P → X.w = w → X.K = K → X.calm = true → ∀ (i : Nat) (pins : List (Addr × Obj)) (s : Shared) (σ : St) (H : Hp) (E : Value → Shared → Prop), Inv X pins σ H s → (∀ b ∈ fp, FpOk X pins H b) → tn i s.heap → J.stop i H →
    wpAny (model P w) X.A (pyNext (.ref it)) (fun r s1 => r = none ∧ Inv X pins σ H s1) E s
  self : ∀ (A : Around) (i : Nat) (s : Shared) (Q : Value → Shared → Prop) (E : Value → Shared → Prop), tn i s.heap → Q (.ref it) s → wpAny (model P w) A (pyIter (.ref it)) Q E s
abbrev TI := St → Hp → (It → Hp → Prop) → Prop
/-- an iterator has come -/
def PIE (X : Cx) (pins : List (Addr × Obj)) (σ : St) (tg : Expr) (R : It → Hp → Prop) (itv : Value) (s2 : Shared) : Prop :=
  ∃ (it : Addr) (fp : List Addr) (tn : Nat → Heap → Prop) (J : It) (H' : Hp), itv = .ref it ∧ Inv X pins σ H' s2 ∧ Turn X.prog X.w X.K tg J fp it tn ∧ tn 0 s2.heap ∧ (∀ b ∈ fp, FpOk X pins H' b) ∧ R J H'
def PI (X : Cx) (tg iter : Expr) (wi : TI) : Prop :=
  ∀ (pins : List (Addr × Obj)) (s : Shared) (σ : St) (H : Hp) (R : It → Hp → Prop), Inv X pins σ H s → wi σ H R →
    wpAny (model X.prog X.w) X.A (eval iter X.env) (fun v s1 => wpAny (model X.prog X.w) X.A (pyIter v) (PIE X pins σ tg R) X.xe s1) X.xe s

/-- the step ahead of the store is nothing for an iterator that keeps no tuple -/
theorem go_of {M : Model} {A : Around} {E : Value → Shared → Prop} {s : Shared} {tg : Expr} {it : Addr} {u : Value} {o : Obj} {n : String} {vs : Array Value} {Q : Unit → Shared → Prop} (ho : s.heap.get? it = some o) (hc : o.cls = .type n) (hd : o.data = .fields vs)
    (hn : ["enumerate", "zip", "dict_itemiterator", "dict_reverseitemiterator", "odict_iterator", "itertools.zip_longest", "itertools.pairwise"].contains n = false) (hQ : Q () s) : wpAny M A (letOwnedTupleGo tg (.ref it) u) Q E s := by
  unfold letOwnedTupleGo
  cases tg <;> first
    | exact wpAny_pure hQ
    | (cases u <;> first
        | exact wpAny_pure hQ
        | (refine wpAny_bind (wpAny_load ho ?_)
           rw [hc, hd]
           show wpAny M A (if (["enumerate", "zip", "dict_itemiterator", "dict_reverseitemiterator", "odict_iterator", "itertools.zip_longest", "itertools.pairwise"].contains n && vs[0]? == some (rawInt _)) = true then _ else _) Q E s
           rw [if_neg (by intro h; rw [hn, Bool.false_and] at h; cases h)]
           exact wpAny_pure hQ))

/-- the list at a, as it stands at each turn (a loop may append to it) -/
def Itl (K : PySem.W.Frag) (a : Addr) : It :=
  ⟨fun i H => ∃ xs x, SqL K H a xs ∧ xs[i]? = some x, fun i H x H' => H' = H ∧ ∀ xs, SqL K H a xs → xs[i]? = some x, fun i H => ∃ xs, SqL K H a xs ∧ xs.length ≤ i⟩
def Itt (K : PySem.W.Frag) (a : Addr) : It :=
  ⟨fun i H => ∃ xs x, SqT K H a xs ∧ xs[i]? = some x, fun i H x H' => H' = H ∧ ∀ xs, SqT K H a xs → xs[i]? = some x, fun i H => ∃ xs, SqT K H a xs ∧ xs.length ≤ i⟩
/-- lo, lo + 1, .. (n of them) -/
def Itr (lo : Int) (n : Nat) : It := ⟨fun i _ => i < n, fun i H x H' => H' = H ∧ x = .int (lo + i), fun i _ => n ≤ i⟩
theorem turn_list {P : Program} {w : World} {K : PySem.W.Frag} {tg : Expr} (a it : Addr) : Turn P w K tg (Itl K a) [it] it (fun i h => h.IsListIter it a i) where
  mem := by simp
  obj := fun i h st b hb => by
    have e : b = it := by simpa using hb
    subst e
    obtain ⟨o, e, c, d⟩ := st
    exact ⟨o, e, fun v z => by rw [d] at z; cases z⟩
  keep := fun i h h' st k => st.at fun o e => k it (by simp) o e
  item := by
    intro X hP hw hK hc i pins s σ H E I hf st hg
    subst hP hw hK
    obtain ⟨xs, x, hq, hx⟩ := hg
    obtain ⟨its, rv, p, hz⟩ := I.list hq
    obtain ⟨u, hu, ru⟩ := rv.get hx
    obtain ⟨f0, f1, f2, f3, f4, f5⟩ := hf it (by simp)
    refine wpAny_pyNext_list_item st p.isList (x := u) (by simpa using hu) fun h' st' sb => ?_
    have I1 : Inv X pins σ H { s with heap := h' } := I.turned (t' := s.toks) (fun b o hb e => (sb.2 b hb).trans e) f0 f1 f3 f4 f5
    obtain ⟨o, e, c, d⟩ := id st'
    exact ⟨u, rfl, go_of (s := { s with heap := h' }) e c d (by decide) ⟨x, H, I1, ru, ⟨rfl, fun ys hy => by rw [I.list_inj hy hq]; exact hx⟩, st', fun b hb => (hf b hb).1⟩⟩
  done := by
    intro X hP hw hK hc i pins s σ H E I hf st hg
    subst hP hw hK
    obtain ⟨xs, hq, hx⟩ := hg
    obtain ⟨its, rv, p, hz⟩ := I.list hq
    obtain ⟨f0, f1, f2, f3, f4, f5⟩ := hf it (by simp)
    have hl := rv.length
    exact wpAny_pyNext_list_end (I.ok.hd hc) st p.isList (by simp; omega) fun h' eb => ⟨rfl, I.turned (t' := s.toks) (fun b o hb e => eb b o hb e) f0 f1 f3 f4 f5⟩
  self := fun _ _ _ _ _ st h => wpAny_pyIter_listiter st h
theorem turn_tuple {P : Program} {w : World} {K : PySem.W.Frag} {tg : Expr} (a it : Addr) : Turn P w K tg (Itt K a) [it] it (fun i h => h.IsTupleIter it a i) where
  mem := by simp
  obj := fun i h st b hb => by
    have e : b = it := by simpa using hb
    subst e
    obtain ⟨o, e, c, d⟩ := st
    exact ⟨o, e, fun v z => by rw [d] at z; cases z⟩
  keep := fun i h h' st k => st.at fun o e => k it (by simp) o e
  item := by
    intro X hP hw hK hc i pins s σ H E I hf st hg
    subst hP hw hK
    obtain ⟨xs, x, hq, hx⟩ := hg
    obtain ⟨its, rv, p, hz⟩ := I.tuple hq
    obtain ⟨u, hu, ru⟩ := rv.get hx
    obtain ⟨f0, f1, f2, f3, f4, f5⟩ := hf it (by simp)
    refine wpAny_pyNext_tuple_item st (show s.heap.IsTuple a its.toArray from p) (x := u) (by simpa using hu) fun h' st' sb => ?_
    have I1 : Inv X pins σ H { s with heap := h' } := I.turned (t' := s.toks) (fun b o hb e => (sb.2 b hb).trans e) f0 f1 f3 f4 f5
    obtain ⟨o, e, c, d⟩ := id st'
    exact ⟨u, rfl, go_of (s := { s with heap := h' }) e c d (by decide) ⟨x, H, I1, ru, ⟨rfl, fun ys hy => by rw [I.tuple_inj hy hq]; exact hx⟩, st', fun b hb => (hf b hb).1⟩⟩
  done := by
    intro X hP hw hK hc i pins s σ H E I hf st hg
    subst hP hw hK
    obtain ⟨xs, hq, hx⟩ := hg
    obtain ⟨its, rv, p, hz⟩ := I.tuple hq
    obtain ⟨f0, f1, f2, f3, f4, f5⟩ := hf it (by simp)
    have hl := rv.length
    exact wpAny_pyNext_tuple_end (I.ok.hd hc) st (show s.heap.IsTuple a its.toArray from p) (by simp; omega) fun h' eb => ⟨rfl, I.turned (t' := s.toks) (fun b o hb e => eb b o hb e) f0 f1 f3 f4 f5⟩
  self := fun _ _ _ _ _ st h => wpAny_pyIter_tupleiter st h
theorem turn_range {P : Program} {w : World} {K : PySem.W.Frag} {tg : Expr} (it : Addr) (lo : Int) (n : Nat) : Turn P w K tg (Itr lo n) [it] it (fun i h => IsRangeIter h it (lo + (i : Nat) * 1) ((n : Int) - (i : Nat)) 1) where
  mem := by simp
  obj := fun i h st b hb => by
    have e : b = it := by simpa using hb
    subst e
    exact ⟨_, st, fun v z => by
      have z' : Data.fields _ = Data.cell v := z
      cases z'⟩
  keep := fun i h h' st k => k it (by simp) _ st
  item := by
    intro X hP hw hK hc i pins s σ H E I hf st hg
    subst hP hw hK
    obtain ⟨f0, f1, f2, f3, f4, f5⟩ := hf it (by simp)
    have W := Walks.range (prog := X.prog) (w := X.w) (I.ok.hd hc) it lo 1 n
    refine W.item i s _ _ hg st fun v h' tk hv st' kk => ?_
    obtain ⟨t, rfl⟩ := hv
    have I1 : Inv X pins σ H { s with heap := h', toks := tk } := I.turned (fun b o hb e => kk b o (by simpa using hb) e) f0 f1 f3 f4 f5
    refine ⟨_, rfl, go_of (s := { s with heap := h', toks := tk }) (n := "range_iterator") st' rfl rfl (by decide) ⟨.int (lo + i), H, I1, ⟨t, ?_⟩, ⟨rfl, rfl⟩, st', fun b hb => (hf b hb).1⟩⟩
    rw [Int.mul_one]
  done := by
    intro X hP hw hK hc i pins s σ H E I hf st hg
    subst hP hw hK
    obtain ⟨f0, f1, f2, f3, f4, f5⟩ := hf it (by simp)
    exact wpAny_pyNext_range_end (I.ok.hd hc) st (by have : n ≤ i := hg; omega) fun h' eb => ⟨rfl, I.turned (t' := s.toks) (fun b o hb e => eb b o hb e) f0 f1 f3 f4 f5⟩
  self := fun _ _ _ _ _ st h => wpAny_pyIter_rangeiter st h
end L2

namespace L2
open PySem PySem.Spec PyProof.Rows
section
variable {X : Cx} {tg : Expr}
def iList (K : PySem.W.Frag) (tl : TE) : TI := fun σ H R => tl σ H fun x H1 => ∃ a, x = .ref a ∧ (∃ xs, SqL K H1 a xs) ∧ R (Itl K a) H1
def iTup (K : PySem.W.Frag) (tl : TE) : TI := fun σ H R => tl σ H fun x H1 => ∃ a, x = .ref a ∧ (∃ xs, SqT K H1 a xs) ∧ R (Itt K a) H1
theorem pi_list {l : Expr} {tl : TE} (hl : PE X l tl) : PI X tg l (iList X.K tl) := by
  intro pins s σ H R I h
  refine thn (hl pins s σ H _ I h) fun v s1 ⟨x, H1, I1, r1, q1⟩ => ?_
  obtain ⟨a, e, ⟨xs, hq⟩, q⟩ := q1
  subst e
  cases r1
  obtain ⟨its, rv, p, hz⟩ := I1.list hq
  refine wpAny_pyIter_list p.isList ?_
  refine ⟨s1.heap.objs.size, [s1.heap.objs.size], _, _, H1, rfl, I1.kept (t' := s1.toks) fun b o e => Heap.get?_push_of_some _ e, turn_list a _, ⟨_, Heap.get?_push_size _ rfl, rfl, rfl⟩, fun b hb => ?_, q⟩
  have e : b = s1.heap.objs.size := by simpa using hb
  subst e
  exact I1.fpOk (Nat.le_refl _) (I1.hok.fresh (Nat.le_refl _))
theorem pi_tup {l : Expr} {tl : TE} (hl : PE X l tl) : PI X tg l (iTup X.K tl) := by
  intro pins s σ H R I h
  refine thn (hl pins s σ H _ I h) fun v s1 ⟨x, H1, I1, r1, q1⟩ => ?_
  obtain ⟨a, e, ⟨xs, hq⟩, q⟩ := q1
  subst e
  cases r1
  obtain ⟨its, rv, p, hz⟩ := I1.tuple hq
  refine wpAny_pyIter_tuple (show s1.heap.IsTuple a its.toArray from p) ?_
  refine ⟨s1.heap.objs.size, [s1.heap.objs.size], _, _, H1, rfl, I1.kept (t' := s1.toks) fun b o e => Heap.get?_push_of_some _ e, turn_tuple a _, ⟨_, Heap.get?_push_size _ rfl, rfl, rfl⟩, fun b hb => ?_, q⟩
  have e : b = s1.heap.objs.size := by simpa using hb
  subst e
  exact I1.fpOk (Nat.le_refl _) (I1.hok.fresh (Nat.le_refl _))
/-- a range object just made, walked -/
theorem range_it {pins : List (Addr × Obj)} {σ : St} {H : Hp} {s : Shared} {R : It → Hp → Prop} {E : Value → Shared → Prop} {lo hi : Int} {t u v : Tok} {tk : Nat} (I : Inv X pins σ H s) (h1 : -(2 ^ 62) ≤ lo) (h2 : lo < 2 ^ 62) (h3 : -(2 ^ 62) ≤ hi) (h4 : hi < 2 ^ 62)
    (q : R (Itr lo (hi - lo).toNat) H) : wpAny (model X.prog X.w) X.A (pyIter (.ref s.heap.objs.size)) (PIE X pins σ tg R) E { s with heap := s.heap.push { cls := .type "range", data := .fields #[.int lo t, .int hi u, .int 1 v] }, toks := tk } := by
  refine wpAny_pyIter_range (IsRange.new ..) (small_one h1 h2 h3 h4) ?_
  have I1 : Inv X pins σ H { s with heap := s.heap.push { cls := .type "range", data := .fields #[.int lo t, .int hi u, .int 1 v] }, toks := tk } := I.kept fun b o e => Heap.get?_push_of_some _ e
  refine ⟨(s.heap.push { cls := .type "range", data := .fields #[.int lo t, .int hi u, .int 1 v] }).objs.size, [(s.heap.push { cls := .type "range", data := .fields #[.int lo t, .int hi u, .int 1 v] }).objs.size], _, _, H, rfl,
    I1.kept (t' := tk) fun b o e => Heap.get?_push_of_some _ e, turn_range _ lo (hi - lo).toNat, ?_, fun b hb => ?_, q⟩
  · have e1 : lo + ((0 : Nat) : Int) * 1 = lo := by simp
    have e2 : (((hi - lo).toNat : Nat) : Int) - ((0 : Nat) : Int) = Builtin.Range.rangeSize lo hi 1 := by rw [rangeSize_one]; split <;> omega
    show IsRangeIter _ _ (lo + ((0 : Nat) : Int) * 1) ((((hi - lo).toNat : Nat) : Int) - ((0 : Nat) : Int)) 1
    rw [e1, e2]
    exact Heap.get?_push_size _ rfl
  · have e : b = (s.heap.push { cls := .type "range", data := .fields #[.int lo t, .int hi u, .int 1 v] }).objs.size := by simpa using hb
    subst e
    exact I1.fpOk (Nat.le_refl _) (I1.hok.fresh (Nat.le_refl _))
def iRng1 (ta : TA) : TI := fun σ H R => ta σ H fun vs H1 => ∃ j : Int, vs = [.int j] ∧ -(2 ^ 62) ≤ j ∧ j < 2 ^ 62 ∧ R (Itr 0 j.toNat) H1
def iRng2 (ta : TA) : TI := fun σ H R => ta σ H fun vs H1 => ∃ i j : Int, vs = [.int i, .int j] ∧ (-(2 ^ 62) ≤ i ∧ i < 2 ^ 62 ∧ -(2 ^ 62) ≤ j ∧ j < 2 ^ 62) ∧ R (Itr i (j - i).toNat) H1
theorem pi_range1 {a : Expr} {ta : TA} {p pos : Pos} (hg : Gl X "range") (hm : X.mg "range" = none) (ha : PA X [a] ta) (hs : starEach [a] X.env = [(false, eval a X.env)] := by rfl) : PI X tg (.Call (.Name "range" p) [a] [] pos) (iRng1 ta) := by
  intro pins s σ H R I h
  refine Call_ (ld_blt I hg hm boot_range (PyProof.Rows.callWith_type1 (thn (ha pos pins s σ H _ I h) fun us s1 ⟨vs, H1, I1, r1, q1⟩ => ?_) hs rfl))
  obtain ⟨j, e, q1, q2, q⟩ := q1
  subst e
  cases r1 with
  | cons r rr =>
    cases rr
    obtain ⟨t, rfl⟩ := r
    exact call_range_1 (range_it I1 (by omega) (by omega) q1 q2 (by simpa using q))
theorem pi_range2 {a b : Expr} {ta : TA} {p pos : Pos} (hg : Gl X "range") (hm : X.mg "range" = none) (ha : PA X [a, b] ta) (hs : starEach [a, b] X.env = [(false, eval a X.env), (false, eval b X.env)] := by rfl) (hs2 : starEach [b] X.env = [(false, eval b X.env)] := by rfl) :
    PI X tg (.Call (.Name "range" p) [a, b] [] pos) (iRng2 ta) := by
  intro pins s σ H R I h
  refine Call_ (ld_blt I hg hm boot_range (PyProof.Rows.callWith_type1 (thn (ha pos pins s σ H _ I h) fun us s1 ⟨vs, H1, I1, r1, q1⟩ => ?_) (by rw [hs, hs2]) (by rw [hs2]; rfl)))
  obtain ⟨i, j, e, ⟨q1, q2, q3, q4⟩, q⟩ := q1
  subst e
  cases r1 with
  | cons r rr =>
    cases rr with
    | cons r' rr =>
      cases rr
      obtain ⟨t, rfl⟩ := r
      obtain ⟨t', rfl⟩ := r'
      exact call_range_2 (range_it I1 q1 q2 q3 q4 q)

/-! ### for -/
/-- W: the invariant by the turn and a measure; N: what the body is to reach -/
def tFor (wi : TI) (g : TG) (tb : TS) : TS := fun D σ H => wi σ H fun J H1 => ∃ W : Nat → Nat → St → Hp → Prop, (∃ m, W 0 m σ H1) ∧ ∀ i m σ H, W i m σ H →
  (J.stop i H ∧ D.nx σ H) ∨ (J.go i H ∧ ∃ N : St → Hp → Prop, (∀ σ' H', N σ' H' → ∃ m', m' < m ∧ W (i + 1) m' σ' H') ∧ ∀ x H', J.yld i H x H' → g x σ H' fun σ2 H2 => tb { D with nx := N, ct := N, bk := D.nx } σ2 H2)
/-- the records at fp as they stand -/
def pinsAt (fp : List Addr) (h : Heap) : List (Addr × Obj) := fp.filterMap fun b => (h.get? b).map fun o => (b, o)
theorem mem_pinsAt {fp : List Addr} {h : Heap} {b : Addr} {o : Obj} (hb : b ∈ fp) (e : h.get? b = some o) : (b, o) ∈ pinsAt fp h := List.mem_filterMap.mpr ⟨b, hb, by rw [e]; rfl⟩
theorem of_pinsAt {fp : List Addr} {h : Heap} {p : Addr × Obj} (hp : p ∈ pinsAt fp h) : p.1 ∈ fp ∧ h.get? p.1 = some p.2 := by
  obtain ⟨b, hb, e⟩ := List.mem_filterMap.mp hp
  cases q : h.get? b with
  | none => rw [q] at e; cases e
  | some o =>
    rw [q] at e
    have e' : (b, o) = p := Option.some.inj e
    subst e'
    exact ⟨hb, q⟩
theorem Inv.pinned {pins : List (Addr × Obj)} {σ : St} {H : Hp} {s : Shared} {fp : List Addr} (I : Inv X pins σ H s) (hf : ∀ b ∈ fp, FpOk X pins H b) (ho : ∀ b ∈ fp, ∃ o, s.heap.get? b = some o ∧ ∀ v, o.data ≠ .cell v) : Inv X (pins ++ pinsAt fp s.heap) σ H s :=
  I.pins_of fun p hp => (List.mem_append.mp hp).elim (fun z => I.pin p (List.mem_append_right _ z)) fun z => by
    obtain ⟨hb, e⟩ := of_pinsAt z
    obtain ⟨f0, f1, f2, _⟩ := hf p.1 hb
    obtain ⟨o, e', d⟩ := ho p.1 hb
    rw [e] at e'; cases e'
    exact ⟨e, f0, f1, f2, d⟩
theorem Inv.unpinned {pins pl : List (Addr × Obj)} {σ : St} {H : Hp} {s : Shared} (I : Inv X (pins ++ pl) σ H s) : Inv X pins σ H s := I.pins_of fun p hp => I.pin p (List.mem_append_right _ (List.mem_append_left _ hp))
theorem ps_for {iter : Expr} {body : List Stmt} {wi : TI} {g : TG} {tb : TS} {pos : Pos} (hp : PassesOwn (model X.prog X.w) X.A X.env X.xe) (hc : X.calm = true) (hi : PI X tg iter wi) (hg : PG X tg g) (hb : PSs X body tb)
    (hs : ∀ x, foldedSetIterable iter X.env x = pure x := by intro _; rfl) : PS X (.For tg iter body [] pos) (tFor wi g tb) := by
  intro pins s σ H D I h
  refine wpAny_For (thn (hi pins s σ H _ I h) fun v s1 h1 => thn h1 fun itv s2 h2 => ?_) hs
  obtain ⟨it, fp, tn, J, H2, e, I2, T, st2, f2, W, ⟨m0, w0⟩, turn⟩ := h2
  subst e
  -- what stays true of the iterator's objects through the loop
  have stat : ∀ {H' : Hp}, (∀ b ∈ fp, H' b = none) → ∀ b ∈ fp, FpOk X pins H' b := fun hn b hb => ⟨hn b hb, (f2 b hb).2⟩
  refine codeAny_forLoop_any (fun n s' => ∃ i σ' H', Inv X pins σ' H' s' ∧ tn i s'.heap ∧ (∀ b ∈ fp, H' b = none) ∧ W i n σ' H') ?_ m0 ⟨0, σ, H2, I2, st2, fun b hb => (f2 b hb).1, w0⟩
  rintro n s3 ⟨i, σ3, H3, I3, st3, fr3, w3⟩
  rcases turn i n σ3 H3 w3 with ⟨stop, qn⟩ | ⟨go, N, hN, step⟩
  · refine wpAny_passesOwn hp (thn (T.done X rfl rfl rfl hc i pins s3 σ3 H3 X.xe I3 (stat fr3) st3 stop) fun r s4 ⟨hr, I4⟩ => ?_)
    subst hr
    exact wpAny_execs_nil ⟨σ3, H3, I4, qn⟩
  · refine wpAny_passesOwn hp (thn (T.item X rfl rfl rfl hc i pins s3 σ3 H3 X.xe I3 (stat fr3) st3 go) fun r s4 ⟨u, hr, h4⟩ => ?_)
    subst hr
    refine wpAny_passesOwn hp (thn h4 fun _ s5 ⟨x, H5, I5, r5, y5, st5, fr5⟩ => ?_)
    have I5' := I5.pinned (stat fr5) (T.obj _ _ st5)
    refine wpAny_passesOwn hp (thn (hg _ s5 σ3 H5 x u _ I5' r5 (step x H5 y5)) fun _ s6 ⟨σ6, H6, I6, q6⟩ => ?_)
    refine wpAny_passesOwn hp (thn (hb _ s6 σ6 H6 _ I6 q6) fun f s7 q7 => ?_)
    have again : ∀ {σ7 : St} {H7 : Hp}, Inv X (pins ++ pinsAt fp s5.heap) σ7 H7 s7 → N σ7 H7 → ∃ m, m < n ∧ ∃ i σ' H', Inv X pins σ' H' s7 ∧ tn i s7.heap ∧ (∀ b ∈ fp, H' b = none) ∧ W i m σ' H' := fun {σ7 H7} I7 n7 => by
      obtain ⟨m', hm, w7⟩ := hN σ7 H7 n7
      refine ⟨m', hm, i + 1, σ7, H7, I7.unpinned, T.keep _ _ _ st5 fun b hb o e => (I7.pin (b, o) (List.mem_append_right _ (List.mem_append_right _ (mem_pinsAt hb e)))).1, fun b hb => ?_, w7⟩
      obtain ⟨o, e, d⟩ := T.obj _ _ st5 b hb
      exact (I7.pin (b, o) (List.mem_append_right _ (List.mem_append_right _ (mem_pinsAt hb e)))).2.1
    cases f with
    | next => obtain ⟨σ7, H7, I7, n7⟩ := q7; exact again I7 n7
    | cont => obtain ⟨σ7, H7, I7, n7⟩ := q7; exact again I7 n7
    | brk => obtain ⟨σ7, H7, I7, q7⟩ := q7; exact ⟨σ7, H7, I7.unpinned, q7⟩
    | ret v => obtain ⟨x7, σ7, H7, I7, r7, q7⟩ := q7; exact ⟨x7, σ7, H7, I7.unpinned, r7, q7⟩
end

/-! ### the forms one uses -/
end L2

namespace L2
open PySem PySem.Spec PyProof.Rows

abbrev R2 := V → V → Hp → VK → Prop
/-- a two-place operation on values: f is binaryOp op, inplaceOp op or compareOp op -/
def OpR (X : Cx) (f : Value → Value → Sem Value) (r : R2) : Prop :=
  ∀ (pins : List (Addr × Obj)) (s : Shared) (σ : St) (H : Hp) (x y : V) (v u : Value) (Q : VK), Inv X pins σ H s → RelV x v → RelV y u → r x y H Q →
    wpAny (model X.prog X.w) X.A (f v u) (EP X pins σ Q) X.xe s
/-- a one-place operation -/
def UnR (X : Cx) (f : Value → Sem Value) (r : V → Hp → VK → Prop) : Prop :=
  ∀ (pins : List (Addr × Obj)) (s : Shared) (σ : St) (H : Hp) (x : V) (v : Value) (Q : VK), Inv X pins σ H s → RelV x v → r x H Q →
    wpAny (model X.prog X.w) X.A (f v) (EP X pins σ Q) X.xe s
/-- a call of a value that is known (a builtin, a type) with values -/
def CallR (X : Cx) (f : Value) (r : List V → Hp → VK → Prop) : Prop :=
  ∀ (pins : List (Addr × Obj)) (s : Shared) (σ : St) (H : Hp) (xs : List V) (us : List Value) (Q : VK), Inv X pins σ H s → Vals xs us → r xs H Q →
    wpAny (model X.prog X.w) X.A (call f us) (EP X pins σ Q) X.xe s
def tOp (r : R2) (ta tb : TE) : TE := fun σ H Q => ta σ H fun x H1 => tb σ H1 fun y H2 => r x y H2 Q
def tUn (r : V → Hp → VK → Prop) (ta : TE) : TE := fun σ H Q => ta σ H fun x H1 => r x H1 Q
/-- ints in, under C, and a value out -/
def rI (C : Int → Int → Prop) (g : Int → Int → V) : R2 := fun x y H Q => ∃ i j, x = .int i ∧ y = .int j ∧ C i j ∧ Q (g i j) H
def rI0 (g : Int → Int → V) : R2 := fun x y H Q => ∃ i j, x = .int i ∧ y = .int j ∧ Q (g i j) H
def rU (g : Int → V) : V → Hp → VK → Prop := fun x H Q => ∃ i, x = .int i ∧ Q (g i) H

section
variable {X : Cx} {a b c : Expr} {ta tb tc : TE} {pos : Pos}

theorem binT (ha : PE X a ta) (hb : PE X b tb) {pins : List (Addr × Obj)} {s : Shared} {σ : St} {H : Hp} {R : V → V → Hp → Prop} (I : Inv X pins σ H s)
    (h : ta σ H fun x H1 => tb σ H1 fun y H2 => R x y H2) {Q : Value → Shared → Prop} {f : Value → Value → Sem Value}
    (hf : ∀ v u s2 x y H2, Inv X pins σ H2 s2 → RelV x v → RelV y u → R x y H2 → wpAny (model X.prog X.w) X.A (f v u) Q X.xe s2) :
    wpAny (model X.prog X.w) X.A (eval a X.env) (fun v s₁ => wpAny (model X.prog X.w) X.A (eval b X.env) (fun u s₂ => wpAny (model X.prog X.w) X.A (f v u) Q X.xe s₂) X.xe s₁) X.xe s := by
  refine thn (ha pins s σ H _ I h) fun v s1 ⟨x, H1, I1, r1, q1⟩ => ?_
  refine thn (hb pins s1 σ H1 _ I1 q1) fun u s2 ⟨y, H2, I2, r2, q2⟩ => ?_
  exact hf v u s2 x y H2 I2 r1 r2 q2

theorem pe_op {op : Operator} {r : R2} (ho : OpR X (binaryOp op) r) (ha : PE X a ta) (hb : PE X b tb) : PE X (.BinOp a op b pos) (tOp r ta tb) := by
  intro pins s σ H Q I h
  exact wpAny_BinOp (binT ha hb I h fun v u s2 x y H2 I2 rx ry q => ho pins s2 σ H2 x y v u Q I2 rx ry q)
theorem pe_un {op : UnaryOp} {r : V → Hp → VK → Prop} (ho : UnR X (unaryOp op) r) (ha : PE X a ta) : PE X (.UnaryOp op a pos) (tUn r ta) := by
  intro pins s σ H Q I h
  exact UnaryOp_ (thn (ha pins s σ H _ I h) fun v s1 ⟨x, H1, I1, r1, q1⟩ => ho pins s1 σ H1 x v Q I1 r1 q1)
/-! ### ints -/
theorem opI {f : Value → Value → Sem Value} {C : Int → Int → Prop} {g : Int → Int → Int}
    (rule : ∀ (i j : Int) (t u : Tok) (s : Shared) (Q : Value → Shared → Prop) (E : Value → Shared → Prop), C i j → Q (.int (g i j) s.toks) { s with toks := s.toks + 1 } → wpAny (model X.prog X.w) X.A (f (.int i t) (.int j u)) Q E s) :
    OpR X f (rI C fun i j => .int (g i j)) := by
  intro pins s σ H x y v u Q I rx ry h
  obtain ⟨i, j, rfl, rfl, hc, q⟩ := h
  obtain ⟨t, rfl⟩ := rx
  obtain ⟨t', rfl⟩ := ry
  exact rule i j t t' s _ _ hc ⟨.int (g i j), H, I.tok _, ⟨_, rfl⟩, q⟩
theorem opI0 {f : Value → Value → Sem Value} {g : Int → Int → Int}
    (rule : ∀ (i j : Int) (t u : Tok) (s : Shared) (Q : Value → Shared → Prop) (E : Value → Shared → Prop), Q (.int (g i j) s.toks) { s with toks := s.toks + 1 } → wpAny (model X.prog X.w) X.A (f (.int i t) (.int j u)) Q E s) :
    OpR X f (rI0 fun i j => .int (g i j)) := by
  intro pins s σ H x y v u Q I rx ry h
  obtain ⟨i, j, rfl, rfl, q⟩ := h
  obtain ⟨t, rfl⟩ := rx
  obtain ⟨t', rfl⟩ := ry
  exact rule i j t t' s _ _ ⟨.int (g i j), H, I.tok _, ⟨_, rfl⟩, q⟩
theorem opB0 {f : Value → Value → Sem Value} {g : Int → Int → Bool}
    (rule : ∀ (i j : Int) (t u : Tok) (s : Shared) (Q : Value → Shared → Prop) (E : Value → Shared → Prop), Q (.bool (g i j)) s → wpAny (model X.prog X.w) X.A (f (.int i t) (.int j u)) Q E s) :
    OpR X f (rI0 fun i j => .bl (g i j)) := by
  intro pins s σ H x y v u Q I rx ry h
  obtain ⟨i, j, rfl, rfl, q⟩ := h
  obtain ⟨t, rfl⟩ := rx
  obtain ⟨t', rfl⟩ := ry
  exact rule i j t t' s _ _ ⟨.bl (g i j), H, I, rfl, q⟩

theorem op_add : OpR X (binaryOp .Add) (rI0 fun i j => .int (i + j)) := opI0 fun _ _ _ _ _ _ _ q => add_int q
theorem op_sub : OpR X (binaryOp .Sub) (rI0 fun i j => .int (i - j)) := opI0 fun _ _ _ _ _ _ _ q => sub_int q
/-- % by a positive divisor of any size -/
theorem op_mod : OpR X (binaryOp .Mod) (rI (fun _ j => 0 < j) fun i j => .int (i % j)) := opI fun i j _ _ _ _ _ hc q => by
  have h1 : (0 : Int) < j := hc
  exact mod_int' (by omega) (by rw [Int.fmod_eq_emod_of_nonneg i (by omega)]; exact q)
theorem op_modN : OpR X (binaryOp .Mod) (rI (fun _ j => j ≠ 0) fun i j => .int (i.fmod j)) := opI fun _ _ _ _ _ _ _ hc q => mod_int' hc q
theorem unI {f : Value → Sem Value} {g : Int → Int}
    (rule : ∀ (i : Int) (t : Tok) (s : Shared) (Q : Value → Shared → Prop) (E : Value → Shared → Prop), Q (.int (g i) s.toks) { s with toks := s.toks + 1 } → wpAny (model X.prog X.w) X.A (f (.int i t)) Q E s) :
    UnR X f (rU fun i => .int (g i)) := by
  intro pins s σ H x v Q I rx h
  obtain ⟨i, rfl, q⟩ := h
  obtain ⟨t, rfl⟩ := rx
  exact rule i t s _ _ ⟨.int (g i), H, I.tok _, ⟨_, rfl⟩, q⟩
theorem un_neg : UnR X (unaryOp .USub) (rU fun i => .int (-i)) := unI fun _ _ _ _ _ q => neg_int q
/-! ### bools among ints: n += (a < b) -/
end

/-! ### comparisons -/
/-- the scalars that == tells apart as data does -/
def scal : V → V → Bool
  | .non, .non => true | .non, .int _ => true | .int _, .non => true | .non, .bl _ => true | .bl _, .non => true | .non, .str _ => true | .str _, .non => true
  | .int _, .int _ => true | .bl _, .bl _ => true | .str _, .str _ => true | .byt _, .byt _ => true
  | .int _, .str _ => true | .str _, .int _ => true | .bl _, .str _ => true | .str _, .bl _ => true
  | _, _ => false
def rEq : R2 := fun x y H Q => scal x y = true ∧ Q (.bl (decide (x = y))) H
def rNe : R2 := fun x y H Q => scal x y = true ∧ Q (.bl (!decide (x = y))) H

theorem dec_int {i j : Int} : decide (V.int i = V.int j) = (i == j) := by
  rw [Bool.eq_iff_iff]
  simp
theorem dec_bl {i j : Bool} : decide (V.bl i = V.bl j) = (i == j) := by
  rw [Bool.eq_iff_iff]
  simp
theorem dec_str {i j : Str} : decide (V.str i = V.str j) = (i == j) := by
  rw [Bool.eq_iff_iff]
  simp
theorem dec_byt {i j : Array UInt8} : decide (V.byt i = V.byt j) = (i.toList == j.toList) := by
  rw [Bool.eq_iff_iff]
  cases i
  cases j
  simp

section
variable {X : Cx} {a b c : Expr} {ta tb tc : TE} {pos : Pos}
theorem fin_bl {pins : List (Addr × Obj)} {σ : St} {H : Hp} {s : Shared} {Q : VK} {k k' : Bool} (I : Inv X pins σ H s) (q : Q (.bl k) H) (e : k = k') : EP X pins σ Q (.bool k') s := by
  subst e
  exact ⟨.bl k, H, I, rfl, q⟩
theorem op_eq : OpR X (compareOp .Eq) rEq := by
  intro pins s σ H x y v u Q I rx ry h
  obtain ⟨hs, q⟩ := h
  cases x with
  | non =>
    cases rx
    cases y with
    | non => cases ry; exact PySem.EqNone.eq_none_none (fin_bl I q (by simp))
    | bl j => cases ry; exact PySem.EqNone.eq_none_bool (fin_bl I q (by simp))
    | int j => obtain ⟨t', rfl⟩ := ry; exact PySem.EqNone.eq_none_int (fin_bl I q (by simp))
    | str j => obtain ⟨t', rfl⟩ := ry; exact PySem.EqNone.eq_none_str (fin_bl I q (by simp))
    | _ => exact absurd (show false = true from hs) Bool.false_ne_true
  | bl i =>
    cases rx
    cases y with
    | non => cases ry; exact PySem.EqNone.eq_bool_none (fin_bl I q (by simp))
    | bl j => cases ry; exact eq_bool (fin_bl I q dec_bl)
    | str j => obtain ⟨t', rfl⟩ := ry; exact PySem.EqMixed.eq_bool_str (fin_bl I q (by simp))
    | _ => exact absurd (show false = true from hs) Bool.false_ne_true
  | int i =>
    obtain ⟨t, rfl⟩ := rx
    cases y with
    | non => cases ry; exact PySem.EqNone.eq_int_none (fin_bl I q (by simp))
    | int j => obtain ⟨t', rfl⟩ := ry; exact eq_int (fin_bl I q dec_int)
    | str j => obtain ⟨t', rfl⟩ := ry; exact PySem.EqMixed.eq_int_str (fin_bl I q (by simp))
    | _ => exact absurd (show false = true from hs) Bool.false_ne_true
  | str i =>
    obtain ⟨t, rfl⟩ := rx
    cases y with
    | non => cases ry; exact PySem.EqNone.eq_str_none (fin_bl I q (by simp))
    | bl j => cases ry; exact PySem.EqMixed.eq_str_bool (fin_bl I q (by simp))
    | int j => obtain ⟨t', rfl⟩ := ry; exact PySem.EqMixed.eq_str_int (fin_bl I q (by simp))
    | str j => obtain ⟨t', rfl⟩ := ry; exact eq_str (fin_bl I q dec_str)
    | _ => exact absurd (show false = true from hs) Bool.false_ne_true
  | byt i =>
    obtain ⟨t, rfl⟩ := rx
    cases y with
    | byt j => obtain ⟨t', rfl⟩ := ry; exact PySem.W.eq_bytes (fin_bl I q dec_byt)
    | _ => exact absurd (show false = true from hs) Bool.false_ne_true
  | _ => cases y <;> exact absurd (show false = true from hs) Bool.false_ne_true
theorem op_ne : OpR X (compareOp .NotEq) rNe := by
  intro pins s σ H x y v u Q I rx ry h
  obtain ⟨hs, q⟩ := h
  cases x with
  | non =>
    cases rx
    cases y with
    | non => cases ry; exact PySem.EqNone.ne_none_none (fin_bl I q (by simp))
    | bl j => cases ry; exact PySem.EqNone.ne_none_bool (fin_bl I q (by simp))
    | int j => obtain ⟨t', rfl⟩ := ry; exact PySem.EqNone.ne_none_int (fin_bl I q (by simp))
    | str j => obtain ⟨t', rfl⟩ := ry; exact PySem.EqNone.ne_none_str (fin_bl I q (by simp))
    | _ => exact absurd (show false = true from hs) Bool.false_ne_true
  | bl i =>
    cases rx
    cases y with
    | non => cases ry; exact PySem.EqNone.ne_bool_none (fin_bl I q (by simp))
    | bl j => cases ry; exact ne_bool (fin_bl I q (congrArg not dec_bl))
    | str j => obtain ⟨t', rfl⟩ := ry; exact PySem.EqMixed.ne_bool_str (fin_bl I q (by simp))
    | _ => exact absurd (show false = true from hs) Bool.false_ne_true
  | int i =>
    obtain ⟨t, rfl⟩ := rx
    cases y with
    | non => cases ry; exact PySem.EqNone.ne_int_none (fin_bl I q (by simp))
    | int j => obtain ⟨t', rfl⟩ := ry; exact ne_int (fin_bl I q (congrArg not dec_int))
    | str j => obtain ⟨t', rfl⟩ := ry; exact PySem.EqMixed.ne_int_str (fin_bl I q (by simp))
    | _ => exact absurd (show false = true from hs) Bool.false_ne_true
  | str i =>
    obtain ⟨t, rfl⟩ := rx
    cases y with
    | non => cases ry; exact PySem.EqNone.ne_str_none (fin_bl I q (by simp))
    | bl j => cases ry; exact PySem.EqMixed.ne_str_bool (fin_bl I q (by simp))
    | int j => obtain ⟨t', rfl⟩ := ry; exact PySem.EqMixed.ne_str_int (fin_bl I q (by simp))
    | str j => obtain ⟨t', rfl⟩ := ry; exact ne_str (fin_bl I q (congrArg not dec_str))
    | _ => exact absurd (show false = true from hs) Bool.false_ne_true
  | byt i =>
    obtain ⟨t, rfl⟩ := rx
    cases y with
    | byt j => obtain ⟨t', rfl⟩ := ry; exact PySem.W.ne_bytes (fin_bl I q (congrArg not dec_byt))
    | _ => exact absurd (show false = true from hs) Bool.false_ne_true
  | _ => cases y <;> exact absurd (show false = true from hs) Bool.false_ne_true

theorem op_lt : OpR X (compareOp .Lt) (rI0 fun i j => .bl (decide (i < j))) := opB0 fun _ _ _ _ _ _ _ q => lt_int q
theorem op_le : OpR X (compareOp .LtE) (rI0 fun i j => .bl (decide (i ≤ j))) := opB0 fun _ _ _ _ _ _ _ q => le_int q
theorem op_gt : OpR X (compareOp .Gt) (rI0 fun i j => .bl (decide (j < i))) := opB0 fun _ _ _ _ _ _ _ q => gt_int q
theorem nomark (b : Expr) {op : CmpOp} (h : op ≠ .In := by decide) (h2 : op ≠ .NotIn := by decide) : behindInMarks op b = false := by
  have e1 : (op == CmpOp.In) = false := by cases op <;> first | rfl | exact absurd rfl h
  have e2 : (op == CmpOp.NotIn) = false := by cases op <;> first | rfl | exact absurd rfl h2
  cases b <;> simp [behindInMarks, e1, e2]
/-- a comparison as a value; hm: nomark b, or (for in, not in) by with_unfolding_all rfl -/
theorem pe_cmpR {op : CmpOp} {r : R2} (ho : OpR X (compareOp op) r) (ha : PE X a ta) (hb : PE X b tb) (hm : behindInMarks op b = false) : PE X (.Compare a [op] [b] pos) (tOp r ta tb) := by
  intro pins s σ H Q I h
  exact wpAny_Compare1 (binT ha hb I h fun v u s2 x y H2 I2 rx ry q => ho pins s2 σ H2 x y v u Q I2 rx ry q) hm
/-- a reading of a value as a test -/
def tTest (t : TE) : TT := fun σ H Q => t σ H fun x H' => ∃ k, x = .bl k ∧ Q k H'
theorem pt_cmpR {op : CmpOp} {r : R2} (ho : OpR X (compareOp op) r) (ha : PE X a ta) (hb : PE X b tb) (hm : behindInMarks op b = false) : PT X (.Compare a [op] [b] pos) (tTest (tOp r ta tb)) := by
  intro pins s σ H Q I h
  refine wpAny_isTrue_Compare1 (thn (ha pins s σ H _ I h) fun v s1 ⟨x, H1, I1, r1, q1⟩ => thn (hb pins s1 σ H1 _ I1 q1) fun u s2 ⟨y, H2, I2, r2, q2⟩ =>
    thn (ho pins s2 σ H2 x y v u _ I2 r1 r2 q2) fun c s3 ⟨z, H3, I3, r3, k, e, q3⟩ => ?_) hm
  subst e
  cases r3
  exact wpAny_truthy_bool ⟨H3, I3, q3⟩
/-! ### truth -/
theorem line63 : (sizeLine : Nat) < 2 ^ 63 := by rw [sizeLine_eq]; decide
/-! ### strs and bytes -/
/-! ### scalar builtins, by CallR -/
theorem vals1 {x : V} {us : List Value} (r : Vals [x] us) : ∃ u, us = [u] ∧ RelV x u := by
  cases r with
  | cons r1 r2 => cases r2; exact ⟨_, rfl, r1⟩
theorem vals2 {x y : V} {us : List Value} (r : Vals [x, y] us) : ∃ u w', us = [u, w'] ∧ RelV x u ∧ RelV y w' := by
  cases r with
  | cons r1 r2 =>
    cases r2 with
    | cons r3 r4 => cases r4; exact ⟨_, _, rfl, r1, r3⟩
theorem call_abs : CallR X (.builtin "abs") (fun xs H Q => ∃ i, xs = [.int i] ∧ Q (.int (if i < 0 then -i else i)) H) := by
  intro pins s σ H xs us Q I r h
  obtain ⟨i, rfl, q⟩ := h
  obtain ⟨u, rfl, t, rfl⟩ := vals1 r
  exact call_abs_int fun u tk => ⟨.int (if i < 0 then -i else i), H, I.tok _, ⟨_, rfl⟩, q⟩
theorem call_max2 (hc : X.calm = true) : CallR X (.builtin "max") (fun xs H Q => ∃ i j, xs = [.int i, .int j] ∧ Q (.int (if j > i then j else i)) H) := by
  intro pins s σ H xs us Q I r h
  obtain ⟨i, j, rfl, q⟩ := h
  obtain ⟨u, w', rfl, ⟨t, rfl⟩, ⟨t', rfl⟩⟩ := vals2 r
  refine max_two_ints (I.ok.hd hc) fun h' tk k => ⟨_, H, I.kept k, ?_, q⟩
  by_cases hj : j > i
  · rw [if_pos hj, if_pos hj]; exact ⟨_, rfl⟩
  · rw [if_neg hj, if_neg hj]; exact ⟨_, rfl⟩
theorem call_min2 (hc : X.calm = true) : CallR X (.builtin "min") (fun xs H Q => ∃ i j, xs = [.int i, .int j] ∧ Q (.int (if j < i then j else i)) H) := by
  intro pins s σ H xs us Q I r h
  obtain ⟨i, j, rfl, q⟩ := h
  obtain ⟨u, w', rfl, ⟨t, rfl⟩, ⟨t', rfl⟩⟩ := vals2 r
  refine min_two_ints (I.ok.hd hc) fun h' tk k => ⟨_, H, I.kept k, ?_, q⟩
  by_cases hj : j < i
  · rw [if_pos hj, if_pos hj]; exact ⟨_, rfl⟩
  · rw [if_neg hj, if_neg hj]; exact ⟨_, rfl⟩
theorem call_int1 : CallR X (.type "int") (fun xs H Q => (∃ i, xs = [.int i] ∧ Q (.int i) H) ∨ ∃ k, xs = [.bl k] ∧ Q (.int (if k then 1 else 0)) H) := by
  intro pins s σ H xs us Q I r h
  rcases h with ⟨i, rfl, q⟩ | ⟨k, rfl, q⟩
  · obtain ⟨u, rfl, t, rfl⟩ := vals1 r
    exact call_int_int ⟨.int i, H, I, ⟨_, rfl⟩, q⟩
  · obtain ⟨u, rfl, r1⟩ := vals1 r
    cases r1
    exact call_int_bool ⟨.int (if k then 1 else 0), H, I.tok _, ⟨_, rfl⟩, q⟩
/-- len of a str, a bytes, a list, a tuple -/
def LenV (K : PySem.W.Frag) (x : V) (H : Hp) (n : Nat) : Prop :=
  match x with
  | .str y => y.length ≤ sizeLine ∧ n = y.length
  | .byt y => y.size ≤ sizeLine ∧ n = y.size
  | .ref p => (∃ xs, SqL K H p xs ∧ n = xs.length) ∨ ∃ xs, SqT K H p xs ∧ n = xs.length
  | _ => False
theorem call_len : CallR X (.builtin "len") (fun xs H Q => ∃ x n, xs = [x] ∧ LenV X.K x H n ∧ Q (.int n) H) := by
  intro pins s σ H xs us Q I r h
  obtain ⟨x, n, rfl, e, q⟩ := h
  obtain ⟨u, rfl, rx⟩ := vals1 r
  have hl := line63
  have hs : sizeLine = 16777216 := sizeLine_eq
  cases x with
  | str y =>
    obtain ⟨t, rfl⟩ := rx
    obtain ⟨hy, e'⟩ : y.length ≤ sizeLine ∧ n = y.length := e
    subst e'
    exact len_str (by omega) ⟨.int _, H, I.tok _, ⟨_, rfl⟩, q⟩
  | byt y =>
    obtain ⟨t, rfl⟩ := rx
    obtain ⟨hy, e'⟩ : y.size ≤ sizeLine ∧ n = y.size := e
    subst e'
    exact PySem.W.len_bytes (by omega) ⟨.int _, H, I.tok _, ⟨_, rfl⟩, q⟩
  | ref p =>
    cases rx
    have e' : (∃ xs, SqL X.K H p xs ∧ n = xs.length) ∨ ∃ xs, SqT X.K H p xs ∧ n = xs.length := e
    rcases e' with ⟨xs, hx, e'⟩ | ⟨xs, hx, e'⟩
    · subst e'
      obtain ⟨its, r', pl, hz⟩ := I.list hx
      have hlen := r'.length
      exact Calls.call_len_list pl.isList (by simp only [List.size_toArray]; omega) ⟨.int xs.length, H, I.tok _, ⟨_, by simp only [List.size_toArray]; rw [hlen]⟩, q⟩
    · subst e'
      obtain ⟨its, r', pl, hz⟩ := I.tuple hx
      have hlen := r'.length
      exact len_tuple pl (by simp only [List.size_toArray]; omega) ⟨.int xs.length, H, I.tok _, ⟨_, by simp only [List.size_toArray]; rw [hlen]⟩, q⟩
  | _ => exact (show False from e).elim
end
end L2

namespace L2
open PySem PySem.Spec PyProof.Rows

/-! ### an instance, its attributes a map -/
structure ObjM (h : Heap) (x dx C : Addr) (mA : Str → Option Value) : Prop where
  obj : h.get? x = some (PySem.W.instObj C dx)
  ns : h.Ns1 dx mA
  ne : dx ≠ x

section
variable {prog : Program} {w : World} {A : Around} {E : Value → Shared → Prop} {s : Shared} {K : PySem.W.Frag} {x dx C f : Addr} {mA : Str → Option Value} {name : Str} {v : Value}

end

/-! ### the attributes as a list of pairs -/
theorem RelO.some_of {v : V} {o : Option Value} (r : RelO (some v) o) : ∃ u, o = some u ∧ RelV v u := by
  cases o with
  | none => exact (show False from r).elim
  | some u => exact ⟨u, rfl, r⟩
section
variable {P : Program} {w : World} {H H' : Hp} {h h' : Heap} {a C dx : Addr} {fs fs' : List (Str × V)}
end

/-! ### what of the text a class must have -/
structure Cls (K : PySem.W.Frag) (C : Addr) : Prop where
  pg : PySem.W.plainGet K C Str.empty = true
  hd : PySem.W.hasDictIn K C = true
  po : PySem.W.plainOver K C = true
  sa : PySem.W.findIn K (.ref C) "__setattr__" = some (some (.builtin "object.__setattr__"))
/-- a constant of the class -/
structure Con (K : PySem.W.Frag) (C : Addr) (f : Str) (v : V) (u : Value) : Prop where
  at_ : PySem.W.findIn K (.ref C) f = some (some u)
  rel : RelV v u
  get : PySem.W.specialIn K u "__get__" = some none
  cp : PySem.W.copiedNames.contains f = false
/-- a method: a plain def of the class or of one above it -/
structure Meth (K : PySem.W.Frag) (C : Addr) (m : Str) (f : Addr) : Prop where
  at_ : PySem.W.findIn K (.ref C) m = some (some (.ref f))
  fn : PySem.W.isFn K (.ref f) = true
  kp : PySem.W.keepIn K (.ref f) = true

section
variable {X : Cx} {pins : List (Addr × Obj)} {σ : St} {H : Hp} {s : Shared} {a C dx : Addr} {fs : List (Str × V)} {f : Str} {v : V} {A : Around} {E : Value → Shared → Prop}

end

/-! ### readings and rules -/
section
variable {X : Cx} {o e value : Expr} {f : Str} {pos pos' tpos : Pos} {ta tv : TE}
end

/-! ### isinstance -/
section
variable {X : Cx} {pins : List (Addr × Obj)} {σ : St} {H : Hp} {s : Shared} {A : Around} {E : Value → Shared → Prop} {Q : Value → Shared → Prop} {c : Value} {b : Bool}
/-- the type of a value, as the fragment's deciders take it; for an instance its class -/
inductive TyOf (K : PySem.W.Frag) (H : Hp) : V → Value → Prop where
  | non : TyOf K H .non (.type "NoneType")
  | bl (x : Bool) : TyOf K H (.bl x) (.type "bool")
  | int (i : Int) : TyOf K H (.int i) (.type "int")
  | str (x : Str) : TyOf K H (.str x) (.type "str")
  | flt (x : UInt64) : TyOf K H (.flt x) (.type "float")
  | lst {a : Addr} {xs : List V} (e : H a = some (.lst xs)) : TyOf K H (.ref a) (.type "list")
  | frz {a : Addr} {o : Obj} {xs : List V} (e : H a = some (.frz o (.lst xs))) : TyOf K H (.ref a) (.type "list")
  | tup {a : Addr} {xs : List V} (e : H a = some (.tup xs)) : TyOf K H (.ref a) (.type "tuple")
  | dK {a : Addr} {kvs : List (Key × V)} (e : H a = some (.dK kvs)) : TyOf K H (.ref a) (.type "dict")
  | dT {a : Addr} {kvs : List (List Key × V)} (e : H a = some (.dT kvs)) : TyOf K H (.ref a) (.type "dict")
  | ins {a C dx : Addr} {fs : List (Str × V)} (e : H a = some (.ins C dx fs)) (cl : Cls K C) (ha : PySem.W.findIn K (.ref C) "__class__" = some (some (.builtin "object.__class__")))
      (hn : PySem.W.specialIn K (.builtin "object.__class__") "__get__" = some (some (.builtin "getset_descriptor.__get__"))) (htk : PySem.W.takesIn K (.builtin "object.__class__") = some true)
      (hm : PySem.W.mroIn K C (.type "object") = some true) : TyOf K H (.ref a) (.ref C)
end
end L2

namespace L2
open PySem PySem.Spec PyProof.Rows

/-! ### room -/
structure Room (k : Nat) (A : Around) : Prop where
  hd : A.handled = none
  dp : A.depth + 3 * k + 5 < recursionLimit
  un : A.units + 16 * k + 200 < cLine
theorem Room.mono {j k : Nat} {A : Around} (r : Room k A) (h : j ≤ k) : Room j A := ⟨r.hd, by have := r.dp; omega, by have := r.un; omega⟩
theorem Room.deeper {k : Nat} {A : Around} (r : Room (k + 1) A) (env : Env) : Room k (A.deeper env) :=
  ⟨r.hd, by have := r.dp; show A.depth + 1 + 3 * k + 5 < _; omega, by have := r.un; show A.units + 3 + 16 * k + 200 < _; omega⟩
theorem Room.depth {k : Nat} {A : Around} (r : Room k A) : A.depth < recursionLimit := by have := r.dp; omega
theorem Room.units {k : Nat} {A : Around} (r : Room k A) : A.units + 64 < cLine := by have := r.un; omega
/-! ### argument lists and displays -/
def tNil : TA := fun _ H Q => Q [] H
def tCons (ta : TE) (tr : TA) : TA := fun σ H Q => ta σ H fun x H1 => tr σ H1 fun xs H2 => Q (x :: xs) H2
section
variable {X : Cx} {e : Expr} {es : List Expr} {te : TE} {t : TA} {pos : Pos}
theorem pa_nil : PA X [] tNil := fun _ _ _ _ H Q I h => Calls.spliced_nil ⟨[], H, I, .nil, h⟩
theorem pa_cons (ha : PE X e te) (hr : PA X es t) (hs : starEach (e :: es) X.env = (false, eval e X.env) :: starEach es X.env := by rfl) : PA X (e :: es) (tCons te t) := by
  intro pos pins s σ H Q I h
  rw [hs]
  show wpAny _ _ (spliced ((false, eval e X.env) :: backTo pos (starEach es X.env))) _ _ s
  refine Calls.spliced_cons (thn (ha pins s σ H _ I h) fun u s1 ⟨x, H1, I1, r1, q1⟩ => ?_)
  exact thn (hr pos pins s1 σ H1 _ I1 q1) fun us s2 ⟨xs, H2, I2, r2, q2⟩ => ⟨x :: xs, H2, I2, .cons r1 r2, q2⟩

/-- a tuple, a list of written items -/
def tTup (t : TA) : TE := fun σ H Q => t σ H fun xs H1 => xs.length ≤ sizeLine ∧ ∀ p, H1 p = none → Q (.ref p) (upd H1 p (.tup xs))
theorem pe_tup {x1} (h : PA X es t) : PE X (.Tuple es x1 pos) (tTup t) := by
  intro pins s σ H Q I hq
  refine wpAny_Tuple_spliced (thn (h pos pins s σ H _ I hq) fun us s1 ⟨xs, H1, I1, r, z, q⟩ => ⟨by rw [← r.length]; exact z, ?_⟩)
  have hf : H1 s1.heap.objs.size = none := I1.hok.fresh (Nat.le_refl _)
  refine ⟨.ref s1.heap.objs.size, upd H1 s1.heap.objs.size (.tup xs), I1.laid (t' := s1.toks) (fun b u e => Heap.get?_push_of_some _ e) (Nat.le_refl _) ?_, rfl, q _ hf⟩
  exact ⟨z, us, r, ⟨_, Heap.get?_push_size _ rfl, rfl, _, rfl⟩⟩
end

/-! ### what a def promises -/
/-- a def's promise: the bound arguments in the parameters' order, the heap, the wanted end, the wanted exception -/
abbrev Sp := List V → Hp → VK → XK → Prop
/-- how an exception lies behind a call (file 08 gives it): the callers' frames, abstract heap and state ahead of the call, the wish, the exception, the state -/
abbrev CXT := List Env → Hp → Shared → XK → Value → Shared → Prop

/-- the state at a call -/
structure Env0 (P : Program) (w : World) (K : PySem.W.Frag) (mg : Str → Option Value) (base : Heap) (A : Around) (outer : List Env) (s : Shared) (H : Hp) : Prop where
  frames : A.frames = some outer
  mod : Mod K mg base
  bs : ∀ b o, base.get? b = some o → s.heap.get? b = some o ∧ H b = none
  bsz : base.objs.size ≤ s.heap.objs.size
  funs : s.heap.FunFrames base outer
  frf : ∀ b ∈ frs outer, H b = none
  hok : HOk P w H s.heap
  bare : AllBare s.gens
/-- a call's end -/
def CE (outer : List Env) (P : Program) (w : World) (H : Hp) (s : Shared) (Q : VK) (u : Value) (s' : Shared) : Prop :=
  ∃ v H', s'.os = s.os ∧ AllBare s'.gens ∧ Un (frs outer) [] H H' s.heap s'.heap ∧ HOk P w H' s'.heap ∧ RelV v u ∧ Q v H'
def CR (CX : CXT) (outer : List Env) (P : Program) (w : World) (H : Hp) (s : Shared) (Q : VK) (E : XK) (r : Result) (s' : Shared) : Prop :=
  match r with
  | .ok (.ret u) => CE outer P w H s Q u s'
  | .ok _ => False
  | .error e => CX outer H s E e s'
structure FnOk (P : Program) (w : World) (K : PySem.W.Frag) (mg : Str → Option Value) (base : Heap) (CX : CXT) (k : Nat) (f : Addr) (fd : FuncData) (ps : List Str) (sp : Sp) : Prop where
  len : ∀ vs H Q E, sp vs H Q E → vs.length = ps.length
  run : ∀ (A : Around) (outer : List Env) (s : Shared) (H : Hp) (args : Args) (us : List Value) (vs : List V) (Q : VK) (E : XK), Room k A → Env0 P w K mg base A outer s H → BindsTo s fd args (ps.zip us) → Vals vs us → sp vs H Q E →
    codeAny (model P w) A (.call (.ref f) args) (CR CX outer P w H s Q E) s
section
variable {X : Cx} {pins : List (Addr × Obj)} {σ : St} {H : Hp} {s s' : Shared}
/-- from a body: what a callee wants -/
theorem Inv.env0 (I : Inv X pins σ H s) : Env0 X.prog X.w X.K X.mg X.base X.A X.stack s H :=
  ⟨I.ok.frames, I.ok.mod, I.bs, Nat.le_trans I.ok.bsz I.sz, I.stack, I.stkFree, I.hok, I.bare⟩
/-- behind a call -/
theorem Inv.after {Q : VK} {u : Value} (I : Inv X pins σ H s) (h : CE X.stack X.prog X.w H s Q u s') : EP X pins σ Q u s' := by
  obtain ⟨v, H', os, bare, un, hok, r, q⟩ := h
  obtain ⟨hh, g, d, t, os'⟩ := s'
  obtain rfl : os' = s.os := os
  exact ⟨v, H', I.call (h' := hh) (g' := g) (d' := d) (t' := t) (ch := []) un hok bare (fun b z => absurd z (by simp)), r, q⟩
end

/-! ### calls -/
/-- f(..): the written arguments, then the defaults dvs; E: what is wanted of an exception -/
def tCall (sp : Sp) (dvs : List V) (E : XK) (t : TA) : TE := fun σ H Q => t σ H fun vs H1 => sp (vs ++ dvs) H1 Q E
/-- how the parameters are bound: us the positional arguments, kw the keywords' values by name, ds the defaults that fill up -/
def Binds (K : PySem.W.Frag) (fd : FuncData) (ps : List Str) (ds : List Value) : Prop :=
  ∀ (s : Shared) (us : List Value), K.In s.heap → (us ++ ds).length = ps.length → BindsTo s fd ⟨us, []⟩ (ps.zip (us ++ ds))
/-- every parameter is given -/
theorem Binds.all {K : PySem.W.Frag} {fd : FuncData} {ps : List Str} (h : ∀ us : List Value, us.length = ps.length → bindArgs fd ⟨us, []⟩ = pure (ps.zip us)) : Binds K fd ps [] := fun s us _ hl => by
  rw [List.append_nil] at hl ⊢
  exact .of_eq (h us hl)

/-- an exception of a callee reaches what this body wants of exceptions -/
def Passes (CX : CXT) (X : Cx) (E : XK) : Prop := ∀ (pins : List (Addr × Obj)) (σ : St) (H : Hp) (s : Shared) (e : Value) (s' : Shared), Inv X pins σ H s → CX X.stack H s E e s' → X.xe e s'

section
variable {X : Cx} {CX : CXT} {k : Nat} {f C : Addr} {fd : FuncData} {ps : List Str} {sp : Sp} {dvs : List V} {ds : List Value} {E : XK} {x m : Str} {p pos apos : Pos} {e o : Expr} {es : List Expr} {ta : TE} {t : TA}

/-- the callee runs -/
theorem run_fn {pins : List (Addr × Obj)} {σ : St} {H : Hp} {s : Shared} {Q : VK} {us : List Value} {vs : List V} (F : FnOk X.prog X.w X.K X.mg X.base CX k f fd ps sp) (hr : Room k X.A) (hb : Binds X.K fd ps ds) (hd : Vals dvs ds) (hx : Passes CX X E)
    (I : Inv X pins σ H s) (r : Vals vs us) (h : sp (vs ++ dvs) H Q E) : wpAny (model X.prog X.w) X.A (call (.ref f) us) (EP X pins σ Q) X.xe s := by
  have r2 : Vals (vs ++ dvs) (us ++ ds) := r.append hd
  have hl : (us ++ ds).length = ps.length := by rw [← r2.length]; exact F.len _ _ _ _ h
  refine wpAny_call (codeAny_mono (F.run X.A X.stack s H ⟨us, []⟩ (us ++ ds) (vs ++ dvs) Q E hr I.env0 (hb s us I.kIn hl) r2 h) fun r s' hq => ?_)
  cases r with
  | error e => exact hx pins σ H s e s' I hq
  | ok fl =>
    cases fl with
    | ret u => exact I.after hq
    | next => exact False.elim hq
    | brk => exact False.elim hq
    | cont => exact False.elim hq

theorem pe_call (F : FnOk X.prog X.w X.K X.mg X.base CX k f fd ps sp) (hr : Room k X.A) (hg : Gl X x) (hm : X.mg x = some (.ref f)) (hk : PySem.W.keepIn X.K (.ref f) = true) (hb : Binds X.K fd ps ds) (hd : Vals dvs ds) (hx : Passes CX X E)
    (ha : PA X (e :: es) t) (hdb : (x == ("__debug__" : Str)) = false := by decide) (he : starEach (e :: es) X.env = (false, eval e X.env) :: starEach es X.env := by rfl) (hpl : (backTo pos (starEach es X.env)).any (·.1) = false := by rfl) :
    PE X (.Call (.Name x p) (e :: es) [] pos) (tCall sp dvs E t) := by
  intro pins s σ H Q I h
  refine wpAny_Call_Name_kw (ld_glob I hg hm ?_ hdb)
  refine PySem.W.callWith_K (h₀ := X.base) I.ok.mod.kin hk (thn (ha pos pins s σ H _ I h) fun us s1 ⟨vs, H1, I1, r, q⟩ => ⟨I1.kIn, ?_⟩) he hpl
  exact run_fn F hr hb hd hx I1 r q
/-- what a class must have to be made -/
structure Mk (K : PySem.W.Frag) (C f : Addr) : Prop where
  makes : PySem.W.makesIn K C = true
  init : PySem.W.findIn K (.ref C) "__init__" = some (some (.ref f))
  fn : PySem.W.isFn K (.ref f) = true
  kp : PySem.W.keepIn K (.ref C) = true

end

/-! ### keywords -/
section
variable {X : Cx} {CX : CXT} {k : Nat} {f C : Addr} {fd : FuncData} {ps ks : List Str} {sp : Sp} {E : XK} {x m : Str} {p pos apos kpos : Pos} {e o : Expr} {es : List Expr} {kws : List Keyword} {te ta : TE} {t tk : TA} {nm : Option Str}
/-- how a call with keywords binds: g puts the positional values us and the keywords' values ws (names ks) in the parameters' order, defaults among them -/
structure KBinds (K : PySem.W.Frag) (fd : FuncData) (ps ks : List Str) (g : List Value → List Value → List Value) (gV : List V → List V → List V) : Prop where
  to : ∀ (s : Shared) (us ws : List Value), K.In s.heap → (g us ws).length = ps.length → BindsTo s fd ⟨us, ks.zip ws⟩ (ps.zip (g us ws))
  rel : ∀ {vs : List V} {us : List Value} {zs : List V} {ws : List Value}, Vals vs us → Vals zs ws → Vals (gV vs zs) (g us ws)
variable {g : List Value → List Value → List Value} {gV : List V → List V → List V}
end

/-! ### a def's body keeps its promise -/
/-- names: the parameters first -/
structure FnScope (N P : List Str) (sc : Scope) : Prop where
  kind : sc.kind = .function
  co : sc.isCoroutine = false
  gen : sc.isGenerator = false
  nd : N.Nodup
  pre : N.take P.length = P
  par : ∀ x ∈ P, sc.names.lookup x = some .local ∨ sc.names.lookup x = some .cell
  nofree : ∀ y ∈ sc.names, y.2 ≠ .free

theorem bindL_out {kindOf : Str → Option NameKind} {x : Str} : ∀ {binds : List (Str × Value)} {m : Str → Option Value}, (∀ v, (x, v) ∉ binds) → bindL kindOf binds m x = m x
  | [], _, _ => rfl
  | (n, v) :: r, m, h => by
    unfold bindL
    rw [bindL_out fun w hw => h w (List.mem_cons_of_mem _ hw)]
    split
    · have : x ≠ n := by rintro rfl; exact h v List.mem_cons_self
      simp [this]
    · rfl
theorem bindC_out {kindOf : Str → Option NameKind} {x : Str} : ∀ {binds : List (Str × Value)} {m : Str → Option Value}, (∀ v, (x, v) ∉ binds) → bindC kindOf binds m x = m x
  | [], _, _ => rfl
  | (n, v) :: r, m, h => by
    unfold bindC
    rw [bindC_out fun w hw => h w (List.mem_cons_of_mem _ hw)]
    split
    · rfl
    · have : x ≠ n := by rintro rfl; exact h v List.mem_cons_self
      simp [this]
theorem bindL_get {kindOf : Str → Option NameKind} {x : Str} {v : Value} : ∀ {P : List Str} {vs : List Value} {i : Nat} {m : Str → Option Value}, P.Nodup → P[i]? = some x → vs[i]? = some v → kindOf x = some .local →
    bindL kindOf (P.zip vs) m x = some v
  | [], _, _, _, _, h, _, _ => by simp at h
  | _ :: _, [], _, _, _, _, h, _ => by simp at h
  | p :: P, w :: vs, 0, m, nd, h1, h2, hk => by
    simp at h1 h2; subst h1; subst h2
    show bindL kindOf ((p, w) :: P.zip vs) m p = _
    unfold bindL
    rw [bindL_out fun v hv => (List.nodup_cons.mp nd).1 (List.of_mem_zip hv).1, if_pos hk]
    simp
  | p :: P, w :: vs, i + 1, m, nd, h1, h2, hk => by
    show bindL kindOf ((p, w) :: P.zip vs) m x = _
    unfold bindL
    exact bindL_get (i := i) (List.nodup_cons.mp nd).2 (by simpa using h1) (by simpa using h2) hk
theorem bindC_get {kindOf : Str → Option NameKind} {x : Str} {v : Value} : ∀ {P : List Str} {vs : List Value} {i : Nat} {m : Str → Option Value}, P.Nodup → P[i]? = some x → vs[i]? = some v → kindOf x ≠ some .local →
    bindC kindOf (P.zip vs) m x = some v
  | [], _, _, _, _, h, _, _ => by simp at h
  | _ :: _, [], _, _, _, _, h, _ => by simp at h
  | p :: P, w :: vs, 0, m, nd, h1, h2, hk => by
    simp at h1 h2; subst h1; subst h2
    show bindC kindOf ((p, w) :: P.zip vs) m p = _
    unfold bindC
    rw [bindC_out fun v hv => (List.nodup_cons.mp nd).1 (List.of_mem_zip hv).1, if_neg hk]
    simp
  | p :: P, w :: vs, i + 1, m, nd, h1, h2, hk => by
    show bindC kindOf ((p, w) :: P.zip vs) m x = _
    unfold bindC
    exact bindC_get (i := i) (List.nodup_cons.mp nd).2 (by simpa using h1) (by simpa using h2) hk

/-- the names' values at the entry -/
def start (N : List Str) (vs : List V) : St := vs.map some ++ List.replicate (N.length - vs.length) none

/-- the context of a def's body, at its entry; an exception leaves the frame, then lies as CX says -/
def cxOf (CX : CXT) (P : Program) (w : World) (K : PySem.W.Frag) (mg : Str → Option Value) (base : Heap) (N : List Str) (qual : Str) (scope : Scope) (f : Addr) (cd : Value) (A : Around) (outer : List Env) (s : Shared) (H : Hp) (E : XK) : Cx where
  prog := P
  w := w
  K := K
  mg := mg
  base := base
  A := A.deeper (envOfC qual scope s.heap.objs.size f cd)
  N := N
  s₀ := s
  H₀ := H
  env := envOfC qual scope s.heap.objs.size f cd
  outer := outer
  stack := envOfC qual scope s.heap.objs.size f cd :: outer
  ex := []
  calm := true
  fn := fun _ => true
  pn := []
  xe := fun e s' => wpAny (model P w) (A.deeper (envOfC qual scope s.heap.objs.size f cd)) (leaving (envOfC qual scope s.heap.objs.size f cd) e) (fun _ s'' => CX outer H s E e s'') (fun e' s'' => CX outer H s E e' s'') s'

theorem cell_has {sc : Scope} {n : Nat} {x : Str} (h : sc.names.lookup x = some .cell) : ∃ c, (cellsFrom n sc.names []).lookup x = some c := by
  have q := PySem.W.cellsFrom_some sc.names n [] (.inl h)
  exact Option.isSome_iff_exists.mp q

theorem inv_start {CX : CXT} {P : Program} {w : World} {K : PySem.W.Frag} {mg : Str → Option Value} {base : Heap} {N ps : List Str} {qual : Str} {scope : Scope} {f : Addr} {cd : Value} {A : Around} {outer : List Env} {s s1 : Shared} {H : Hp} {E : XK} {us : List Value} {vs : List V}
    (S : FnScope N ps scope) (hd : A.handled = none) (e0 : Env0 P w K mg base A outer s H) (hl : vs.length = ps.length) (r : Vals vs us)
    (x : InCallC s s.heap.objs.size (bindL (envOfC qual scope s.heap.objs.size f cd).kindOf (ps.zip us) fun _ => none) (cellsFrom (s.heap.objs.size + 1) scope.names []) (bindC (envOfC qual scope s.heap.objs.size f cd).kindOf (ps.zip us) fun _ => none) s1) :
    Inv (cxOf CX P w K mg base N qual scope f cd A outer s H E) [] (start N vs) H s1 := by
  have hpl : ps.length ≤ N.length := by have := congrArg List.length S.pre; rw [List.length_take] at this; omega
  obtain ⟨h1, tk, rfl, hk⟩ := x.done
  have noA : ∀ b : Addr, b ∉ (cxOf CX P w K mg base N qual scope f cd A outer s H E).ex := fun b z => absurd (show b ∈ ([] : List Addr) from z) (by simp)
  refine ⟨⟨e0.mod, S.kind, rfl, rfl, Nat.le_refl _, fun y z c h1 h2 => ?_, fun y hy => ?_, fun y c _ h => ?_, fun _ => hd, Around.frames_deeper e0.frames, .inr ⟨rfl, rfl⟩, fun b z => absurd z (noA b), e0.bs, e0.bsz, fun b _ _ => noA b, fun b z => absurd z (noA b), e0.funs, e0.frf⟩,
    rfl, e0.bare, Un.kept hk, ⟨_, x.toInCall.ns, fun i y v h1 h2 h3 => ?_⟩, fun y c h => ⟨_, x.cell y c h⟩, e0.hok.fresh (Nat.le_refl _), fun y c h => ?_, fun p hp => absurd (show p ∈ ([] : List (Addr × Obj)) from hp) (by simp), e0.hok.kept hk, ?_⟩
  · exact name_of_addr x.apart (PySem.mem_of_lookup h1) (PySem.mem_of_lookup h2)
  · have hy : scope.names.lookup y = some .cell ∨ scope.names.lookup y = some .free := hy
    rcases hy with hy | hy
    · exact cell_has hy
    · exact absurd rfl (S.nofree _ (PySem.mem_of_lookup hy))
  · exact Nat.le_of_lt (x.above y c (PySem.mem_of_lookup h))
  · have hi : i < vs.length := by
      unfold start at h2
      by_cases hi : i < vs.length
      · exact hi
      · rw [List.getElem?_append_right (by simpa using hi)] at h2
        rw [List.getElem?_replicate] at h2
        split at h2 <;> cases h2
    have ha : vs[i]? = some v := by
      unfold start at h2
      rw [List.getElem?_append_left (by simpa using hi), List.getElem?_map] at h2
      cases e : vs[i]? with
      | none => rw [e] at h2; cases h2
      | some a => rw [e] at h2; cases h2; rfl
    obtain ⟨u, hu, rv⟩ := r.get ha
    have hp : ps[i]? = some y := by
      rw [← S.pre, List.getElem?_take_of_lt (by omega)]; exact h1
    have ndP : ps.Nodup := by rw [← S.pre]; exact S.nd.sublist (List.take_sublist _ _)
    refine ⟨u, rv, ?_⟩
    rcases S.par y (List.mem_of_getElem? hp) with k | k
    · exact .inl ⟨k, bindL_get ndP hp hu k⟩
    · obtain ⟨c, e⟩ := cell_has (n := s.heap.objs.size + 1) k
      refine .inr ⟨.inl k, c, e, ?_⟩
      have q := x.cell y c e
      rw [bindC_get ndP hp hu (by show scope.names.lookup y ≠ _; rw [k]; decide)] at q
      exact q
  · exact e0.hok.fresh (Nat.le_of_lt (x.above y c (PySem.mem_of_lookup h)))
  · unfold start
    show _ = N.length
    rw [List.length_append, List.length_map, List.length_replicate]
    omega

/-- THE RULE: a def (or a method) of the text, by its body. The body's reading t is chosen for each entry; it is run at the parameters' values -/
theorem fn_of {CX : CXT} {P : Program} {w : World} {K : PySem.W.Frag} {mg : Str → Option Value} {base : Heap} {k : Nat} {f : Addr} {name qual : Str} {params : Arguments} {body : List Stmt} {scope : Scope} {dV kV doc pm cdv ct oc : Value} {an od : Option Addr}
    {osl : Array (Option Value)} {N ps : List Str} {sp : Sp} (lk : K.lookup f = some ⟨oc, od, .func (PySem.W.fnOf name qual params body scope dV kV doc pm an cdv ct), osl⟩) (hcd : PySem.W.codeIn K cdv qual = true) (S : FnScope N ps scope)
    (len : ∀ vs H Q E, sp vs H Q E → vs.length = ps.length)
    (hbody : ∀ (A : Around) (outer : List Env) (s : Shared) (H : Hp) (vs : List V) (Q : VK) (E : XK), Room k (A.deeper (envOfC qual scope s.heap.objs.size f cdv)) → sp vs H Q E →
      ∃ t, PSs (cxOf CX P w K mg base N qual scope f cdv A outer s H E) body t ∧ t { nx := fun _ H' => Q .non H', rt := Q } (start N vs) H) :
    FnOk P w K mg base CX (k + 1) f (PySem.W.fnOf name qual params body scope dV kV doc pm an cdv ct) ps sp := by
  refine ⟨len, fun A outer s H args us vs Q E hr e0 hb r hsp => ?_⟩
  have hl := len _ _ _ _ hsp
  have KX : K.In s.heap := e0.mod.kin.keeps fun b o e => (e0.bs b o e).1
  have lim : s.heap.NoLimit := e0.mod.nolimit.keeps fun b o e => (e0.bs b o e).1
  have hkind : ∀ y ∈ ps.zip us, scope.names.lookup y.1 = some .local ∨ (scope.names.lookup y.1 = some .cell ∧ ((cellsFrom (s.heap.objs.size + 1) scope.names []).lookup y.1).isSome = true) := fun ⟨n, v⟩ hy => by
    rcases S.par n (List.of_mem_zip hy).1 with q | q
    · exact .inl q
    · exact .inr ⟨q, PySem.W.cellsFrom_some _ _ _ (.inl q)⟩
  refine codeAny_call_function hr.depth (KX _ _ lk) rfl S.co S.gen rfl (PySem.W.codeRec_of KX hcd) (hb _ _ _ _ ?_)
  refine wpAny_newFunctionEnv_cells S.kind hkind fun env he s1 x => ?_
  subst he
  refine ⟨lim.keeps x.toInCall.keep, codeAny_func ?_⟩
  obtain ⟨t, ht, hq⟩ := hbody A outer s H vs Q E (hr.deeper _) hsp
  have I : Inv (cxOf CX P w K mg base N qual scope f cdv A outer s H E) [] (start N vs) H s1 := inv_start S hr.hd e0 hl r x
  refine wpAny_mono (ht [] s1 (start N vs) H _ I hq) (fun fl s' hs => ?_) fun e s' hs => hs
  have fin : ∀ {σ' : St} {H' : Hp} {v : V} {u : Value}, Inv (cxOf CX P w K mg base N qual scope f cdv A outer s H E) [] σ' H' s' → RelV v u → Q v H' → CE outer P w H s Q u s' :=
    fun {σ' H' v u} J rv q => ⟨v, H', J.os, J.bare, J.base, J.hok, rv, q⟩
  cases fl with
  | ret u =>
    obtain ⟨v, σ', H', J, rv, q⟩ := hs
    exact fin J rv q
  | next =>
    obtain ⟨σ', H', J, q⟩ := hs
    exact fin (v := V.non) (u := Value.none) J rfl q
  | brk =>
    obtain ⟨_, _, _, q⟩ := hs
    exact False.elim q
  | cont =>
    obtain ⟨_, _, _, q⟩ := hs
    exact False.elim q
end L2

namespace L2
open PySem PySem.Spec PyProof.Rows
section
variable {X : Cx} {x : Str} {p pos : Pos} {e : Expr} {es : List Expr} {t : TA} {id T : String} {r : List V → Hp → VK → Prop}

def tCB (r : List V → Hp → VK → Prop) (t : TA) : TE := fun σ H Q => t σ H fun vs H1 => r vs H1 Q
/-- f(e, ..), f a built-in function -/
theorem pe_callB (hc : CallR X (.builtin id) r) (hg : Gl X x) (hm : X.mg x = none) (hv : bootBuiltins x = some (.builtin id)) (ha : PA X (e :: es) t) (hn : x ≠ "__name__" := by decide) (hdb : (x == ("__debug__" : Str)) = false := by decide)
    (he : starEach (e :: es) X.env = (false, eval e X.env) :: starEach es X.env := by rfl) (hpl : (backTo pos (starEach es X.env)).any (·.1) = false := by rfl) : PE X (.Call (.Name x p) (e :: es) [] pos) (tCB r t) := by
  intro pins s σ H Q I h
  refine wpAny_Call_Name_kw (ld_blt I hg hm hv ?_ hn hdb)
  exact PyProof.Rows.callWith_builtin1 (thn (ha pos pins s σ H _ I h) fun us s1 ⟨vs, H1, I1, r1, q1⟩ => hc pins s1 σ H1 vs us Q I1 r1 q1) he hpl
/-- T(e, ..), T a built-in type -/
theorem pe_callTy (hc : CallR X (.type T) r) (hg : Gl X x) (hm : X.mg x = none) (hv : bootBuiltins x = some (.type T)) (ha : PA X (e :: es) t) (hn : x ≠ "__name__" := by decide) (hdb : (x == ("__debug__" : Str)) = false := by decide)
    (he : starEach (e :: es) X.env = (false, eval e X.env) :: starEach es X.env := by rfl) (hpl : (backTo pos (starEach es X.env)).any (·.1) = false := by rfl) : PE X (.Call (.Name x p) (e :: es) [] pos) (tCB r t) := by
  intro pins s σ H Q I h
  refine wpAny_Call_Name_kw (ld_blt I hg hm hv ?_ hn hdb)
  exact PyProof.Rows.callWith_type1 (thn (ha pos pins s σ H _ I h) fun us s1 ⟨vs, H1, I1, r1, q1⟩ => hc pins s1 σ H1 vs us Q I1 r1 q1) he hpl
end
end L2

namespace HT
open PySem PyProof.Rows

/-- t < u of tuples of ints -/
def lexLt : List Int → List Int → Bool
  | [], [] => false
  | [], _ :: _ => true
  | _ :: _, [] => false
  | x :: xs, y :: ys => if x = y then lexLt xs ys else decide (x < y)
theorem lexLt_cons (x y : Int) (xs ys : List Int) : lexLt (x :: xs) (y :: ys) = if x = y then lexLt xs ys else decide (x < y) := rfl
theorem lexLt_nil_nil : lexLt [] [] = false := rfl
theorem lexLt_nil_cons (y : Int) (ys : List Int) : lexLt [] (y :: ys) = true := rfl
theorem lexLt_cons_nil (x : Int) (xs : List Int) : lexLt (x :: xs) [] = false := rfl

theorem eqAt_int (A : Around) (s : Shared) (a : Int) (t : Tok) (c : Int) (u : Tok) : ∃ e, SeqAt.EqAt A s (.int a t) (.int c u) e ∧ (e = true ↔ a = c) :=
  ⟨(a == c), SeqAt.EqAt.int_int a t c u, by simp⟩
theorem rcLt_int (A : Around) (s : Shared) (a : Int) (t : Tok) (c : Int) (u : Tok) (prog : Program) (w : World) (E : Value → Shared → Prop) (Q : Value → Shared → Prop) (h : Q (.bool (decide (a < c))) s) :
    wpAny (model prog w) A (richCompare .Lt (.int a t) (.int c u)) Q E s :=
  (PyProof.Rows.lt_int h : wpAny (model prog w) A (compareOp .Lt (.int a t) (.int c u)) Q E s)

section
open PySem.SeqAt
open PySem.AutoSeq1 (wpAny_loadPart')
open PySem.MeetsSeq PySem.MeetsSeq2 PySem.MeetsSeq3

theorem tuple_lt_ints (l b : Addr) (items items2 : Array Value) (n n2 : Nat) (dd dd2 : Option Addr) (sl sl2 : Array (Option Value)) (ns ms : List Int) (hi : IntsAre items.toList ns) (hj : IntsAre items2.toList ms) :
    Meets (Builtin.«tuple.__lt__» ⟨[.ref l, .ref b], []⟩)
      (fun _ R s => s.heap.get? l = some { cls := .type "tuple", dict := dd, data := .seq items n, slots := sl } ∧ s.heap.get? b = some { cls := .type "tuple", dict := dd2, data := .seq items2 n2, slots := sl2 } ∧
        R (.ok (.ret (.bool (lexLt ns ms)))) s) :=
  .of_wp fun prog w A R s h => by
    obtain ⟨hp, g, d, tk, os⟩ := s; obtain ⟨hl, hb, h⟩ := h
    have f2 := AutoSeq1.sub_tuple_tuple
    have z1 : items.size = ns.length := by rw [← hi.length]; simp
    have z2 : items2.size = ms.length := by rw [← hj.length]; simp
    wp_walk using wpAny_loadPart' hl, wpAny_loadPart' hb, wpAny_forIn_list _ (fun rest b s' => b.1 = none ∧ s' = ⟨hp, g, d, tk, os⟩ ∧ ∃ (vs ws : List Value) (ns' ms' : List Int), rest = vs.zip ws ∧
      IntsAre vs ns' ∧ IntsAre ws ms' ∧ ns'.length + items2.size = ms'.length + items.size ∧ R (.ok (.ret (.bool (lexLt ns' ms')))) ⟨hp, g, d, tk, os⟩) _
    case turn =>
      rintro ⟨y, x⟩ rest b s' ⟨hb', rfl, vs, ws, ns', ms', hz, hvi, hwi, hlen, hR⟩
      cases hvi with
      | nil => rw [List.zip_nil_left] at hz; cases hz
      | cons a t hvi' =>
        cases hwi with
        | nil => rw [List.zip_nil_right] at hz; cases hz
        | cons c u hwi' =>
          rw [List.zip_cons_cons] at hz
          injection hz with hyx hrest
          injection hyx with hy hx
          subst hy hx
          rw [lexLt_cons] at hR
          simp only [List.length_cons] at hlen
          obtain ⟨e, he, hiff⟩ := eqAt_int A.in1 ⟨hp, g, d, tk, os⟩ a t c u
          refine wpAny_bind (he prog w _ _ ?_)
          cases e with
          | true =>
            rw [if_pos (hiff.mp rfl)] at hR
            wp_walk
            exact ⟨rfl, rfl, _, _, _, _, hrest, hvi', hwi', by omega, hR⟩
          | false =>
            rw [if_neg (fun q => absurd (hiff.mpr q) Bool.false_ne_true)] at hR
            have hri := rcLt_int A.in1 ⟨hp, g, d, tk, os⟩ a t c u prog w
            wp_walk using hri
            exact ⟨_, rfl, by simpa using hR⟩
    case fin =>
      rintro ⟨b1, b2⟩ s' ⟨hb', rfl, vs, ws, ns', ms', hz, hvi, hwi, hlen, hR⟩
      simp only at hb'
      subst hb'
      have hv : lexLt ns' ms' = decide (items.size < items2.size) := by
        cases hvi with
        | nil =>
          cases hwi with
          | nil =>
            simp only [List.length_nil] at hlen
            rw [lexLt_nil_nil]
            exact (decide_eq_false (by omega)).symm
          | cons c u hw =>
            simp only [List.length_nil, List.length_cons] at hlen
            rw [lexLt_nil_cons]
            exact (decide_eq_true (by omega)).symm
        | cons a t hv =>
          cases hwi with
          | nil =>
            simp only [List.length_nil, List.length_cons] at hlen
            rw [lexLt_cons_nil]
            exact (decide_eq_false (by omega)).symm
          | cons c u hw =>
            rw [List.zip_cons_cons] at hz
            cases hz
      rw [hv] at hR
      wp_walk
      exact ⟨_, rfl, by simpa [Builtin.Tuple.tupleCompareSizes] using hR⟩
    case h =>
      exact ⟨rfl, rfl, items.toList, items2.toList, ns, ms, rfl, hi, hj, by omega, h⟩
end

section
variable {prog : Program} {w : World} {A : Around} {E : Value → Shared → Prop} {s : Shared}

theorem lt_tupInts {l b : Addr} {items items2 : Array Value} {ns ms : List Int} {Q : Value → Shared → Prop} (hl : IsTup s.heap l items) (hb : IsTup s.heap b items2) (hi : IntsAre items.toList ns) (hj : IntsAre items2.toList ms)
    (hu : A.units < cLine) (h : Q (.bool (lexLt ns ms)) s) : wpAny (model prog w) A (compareOp .Lt (.ref l) (.ref b)) Q E s := by
  obtain ⟨⟨cls, dd, data, sl⟩, ho, hc, n, hd⟩ := id hl
  obtain ⟨⟨cls2, dd2, data2, sl2⟩, ho2, hc2, n2, hd2⟩ := id hb
  simp only at hc hd hc2 hd2
  subst hc hd hc2 hd2
  exact richCompare_meets_room (op := .Lt) ⟨_, ho, rfl⟩ ⟨_, ho2, rfl⟩ PySem.F.slot_tuple_lt PySem.F.entry_tuple_lt (PySem.F.args_tuple_lt_2 _ _) (tuple_lt_ints l b items items2 n n2 dd dd2 sl sl2 ns ms hi hj)
    ⟨ho, ho2, show Value.bool (lexLt ns ms) ≠ Value.notImplemented ∧ Q (.bool (lexLt ns ms)) s from ⟨(fun x => nomatch x), h⟩⟩ hu

/-- t + u, t not empty -/
theorem cat_tup {t b : Addr} {vs ws : List Value} {Q : Value → Shared → Prop} (ht : IsTup s.heap t vs.toArray) (hb : IsTup s.heap b ws.toArray) (hv : vs ≠ [])
    (h1 : ws = [] → Q (.ref t) s) (h2 : ws ≠ [] → Q (.ref s.heap.objs.size) { s with heap := s.heap.push { cls := .type "tuple", data := .seq (vs ++ ws).toArray } })
    (hsz : vs.length + ws.length ≤ sizeLine) : wpAny (model prog w) A (binaryOp .Add (.ref t) (.ref b)) Q E s := by
  obtain ⟨⟨cls, dd, data, sl⟩, ho, hc, n, hd⟩ := id ht
  obtain ⟨⟨cls2, dd2, data2, sl2⟩, ho2, hc2, n2, hd2⟩ := id hb
  simp only at hc hd hc2 hd2
  subst hc hd hc2 hd2
  have e : vs.toArray ++ ws.toArray = (vs ++ ws).toArray := by simp
  by_cases hw : ws = []
  · exact concat_meets ⟨_, ho, rfl⟩ ⟨_, ho2, rfl⟩ noFill_tuple_add seq_tuple_add PySem.F.slot_tuple_add PySem.F.entry_tuple_add (PySem.F.args_tuple_add_2 _ _)
      (tuple_addW1 t b vs.toArray ws.toArray n n2 dd dd2 sl sl2 (by simpa using hv) (by simp [hw])) ⟨ho, ho2, h1 hw⟩
  · refine concat_meets ⟨_, ho, rfl⟩ ⟨_, ho2, rfl⟩ noFill_tuple_add seq_tuple_add PySem.F.slot_tuple_add PySem.F.entry_tuple_add (PySem.F.args_tuple_add_2 _ _)
      (tuple_addW2 t b vs.toArray ws.toArray n n2 dd dd2 sl sl2 (by simpa using hv) (by simpa using hw) (by rw [List.size_toArray, List.size_toArray]; exact hsz)) ⟨ho, ho2, ?_⟩
    rw [e]
    exact h2 hw

/-! ### t[a:b], not the whole -/
/-- a slice's bound as a place among n (d where it is left out) -/
def sIx (n d : Nat) : Option Int → Nat
  | none => d
  | some v => if v < 0 then (v + (n : Int)).toNat else min v.toNat n
theorem sIx_le (n d : Nat) (hd : d ≤ n) (o : Option Int) : sIx n d o ≤ n := by
  cases o with
  | none => exact hd
  | some v =>
    show (if v < 0 then (v + (n : Int)).toNat else min v.toNat n) ≤ n
    by_cases hv : v < 0
    · rw [if_pos hv]; omega
    · rw [if_neg hv]; exact Nat.min_le_right _ _
theorem clip_eq (v : Int) (n d : Nat) : (if v < 0 then max (v + (n : Int)) 0 else min v (n : Int)) = ((sIx n d (some v) : Nat) : Int) := by
  show (if v < 0 then max (v + (n : Int)) 0 else min v (n : Int)) = (((if v < 0 then (v + (n : Int)).toNat else min v.toNat n) : Nat) : Int)
  by_cases hv : v < 0
  · simp only [if_pos hv]; omega
  · simp only [if_neg hv]; omega
theorem adjust_gen (lo hi : Option Int) (n : Nat) : Builtin.Slice.sliceAdjust lo hi 1 (n : Int) = (((sIx n 0 lo : Nat) : Int), ((sIx n n hi : Nat) : Int)) := by
  have h1 : ¬ ((1 : Int) < 0) := by omega
  unfold Builtin.Slice.sliceAdjust
  simp only [h1, if_false]
  refine Prod.ext ?_ ?_
  · cases lo with
    | none => rfl
    | some v => exact clip_eq v n 0
  · cases hi with
    | none => rfl
    | some v => exact clip_eq v n n
theorem places_gen (i j : Nat) : Builtin.Slice.slicePlaces (i : Int) (j : Int) 1 = j - i := by
  unfold Builtin.Slice.slicePlaces
  have h1 : (1 : Int) > 0 := by omega
  simp only [h1, if_true, Int.ediv_one]
  split <;> omega
theorem slicePart_ {v : Value} {o : Option Int} {Q : Option Int → Shared → Prop} (p : IsPart v o) (h : Q o s) : wpAny (model prog w) A (Builtin.Slice.slicePartIndex v) Q E s := by
  cases p with
  | none => exact slicePart_none h
  | int i t => exact slicePart_int h
theorem sliceApplied_gen {sl : Addr} {vl vu : Value} {lo hi : Option Int} {n : Nat} {Q : Int × Int × Nat → Shared → Prop} (hs : s.heap.IsSliceOf sl vl vu .none) (pl : IsPart vl lo) (pu : IsPart vu hi)
    (h : Q (((sIx n 0 lo : Nat) : Int), 1, sIx n n hi - sIx n 0 lo) s) : wpAny (model prog w) A (Builtin.Slice.sliceApplied (.ref sl) (pure (n : Int))) Q E s := by
  obtain ⟨os, hos, hcs, hds⟩ := id hs
  unfold Builtin.Slice.sliceApplied Builtin.Slice.sliceFields
  refine wpAny_bind (wpAny_bind (wpAny_field hos hds (x := vl) rfl (wpAny_bind (wpAny_field hos hds (x := vu) rfl (wpAny_bind (wpAny_field hos hds (x := .none) rfl (wpAny_pure ?_)))))))
  refine wpAny_bind (slicePart_none ?_)
  show wpAny _ _ (if ((1 : Int) == 0) = true then _ else _) _ _ s
  rw [if_neg (by decide)]
  refine wpAny_bind (slicePart_ pl (wpAny_bind (slicePart_ pu (wpAny_bind (wpAny_pure ?_)))))
  show wpAny _ _ (match Builtin.Slice.sliceAdjust lo hi 1 (n : Int) with | (lo, hi) => pure (lo, (1 : Int), Builtin.Slice.slicePlaces lo hi 1)) _ _ s
  rw [adjust_gen lo hi n]
  show wpAny _ _ (pure (((sIx n 0 lo : Nat) : Int), (1 : Int), Builtin.Slice.slicePlaces ((sIx n 0 lo : Nat) : Int) ((sIx n n hi : Nat) : Int) 1)) _ _ s
  rw [places_gen]
  exact wpAny_pure h
theorem pick_gen (xs : Array Value) (i k : Nat) : ((List.range k).filterMap fun (m : Nat) => xs[((i : Int) + (m : Int) * 1).toNat]?).toArray = ((xs.toList.drop i).take k).toArray := by
  have e : (fun (m : Nat) => xs[((i : Int) + (m : Int) * 1).toNat]?) = fun m => xs[i + m]? := by
    funext m
    have : ((i : Int) + (m : Int) * 1).toNat = i + m := by omega
    rw [this]
  rw [e]
  have := pick_run xs i k
  rw [List.filterMap_map] at this
  have e2 : ((fun x => xs[x]?) ∘ fun x => i + x) = fun m => xs[i + m]? := rfl
  rw [e2] at this
  rw [this]

theorem getItem_tuple_cut {t sl : Addr} {items : Array Value} {vl vu : Value} {lo hi : Option Int} {Q : Value → Shared → Prop} (ht : IsTup s.heap t items) (hs : s.heap.IsSliceOf sl vl vu .none) (pl : IsPart vl lo) (pu : IsPart vu hi)
    (hw : ¬ (sIx items.size 0 lo = 0 ∧ sIx items.size items.size hi = items.size))
    (h : Q (.ref s.heap.objs.size) { s with heap := s.heap.push { cls := .type "tuple", data := .seq ((items.toList.drop (sIx items.size 0 lo)).take (sIx items.size items.size hi - sIx items.size 0 lo)).toArray } })
    (hsz : items.size ≤ sizeLine) : wpAny (model prog w) A (getItem (.ref t) (.ref sl)) Q E s := by
  have htake : sizeOk (.seq ((items.toList.drop (sIx items.size 0 lo)).take (sIx items.size items.size hi - sIx items.size 0 lo)).toArray) := by
    show ((items.toList.drop (sIx items.size 0 lo)).take (sIx items.size items.size hi - sIx items.size 0 lo)).toArray.size ≤ sizeLine
    rw [List.size_toArray, List.length_take, List.length_drop, Array.length_toList]
    omega
  have hj : sIx items.size items.size hi ≤ items.size := sIx_le _ _ (Nat.le_refl _) hi
  obtain ⟨os, hos, hcs, hds⟩ := id hs
  have hTs : s.TypeIs (.ref sl) "slice" := ⟨os, hos, hcs⟩
  unfold getItem
  try with_reducible refine wpAny_holding ?_
  first | refine wpAny_bind (wpAny_pure ?_) | skip
  refine wpAny_bind (wpAny_sequenceKey ht.typeIs (by decide) ?_)
  refine wpAny_bind (wpAny_callSpecial?_slot (name := Str.ofString "__getitem__") ht.typeIs PyProof.Rows.slot_tuple_getitem
    (wpAny_call_entry PyProof.Rows.slot_tuple_getitem ht.typeIs entry_tuple_getitem ?_ (args_tuple_getitem _ _)))
  show wpAny _ _ (Builtin.Tuple.tupleItemsOf (.ref t) >>= _) _ _ s
  refine wpAny_bind (tupleItemsOf_ ht ?_)
  refine wpAny_bind (wpAny_typeOf hTs ?_)
  rw [if_pos (by decide)]
  refine wpAny_bind (sliceApplied_gen hs pl pu ?_)
  have hno : ¬ ((((sIx items.size 0 lo : Nat) : Int) == 0 && (1 : Int) == 1 && (sIx items.size items.size hi - sIx items.size 0 lo) == items.size) = true) := by
    intro q
    rw [Bool.and_eq_true, Bool.and_eq_true] at q
    have q1 : ((sIx items.size 0 lo : Nat) : Int) = 0 := eq_of_beq q.1.1
    have q2 : sIx items.size items.size hi - sIx items.size 0 lo = items.size := eq_of_beq q.2
    exact hw ⟨by omega, by omega⟩
  show wpAny _ _ (if (((sIx items.size 0 lo : Nat) : Int) == 0 && (1 : Int) == 1 && (sIx items.size items.size hi - sIx items.size 0 lo) == items.size) = true then _ else _) _ _ s
  rw [if_neg hno, pick_gen]
  first
    | exact wpAny_bind (m := Builtin.Tuple.tupleExact _) (wpAny_newObj_type (wpAny_pure ⟨_, rfl, wpAny_pure h⟩) htake)
    | exact wpAny_bind (m := Builtin.Tuple.tupleExact _) (wpAny_newObj_type (wpAny_bind (wpAny_pure (wpAny_pure ⟨_, rfl, wpAny_pure h⟩))) htake)
    | exact wpAny_bind (wpAny_bind (m := Builtin.Tuple.tupleExact _) (wpAny_newObj_type (wpAny_pure (wpAny_pure ⟨_, rfl, wpAny_pure h⟩)) htake))
    | exact wpAny_bind (wpAny_bind (m := Builtin.Tuple.tupleExact _) (wpAny_newObj_type (wpAny_pure ⟨_, rfl, wpAny_pure h⟩) htake))
end
end HT

namespace L2
open PySem PySem.Spec PyProof.Rows

/-! ### the parts of a slice -/
abbrev TO := St → Hp → (Option Int → Hp → Prop) → Prop
/-- a slice's part (left out, or an int) -/
def PO (X : Cx) (e : Option Expr) (t : TO) : Prop :=
  ∀ (pins : List (Addr × Obj)) (s : Shared) (σ : St) (H : Hp) (Q : Option Int → Hp → Prop), Inv X pins σ H s → t σ H Q →
    wpAny (model X.prog X.w) X.A (evalPart e X.env) (fun u s' => ∃ o H', Inv X pins σ H' s' ∧ IsPart u o ∧ Q o H') X.xe s
def tNoPart : TO := fun _ H Q => Q none H
def tPart (t : TE) : TO := fun σ H Q => t σ H fun x H1 => ∃ i, x = .int i ∧ Q (some i) H1

section
variable {X : Cx} {e : Expr} {te : TE} {lo hi : Option Expr} {tl th : TO} {pos p2 : Pos}

theorem po_none : PO X none tNoPart := by
  intro pins s σ H Q I h
  rw [evalPart_none]
  exact wpAny_pure ⟨none, H, I, .none, h⟩
theorem po_some (h : PE X e te) : PO X (some e) (tPart te) := by
  intro pins s σ H Q I hw
  rw [evalPart_some]
  refine thn (h pins s σ H _ I hw) fun u s1 ⟨x, H1, I1, r1, q1⟩ => ?_
  obtain ⟨i, rfl, q⟩ := q1
  obtain ⟨t, rfl⟩ := r1
  exact ⟨some i, H1, I1, .int i t, q⟩

/-- what a slice of a value is, by values: the slice object stands at sl -/
def SlR (X : Cx) (r : V → Option Int → Option Int → Hp → VK → Prop) : Prop :=
  ∀ (pins : List (Addr × Obj)) (s : Shared) (σ : St) (H : Hp) (x : V) (v vl vu : Value) (lo hi : Option Int) (sl : Addr) (Q : VK), Inv X pins σ H s → RelV x v → s.heap.IsSliceOf sl vl vu .none → IsPart vl lo → IsPart vu hi → r x lo hi H Q →
    ∃ T id, typeLookup (.type T) "__getitem__" = pure (some (.builtin id)) ∧ s.TypeIs v T ∧ wpAny (model X.prog X.w) X.A (getItem v (.ref sl)) (EP X pins σ Q) X.xe s
def tSl (r : V → Option Int → Option Int → Hp → VK → Prop) (te : TE) (tl th : TO) : TE := fun σ H Q => te σ H fun x H1 => tl σ H1 fun l H2 => th σ H2 fun u H3 => r x l u H3 Q
/-- a[lo:hi], any a -/
theorem pe_slice {r : V → Option Int → Option Int → Hp → VK → Prop} (hr : SlR X r) (he : PE X e te) (hl : PO X lo tl) (hu : PO X hi th) : PE X (.Subscript e (.Slice lo hi none p2) pos) (tSl r te tl th) := by
  intro pins s σ H Q I h
  refine Subscript_ (thn (he pins s σ H _ I h) fun v s1 ⟨x, H1, I1, r1, q1⟩ => ?_)
  refine wpAny_Slice (thn (hl pins s1 σ H1 _ I1 q1) fun vl s2 ⟨l, H2, I2, pl, q2⟩ => thn (hu pins s2 σ H2 _ I2 q2) fun vu s3 ⟨u, H3, I3, pu, q3⟩ => ?_)
  rw [evalPart_none]
  refine wpAny_pure ?_
  have I4 : Inv X pins σ H3 { s3 with heap := s3.heap.push { cls := .type "slice", data := .fields #[vl, vu, .none] } } := I3.kept (t' := s3.toks) fun b ob q => Heap.get?_push_of_some _ q
  obtain ⟨T, id, hT, ht, hg⟩ := hr pins { s3 with heap := s3.heap.push { cls := .type "slice", data := .fields #[vl, vu, .none] } } σ H3 x v vl vu l u s3.heap.objs.size Q I4 r1 (Heap.IsSliceOf.new ..) pl pu q3
  show wpAny (model X.prog X.w) X.A (subscriptTail e (.Slice lo hi none p2) v (.ref s3.heap.objs.size)) (EP X pins σ Q) X.xe { s3 with heap := s3.heap.push { cls := .type "slice", data := .fields #[vl, vu, .none] } }
  exact tail_any (ops := [.ref s3.heap.objs.size, v]) ht hT hg (by with_unfolding_all rfl)

/-- the items of xs[lo:hi] -/
def cutV (xs : List V) (lo hi : Option Int) : List V := (xs.drop (HT.sIx xs.length 0 lo)).take (HT.sIx xs.length xs.length hi - HT.sIx xs.length 0 lo)
theorem cutV_length (xs : List V) (lo hi : Option Int) : (cutV xs lo hi).length ≤ xs.length := by
  unfold cutV
  rw [List.length_take, List.length_drop]
  omega
/-- t[lo:hi], not the whole of it (the whole would be t itself) -/
def rSlT (K : PySem.W.Frag) : V → Option Int → Option Int → Hp → VK → Prop := fun x lo hi H Q => ∃ a xs, x = .ref a ∧ SqT K H a xs ∧
  ¬ (HT.sIx xs.length 0 lo = 0 ∧ HT.sIx xs.length xs.length hi = xs.length) ∧ ∀ p, H p = none → Q (.ref p) (upd H p (.tup (cutV xs lo hi)))
theorem sl_tup : SlR X (rSlT X.K) := by
  intro pins s σ H x v vl vu lo hi sl Q I rx hs pl pu h
  obtain ⟨a, xs, rfl, hx, hw, q⟩ := h
  cases rx
  obtain ⟨its, r, ht, hz⟩ := I.tuple hx
  have hlen : its.toArray.size = xs.length := by rw [List.size_toArray]; exact r.length.symm
  refine ⟨"tuple", _, PyProof.Rows.slot_tuple_getitem.lookup, ht.typeIs, ?_⟩
  refine HT.getItem_tuple_cut ht hs pl pu (by rw [hlen]; exact hw) ?_ (by rw [hlen]; exact hz)
  rw [hlen]
  refine ⟨.ref s.heap.objs.size, _, I.laid (t' := s.toks) (o := .tup (cutV xs lo hi)) (fun b ob q => Heap.get?_push_of_some _ q) (Nat.le_refl _) ?_, rfl, q _ (I.hok.fresh (Nat.le_refl _))⟩
  exact ⟨Nat.le_trans (cutV_length xs lo hi) hz, _, (r.drop (HT.sIx xs.length 0 lo)).take (HT.sIx xs.length xs.length hi - HT.sIx xs.length 0 lo), IsTup.new _ _⟩

/-! ### t < u, t + u -/
/-- t + u, t not empty: u empty gives t itself -/
def rCatT (K : PySem.W.Frag) : R2 := fun x y H Q => ∃ a b xs ys, x = .ref a ∧ y = .ref b ∧ SqT K H a xs ∧ SqT K H b ys ∧ xs ≠ [] ∧ xs.length + ys.length ≤ sizeLine ∧
  (ys = [] → Q (.ref a) H) ∧ (ys ≠ [] → ∀ p, H p = none → Q (.ref p) (upd H p (.tup (xs ++ ys))))
theorem Vals.nil_iff {xs : List V} {us : List Value} (r : Vals xs us) : us = [] ↔ xs = [] := by
  cases r with
  | nil => simp
  | cons _ _ => simp
theorem op_catT : OpR X (binaryOp .Add) (rCatT X.K) := by
  intro pins s σ H x y v u Q I rx ry h
  obtain ⟨a, b, xs, ys, rfl, rfl, ha, hb, hx, hz, q1, q2⟩ := h
  cases rx
  cases ry
  obtain ⟨its, r1, p1, _⟩ := I.tuple ha
  obtain ⟨its2, r2, p2, _⟩ := I.tuple hb
  refine HT.cat_tup p1 p2 (fun z => hx (r1.nil_iff.mp z)) (fun z => ⟨.ref a, H, I, rfl, q1 (r2.nil_iff.mp z)⟩) (fun z => ?_) (by rw [← r1.length, ← r2.length]; exact hz)
  refine ⟨.ref s.heap.objs.size, _, I.laid (t' := s.toks) (o := .tup (xs ++ ys)) (fun b ob q => Heap.get?_push_of_some _ q) (Nat.le_refl _) ?_, rfl, q2 (fun w => z (r2.nil_iff.mpr w)) _ (I.hok.fresh (Nat.le_refl _))⟩
  exact ⟨by rw [List.length_append]; exact hz, _, r1.append r2, IsTup.new _ _⟩
end
end L2

namespace L2
open PySem PySem.Spec PyProof.Rows

/-! ### places -/
/-- the place that an index of any sign means -/
def ixN (n : Nat) (i : Int) : Option Nat := if 0 ≤ i then (if i < n then some i.toNat else none) else if -(n : Int) ≤ i then some (i + n).toNat else none
def atI {α : Type} (xs : List α) (i : Int) : Option α := (ixN xs.length i).bind fun j => xs[j]?
theorem ixN_seq {n : Nat} {i : Int} {j : Nat} (h : ixN n i = some j) : seqIndex? i n = some j ∧ j < n ∧ -(n : Int) ≤ i ∧ i < n := by
  unfold ixN at h
  by_cases h0 : 0 ≤ i
  · rw [if_pos h0] at h
    by_cases h1 : i < n
    · rw [if_pos h1] at h
      have e : i.toNat = j := Option.some.inj h
      exact ⟨by rw [seqIndex_of h0 h1, e], by omega, by omega, h1⟩
    · rw [if_neg h1] at h; cases h
  · rw [if_neg h0] at h
    by_cases h1 : -(n : Int) ≤ i
    · rw [if_pos h1] at h
      have e : (i + n).toNat = j := Option.some.inj h
      exact ⟨by rw [seqIndex_neg (by omega) h1, e], by omega, h1, by omega⟩
    · rw [if_neg h1] at h; cases h
theorem atI_get {α : Type} {xs : List α} {i : Int} {v : α} (h : atI xs i = some v) : ∃ j, seqIndex? i xs.length = some j ∧ xs[j]? = some v ∧ j < xs.length ∧ -(xs.length : Int) ≤ i ∧ i < xs.length := by
  unfold atI at h
  cases e : ixN xs.length i with
  | none => rw [e] at h; cases h
  | some j =>
    rw [e] at h
    obtain ⟨h1, h2, h3, h4⟩ := ixN_seq e
    exact ⟨j, h1, h, h2, h3, h4⟩
theorem atI_nat {α : Type} {xs : List α} {j : Nat} {v : α} (h : xs[j]? = some v) : atI xs (j : Int) = some v := by
  have hj : j < xs.length := (List.getElem?_eq_some_iff.mp h).1
  have e : ixN xs.length (j : Int) = some j := by
    unfold ixN
    rw [if_pos (by omega), if_pos (by omega)]; simp
  unfold atI; rw [e]; exact h
/-! ### what may be subscripted -/
/-- what stands as an index of a plain subscript -/
def PlainIx (b : Expr) : Prop := ∀ o i, subscripted b false o i = operate [o, i] (getItem o i)
/-- a subscript by values -/
def IxR (X : Cx) (r : R2) : Prop :=
  ∀ (value slice : Expr) (pins : List (Addr × Obj)) (s : Shared) (σ : St) (H : Hp) (x y : V) (v u : Value) (Q : VK), Inv X pins σ H s → RelV x v → RelV y u → r x y H Q →
    subscripted slice false v u = operate [v, u] (getItem v u) → wpAny (model X.prog X.w) X.A (subscriptTail value slice v u) (EP X pins σ Q) X.xe s
/-- a call of a builtin's method by values: the receiver, the arguments -/
def MtR (X : Cx) (id : String) (r : V → List V → Hp → VK → Prop) : Prop :=
  ∀ (pins : List (Addr × Obj)) (s : Shared) (σ : St) (H : Hp) (x : V) (xs : List V) (v : Value) (us : List Value) (Q : VK), Inv X pins σ H s → RelV x v → Vals xs us → r x xs H Q →
    wpAny (model X.prog X.w) X.A (call (.builtin id) (v :: us)) (EP X pins σ Q) X.xe s
section
variable {X : Cx} {a b : Expr} {ta tb : TE} {pos : Pos}
/-- a[b] -/
theorem pe_ix {r : R2} (hr : IxR X r) (ha : PE X a ta) (hb : PE X b tb) (hs : PlainIx b) : PE X (.Subscript a b pos) (tOp r ta tb) := by
  intro pins s σ H Q I h
  exact Subscript_ (binT ha hb I h fun v u s2 x y H2 I2 rx ry q => hr a b pins s2 σ H2 x y v u Q I2 rx ry q (hs _ _))

def rIxL (K : PySem.W.Frag) : R2 := fun x y H Q => ∃ p xs i v, x = .ref p ∧ y = .int i ∧ SqL K H p xs ∧ atI xs i = some v ∧ Q v H
def rIxT (K : PySem.W.Frag) : R2 := fun x y H Q => ∃ p xs i v, x = .ref p ∧ y = .int i ∧ SqT K H p xs ∧ atI xs i = some v ∧ Q v H
theorem ix_list : IxR X (rIxL X.K) := by
  intro value slice pins s σ H x y v u Q I rx ry h hs
  obtain ⟨p, xs, i, z, rfl, rfl, hq, he, q⟩ := h
  cases rx
  obtain ⟨t, rfl⟩ := ry
  obtain ⟨its, r, pl, hz⟩ := I.list hq
  obtain ⟨j, h1, h2, h3, h4, h5⟩ := atI_get he
  obtain ⟨w, ew, rw'⟩ := r.get h2
  have hl := r.length
  have hn := line63
  have fin : EP X pins σ Q w s := ⟨z, H, I, rw', q⟩
  by_cases h0 : 0 ≤ i
  · have hj : i.toNat = j := by
      rw [seqIndex_of h0 h5] at h1
      exact Option.some.inj h1
    exact item_listR pl.isList h0 (by omega) (by rw [hj]; simpa using ew) fin hs
  · have hj : (i + (its.toArray.size : Int)).toNat = j := by
      rw [seqIndex_neg (by omega) h4] at h1
      rw [List.size_toArray, ← hl]
      exact Option.some.inj h1
    exact subscriptTail_builtinR (x := w) pl.isList.typeIs slot_list_getitem.lookup
      (wpAny_getItem_list_neg (Q := fun r s' => r = w ∧ EP X pins σ Q r s') pl.isList (by omega) (by rw [List.size_toArray] <;> omega) (by omega) (by rw [hj]; simpa using ew) ⟨rfl, fin⟩) hs
theorem ix_tup : IxR X (rIxT X.K) := by
  intro value slice pins s σ H x y v u Q I rx ry h hs
  obtain ⟨p, xs, i, z, rfl, rfl, hq, he, q⟩ := h
  cases rx
  obtain ⟨t, rfl⟩ := ry
  obtain ⟨its, r, pl, hz⟩ := I.tuple hq
  obtain ⟨j, h1, h2, h3, h4, h5⟩ := atI_get he
  obtain ⟨w, ew, rw'⟩ := r.get h2
  have hl := r.length
  have hn := line63
  have fin : EP X pins σ Q w s := ⟨z, H, I, rw', q⟩
  exact subscriptTail_builtinR (x := w) pl.typeIs slot_tuple_getitem.lookup
    (getItem_tuple (j := j) (Q := fun r s' => r = w ∧ EP X pins σ Q r s') pl (by omega) (by omega) (by rw [List.size_toArray, ← hl]; exact h1) (by simpa using ew) ⟨rfl, fin⟩) hs
/-! ### xs[i] = v, any sign -/
/-! ### slices -/
/-! ### in, not in: flat items -/
/-! ### len, list(x), tuple(x) of any list or tuple that is read -/
theorem call_tuple_of : CallR X (.type "tuple") (fun xs H Q => ∃ p ys, xs = [.ref p] ∧ ((SqL X.K H p ys ∧ ∀ l, H l = none → Q (.ref l) (upd H l (.tup ys))) ∨ (SqT X.K H p ys ∧ Q (.ref p) H))) := by
  intro pins s σ H xs us Q I r h
  obtain ⟨p, ys, rfl, h⟩ := h
  obtain ⟨u, rfl, rx⟩ := vals1 r
  cases rx
  rcases h with ⟨hq, q⟩ | ⟨hq, q⟩
  · obtain ⟨its, r', pl, hz⟩ := I.list hq
    have hlen := r'.length
    refine call_tuple_list pl.isList (fun h' kp => ?_) (by simp only [List.size_toArray] <;> omega)
    have I1 : Inv X pins σ H { s with heap := h' } := I.kept (t' := s.toks) kp
    have I2 : Inv X pins σ (upd H h'.objs.size (.tup ys)) { s with heap := h'.push { cls := .type "tuple", data := .seq its.toArray } } :=
      I1.laid (t' := s.toks) (fun b o e => Heap.get?_push_of_some _ e) (Nat.le_refl _) (show ObjOk X.prog X.w _ _ _ (.tup ys) from ⟨hz, its, r', IsTup.new _ _⟩)
    exact ⟨.ref h'.objs.size, _, I2, rfl, q _ (I1.hok.fresh (Nat.le_refl _))⟩
  · obtain ⟨its, r', pl, hz⟩ := I.tuple hq
    exact call_tuple_same pl ⟨.ref p, H, I, rfl, q⟩

/-! ### the call of a builtin's method: o.m(..) -/
variable {o e : Expr} {es : List Expr} {to : TE} {t : TA} {name : Str} {apos cpos : Pos} {T id : String} {r : V → List V → Hp → VK → Prop}
/- xs.append(e), list.index on a module's tuple .. are MtR facts of 06m -/
end
end L2

namespace L2
open PySem PySem.Spec PyProof.Rows

def MtM (X : Cx) (id : String) (r : V → List V → Hp → VK → Prop) : Prop :=
  ∀ (pins : List (Addr × Obj)) (s : Shared) (σ : St) (H : Hp) (x : V) (xs : List V) (v : Value) (us : List Value) (Q : VK), Inv X pins σ H s → RelV x v → Vals xs us → r x xs H Q →
    wpAny (model X.prog X.w) X.A (call (.builtin id) (v :: us)) (EP X pins σ Q) X.xe s

/-! ### lists of values -/
theorem Vals.one : ∀ {x : V} {us : List Value}, Vals [x] us → ∃ u, us = [u] ∧ RelV x u
  | _, _, .cons r .nil => ⟨_, rfl, r⟩
theorem Vals.rep {xs : List V} {us : List Value} (h : Vals xs us) : ∀ k : Nat, Vals (List.replicate k xs).flatten (List.replicate k us).flatten
  | 0 => .nil
  | k + 1 => by
    rw [List.replicate_succ, List.replicate_succ, List.flatten_cons, List.flatten_cons]
    exact Vals.append h (Vals.rep h k)
section
variable {X : Cx} {pins : List (Addr × Obj)} {σ : St} {H : Hp} {s : Shared} {l b : Addr} {xs ys zs : List V}

/-! ### the two steps: a tracked list is rewritten, a new list is laid -/
theorem Inv.lset {its its' : List Value} {n : Nat} {f : Array Value → Array Value} {t' : Nat} (I : Inv X pins σ H s) (hH : H l = some (.lst xs))
    (e : s.heap.get? l = some { cls := .type "list", data := .seq its.toArray n }) (hf : f its.toArray = its'.toArray) (hv : Vals ys its') (hz : ys.length ≤ sizeLine) :
    Inv X pins σ (upd H l (.lst ys)) { s with heap := s.heap.update l (Obj.mapSeq f), toks := t' } := by
  have q := PySem.IsL.update e f
  rw [hf] at q
  refine I.write (x := l) (e := l) (by rw [hH]; exact trivial) (.inl rfl) (fun b' u hb hu => (Heap.get?_update_other s.heap (Obj.mapSeq f) (Ne.symm hb)).trans hu) ⟨_, q⟩ ?_
  exact ⟨hz, its', _, hv, q⟩
theorem Inv.lnew {its : List Value} {t' : Nat} (I : Inv X pins σ H s) (hv : Vals ys its) (hz : ys.length ≤ sizeLine) :
    Inv X pins σ (upd H s.heap.objs.size (.lst ys)) { s with heap := s.heap.push { cls := .type "list", data := .seq its.toArray }, toks := t' } :=
  I.laid (fun _ _ q => Heap.get?_push_of_some _ q) (Nat.le_refl _) ⟨hz, its, 0, hv, Heap.get?_push_size _ rfl⟩
theorem Inv.fresh (I : Inv X pins σ H s) : H s.heap.objs.size = none := I.hok.fresh (Nat.le_refl _)
theorem Inv.lstM (I : Inv X pins σ H s) (hH : H l = some (.lst xs)) : xs.length ≤ sizeLine ∧ ∃ (its : List Value) (n : Nat), Vals xs its ∧ xs.length = its.length ∧ s.heap.get? l = some { cls := .type "list", data := .seq its.toArray n } := by
  obtain ⟨z, its, n, r, e⟩ := I.hok l _ hH
  exact ⟨z, its, n, r, r.length, e⟩

end

section
variable {X : Cx}

/-! ### methods -/
def rAppend : V → List V → Hp → VK → Prop := fun x vs H Q => ∃ l xs y, x = .ref l ∧ vs = [y] ∧ H l = some (.lst xs) ∧ xs.length < sizeLine ∧ Q .non (upd H l (.lst (xs ++ [y])))
theorem mt_append : MtM X "list.append" rAppend := by
  intro pins s σ H x vs v us Q I rx rv h
  obtain ⟨l, xs, y, rfl, rfl, hH, hz, q⟩ := h
  cases rx
  obtain ⟨u, rfl, ru⟩ := rv.one
  obtain ⟨z, its, n, r, hl, e⟩ := I.lstM hH
  refine call_meets F.slot_list_append ⟨_, e, rfl⟩ F.entry_list_append (F.args_list_append_2 _ _) (PySem.list_append l its.toArray n u (by rw [List.size_toArray]; omega)) ⟨e, ?_⟩
  refine ⟨.non, _, I.lset (its' := its ++ [u]) hH e (by simp) (r.append (.cons ru .nil)) ?_, rfl, q⟩
  rw [List.length_append, List.length_singleton]
  omega

/-! ### list + list, list += list, list * int -/
/-! ### del xs[i] -/
end

/-! ### xs[a:b] = ys -/
section
variable {prog : Program} {w : World} {A : Around} {E : Value → Shared → Prop} {s : Shared}
set_option maxRecDepth 100000 in
end

section
variable {X : Cx}
end
end L2

namespace Att
open PySem PySem.W PySem.Calls PyProof.Rows

/-! ### the script -/
theorem ints_of_wellAll {P : Params} {h : Heap} : ∀ (ns : List Int) (vs : List Value), WellAll P h vs (ns.map WData.int) → IntsAre vs ns := by
  intro ns
  induction ns with
  | nil =>
    intro vs w
    rw [List.map_nil] at w
    cases w
    exact .nil
  | cons n ns ih =>
    intro vs w
    rw [List.map_cons] at w
    cases w with
    | cons a b =>
      cases a
      exact .cons _ _ (ih _ b)

theorem script_of {l : OpenLaw} {n : Nat} (hn : l.most = some n) {P : Params} {h : Heap} {args : List WData} {vals : List Value}
    (hpre : l.row.toRowW.claim.pre args = true) (hwl : WellAll P h vals args) :
    ∃ a vs ns, vals = [Value.ref a] ∧ args = [WData.list (ns.map WData.int)] ∧ h.get? a = some { cls := .type "list", data := .seq vs.toArray } ∧ IntsAre vs ns ∧ ns.length ≤ n := by
  have hsh : WShape.hasAll [] args [.list .int] = true := (pre_splitW hpre).1
  have hc : l.pre.holds [] { args := args } = true := (pre_splitW hpre).2
  obtain ⟨d, r, rfl, h1, h2⟩ := hasAllW_cons hsh
  obtain rfl := hasAllW_nil h2
  obtain ⟨xs, rfl, h3⟩ := hasW_list h1
  obtain ⟨ns, rfl⟩ := items_int h3
  have hlen : ns.length ≤ n := by
    unfold OpenLaw.pre at hc
    have h4 : (WTm.not (.lt (.lit (.int (n : Int))) (.len (.arg 0)))).holds [] { args := [.list (ns.map .int)] } = true := by
      have h4 := (holds_andW hc).1
      rw [hn] at h4
      exact h4
    have h5 := condW_of h4 (w_not (w_lt w_lit (w_len_list (w_arg rfl))))
    rw [List.length_map] at h5
    refine Nat.le_of_not_lt fun q => ?_
    have q' : (n : Int) < ((ns.length : Nat) : Int) := by omega
    first
      | (rw [decide_eq_true q'] at h5; exact absurd h5 (by decide))
      | (simp at h5; omega)
  cases hwl with
  | cons w1 w2 =>
    cases w2
    cases w1 with
    | list ho hall => exact ⟨_, _, ns, rfl, rfl, ho, ints_of_wellAll ns _ hall, hlen⟩

theorem post_true (l : OpenLaw) (args : List WData) : l.row.toRowW.claim.post args (.bool true) args = true :=
  postW_of (r := l.row.toRowW) (X := (true == true))
    (show WShape.has [] (.bool true) .bool = true by first | rfl | decide | simp [WShape.has, WShape.arms, WShape.armsAll])
    (show (WTm.eq .res (.lit (.bool true))).value [] { args := args, res := some (.bool true), after := args } = some (.bool (true == true)) from w_eq_bool (w_res rfl) w_lit) rfl

/-! ### the attachment: holds_open's last premise (the goal 'hc' behind k_head) from a wpAny of the law's body -/
/-- the same from a codeAny of the CALL (for a layer whose function contracts speak of calls) -/
theorem attach_call {l : OpenLaw} {n : Nat} {q : Program} {loose : List Str} {XP : (Str → Option Value) → Heap → Prop} {YP : World → Heap → Prop} {d : DefRec}
    (hn : l.most = some n) (hdf : d.params.defaults = [])
    (call : ∀ (w : World) (s₀ s₁ : Shared) (mg mb : Str → Option Value) (fa : Addr) (o : Obj) (pm cd doc : Value) (a : Addr) (vs : List Value) (ns : List Int),
      Ground q loose [] XP w s₀ mg mb s₁.heap → YP w s₁.heap →
      s₁.heap.get? fa = some o → o.data = .func (docDef d.name d.params d.body d.scope pm cd doc) → s₁.heap.CodeRec cd d.name → mg d.name = some (.ref fa) →
      s₁.heap.get? a = some { cls := .type "list", data := .seq vs.toArray } → IntsAre vs ns → ns.length ≤ n → s₁.gens = #[] →
      codeAny (model l.prog w) callerA (.call (.ref fa) ⟨[.ref a], []⟩) (fun r s' => r = .ok (.ret (.bool true)) ∧ OldK s₁.heap s'.heap ∧ s'.os = s₁.os ∧ AllBare s'.gens) s₁) :
    WalkO q loose XP YP l.row.toRowW d [] (fun f vs => PySem.call f vs) := by
  intro w s₀ s₁ mg mb G Y fa o pm cd doc dV kV ho hd hcd hD hmg hg args vals as hpre hlay hrd hwl hlo
  obtain rfl : dV = .none := Dflts.none hD hdf
  obtain rfl : kV = .none := Dflts.noKw hD
  obtain ⟨a, vs, ns, rfl, rfl, hobj, hints, hlen⟩ := script_of hn hpre hwl
  refine enter_call (codeAny_mono (call w s₀ s₁ mg mb fa o pm cd doc a vs ns G Y ho (fd_plain hd) hcd hmg hobj hints hlen hg) fun r s' hq => ?_)
  obtain ⟨rfl, h2, h3, h4⟩ := hq
  exact ⟨.inl ⟨.bool true, .bool true, [], rfl, fun _ => rfl, .bool true, post_true l _, fun _ => ⟨List.Pairwise.nil, fun _ hm => (nomatch hm)⟩⟩, h2, h3, h4⟩

/-! ### rules over ANY heap (no ledger) from facts about the written part K: the library's own take a ledger (News) for what they write -/
section
variable {prog : Program} {w : World} {A : Around} {E : Value → Shared → Prop} {s : Shared} {K : Frag}

/-! the whole heap as the ledger: makes every rule that writes through a ledger a rule over any heap -/
def ledger (h : Heap) (L d : Addr) : List (Addr × Obj) := (List.range h.objs.size).filterMap fun a => if a = L ∨ a = d then none else (h.get? a).map fun o => (a, o)
end
end Att

namespace L2
open PySem PySem.Spec PyProof.Rows

theorem vals_ints : ∀ {vs : List Value} {ns : List Int}, IntsAre vs ns → Vals (ns.map V.int) vs
  | _, _, .nil => .nil
  | _, _, .cons n t h => .cons ⟨t, rfl⟩ (vals_ints h)

/-- nothing is tracked but the script, known to the object (or it is an object of the module) -/
def Only (H : Hp) : Prop := ∀ b, H b = none ∨ ∃ o xs, H b = some (.frz o (.lst xs))

/-- THE HEAD: the law's promise, at the heap behind the top. F, the promise of the law's def, may use that base is part of the heap (so K.In base, base.Ns mainGlobals mg stand in Mod) -/
theorem law_call {P : Program} {w : World} {K : PySem.W.Frag} {mg mb : Str → Option Value} {CX : CXT} {k : Nat} {fa a : Addr} {fd : FuncData} {x : Str} {sp : Sp} {s₁ : Shared} {vs : List Value} {ns : List Int}
    (KX : K.In s₁.heap) (hns : s₁.heap.Ns mainGlobals mg) (hb : s₁.heap.Ns builtinsNs mb) (hbb : ∀ x : Str, x ≠ "__name__" → mb x = bootBuiltins x) (hlim : s₁.heap.NoLimit) (hg : s₁.gens = #[])
    (ha : s₁.heap.get? a = some { cls := .type "list", data := .seq vs.toArray }) (hi : IntsAre vs ns) (hl : ns.length ≤ sizeLine) (hr : Room k callerA)
    (F : ∀ base : Heap, K.In base → base.Ns mainGlobals mg → FnOk P w K mg base CX k fa fd [x] sp) (hbind : ∀ (s : Shared) (u : Value), BindsTo s fd ⟨[u], []⟩ [(x, u)])
    (hsp : ∀ H : Hp, Only H → SqL K H a (ns.map V.int) → sp [.ref a] H (fun v _ => v = .bl true) fun _ _ _ => False)
    (hCX : ∀ H e s', CX [] H s₁ (fun _ _ _ => False) e s' → False) :
    codeAny (model P w) callerA (.call (.ref fa) ⟨[.ref a], []⟩) (fun r s' => r = .ok (.ret (.bool true)) ∧ OldK s₁.heap s'.heap ∧ s'.os = s₁.os ∧ AllBare s'.gens) s₁ := by
  have rv := vals_ints hi
  have lenV := hi.length
  -- from an abstract heap in which nothing but the script may be tracked
  have core : ∀ H : Hp, Only H → SqL K H a (ns.map V.int) → HOk P w H s₁.heap → (∀ b, H b ≠ none → b = a) → (H a ≠ none → K.lookup a = none) →
      codeAny (model P w) callerA (.call (.ref fa) ⟨[.ref a], []⟩) (fun r s' => r = .ok (.ret (.bool true)) ∧ OldK s₁.heap s'.heap ∧ s'.os = s₁.os ∧ AllBare s'.gens) s₁ := by
    intro H hO hS hok hA hK
    have base_of : ∀ {b : Addr} {o : Obj}, s₁.heap.get? b = some o → H b = none → (hidT s₁.heap H).get? b = some o := fun e n => hidT_get e n
    have noA : ∀ {b : Addr} {o : Obj} {es : Array DictEntry} {ep : Nat}, s₁.heap.get? b = some o → o.data = .dict es ep → H b = none := fun {b o es ep} e d => by
      cases q : H b with
      | none => rfl
      | some u =>
        have e' : b = a := hA b (by rw [q]; simp)
        subst e'
        rw [ha] at e; cases e
        have d' : Data.seq vs.toArray _ = Data.dict es ep := d
        cases d'
    have nsK : ∀ {b : Addr} {m : Str → Option Value}, s₁.heap.Ns b m → (hidT s₁.heap H).Ns b m := fun {b m} ⟨o, es, ep, e, d, r⟩ => ⟨o, es, ep, base_of e (noA e d), d, r⟩
    have hKb : K.In (hidT s₁.heap H) := fun b o e => base_of (KX b o e) (by
      cases q : H b with
      | none => rfl
      | some u =>
        have e' : b = a := hA b (by rw [q]; simp)
        subst e'
        rw [hK (by rw [q]; simp)] at e; cases e)
    have hM : Mod K mg (hidT s₁.heap H) := ⟨hKb, nsK hns, ⟨mb, nsK hb, hbb⟩, let ⟨mc, h1, h2⟩ := hlim; ⟨mc, nsK h1, h2⟩⟩
    have e0 : Env0 P w K mg (hidT s₁.heap H) callerA [] s₁ H := ⟨rfl, hM, fun b o e => of_hidT e, Nat.le_of_eq (hidT_size _ _), trivial, fun b hb => absurd (show b ∈ ([] : List Addr) from hb) (by simp), hok, .of_eq hg⟩
    refine codeAny_mono ((F _ hKb (nsK hns)).run callerA [] s₁ H ⟨[.ref a], []⟩ [.ref a] [.ref a] _ _ hr e0 (hbind s₁ (.ref a)) (.cons rfl .nil) (hsp H hO hS)) fun r s' h => ?_
    cases r with
    | error e => exact (hCX H e s' h).elim
    | ok fl =>
      cases fl with
      | next => exact False.elim h
      | brk => exact False.elim h
      | cont => exact False.elim h
      | ret u =>
        obtain ⟨v, H', os, bare, un, hok', r', q⟩ := h
        have q' : v = .bl true := q
        subst q'
        obtain rfl : u = Value.bool true := r'
        refine ⟨rfl, OldK.of_keep fun b o e => ?_, os, bare⟩
        cases q : H b with
        | none => exact un.keep b o e q (by intro z; exact absurd (show b ∈ ([] : List Addr) from z) (by simp)) (by simp)
        | some u =>
          rcases hO b with z | ⟨ob, xs, z⟩
          · rw [q] at z; cases z
          · have z2 := un.frzs b ob _ z
            obtain ⟨e1, _⟩ := hok b _ z
            obtain ⟨e2, _⟩ := hok' b _ z2
            rw [e] at e1; cases e1
            exact e2
  cases hk : K.lookup a with
  | some o =>
    -- the script is one of the module's own objects
    have e := KX a o hk
    rw [ha] at e
    cases e
    refine core (fun _ => none) (fun _ => .inl rfl) (.inr ⟨_, vs.toArray, _, hk, rfl, rfl, rfl, by rw [List.size_toArray, lenV]; exact hl, by simpa using rv⟩) (fun b u z => by have z' : (none : Option HO) = some u := z; cases z') (fun b z => absurd rfl z) fun z => absurd rfl z
  | none =>
    refine core (fun b => if b = a then some (.frz { cls := .type "list", data := .seq vs.toArray } (.lst (ns.map V.int))) else none) (fun b => ?_) (.inl (.inr ⟨{ cls := .type "list", data := .seq vs.toArray }, if_pos rfl⟩)) (fun b u z => ?_) (fun b z => ?_) fun _ => hk
    · by_cases hb : b = a
      · exact .inr ⟨_, _, if_pos hb⟩
      · exact .inl (if_neg hb)
    · by_cases hb : b = a
      · have z' := (if_pos hb).symm.trans z
        cases z'
        subst hb
        exact ⟨ha, by rw [List.length_map]; exact hl, vs, _, rv, ha⟩
      · have z' := (if_neg hb).symm.trans z
        cases z'
    · by_cases hb : b = a
      · exact hb
      · exact absurd (if_neg hb) z
end L2

namespace L2
open PySem PySem.Spec PyProof.Rows

/-- the goal that k_head leaves (case hc), from the law's promise. F gives the function object fd (K's own) once, then the promise over every base -/
theorem walk_of {l : PySem.W.OpenLaw} {n k : Nat} {q : Program} {loose : List Str} {XP : (Str → Option Value) → Heap → Prop} {YP : World → Heap → Prop} {d : DefRec} {K : Params → PySem.W.Frag} {CX : World → CXT} {sp : World → Sp} {x : Str}
    (hn : l.most = some n) (hn2 : n ≤ sizeLine) (hdf : d.params.defaults = []) (hr : Room k callerA)
    (hY : ∀ (w : World) (h : Heap), YP w h → (K w.params).In h)
    (F : ∀ (w : World) (mg : Str → Option Value) (fa : Addr) (h : Heap), (K w.params).In h → h.Ns mainGlobals mg → mg d.name = some (.ref fa) →
      ∃ fd : FuncData, (∀ (s : Shared) (u : Value), BindsTo s fd ⟨[u], []⟩ [(x, u)]) ∧
        ∀ base : Heap, (K w.params).In base → base.Ns mainGlobals mg → FnOk l.prog w (K w.params) mg base (CX w) k fa fd [x] (sp w))
    (hsp : ∀ (w : World) (H : Hp) (a : Addr) (ns : List Int), ns.length ≤ n → Only H → SqL (K w.params) H a (ns.map V.int) → sp w [.ref a] H (fun v _ => v = .bl true) fun _ _ _ => False)
    (hCX : ∀ (w : World) (H : Hp) (s : Shared) (e : Value) (s' : Shared), CX w [] H s (fun _ _ _ => False) e s' → False) :
    PySem.W.WalkO q loose XP YP l.row.toRowW d [] (fun f vs => PySem.call f vs) := by
  refine Att.attach_call hn hdf fun w s₀ s₁ mg mb fa o pm cd doc a vs ns G Y ho hd hcd hmg hobj hints hlen hg => ?_
  have KX := hY w _ Y
  obtain ⟨fd, hb, hF⟩ := F w mg fa _ KX G.T.g hmg
  exact law_call KX G.T.g G.T.b G.T.builtins G.T.nolimit hg hobj hints (Nat.le_trans hlen hn2) hr hF hb (fun H hO hS => hsp w H a ns hlen hO hS) fun H e s' => hCX w H s₁ e s'
end L2

/- THE LAST THEOREM (shape; LID, My.* are yours):
   My.Adr: a structure of the addresses that your layer names (classes, functions); My.Txt K t: a structure (Prop) of the equations over K;
   My.txt_mk : {K} {implicit addresses ..} (e1 : nsIn K mainGlobals "law" = some (some (.ref f))) (e2 : K.lookup f = some ⟨oc, od, .func (fnOf "law" "law" params body scope dV kV doc pm an cdv ct), sl⟩) (e3 : codeIn K cdv "law" = true) .. : ∃ t, My.Txt K t

set_option maxRecDepth 100000 in
set_option maxHeartbeats 0 in
(the tactic k_is has no namespace: write k_is) -/

/-! SHORT WORDS over the layer: a def of the text, its body, what a loop and a test want. -/
namespace L2
open PySem PySem.Spec PyProof.Rows

/-! ### the text by places -/
def defArgs (s : Stmt) : Arguments := match s with
  | .FunctionDef _ a _ _ _ _ _ _ _ _ => a
  | _ => { posonlyargs := [], args := [], vararg := none, kwonlyargs := [], kw_defaults := [], kwarg := none, defaults := [] }
def defBody (s : Stmt) : List Stmt := match s with
  | .FunctionDef _ _ b _ _ _ _ _ _ _ => b
  | _ => []
def defScope (s : Stmt) : Scope := match s with
  | .FunctionDef _ _ _ _ _ _ sc _ _ _ => sc
  | _ => { kind := .function, names := [], isGenerator := false, isCoroutine := false }

/-! ### no exception leaves a def -/
abbrev CX0 : CXT := fun _ _ _ _ _ _ => False
abbrev E0 : XK := fun _ _ _ => False
theorem pass0 {X : Cx} : Passes CX0 X E0 := fun _ _ _ _ _ _ _ h => h.elim

/-! ### a def (or method) of the text as it stands behind the top -/
structure Fun (K : PySem.W.Frag) (x qual : Str) (st : Stmt) (f : Addr) (fd : FuncData) : Prop where
  ex : ∃ (oc : Value) (od : Option Addr) (kV doc pm : Value) (an : Option Addr) (cdv ct : Value) (osl : Array (Option Value)),
    fd = PySem.W.fnOf x qual (defArgs st) (defBody st) (defScope st) .none kV doc pm an cdv ct ∧ K.lookup f = some ⟨oc, od, .func fd, osl⟩ ∧ PySem.W.codeIn K cdv qual = true
  kp : PySem.W.keepIn K (.ref f) = true
section
variable {P : Program} {w : World} {K : PySem.W.Frag} {mg : Str → Option Value} {base : Heap}
/-- THE RULE for a def: its body as a term of rules, and the reading of that term -/
theorem Fun.ok {x qual : Str} {st : Stmt} {f : Addr} {fd : FuncData} {N ps : List Str} {k : Nat} {sp : Sp} (F : Fun K x qual st f fd) (S : FnScope N ps (defScope st)) (len : ∀ vs H Q E, sp vs H Q E → vs.length = ps.length)
    (hbody : ∀ (cdv : Value) (A : Around) (outer : List Env) (s : Shared) (H : Hp) (vs : List V) (Q : VK) (E : XK), Room k (A.deeper (envOfC qual (defScope st) s.heap.objs.size f cdv)) → sp vs H Q E →
      ∃ t, PSs (cxOf CX0 P w K mg base N qual (defScope st) f cdv A outer s H E).nox (defBody st) t ∧ t { nx := fun _ H' => Q .non H', rt := Q } (start N vs) H) : FnOk P w K mg base CX0 (k + 1) f fd ps sp := by
  obtain ⟨oc, od, kV, doc, pm, an, cdv, ct, osl, rfl, lk, hcd⟩ := F.ex
  refine fn_of lk hcd S len fun A outer s H vs Q E hr hsp => ?_
  obtain ⟨t, h, q⟩ := hbody cdv A outer s H vs Q E hr hsp
  exact ⟨t, h.nox, q⟩
/-- how its arguments bind (no defaults): h is «fun _ _ _ _ _ _ us hl => match us, hl with | [_, _], _ => rfl», one _ a parameter -/
theorem Fun.binds {x qual : Str} {st : Stmt} {f : Addr} {fd : FuncData} {ps : List Str} (F : Fun K x qual st f fd)
    (h : ∀ (kV doc pm : Value) (an : Option Addr) (cdv ct : Value) (us : List Value), us.length = ps.length → bindArgs (PySem.W.fnOf x qual (defArgs st) (defBody st) (defScope st) .none kV doc pm an cdv ct) ⟨us, []⟩ = pure (ps.zip us)) : Binds K fd ps [] := by
  obtain ⟨oc, od, kV, doc, pm, an, cdv, ct, osl, rfl, lk, hcd⟩ := F.ex
  exact .all (h kV doc pm an cdv ct)
theorem fun_mk {x qual : Str} {st : Stmt} {f : Addr} {oc : Value} {od an : Option Addr} {osl : Array (Option Value)} {kV doc pm cdv ct : Value} (l : K.lookup f = some ⟨oc, od, .func (PySem.W.fnOf x qual (defArgs st) (defBody st) (defScope st) .none kV doc pm an cdv ct), osl⟩)
    (c : PySem.W.codeIn K cdv qual = true) (k : PySem.W.keepIn K (.ref f) = true) : Fun K x qual st f (PySem.W.fnOf x qual (defArgs st) (defBody st) (defScope st) .none kV doc pm an cdv ct) := ⟨⟨oc, od, kV, doc, pm, an, cdv, ct, osl, rfl, l, c⟩, k⟩
end
/-! ### expressions in short: the name that stands in the i-th slot -/
section
variable {X : Cx}
end

/-! ### tests -/
theorem iteF {A B : Prop} (h : B) : if false = true then A else B := by
  rw [if_neg Bool.false_ne_true]
  exact h
theorem iteT {A B : Prop} (h : A) : if true = true then A else B := by
  rw [if_pos rfl]
  exact h
/-! ### heaps -/
/-- all that was tracked is as it was -/
def Same (H H' : Hp) : Prop := ∀ b o, H b = some o → H' b = some o
theorem Same.refl (H : Hp) : Same H H := fun _ _ h => h
theorem Same.trans {H H1 H2 : Hp} (a : Same H H1) (b : Same H1 H2) : Same H H2 := fun c o h => b c o (a c o h)
theorem Same.seq {K : PySem.W.Frag} {H H' : Hp} {a : Addr} {xs : List V} (e : Same H H') (h : SqL K H a xs) : SqL K H' a xs := by
  rcases h with (h | ⟨o, h⟩) | h
  · exact .inl (.inl (e _ _ h))
  · exact .inl (.inr ⟨o, e _ _ h⟩)
  · exact .inr h

end L2

set_option Elab.async false
set_option linter.all false
set_option maxRecDepth 100000
namespace L2
open PySem PySem.Spec PyProof.Rows

/-! ### lists of pairs as tables -/
section
variable {κ : Type} [DecidableEq κ]
def valV (kvs : List (κ × V)) (k : κ) : Option V := (kvs.find? fun kv => decide (kv.1 = k)).map (·.2)
/-- in its place, or at the end -/
def putK (kvs : List (κ × V)) (k : κ) (v : V) : List (κ × V) :=
  if (kvs.any fun kv => decide (kv.1 = k)) = true then kvs.map (fun kv => if kv.1 = k then (kv.1, v) else kv) else kvs ++ [(k, v)]
theorem valV_pos {p : κ × V} {r : List (κ × V)} {k : κ} (e : p.1 = k) : valV (p :: r) k = some p.2 := by simp [valV, List.find?_cons, e]
theorem valV_neg {p : κ × V} {r : List (κ × V)} {k : κ} (e : ¬ p.1 = k) : valV (p :: r) k = valV r k := by simp [valV, List.find?_cons, e]
theorem length_putK (kvs : List (κ × V)) (k : κ) (v : V) : (putK kvs k v).length ≤ kvs.length + 1 := by
  unfold putK
  split
  · rw [List.length_map]; omega
  · rw [List.length_append, List.length_cons, List.length_nil]; omega
/-- raw tables of the same keys -/
theorem KV.val {kvs : List (κ × V)} {vs : List (κ × Value)} (r : KV kvs vs) (k : κ) : RelO (valV kvs k) (valueAt vs k) := by
  unfold KV at r
  induction r with
  | nil => exact True.intro
  | @cons p q ps qs h t ih =>
    obtain ⟨h1, h2⟩ := h
    by_cases e : p.1 = k
    · have e' : q.1 = k := h1.symm.trans e
      have b : valueAt (q :: qs) k = some q.2 := by simp [valueAt, List.find?_cons, e']
      rw [valV_pos e, b]; exact h2
    · have e' : ¬ q.1 = k := fun z => e (h1.trans z)
      have b : valueAt (q :: qs) k = valueAt qs k := by simp [valueAt, List.find?_cons, e']
      rw [valV_neg e, b]; exact ih
theorem KV.any {kvs : List (κ × V)} {vs : List (κ × Value)} (r : KV kvs vs) (k : κ) : (kvs.any fun kv => decide (kv.1 = k)) = vs.any fun kv => decide (kv.1 = k) := by
  unfold KV at r
  induction r with
  | nil => rfl
  | cons h t ih => rw [List.any_cons, List.any_cons, ih, h.1]
theorem KV.repl {kvs : List (κ × V)} {vs : List (κ × Value)} (r : KV kvs vs) (k : κ) {y : V} {u : Value} (ry : RelV y u) :
    KV (kvs.map fun kv => if kv.1 = k then (kv.1, y) else kv) (vs.map fun kv => if kv.1 = k then (kv.1, u) else kv) := by
  unfold KV at r ⊢
  induction r with
  | nil => exact .nil
  | @cons p q ps qs h t ih =>
    rw [List.map_cons, List.map_cons]
    refine .cons ?_ ih
    obtain ⟨h1, h2⟩ := h
    by_cases e : p.1 = k
    · rw [if_pos e, if_pos (h1.symm.trans e)]; exact ⟨h1, ry⟩
    · rw [if_neg e, if_neg (fun z => e (h1.trans z))]; exact ⟨h1, h2⟩
theorem KV.put {kvs : List (κ × V)} {vs : List (κ × Value)} (r : KV kvs vs) (k : κ) {y : V} {u : Value} (ry : RelV y u) : KV (putK kvs k y) (stored vs k u) := by
  unfold putK stored
  rw [r.any k]
  by_cases e : (vs.any fun kv => decide (kv.1 = k)) = true
  · rw [if_pos e, if_pos e]; exact r.repl k ry
  · rw [if_neg e, if_neg e]; exact Paired.snoc r ⟨rfl, ry⟩
end


/-! ### a tracked dict, its keys ints and texts or tuples of these -/
theorem kV_is {P : Program} {w : World} {k : Key} {u : Value} (r : RelV (kV k) u) : (mixKind P w).is k u = true := by
  cases k with
  | inl i => obtain ⟨t, e⟩ := (show ∃ t, u = Value.int i t from r); subst e; exact mixKind_int P w i t
  | inr x => obtain ⟨t, e⟩ := (show ∃ t, u = Value.str x t from r); subst e; exact mixKind_str P w x t
theorem items_are {P : Program} {w : World} : ∀ {ks : List Key} {us : List Value}, Vals (ks.map kV) us → ItemsAre (mixKind P w) ks us
  | [], _, r => by rw [List.map_nil] at r; cases r; exact .nil
  | k :: ks, _, r => by
    rw [List.map_cons] at r
    cases r with
    | cons h t => exact .cons (kV_is h) (items_are t)

/-- raw entries of a dict with tuple keys -/
abbrev KT (H : Hp) : List (List Key × V) → List (List Key × Addr × Value) → Prop := Paired fun p q => p.1 = q.1 ∧ H q.2.1 = some (.tup (p.1.map kV)) ∧ RelV p.2 q.2.2
theorem KT.val {H : Hp} {kvs : List (List Key × V)} {xs : List (List Key × Addr × Value)} (r : KT H kvs xs) (k : List Key) : RelO (valV kvs k) ((atKey xs k).map (·.2)) := by
  induction r with
  | nil => exact True.intro
  | @cons p q ps qs h t ih =>
    obtain ⟨h1, _, h2⟩ := h
    by_cases e : p.1 = k
    · have e' : q.1 = k := h1.symm.trans e
      have b : atKey (q :: qs) k = some q.2 := by simp [atKey, List.find?_cons, e']
      rw [valV_pos e, b]; exact h2
    · have e' : ¬ q.1 = k := fun z => e (h1.trans z)
      have b : atKey (q :: qs) k = atKey qs k := by simp [atKey, List.find?_cons, e']
      rw [valV_neg e, b]; exact ih
section
variable {P : Program} {w : World} {H : Hp} {h : Heap} {a : Addr}
theorem rd_of {u : HO} (ok : HOk P w H h) (e : Rd H a u) : ObjOk P w H h a u := e.ok ok
theorem dk_rd {kvs : List (Key × V)} (ok : HOk P w H h) (e : Rd H a (.dK kvs)) : kvs.length ≤ sizeLine ∧ (a == sysModules) = false ∧ ∃ vs, KV kvs vs ∧ h.DictOf (mixKind P w) a vs :=
  show ObjOk P w H h a (.dK kvs) from rd_of ok e
theorem dk_of {kvs : List (Key × V)} (ok : HOk P w H h) (e : H a = some (.dK kvs)) : kvs.length ≤ sizeLine ∧ (a == sysModules) = false ∧ ∃ vs, KV kvs vs ∧ h.DictOf (mixKind P w) a vs := dk_rd ok (.inl e)
/-- a tracked tuple of ints and texts is a key -/
theorem key_of {ks : List Key} (ok : HOk P w H h) (e : H a = some (.tup (ks.map kV))) : (tupleKind (mixKind P w)).is h ks a := by
  obtain ⟨_, its, r, o, h1, h2, n, h3⟩ := (show ObjOk P w H h a (.tup (ks.map kV)) from ok a _ e)
  exact ⟨o, its.toArray, n, h1, h2, h3, by simpa using items_are r⟩
theorem dt_rd {kvs : List (List Key × V)} (ok : HOk P w H h) (e : Rd H a (.dT kvs)) : kvs.length ≤ sizeLine ∧ (a == sysModules) = false ∧
    ∃ xs, KT H kvs xs ∧ h.DictOfH (tupleKind (mixKind P w)) a xs := by
  obtain ⟨z, y, xs, r, o, es, ep, h1, h2, h3, h4, h5⟩ := (show ObjOk P w H h a (.dT kvs) from rd_of ok e)
  refine ⟨z, y, xs, r, o, es, ep, h1, h2, h3, h4, fun x hx => ?_, h5⟩
  have all : ∀ {l : List (List Key × V)} {m : List (List Key × Addr × Value)}, KT H l m → ∀ x ∈ m, (tupleKind (mixKind P w)).is h x.1 x.2.1 := by
    intro l m q
    induction q with
    | nil => intro x hx; exact nomatch hx
    | @cons p q ps qs hq t ih =>
      intro x hx
      rcases List.mem_cons.mp hx with e | hx
      · subst e
        exact key_of ok (by rw [← hq.1]; exact hq.2.1)
      · exact ih x hx
  exact all r x hx
end

/-- what the dict at a holds at the key y -/
def DGet (H : Hp) (a : Addr) (y : V) (r : Option V) : Prop :=
  (∃ kvs k, Rd H a (.dK kvs) ∧ y = kV k ∧ r = valV kvs k) ∨ ∃ kvs k b, Rd H a (.dT kvs) ∧ y = .ref b ∧ H b = some (.tup (k.map kV)) ∧ r = valV kvs k
theorem DGet.k {H : Hp} {a : Addr} {kvs : List (Key × V)} {k : Key} (e : H a = some (.dK kvs)) : DGet H a (kV k) (valV kvs k) := .inl ⟨kvs, k, .inl e, rfl, rfl⟩
section
variable {X : Cx} {pins : List (Addr × Obj)} {σ : St} {H : Hp} {s : Shared} {a : Addr} {y v : V} {u r : Value} {o : Option V} {A : Around} {E : Value → Shared → Prop}

theorem Inv.big (I : Inv X pins σ H s) : sysModules < s.heap.objs.size := by
  have h : mainGlobals < s.heap.objs.size := (I.mod.glob.keeps I.bk).lt
  exact Nat.lt_trans (by decide) h

/-- d[y], there -/
theorem d_getItem {Q : Value → Shared → Prop} (hu : A.units + 1 < cLine) (I : Inv X pins σ H s) (g : DGet H a y (some v)) (ry : RelV y u) (h : ∀ w' s', Inv X pins σ H s' → RelV v w' → Q w' s') :
    wpAny (model X.prog X.w) A (getItem (.ref a) u) Q E s := by
  rcases g with ⟨kvs, k, e, ey, l⟩ | ⟨kvs, k, b, e, ey, eb, l⟩
  · subst ey
    obtain ⟨z, hd, vs, rel, dd⟩ := dk_rd I.hok e
    obtain ⟨w', hw, rw'⟩ := RelO.some_of (v := v) (o := valueAt vs k) (by rw [l]; exact rel.val k)
    exact wpAny_getItem_of (kV_is ry) dd.mapOf hw (h w' _ (I.tok _) rw')
  · subst ey
    cases (show u = Value.ref b from ry)
    obtain ⟨z, hd, xs, rel, dd⟩ := dt_rd I.hok e
    obtain ⟨w', hw, rw'⟩ := RelO.some_of (v := v) (o := (atKey xs k).map (·.2)) (by rw [l]; exact rel.val k)
    obtain ⟨p, hp, hp2⟩ := Option.map_eq_some_iff.mp hw
    refine wpAny_getItem_heap (tupleKind_room_in1 hu) (key_of I.hok eb) dd hp ?_
    rw [hp2]
    exact h w' _ (I.tok _) rw'
/-- a dict's object is replaced -/
theorem d_write {h' : Heap} {t' : Nat} {ob : HO} (I : Inv X pins σ H s) (mu : Mut (H a)) (hs : Heap.SameBut a s.heap h') (he : ∃ q, h'.get? a = some q) (new : ObjOk X.prog X.w (upd H a ob) h' a ob) :
    Inv X pins σ (upd H a ob) { s with heap := h', toks := t' } :=
  I.write (x := a) (e := a) mu (.inl rfl) (fun b q hb z => (hs.2 b hb).trans z) he new
theorem dk_new {P : Program} {w : World} {H' : Hp} {h' : Heap} {kvs : List (Key × V)} {vs : List (Key × Value)} (z : kvs.length ≤ sizeLine) (hd : (a == sysModules) = false) (rel : KV kvs vs) (dd : h'.DictOf (mixKind P w) a vs) :
    ObjOk P w H' h' a (.dK kvs) := ⟨z, hd, vs, rel, dd⟩
end

section
variable {X : Cx} {pins : List (Addr × Obj)} {σ : St} {H : Hp} {s : Shared} {a : Addr} {kvs : List (Key × V)} {k : Key} {u : Value} {A : Around} {E : Value → Shared → Prop}
end


/-! ### readings and rules -/
/-- the element of a subscription, not a slice -/
def NoSl (i : Expr) : Prop := ∀ ov iv, subscripted i false ov iv = operate [ov, iv] (getItem ov iv)
theorem subD_of {prog : Program} {w : World} {A : Around} {E : Value → Shared → Prop} {s : Shared} {env : Env} {value slice : Expr} {pos : Pos} {T id : String} {Q : Value → Shared → Prop}
    (hl : typeLookup (.type T) "__getitem__" = pure (some (.builtin id))) (hs : NoSl slice)
    (h : wpAny (model prog w) A (eval value env) (fun o s₁ => wpAny (model prog w) A (eval slice env) (fun i s₂ => s₂.TypeIs o T ∧ wpAny (model prog w) A (getItem o i) Q E s₂) E s₁) E s) :
    wpAny (model prog w) A (eval (.Subscript value slice pos) env) Q E s := by
  refine Subscript_ (wpAny_mono h (fun o s₁ h₁ => wpAny_mono h₁ (fun i s₂ h₂ => ?_) fun _ _ x => x) fun _ _ x => x)
  obtain ⟨hT, h₂⟩ := h₂
  unfold subscriptTail
  refine wpAny_bind ?_
  rw [getitemInPython_of_ne hT.not_modules]
  refine wpAny_bind (wpAny_specialOf hT hl ?_)
  have fin : wpAny (model prog w) A (subscripted slice false o i) (fun r s₃ => wpAny (model prog w) A (letTemporaryGo value o r >>= fun _ => pure r) Q E s₃) E s₂ := by
    rw [hs o i]
    exact wpAny_operating (wpAny_mono h₂ (fun r s₃ h₃ => wpAny_bind (wpAny_letTemporaryGo (wpAny_pure h₃))) fun _ _ x => x)
  first
    | exact wpAny_pure (wpAny_bind fin)
    | exact wpAny_bind (wpAny_pure (wpAny_bind fin))
    | exact wpAny_bind fin

theorem dict_typeIs {X : Cx} {pins : List (Addr × Obj)} {σ : St} {H : Hp} {s : Shared} {a : Addr} {y : V} {o : Option V} (I : Inv X pins σ H s) (g : DGet H a y o) : s.TypeIs (.ref a) "dict" := by
  rcases g with ⟨kvs, k, e, _, _⟩ | ⟨kvs, k, b, e, _, _, _⟩
  · obtain ⟨_, _, vs, _, dd⟩ := dk_rd I.hok e
    exact dd.typeIs
  · obtain ⟨_, _, xs, _, dd⟩ := dt_rd I.hok e
    exact dd.typeIs
/-- d[y] -/
def tDGet (td ty : TE) : TE := fun σ H Q => td σ H fun x H1 => ty σ H1 fun y H2 => ∃ a v, x = .ref a ∧ DGet H2 a y (some v) ∧ Q v H2
section
variable {X : Cx} {o i e value : Expr} {pos pos' tpos : Pos} {td ty tv : TE}
theorem pe_dget (hu : X.A.units + 1 < cLine) (ho : PE X o td) (hi : PE X i ty) (hs : NoSl i) : PE X (.Subscript o i pos) (tDGet td ty) := by
  intro pins s σ H Q I h
  refine subD_of PySem.F.slot_dict_getitem.lookup hs (thn (ho pins s σ H _ I h) fun u s1 ⟨x, H1, I1, rx, q1⟩ => thn (hi pins s1 σ H1 _ I1 q1) fun iv s2 ⟨y, H2, I2, ry, a, v, ex, g, q2⟩ => ?_)
  subst ex
  obtain rfl : u = Value.ref a := rx
  exact ⟨dict_typeIs I2 g, d_getItem hu I2 g ry fun w' s3 I3 rw' => ⟨v, H2, I3, rw', q2⟩⟩
end


/-! ### displays -/
theorem dk_empty {P : Program} {w : World} {H : Hp} (h : Heap) (hb : sysModules < h.objs.size) : ObjOk P w H (h.push { cls := .type "dict", data := .dict #[] }) h.objs.size (.dK []) :=
  ⟨Nat.zero_le _, beq_eq_false_iff_ne.mpr (Ne.symm (Nat.ne_of_lt hb)), [], .nil, Heap.DictOf.new h⟩
section
variable {X : Cx} {pos : Pos}
end

/-- the pairs of a display, from the left -/
def tPairs : List (TE × TE) → St → Hp → (List (V × V) → Hp → Prop) → Prop
  | [], _, H, Q => Q [] H
  | (tk, tv) :: r, σ, H, Q => tk σ H fun x H1 => tv σ H1 fun y H2 => tPairs r σ H2 fun ps H3 => Q ((x, y) :: ps) H3
abbrev VV : List (V × V) → List (Value × Value) → Prop := Paired fun p q => RelV p.1 q.1 ∧ RelV p.2 q.2
def PPs (X : Cx) (pos : Pos) (keys : List (Option Expr)) (values : List Expr) (trs : List (TE × TE)) : Prop :=
  ∀ (pins : List (Addr × Obj)) (s : Shared) (σ : St) (H : Hp) (Q : List (V × V) → Hp → Prop), Inv X pins σ H s → tPairs trs σ H Q →
    wpAny (model X.prog X.w) X.A (evalPairs (pairTrees keys values X.env pos)) (fun vs s' => ∃ ps H', Inv X pins σ H' s' ∧ VV ps vs ∧ Q ps H') X.xe s
theorem pps_nil {X : Cx} {pos : Pos} : PPs X pos [] [] [] := fun pins s σ H Q I h => pairTrees_nil_walk ⟨[], H, I, .nil, h⟩
theorem pps_cons {X : Cx} {pos : Pos} {k v : Expr} {ks : List (Option Expr)} {vs : List Expr} {tk tv : TE} {trs : List (TE × TE)} (hk : PE X k tk) (hv : PE X v tv) (hr : PPs X pos ks vs trs) :
    PPs X pos (some k :: ks) (v :: vs) ((tk, tv) :: trs) := fun pins s σ H Q I h =>
  pairTrees_cons_walk (thn (hk pins s σ H _ I h) fun u s1 ⟨x, H1, I1, rx, q1⟩ => thn (hv pins s1 σ H1 _ I1 q1) fun w2 s2 ⟨y, H2, I2, ry, q2⟩ =>
    thn (hr pins s2 σ H2 _ I2 q2) fun ws s3 ⟨ps, H3, I3, rel, q3⟩ => ⟨(x, y) :: ps, H3, I3, .cons ⟨rx, ry⟩ rel, q3⟩)

def mergeK (kvs more : List (Key × V)) : List (Key × V) := more.foldl (fun acc kv => putK acc kv.1 kv.2) kvs
theorem KV.merge : ∀ {more : List (Key × V)} {rs : List (Key × Value)} {kvs : List (Key × V)} {vs : List (Key × Value)}, KV more rs → KV kvs vs → KV (mergeK kvs more) (merged vs rs) := by
  intro more rs kvs vs r
  unfold KV at r
  induction r generalizing kvs vs with
  | nil => intro q; exact q
  | @cons p q ps qs h t ih =>
    intro r0
    have e : KV (putK kvs p.1 p.2) (stored vs q.1 q.2) := by
      have := r0.put p.1 h.2
      rw [← h.1]; exact this
    exact ih e
theorem length_mergeK : ∀ (more kvs : List (Key × V)), (mergeK kvs more).length ≤ kvs.length + more.length
  | [], kvs => by show kvs.length ≤ kvs.length + 0; omega
  | p :: r, kvs => by
    have h1 := length_mergeK r (putK kvs p.1 p.2)
    have h2 := length_putK kvs p.1 p.2
    show (mergeK (putK kvs p.1 p.2) r).length ≤ _
    rw [List.length_cons]; omega
theorem carries_of {P : Program} {w : World} : ∀ {kvs : List (Key × V)} {ws : List (Value × Value)}, VV (kvs.map fun kv => (kV kv.1, kv.2)) ws → ∃ rs, Carries (mixKind P w) ws rs ∧ KV kvs rs
  | [], _, r => by rw [List.map_nil] at r; cases r; exact ⟨[], True.intro, .nil⟩
  | p :: kvs, _, r => by
    rw [List.map_cons] at r
    cases r with
    | @cons a b as bs h t =>
      obtain ⟨rs, c, q⟩ := carries_of (P := P) (w := w) t
      obtain ⟨b1, b2⟩ := b
      exact ⟨(p.1, b2) :: rs, ⟨kV_is h.1, rfl, c⟩, .cons ⟨rfl, h.2⟩ q⟩
/-- {k: v, ..} with keys ints and texts; the new dict stands empty while the pairs are made -/
def tDisp (trs : List (TE × TE)) : TE := fun σ H Q => ∀ p, H p = none → tPairs trs σ (upd H p (.dK [])) fun ps H2 => H2 p = some (.dK []) ∧ ∃ kvs : List (Key × V), ps = kvs.map (fun kv => (kV kv.1, kv.2)) ∧ kvs.length ≤ 15 ∧ Q (.ref p) (upd H2 p (.dK (mergeK [] kvs)))
theorem pe_disp {X : Cx} {pos : Pos} {keys : List (Option Expr)} {values : List Expr} {trs : List (TE × TE)} (h : PPs X pos keys values trs) (hall : keys.all (·.isSome) = true) (hl : keys.length = values.length) (h0 : keys ≠ [])
    (h15 : keys.length ≤ 15) : PE X (.Dict keys values pos) (tDisp trs) := by
  intro pins s σ H Q I q
  have hn := I.hok.fresh (Nat.le_refl s.heap.objs.size)
  have I1 := I.laid (a := s.heap.objs.size) (o := .dK []) (h' := s.heap.push { cls := .type "dict", data := .dict #[] }) (t' := s.toks) (fun _ _ q => Heap.get?_push_of_some _ q) (Nat.le_refl _) (dk_empty s.heap I.big)
  refine wpAny_Dict_walk (knd := mixKind X.prog X.w) hall hl h0 h15 (thn (h pins _ σ _ _ I1 (q _ hn)) fun ws s2 ⟨ps, H2, I2, rel, e, kvs, ep, lk, q2⟩ => ?_)
  subst ep
  obtain ⟨rs, c, rk⟩ := carries_of (P := X.prog) (w := X.w) rel
  obtain ⟨z, hd, vs0, r0, dd⟩ := dk_of I2.hok e
  cases r0
  refine ⟨rs, c, dd, fun h' dd' hs => ⟨.ref s.heap.objs.size, _, ?_, rfl, q2⟩⟩
  have hz : (mergeK [] kvs).length ≤ sizeLine := by
    have h1 := length_mergeK kvs []
    rw [List.length_nil] at h1
    rw [sizeLine_eq]; omega
  have he : ∃ q, h'.get? s.heap.objs.size = some q := let ⟨q, _, _, hq, _⟩ := dd'; ⟨q, hq⟩
  exact d_write I2 (by rw [e]; exact True.intro) hs he (dk_new hz hd (rk.merge .nil) dd')


/-! ### methods -/
/-- a method call o.m(e) of a built-in, with one argument: what must be seen of the text -/
structure M1 (X : Cx) (o : Expr) (m : Str) (apos : Pos) (e : Expr) (cpos : Pos) : Prop where
  base : attributeBase o m X.env (eval o X.env) = eval o X.env
  few : ((backTo cpos (starEach [e] X.env)).all (fun x => !x.1) && (backToKw cpos (keywordEach [] X.env)).all (fun x => x.1.isSome)
    && decide (([e] : List Expr).length + ([] : List Keyword).length + (if ([] : List Keyword).isEmpty then 0 else 1) < 30)) = true
  line : (apos.endLine == cpos.line) = true
  trees : backTo cpos (starEach [e] X.env) = [(false, eval e X.env)]
structure M2 (X : Cx) (o : Expr) (m : Str) (apos : Pos) (e f : Expr) (cpos : Pos) : Prop where
  base : attributeBase o m X.env (eval o X.env) = eval o X.env
  few : ((backTo cpos (starEach [e, f] X.env)).all (fun x => !x.1) && (backToKw cpos (keywordEach [] X.env)).all (fun x => x.1.isSome)
    && decide (([e, f] : List Expr).length + ([] : List Keyword).length + (if ([] : List Keyword).isEmpty then 0 else 1) < 30)) = true
  line : (apos.endLine == cpos.line) = true
  trees : backTo cpos (starEach [e, f] X.env) = [(false, eval e X.env), (false, eval f X.env)]

section
variable {X : Cx} {pins : List (Addr × Obj)} {σ : St} {H : Hp} {s : Shared} {a : Addr} {y d : V} {u r : Value} {o : Option V} {A : Around} {E : Value → Shared → Prop}
end

section
variable {X : Cx} {o e f : Expr} {apos cpos : Pos} {td ty tx : TE}
end

end L2

set_option Elab.async false
set_option linter.all false
set_option maxRecDepth 100000
namespace DL
open PySem L2

/-- what a program's value is, without the heap -/
inductive D where
  | non | bl (b : Bool) | int (i : Int) | str (x : Str) | tup (xs : List D) | lst (xs : List D)

mutual
inductive Rep (K : PySem.W.Frag) (F : Hp) : V → D → Prop
  | non : Rep K F .non .non
  | bl (b : Bool) : Rep K F (.bl b) (.bl b)
  | int (i : Int) : Rep K F (.int i) (.int i)
  | str (x : Str) : Rep K F (.str x) (.str x)
  | tup {a : Addr} {vs : List V} {ds : List D} : SqT K F a vs → Reps K F vs ds → Rep K F (.ref a) (.tup ds)
  | lst {a : Addr} {vs : List V} {ds : List D} : SqL K F a vs → Reps K F vs ds → Rep K F (.ref a) (.lst ds)
inductive Reps (K : PySem.W.Frag) (F : Hp) : List V → List D → Prop
  | nil : Reps K F [] []
  | cons {v : V} {vs : List V} {d : D} {ds : List D} : Rep K F v d → Reps K F vs ds → Reps K F (v :: vs) (d :: ds)
end

theorem sqT_same {K : PySem.W.Frag} {H H' : Hp} {a : Addr} {xs : List V} (e : Same H H') (h : SqT K H a xs) : SqT K H' a xs := by
  rcases h with (h | ⟨o, h⟩) | h
  · exact .inl (.inl (e _ _ h))
  · exact .inl (.inr ⟨o, e _ _ h⟩)
  · exact .inr h

section
variable {K : PySem.W.Frag} {F F' : Hp}
mutual
theorem Rep.mono (e : Same F F') : ∀ {v : V} {d : D}, Rep K F v d → Rep K F' v d
  | _, _, .non => .non
  | _, _, .bl b => .bl b
  | _, _, .int i => .int i
  | _, _, .str x => .str x
  | _, _, .tup h r => .tup (sqT_same e h) (Reps.mono e r)
  | _, _, .lst h r => .lst (e.seq h) (Reps.mono e r)
theorem Reps.mono (e : Same F F') : ∀ {vs : List V} {ds : List D}, Reps K F vs ds → Reps K F' vs ds
  | _, _, .nil => .nil
  | _, _, .cons r t => .cons (Rep.mono e r) (Reps.mono e t)
end
theorem Reps.length : ∀ {vs : List V} {ds : List D}, Reps K F vs ds → vs.length = ds.length
  | _, _, .nil => rfl
  | _, _, .cons _ t => congrArg (· + 1) (Reps.length t)
theorem Reps.get : ∀ {vs : List V} {ds : List D} {i : Nat} {d : D}, Reps K F vs ds → ds[i]? = some d → ∃ v, vs[i]? = some v ∧ Rep K F v d
  | _, _, _, _, .nil, e => by simp at e
  | _, _, 0, _, .cons r _, e => by simp at e; subst e; exact ⟨_, rfl, r⟩
  | _, _, i + 1, d, .cons _ t, e => by
    obtain ⟨u, h1, h2⟩ := Reps.get (i := i) (d := d) t (by simpa using e)
    exact ⟨u, by simpa using h1, h2⟩
theorem Reps.get' : ∀ {vs : List V} {ds : List D} {i : Nat} {v : V}, Reps K F vs ds → vs[i]? = some v → ∃ d, ds[i]? = some d ∧ Rep K F v d
  | _, _, _, _, .nil, e => by simp at e
  | _, _, 0, _, .cons r _, e => by simp at e; subst e; exact ⟨_, rfl, r⟩
  | _, _, i + 1, d, .cons _ t, e => by
    obtain ⟨u, h1, h2⟩ := Reps.get' (i := i) (v := d) t (by simpa using e)
    exact ⟨u, by simpa using h1, h2⟩
theorem Reps.append : ∀ {vs ws : List V} {ds es : List D}, Reps K F vs ds → Reps K F ws es → Reps K F (vs ++ ws) (ds ++ es)
  | _, _, _, _, .nil, s => s
  | _, _, _, _, .cons r t, s => .cons r (Reps.append t s)
theorem Reps.ints : ∀ (ns : List Int), Reps K F (ns.map V.int) (ns.map D.int)
  | [] => .nil
  | n :: r => .cons (.int n) (Reps.ints r)
end

/-- the frozen part F grew, the heap H grew; what was not frozen of the old heap is not frozen now -/
structure Ext (F H F' H' : Hp) : Prop where
  ff : Same F F'
  fh : Same F' H'
  hh : Same H H'
  fr : ∀ b, H b ≠ none → F b = none → F' b = none
theorem Ext.refl {F H : Hp} (h : Same F H) : Ext F H F H := ⟨Same.refl F, h, Same.refl H, fun _ _ e => e⟩
theorem Ext.trans {F H F1 H1 F2 H2 : Hp} (a : Ext F H F1 H1) (b : Ext F1 H1 F2 H2) : Ext F H F2 H2 :=
  ⟨a.ff.trans b.ff, b.fh, a.hh.trans b.hh, fun c hc fc => b.fr c (fun z => by
    cases q : H c with
    | none => exact hc q
    | some o => rw [a.hh c o q] at z; cases z) (a.fr c hc fc)⟩
theorem Ext.new {F H : Hp} {p : Addr} (h : Same F H) (hp : H p = none) (o : HO) : Ext F H (upd F p o) (upd H p o) where
  ff := fun b u q => by rw [upd_ne (fun z => by subst z; rw [h _ _ q] at hp; cases hp)]; exact q
  fh := fun b u q => by
    by_cases e : b = p
    · subst e; rw [upd_same] at q ⊢; exact q
    · rw [upd_ne e] at q ⊢; exact h _ _ q
  hh := fun b u q => by rw [upd_ne (ne_of_none q hp)]; exact q
  fr := fun b hb fb => by rw [upd_ne (fun z => hb (by rw [z]; exact hp))]; exact fb
/-- an exception of the own class D lies at x -/
def ExcAt (D : Addr) (dx : Option Addr) (x : Addr) (h : Heap) : Prop := ∃ o vs, h.get? x = some o ∧ o.cls = .ref D ∧ o.data = .fields vs ∧ ∀ d, dx = some d → o.dict = some d
/-- a thing at an address, by what is known of its object -/
structure Thing where
  φ : PySem.W.Frag → Hp → Addr → HO → Prop
  keep : ∀ {K : PySem.W.Frag} {F F' : Hp} {a : Addr} {o : HO}, Same F F' → φ K F a o → φ K F' a o
def ThgOk (t : Thing) (K : PySem.W.Frag) (F : Hp) (a : Addr) (o : HO) : Prop := t.φ K F a o
theorem ThgOk.mono {t : Thing} {K : PySem.W.Frag} {F F' : Hp} {a : Addr} {o : HO} (e : Same F F') (h : ThgOk t K F a o) : ThgOk t K F' a o := t.keep e h
inductive Slot where
  | un | val (d : D) | own (ds : List D) | exc (C : Addr) (dx : Option Addr) | dic (kvs : List (Int × D)) | thg (t : Thing) | bor (t : Thing)
def slot : List Slot → Nat → Slot
  | [], _ => .un
  | x :: _, 0 => x
  | _ :: r, n + 1 => slot r n
def put : List Slot → Nat → Slot → List Slot
  | [], _, _ => []
  | _ :: r, 0, y => y :: r
  | x :: r, n + 1, y => x :: put r n y
theorem put_length (y : Slot) : ∀ (c : List Slot) (i : Nat), (put c i y).length = c.length
  | [], _ => rfl
  | _ :: _, 0 => rfl
  | _ :: r, n + 1 => congrArg (· + 1) (put_length y r n)
theorem slot_put_ne (y : Slot) : ∀ (c : List Slot) (i j : Nat), i ≠ j → slot (put c i y) j = slot c j
  | [], _, _, _ => rfl
  | _ :: _, 0, 0, h => absurd rfl h
  | _ :: _, 0, _ + 1, _ => rfl
  | _ :: _, _ + 1, 0, _ => rfl
  | _ :: r, n + 1, m + 1, h => slot_put_ne y r n m (fun z => h (by rw [z]))
theorem put_slot : ∀ (c : List Slot) (i : Nat), put c i (slot c i) = c
  | [], _ => rfl
  | _ :: _, 0 => rfl
  | x :: r, n + 1 => congrArg (x :: ·) (put_slot r n)
theorem slot_put (y : Slot) : ∀ (c : List Slot) (i : Nat), i < c.length → slot (put c i y) i = y
  | [], _, h => by simp at h
  | _ :: _, 0, _ => rfl
  | _ :: r, n + 1, h => slot_put y r n (by simpa using h)

/-- a dict of ints -/
structure DRep (K : PySem.W.Frag) (F : Hp) (kv : List (Key × V)) (kvs : List (Int × D)) : Prop where
  ks : kv.map (·.1) = kvs.map fun q => Sum.inl q.1
  vs : Reps K F (kv.map (·.2)) (kvs.map (·.2))
theorem DRep.mono {K : PySem.W.Frag} {F F' : Hp} {kv : List (Key × V)} {kvs : List (Int × D)} (e : Same F F') (h : DRep K F kv kvs) : DRep K F' kv kvs := ⟨h.ks, h.vs.mono e⟩
def SlotOk (K : PySem.W.Frag) (H₀ F H : Hp) (v : Option (Option V)) : Slot → Prop
  | .un => True
  | .val d => ∃ x, v = some (some x) ∧ Rep K F x d
  | .own ds => ∃ a vs, v = some (some (.ref a)) ∧ H a = some (.lst vs) ∧ F a = none ∧ H₀ a = none ∧ Reps K F vs ds
  | .exc C dx => ∃ a, v = some (some (.ref a)) ∧ H a = some (.ext (ExcAt C dx a))
  | .dic kvs => ∃ a kv, v = some (some (.ref a)) ∧ H a = some (.dK kv) ∧ F a = none ∧ H₀ a = none ∧ DRep K F kv kvs
  | .thg t => ∃ a o, v = some (some (.ref a)) ∧ H a = some o ∧ F a = none ∧ H₀ a = none ∧ ThgOk t K F a o
  | .bor t => ∃ a o, v = some (some (.ref a)) ∧ H₀ a = some o ∧ ThgOk t K F a o
def isOwn : Slot → Bool
  | .own _ => true
  | .dic _ => true
  | .thg _ => true
  | _ => false

structure Env (K : PySem.W.Frag) (F₀ H₀ F H : Hp) (σ : St) (c : List Slot) : Prop where
  ext : Ext F₀ H₀ F H
  len : σ.length = c.length
  sl : ∀ i, SlotOk K H₀ F H σ[i]? (slot c i)
  inj : ∀ (i j : Nat) (a : Addr), isOwn (slot c i) = true → isOwn (slot c j) = true → σ[i]? = some (some (V.ref a)) → σ[j]? = some (some (V.ref a)) → i = j

section
variable {K : PySem.W.Frag} {F₀ H₀ F H F' H' : Hp} {σ : St} {c : List Slot}
theorem SlotOk.ext {v : Option (Option V)} (e : Ext F H F' H') : ∀ {s : Slot}, SlotOk K H₀ F H v s → SlotOk K H₀ F' H' v s
  | .un, _ => trivial
  | .val d, ⟨x, h, r⟩ => ⟨x, h, r.mono e.ff⟩
  | .own ds, ⟨a, vs, h, h1, h2, h3, r⟩ => ⟨a, vs, h, e.hh _ _ h1, e.fr a (by rw [h1]; exact fun z => nomatch z) h2, h3, r.mono e.ff⟩
  | .exc C dx, ⟨a, h, h1⟩ => ⟨a, h, e.hh _ _ h1⟩
  | .dic kvs, ⟨a, kv, h, h1, h2, h3, r⟩ => ⟨a, kv, h, e.hh _ _ h1, e.fr a (by rw [h1]; exact fun z => nomatch z) h2, h3, r.mono e.ff⟩
  | .thg t, ⟨a, o, h, h1, h2, h3, r⟩ => ⟨a, o, h, e.hh _ _ h1, e.fr a (by rw [h1]; exact fun z => nomatch z) h2, h3, r.mono e.ff⟩
  | .bor t, ⟨a, o, h, h1, r⟩ => ⟨a, o, h, h1, r.mono e.ff⟩
theorem Env.grow (E : Env K F₀ H₀ F H σ c) (e : Ext F H F' H') : Env K F₀ H₀ F' H' σ c := ⟨E.ext.trans e, E.len, fun i => (E.sl i).ext e, E.inj⟩
theorem Env.val (E : Env K F₀ H₀ F H σ c) {i : Nat} {d : D} (h : slot c i = .val d) : ∃ x, σ[i]? = some (some x) ∧ Rep K F x d := by
  have q := E.sl i
  rw [h] at q
  exact q
theorem Env.fh (E : Env K F₀ H₀ F H σ c) : Same F H := E.ext.fh
theorem Env.set (E : Env K F₀ H₀ F H σ c) {i : Nat} {x : V} {d : D} (hi : i < c.length) (r : Rep K F x d) : Env K F₀ H₀ F H (σ.set i (some x)) (put c i (.val d)) where
  ext := E.ext
  len := by rw [List.length_set, put_length]; exact E.len
  sl := fun j => by
    by_cases e : i = j
    · subst e
      rw [slot_put _ _ _ hi, List.getElem?_set_self (by rw [E.len]; exact hi)]
      exact ⟨x, rfl, r⟩
    · rw [slot_put_ne _ _ _ _ e, List.getElem?_set_ne e]
      exact E.sl j
  inj := fun j k a h1 h2 h3 h4 => by
    by_cases e : i = j
    · subst e; rw [slot_put _ _ _ hi] at h1; cases h1
    · by_cases e2 : i = k
      · subst e2; rw [slot_put _ _ _ hi] at h2; cases h2
      · rw [slot_put_ne _ _ _ _ e] at h1
        rw [slot_put_ne _ _ _ _ e2] at h2
        rw [List.getElem?_set_ne e] at h3
        rw [List.getElem?_set_ne e2] at h4
        exact E.inj j k a h1 h2 h3 h4
end

/-- a body running: its context, the frozen part and the heap at its entry -/
structure Cy where
  X : Cx
  F0 : Hp
  H0 : Hp
abbrev EnvY (Y : Cy) (F H : Hp) (σ : St) (c : List Slot) : Prop := Env Y.X.K Y.F0 Y.H0 F H σ c

def tD (Y : Cy) (c : List Slot) (d : D) : TE := fun σ H Q => ∃ F, EnvY Y F H σ c ∧ ∀ v F' H', Ext F H F' H' → Rep Y.X.K F' v d → Q v H'
def tT (Y : Cy) (c : List Slot) (b : Bool) : TT := fun σ H Q => ∃ F, EnvY Y F H σ c ∧ ∀ F' H', Ext F H F' H' → Q b H'
def tA (Y : Cy) (c : List Slot) (ds : List D) : TA := fun σ H Q => ∃ F, EnvY Y F H σ c ∧ ∀ vs F' H', Ext F H F' H' → Reps Y.X.K F' vs ds → Q vs H'
/-- the expression's value is d -/
def EvD (Y : Cy) (e : Expr) (c : List Slot) (d : D) : Prop := PE Y.X e (tD Y c d)
/-- the test comes out as b -/
def TeD (Y : Cy) (e : Expr) (c : List Slot) (b : Bool) : Prop := PT Y.X e (tT Y c b)
def ArD (Y : Cy) (es : List Expr) (c : List Slot) (ds : List D) : Prop := PA Y.X es (tA Y c ds)

inductive Out where
  | nx (c : List Slot) | rt (d : D) | bk (c : List Slot) | ct (c : List Slot) | ro (ds : List D) | rs (R : PySem.W.Frag → Hp → Hp → V → Hp → Prop)
def Meets (Y : Cy) (F : Hp) (D : Ends) : Out → Prop
  | .nx c => ∀ σ F' H, Same F F' → EnvY Y F' H σ c → D.nx σ H
  | .rt d => ∀ v F' H, Same F F' → Ext Y.F0 Y.H0 F' H → Rep Y.X.K F' v d → D.rt v H
  | .bk c => ∀ σ F' H, Same F F' → EnvY Y F' H σ c → D.bk σ H
  | .ct c => ∀ σ F' H, Same F F' → EnvY Y F' H σ c → D.ct σ H
  | .ro ds => ∀ vs F' H p, Same F F' → Ext Y.F0 Y.H0 F' H → Reps Y.X.K F' vs ds → H p = none → D.rt (.ref p) (upd H p (.lst vs))
  | .rs R => ∀ v F' H1 H, Same F F' → Ext Y.F0 Y.H0 F' H1 → R Y.X.K F' H1 v H → D.rt v H
theorem Meets.grow {Y : Cy} {F F1 : Hp} {D : Ends} (s : Same F F1) : ∀ {o : Out}, Meets Y F D o → Meets Y F1 D o
  | .nx _, m => fun σ F' H s' E => m σ F' H (s.trans s') E
  | .rt _, m => fun v F' H s' E r => m v F' H (s.trans s') E r
  | .bk _, m => fun σ F' H s' E => m σ F' H (s.trans s') E
  | .ct _, m => fun σ F' H s' E => m σ F' H (s.trans s') E
  | .ro _, m => fun vs F' H p s' E r hp => m vs F' H p (s.trans s') E r hp
  | .rs _, m => fun v F' H1 H s' E r => m v F' H1 H (s.trans s') E r
def tS (Y : Cy) (c : List Slot) (P : Out → Prop) : TS := fun D σ H => ∃ F, EnvY Y F H σ c ∧ ∀ o, P o → Meets Y F D o
def StD (Y : Cy) (st : Stmt) (c : List Slot) (P : Out → Prop) : Prop := PS Y.X st (tS Y c P)
def SsD (Y : Cy) (st : List Stmt) (c : List Slot) (P : Out → Prop) : Prop := PSs Y.X st (tS Y c P)
/-- behind a statement: the rest -/
def Thn (Y : Cy) (rest : List Stmt) (P : Out → Prop) : Out → Prop
  | .nx c => SsD Y rest c P
  | o => P o

theorem bt_abs : bootBuiltins "abs" = some (.builtin "abs") := by decide +kernel
theorem bt_max : bootBuiltins "max" = some (.builtin "max") := by decide +kernel
theorem bt_min : bootBuiltins "min" = some (.builtin "min") := by decide +kernel
theorem bt_len : bootBuiltins "len" = some (.builtin "len") := by decide +kernel
theorem bt_int : bootBuiltins "int" = some (.type "int") := by decide +kernel
theorem bt_tuple : bootBuiltins "tuple" = some (.type "tuple") := by decide +kernel
/-- the module that runs -/
structure Tx where
  prog : Program
  w : World
  K : PySem.W.Frag
  mg : Str → Option Value
  base : Heap
/-- names of a def: N its own (the parameters first), G the global ones that it uses -/
structure ScB (N ps G : List Str) (sc : Scope) : Prop where
  fs : FnScope N ps sc
  loc : ∀ x ∈ N, (sc.names.lookup x = some .local ∨ sc.names.lookup x = some .cell) ∧ (x == ("__debug__" : Str)) = false ∧ (x == ("__classdict__" : Str)) = false
  gl : ∀ x ∈ G, sc.names.lookup x = some .globalImplicit ∧ (x == ("__debug__" : Str)) = false ∧ x ≠ "__name__"
/-- what a body knows of where it runs: names; expressions; statements -/
structure Sn (Y : Cy) (T : Tx) (N G : List Str) : Prop where
  eP : Y.X.prog = T.prog
  eW : Y.X.w = T.w
  eK : Y.X.K = T.K
  eM : Y.X.mg = T.mg
  eB : Y.X.base = T.base
  n : Y.X.N = N
  nd : N.Nodup
  loc : ∀ x ∈ N, Loc Y.X.env.scope x ∧ (x == ("__debug__" : Str)) = false ∧ (x == ("__classdict__" : Str)) = false
  gl : ∀ x ∈ G, Gl Y.X x ∧ (x == ("__debug__" : Str)) = false ∧ x ≠ "__name__"
structure Se (Y : Cy) (T : Tx) (k : Nat) (N G : List Str) : Prop extends Sn Y T N G where
  calm : Y.X.calm = true
  room : Room k Y.X.A
structure Sc (Y : Cy) (T : Tx) (k : Nat) (N G : List Str) : Prop extends Se Y T k N G where
  fn : ∀ y, Y.X.fn y = true
  hp : PassesOwn (model Y.X.prog Y.X.w) Y.X.A Y.X.env Y.X.xe
/-- a def's body, as it stands -/
structure Fx (Y : Cy) (st : Stmt) : Prop where
  sc : Y.X.env.scope = defScope st
  ex : Y.X.ex = []
  stk : Y.X.stack = Y.X.env :: Y.X.outer ∧ Y.X.env.frame = some Y.X.env.locals

theorem PE.imp {X : Cx} {e : Expr} {t t' : TE} (h : PE X e t) (i : ∀ σ H Q, t' σ H Q → t σ H Q) : PE X e t' := fun pins s σ H Q I q => h pins s σ H Q I (i _ _ _ q)
theorem PT.imp {X : Cx} {e : Expr} {t t' : TT} (h : PT X e t) (i : ∀ σ H Q, t' σ H Q → t σ H Q) : PT X e t' := fun pins s σ H Q I q => h pins s σ H Q I (i _ _ _ q)
theorem PA.imp {X : Cx} {e : List Expr} {t t' : TA} (h : PA X e t) (i : ∀ σ H Q, t' σ H Q → t σ H Q) : PA X e t' := fun pos pins s σ H Q I q => h pos pins s σ H Q I (i _ _ _ q)
theorem PS.imp {X : Cx} {e : Stmt} {t t' : TS} (h : PS X e t) (i : ∀ D σ H, t' D σ H → t D σ H) : PS X e t' := fun pins s σ H Q I q => h pins s σ H Q I (i _ _ _ q)
theorem PSs.imp {X : Cx} {e : List Stmt} {t t' : TS} (h : PSs X e t) (i : ∀ D σ H, t' D σ H → t D σ H) : PSs X e t' := fun pins s σ H Q I q => h pins s σ H Q I (i _ _ _ q)

section
variable {Y : Cy} {T : Tx} {k : Nat} {N G : List Str} {c : List Slot} {a b e : Expr} {es : List Expr} {pos : Pos} {d d1 d2 : D} {ds : List D} {P : Out → Prop} {rest : List Stmt}

/-! ### expressions -/
theorem ev_var (S : Se Y T k N G) (i : Nat) {x : Str} (hN : N[i]? = some x := by rfl) (hs : slot c i = .val d := by rfl) : EvD Y (.Name x pos) c d := by
  have hx := S.loc x (List.mem_of_getElem? hN)
  rw [← S.n] at hN
  exact PE.imp (pe_var hN (hx.1.elim .inl fun h => .inr (.inl h)) hx.2.1 hx.2.2) fun σ H Q ⟨F, E, q⟩ =>
    let ⟨x, ex, r⟩ := E.val hs
    ⟨x, ex, q x F H (Ext.refl E.fh) r⟩
theorem ev_const {v : V} (h : PE Y.X e (tC v)) (r : ∀ F, Rep Y.X.K F v d) : EvD Y e c d :=
  PE.imp h fun σ H Q ⟨F, E, q⟩ => q v F H (Ext.refl E.fh) (r F)
theorem ev_int {i : Int} {j} : EvD Y (.Constant (.int i) j pos) c (.int i) := ev_const pe_int fun _ => .int i
theorem ev_bl {i : Bool} {j} : EvD Y (.Constant (.bool i) j pos) c (.bl i) := ev_const pe_bl fun _ => .bl i
theorem ev_non {j} : EvD Y (.Constant .none j pos) c .non := ev_const pe_non fun _ => .non
theorem ev_str {x : Str} {j} : EvD Y (.Constant (.str x) j pos) c (.str x) := ev_const pe_str fun _ => .str x

/-- an operation by values -/
theorem ev_op2 {t : TE} {ta tb : TE} {r : R2} (h : PE Y.X e (tOp r (tD Y c d1) (tD Y c d2)))
    (hr : ∀ x y F H Q, Same F H → Rep Y.X.K F x d1 → Rep Y.X.K F y d2 → (∀ v F' H', Ext F H F' H' → Rep Y.X.K F' v d → Q v H') → r x y H Q) : EvD Y e c d :=
  PE.imp h fun σ H Q ⟨F, E, q⟩ => ⟨F, E, fun x F1 H1 e1 r1 => ⟨F1, E.grow e1, fun y F2 H2 e2 r2 =>
    hr x y F2 H2 Q e2.fh (r1.mono e2.ff) r2 fun v F3 H3 e3 r3 => q v F3 H3 (e1.trans (e2.trans e3)) r3⟩⟩
theorem ev_un1 {r : V → Hp → VK → Prop} (h : PE Y.X e (tUn r (tD Y c d1)))
    (hr : ∀ x F H Q, Same F H → Rep Y.X.K F x d1 → (∀ v F' H', Ext F H F' H' → Rep Y.X.K F' v d → Q v H') → r x H Q) : EvD Y e c d :=
  PE.imp h fun σ H Q ⟨F, E, q⟩ => ⟨F, E, fun x F1 H1 e1 r1 => hr x F1 H1 Q e1.fh r1 fun v F3 H3 e3 r3 => q v F3 H3 (e1.trans e3) r3⟩

section
variable {i j : Int}
theorem inv_int {K : PySem.W.Frag} {F : Hp} {x : V} {i : Int} (r : Rep K F x (.int i)) : x = .int i := by cases r; rfl
theorem inv_bl {K : PySem.W.Frag} {F : Hp} {x : V} {i : Bool} (r : Rep K F x (.bl i)) : x = .bl i := by cases r; rfl
theorem inv_str {K : PySem.W.Frag} {F : Hp} {x : V} {i : Str} (r : Rep K F x (.str i)) : x = .str i := by cases r; rfl
theorem inv_tup {K : PySem.W.Frag} {F : Hp} {x : V} {ds : List D} (r : Rep K F x (.tup ds)) : ∃ a vs, x = .ref a ∧ SqT K F a vs ∧ Reps K F vs ds := by cases r with | tup h t => exact ⟨_, _, rfl, h, t⟩
theorem inv_lst {K : PySem.W.Frag} {F : Hp} {x : V} {ds : List D} (r : Rep K F x (.lst ds)) : ∃ a vs, x = .ref a ∧ SqL K F a vs ∧ Reps K F vs ds := by cases r with | lst h t => exact ⟨_, _, rfl, h, t⟩

theorem ev_intop {op : Operator} {C : Int → Int → Prop} {g : Int → Int → Int} (ho : OpR Y.X (binaryOp op) (rI C fun i j => .int (g i j))) (ha : EvD Y a c (.int i)) (hb : EvD Y b c (.int j)) (hc : C i j) : EvD Y (.BinOp a op b pos) c (.int (g i j)) :=
  ev_op2 (t := tC .non) (ta := tC .non) (tb := tC .non) (pe_op ho ha hb) fun x y F H Q f rx ry q => ⟨i, j, inv_int rx, inv_int ry, hc, q _ F H (Ext.refl f) (.int _)⟩
theorem ev_intop0 {op : Operator} {g : Int → Int → Int} (ho : OpR Y.X (binaryOp op) (rI0 fun i j => .int (g i j))) (ha : EvD Y a c (.int i)) (hb : EvD Y b c (.int j)) : EvD Y (.BinOp a op b pos) c (.int (g i j)) :=
  ev_op2 (t := tC .non) (ta := tC .non) (tb := tC .non) (pe_op ho ha hb) fun x y F H Q f rx ry q => ⟨i, j, inv_int rx, inv_int ry, q _ F H (Ext.refl f) (.int _)⟩
theorem ev_add (ha : EvD Y a c (.int i)) (hb : EvD Y b c (.int j)) : EvD Y (.BinOp a .Add b pos) c (.int (i + j)) := ev_intop0 op_add ha hb
theorem ev_sub (ha : EvD Y a c (.int i)) (hb : EvD Y b c (.int j)) : EvD Y (.BinOp a .Sub b pos) c (.int (i - j)) := ev_intop0 op_sub ha hb
/-- numbers of at most n bits -/
def Bd (n : Nat) (i : Int) : Prop := i.natAbs < 2 ^ n
instance {n : Nat} {i : Int} : Decidable (Bd n i) := inferInstanceAs (Decidable (i.natAbs < 2 ^ n))
theorem op_mulB {X : Cx} : OpR X (binaryOp .Mult) (rI (fun i j => IntMulOk i j) fun i j => .int (i * j)) := opI fun _ _ _ _ _ _ _ hc q => PyProof.Rows.mul_int q hc
theorem bits_le {n : Nat} {i : Int} (h : Bd n i) : Builtin.Int.intBits i ≤ n := by
  unfold Builtin.Int.intBits
  split
  · exact Nat.zero_le _
  · rename_i h0
    have hn : i.natAbs ≠ 0 := fun z => h0 (by simpa using z)
    have : i.natAbs.log2 < n := (Nat.log2_lt hn).mpr h
    omega
theorem mulOk {m n : Nat} {i j : Int} (h1 : Bd m i) (h2 : Bd n j) (h : m + n ≤ 134217728) : IntMulOk i j := PySem.IntMulOk.of_le (bits_le h1) (bits_le h2) h
theorem ev_mul (ha : EvD Y a c (.int i)) (hb : EvD Y b c (.int j)) (hm : IntMulOk i j) : EvD Y (.BinOp a .Mult b pos) c (.int (i * j)) := ev_intop op_mulB ha hb hm
theorem op_fdivB {X : Cx} : OpR X (binaryOp .FloorDiv) (rI (fun i j => j ≠ 0 ∧ Bd 9000 j) fun i j => .int (i.fdiv j)) := opI fun _ j _ _ _ _ _ hc q => PyProof.Rows.floordiv_int hc.1 q (.inl (PyProof.noPylong_of_log2 (by
  have hn : j.natAbs ≠ 0 := fun z => hc.1 (Int.natAbs_eq_zero.mp z)
  exact (Nat.log2_lt hn).mpr hc.2)))
theorem ev_fdiv (ha : EvD Y a c (.int i)) (hb : EvD Y b c (.int j)) (hj : j ≠ 0) (hm : Bd 9000 j) : EvD Y (.BinOp a .FloorDiv b pos) c (.int (i.fdiv j)) := ev_intop op_fdivB ha hb ⟨hj, hm⟩
theorem ev_fdivP (ha : EvD Y a c (.int i)) (hb : EvD Y b c (.int j)) (hj : 0 < j) (hm : Bd 9000 j) : EvD Y (.BinOp a .FloorDiv b pos) c (.int (i / j)) := by
  have h := ev_fdiv (pos := pos) ha hb (by omega) hm
  rw [Int.fdiv_eq_ediv_of_nonneg i (by omega)] at h
  exact h
theorem ev_mod (ha : EvD Y a c (.int i)) (hb : EvD Y b c (.int j)) (hj : j ≠ 0) : EvD Y (.BinOp a .Mod b pos) c (.int (i.fmod j)) := ev_intop op_modN ha hb hj
theorem ev_modP (ha : EvD Y a c (.int i)) (hb : EvD Y b c (.int j)) (hj : 0 < j) : EvD Y (.BinOp a .Mod b pos) c (.int (i % j)) := ev_intop op_mod ha hb hj
theorem ev_neg (ha : EvD Y a c (.int i)) : EvD Y (.UnaryOp .USub a pos) c (.int (-i)) :=
  ev_un1 (pe_un un_neg ha) fun x F H Q f rx q => ⟨i, inv_int rx, q _ F H (Ext.refl f) (.int _)⟩

/-! comparisons -/
theorem ev_cmpI {op : CmpOp} {g : Int → Int → Bool} (ho : OpR Y.X (compareOp op) (rI0 fun i j => .bl (g i j))) (hm : behindInMarks op b = false) (ha : EvD Y a c (.int i)) (hb : EvD Y b c (.int j)) : EvD Y (.Compare a [op] [b] pos) c (.bl (g i j)) :=
  ev_op2 (t := tC .non) (ta := tC .non) (tb := tC .non) (pe_cmpR ho ha hb hm) fun x y F H Q f rx ry q => ⟨i, j, inv_int rx, inv_int ry, q _ F H (Ext.refl f) (.bl _)⟩
theorem ev_lt (ha : EvD Y a c (.int i)) (hb : EvD Y b c (.int j)) : EvD Y (.Compare a [.Lt] [b] pos) c (.bl (decide (i < j))) := ev_cmpI op_lt (nomark _) ha hb
theorem ev_eqI (ha : EvD Y a c (.int i)) (hb : EvD Y b c (.int j)) : EvD Y (.Compare a [.Eq] [b] pos) c (.bl (decide (i = j))) :=
  ev_op2 (t := tC .non) (ta := tC .non) (tb := tC .non) (pe_cmpR op_eq ha hb (nomark _)) fun x y F H Q f rx ry q => by
    rw [inv_int rx, inv_int ry]
    refine ⟨rfl, ?_⟩
    rw [dec_int]
    exact q _ F H (Ext.refl f) (.bl _)
end

/-! tests -/
theorem te_val {v : Bool} (h : EvD Y e c (.bl v)) (he : ∀ whole, isTrue e Y.X.env whole = (do let v ← whole; standAt e.pos; holding [v] (truthy v)) := by intro _; rfl) : TeD Y e c v :=
  PT.imp (pt_val h he) fun σ H Q ⟨F, E, q⟩ => ⟨F, E, fun x F1 H1 e1 r1 => ⟨v, inv_bl r1, q F1 H1 e1⟩⟩
theorem te_cmp {op : CmpOp} {r : R2} {v : Bool} (ho : OpR Y.X (compareOp op) r) (hm : behindInMarks op b = false) (ha : EvD Y a c d1) (hb : EvD Y b c d2)
    (hr : ∀ x y F H Q, Same F H → Rep Y.X.K F x d1 → Rep Y.X.K F y d2 → (∀ F' H', Ext F H F' H' → Q (.bl v) H') → r x y H Q) : TeD Y (.Compare a [op] [b] pos) c v :=
  PT.imp (pt_cmpR ho ha hb hm) fun σ H Q ⟨F, E, q⟩ => ⟨F, E, fun x F1 H1 e1 r1 => ⟨F1, E.grow e1, fun y F2 H2 e2 r2 =>
    hr x y F2 H2 _ e2.fh (r1.mono e2.ff) r2 fun F3 H3 e3 => ⟨v, rfl, q F3 H3 (e1.trans (e2.trans e3))⟩⟩⟩
section
variable {i j : Int}
theorem te_cmpI {op : CmpOp} {g : Int → Int → Bool} (ho : OpR Y.X (compareOp op) (rI0 fun i j => .bl (g i j))) (hm : behindInMarks op b = false) (ha : EvD Y a c (.int i)) (hb : EvD Y b c (.int j)) : TeD Y (.Compare a [op] [b] pos) c (g i j) :=
  te_cmp ho hm ha hb fun x y F H Q f rx ry q => ⟨i, j, inv_int rx, inv_int ry, q F H (Ext.refl f)⟩
theorem te_lt (ha : EvD Y a c (.int i)) (hb : EvD Y b c (.int j)) : TeD Y (.Compare a [.Lt] [b] pos) c (decide (i < j)) := te_cmpI op_lt (nomark _) ha hb
theorem te_le (ha : EvD Y a c (.int i)) (hb : EvD Y b c (.int j)) : TeD Y (.Compare a [.LtE] [b] pos) c (decide (i ≤ j)) := te_cmpI op_le (nomark _) ha hb
theorem te_gt (ha : EvD Y a c (.int i)) (hb : EvD Y b c (.int j)) : TeD Y (.Compare a [.Gt] [b] pos) c (decide (j < i)) := te_cmpI op_gt (nomark _) ha hb
theorem te_eqI (ha : EvD Y a c (.int i)) (hb : EvD Y b c (.int j)) : TeD Y (.Compare a [.Eq] [b] pos) c (decide (i = j)) :=
  te_cmp op_eq (nomark _) ha hb fun x y F H Q f rx ry q => by
    rw [inv_int rx, inv_int ry]
    refine ⟨rfl, ?_⟩
    rw [dec_int]
    exact q F H (Ext.refl f)
theorem te_neI (ha : EvD Y a c (.int i)) (hb : EvD Y b c (.int j)) : TeD Y (.Compare a [.NotEq] [b] pos) c (!decide (i = j)) :=
  te_cmp op_ne (nomark _) ha hb fun x y F H Q f rx ry q => by
    rw [inv_int rx, inv_int ry]
    refine ⟨rfl, ?_⟩
    rw [dec_int]
    exact q F H (Ext.refl f)
end
theorem te_not {v : Bool} (h : TeD Y a c v) : TeD Y (.UnaryOp .Not a pos) c (!v) :=
  PT.imp (pt_not h) fun σ H Q ⟨F, E, q⟩ => ⟨F, E, fun F1 H1 e1 => q F1 H1 e1⟩
theorem te_and {v w : Bool} (ha : TeD Y a c v) (hb : v = true → PW Y.X (.BoolOp .And (b :: es) pos) (tT Y c w)) : PW Y.X (.BoolOp .And (a :: b :: es) pos) (tT Y c (v && w)) := by
  cases v with
  | true =>
    intro whole pins s σ H Q I h
    refine pw_and ha (hb rfl) whole pins s σ H Q I ?_
    obtain ⟨F, E, q⟩ := h
    exact ⟨F, E, fun F1 H1 e1 => L2.iteT ⟨F1, E.grow e1, fun F2 H2 e2 => q F2 H2 (e1.trans e2)⟩⟩
  | false =>
    intro whole pins s σ H Q I h
    have hn : PW Y.X (.BoolOp .And (b :: es) pos) (fun _ _ _ => False) := fun _ _ _ _ _ _ _ z => z.elim
    refine pw_and ha hn whole pins s σ H Q I ?_
    obtain ⟨F, E, q⟩ := h
    exact ⟨F, E, fun F1 H1 e1 => L2.iteF (q F1 H1 e1)⟩
theorem te_or {v w : Bool} (ha : TeD Y a c v) (hb : v = false → PW Y.X (.BoolOp .Or (b :: es) pos) (tT Y c w)) : PW Y.X (.BoolOp .Or (a :: b :: es) pos) (tT Y c (v || w)) := by
  cases v with
  | false =>
    intro whole pins s σ H Q I h
    refine pw_or ha (hb rfl) whole pins s σ H Q I ?_
    obtain ⟨F, E, q⟩ := h
    exact ⟨F, E, fun F1 H1 e1 => L2.iteF ⟨F1, E.grow e1, fun F2 H2 e2 => q F2 H2 (e1.trans e2)⟩⟩
  | true =>
    intro whole pins s σ H Q I h
    have hn : PW Y.X (.BoolOp .Or (b :: es) pos) (fun _ _ _ => False) := fun _ _ _ _ _ _ _ z => z.elim
    refine pw_or ha hn whole pins s σ H Q I ?_
    obtain ⟨F, E, q⟩ := h
    exact ⟨F, E, fun F1 H1 e1 => L2.iteT (q F1 H1 e1)⟩
theorem te_and1 {v : Bool} (ha : TeD Y a c v) : PW Y.X (.BoolOp .And [a] pos) (tT Y c v) := pw_and1 ha
theorem te_or1 {v : Bool} (ha : TeD Y a c v) : PW Y.X (.BoolOp .Or [a] pos) (tT Y c v) := pw_or1 ha
/-- and, or as values of truths -/
theorem ev_one {op} (h : EvD Y a c d) : EvD Y (.BoolOp op [a] pos) c d := pe_one h
theorem ev_and {v : Bool} (ha : EvD Y a c (.bl v)) (hb : v = true → EvD Y (.BoolOp .And (b :: es) pos) c d) : EvD Y (.BoolOp .And (a :: b :: es) pos) c (if v = true then d else .bl false) := by
  cases v with
  | true =>
    refine PE.imp (pe_and ha (hb rfl)) fun σ H Q ⟨F, E, q⟩ => ⟨F, E, fun x F1 H1 e1 r1 => ⟨true, inv_bl r1, L2.iteT ⟨F1, E.grow e1, fun v F2 H2 e2 r2 => q v F2 H2 (e1.trans e2) (by simpa using r2)⟩⟩⟩
  | false =>
    have hn : PE Y.X (.BoolOp .And (b :: es) pos) (fun _ _ _ => False) := fun _ _ _ _ _ _ z => z.elim
    refine PE.imp (pe_and ha hn) fun σ H Q ⟨F, E, q⟩ => ⟨F, E, fun x F1 H1 e1 r1 => ⟨false, inv_bl r1, L2.iteF (q _ F1 H1 e1 (by simpa using Rep.bl false))⟩⟩
theorem ev_or {v : Bool} (ha : EvD Y a c (.bl v)) (hb : v = false → EvD Y (.BoolOp .Or (b :: es) pos) c d) : EvD Y (.BoolOp .Or (a :: b :: es) pos) c (if v = true then .bl true else d) := by
  cases v with
  | false =>
    refine PE.imp (pe_or ha (hb rfl)) fun σ H Q ⟨F, E, q⟩ => ⟨F, E, fun x F1 H1 e1 r1 => ⟨false, inv_bl r1, L2.iteF ⟨F1, E.grow e1, fun v F2 H2 e2 r2 => q v F2 H2 (e1.trans e2) (by simpa using r2)⟩⟩⟩
  | true =>
    have hn : PE Y.X (.BoolOp .Or (b :: es) pos) (fun _ _ _ => False) := fun _ _ _ _ _ _ z => z.elim
    refine PE.imp (pe_or ha hn) fun σ H Q ⟨F, E, q⟩ => ⟨F, E, fun x F1 H1 e1 r1 => ⟨true, inv_bl r1, L2.iteT (q _ F1 H1 e1 (by simpa using Rep.bl true))⟩⟩
/-! arguments, displays, items -/
theorem ar_nil : ArD Y [] c [] := PA.imp pa_nil fun σ H Q ⟨F, E, q⟩ => q [] F H (Ext.refl E.fh) .nil
theorem ar_cons (ha : EvD Y e c d) (hr : ArD Y es c ds) (hs : starEach (e :: es) Y.X.env = (false, eval e Y.X.env) :: starEach es Y.X.env := by rfl) : ArD Y (e :: es) c (d :: ds) :=
  PA.imp (pa_cons ha hr hs) fun σ H Q ⟨F, E, q⟩ => ⟨F, E, fun x F1 H1 e1 r1 => ⟨F1, E.grow e1, fun vs F2 H2 e2 r2 => q _ F2 H2 (e1.trans e2) (.cons (r1.mono e2.ff) r2)⟩⟩
theorem small_le {n : Nat} (h : n ≤ 1000000) : n ≤ sizeLine := by rw [sizeLine_eq]; omega
theorem ev_tup {x1} (h : ArD Y es c ds) (hz : ds.length ≤ 1000000 := by first | exact of_decide_eq_true rfl | (simp; done)) : EvD Y (.Tuple es x1 pos) c (.tup ds) :=
  PE.imp (pe_tup h) fun σ H Q ⟨F, E, q⟩ => ⟨F, E, fun vs F1 H1 e1 r1 => ⟨by rw [r1.length]; exact small_le hz, fun p hp =>
    q (.ref p) _ _ (e1.trans (Ext.new e1.fh hp (.tup vs))) (.tup (SqT.of upd_same) (r1.mono (Ext.new e1.fh hp _).ff))⟩⟩
theorem atI_reps {K : PySem.W.Frag} {F : Hp} {vs : List V} {ds : List D} {i : Int} {d : D} (r : Reps K F vs ds) (h : atI ds i = some d) : ∃ v, atI vs i = some v ∧ Rep K F v d := by
  unfold atI at h ⊢
  rw [r.length]
  cases q : ixN ds.length i with
  | none => rw [q] at h; cases h
  | some j =>
    rw [q] at h
    obtain ⟨v, h1, h2⟩ := r.get (i := j) (by simpa using h)
    exact ⟨v, by simpa using h1, h2⟩
theorem ev_ixT {i : Int} (ha : EvD Y a c (.tup ds)) (hb : EvD Y b c (.int i)) (h : atI ds i = some d) (hs : PlainIx b := by intro _ _; rfl) : EvD Y (.Subscript a b pos) c d :=
  ev_op2 (t := tC .non) (ta := tC .non) (tb := tC .non) (pe_ix ix_tup ha hb hs) fun x y F H Q f rx ry q => by
    obtain ⟨p, vs, rfl, hp, r⟩ := inv_tup rx
    obtain ⟨v, hv, rv⟩ := atI_reps r h
    exact ⟨p, vs, i, v, rfl, inv_int ry, sqT_same f hp, hv, q v F H (Ext.refl f) rv⟩
theorem ev_ixL {i : Int} (ha : EvD Y a c (.lst ds)) (hb : EvD Y b c (.int i)) (h : atI ds i = some d) (hs : PlainIx b := by intro _ _; rfl) : EvD Y (.Subscript a b pos) c d :=
  ev_op2 (t := tC .non) (ta := tC .non) (tb := tC .non) (pe_ix ix_list ha hb hs) fun x y F H Q f rx ry q => by
    obtain ⟨p, vs, rfl, hp, r⟩ := inv_lst rx
    obtain ⟨v, hv, rv⟩ := atI_reps r h
    exact ⟨p, vs, i, v, rfl, inv_int ry, f.seq hp, hv, q v F H (Ext.refl f) rv⟩

/-! ### built-in functions -/
theorem ev_callB (S : Se Y T k N G) (gi : Nat) {id : String} {x : Str} {p : Pos} {r : List V → Hp → VK → Prop} (hc : CallR Y.X (.builtin id) r) (hg : G[gi]? = some x) (hm : T.mg x = none) (hv : bootBuiltins x = some (.builtin id)) (ha : ArD Y (e :: es) c ds)
    (hr : ∀ vs F H Q, Same F H → Reps Y.X.K F vs ds → (∀ v F' H', Ext F H F' H' → Rep Y.X.K F' v d → Q v H') → r vs H Q)
    (he : starEach (e :: es) Y.X.env = (false, eval e Y.X.env) :: starEach es Y.X.env) (hpl : (backTo pos (starEach es Y.X.env)).any (·.1) = false) : EvD Y (.Call (.Name x p) (e :: es) [] pos) c d :=
  PE.imp (pe_callB hc (S.gl x (List.mem_of_getElem? hg)).1 (by rw [S.eM]; exact hm) hv ha (S.gl x (List.mem_of_getElem? hg)).2.2 (S.gl x (List.mem_of_getElem? hg)).2.1 he hpl) fun σ H Q ⟨F, E, q⟩ => ⟨F, E, fun vs F1 H1 e1 r1 => hr vs F1 H1 Q e1.fh r1 fun v F2 H2 e2 r2 => q v F2 H2 (e1.trans e2) r2⟩
theorem ev_callTy (S : Se Y T k N G) (gi : Nat) {id : String} {x : Str} {p : Pos} {r : List V → Hp → VK → Prop} (hc : CallR Y.X (.type id) r) (hg : G[gi]? = some x) (hm : T.mg x = none) (hv : bootBuiltins x = some (.type id)) (ha : ArD Y (e :: es) c ds)
    (hr : ∀ vs F H Q, Same F H → Reps Y.X.K F vs ds → (∀ v F' H', Ext F H F' H' → Rep Y.X.K F' v d → Q v H') → r vs H Q)
    (he : starEach (e :: es) Y.X.env = (false, eval e Y.X.env) :: starEach es Y.X.env) (hpl : (backTo pos (starEach es Y.X.env)).any (·.1) = false) : EvD Y (.Call (.Name x p) (e :: es) [] pos) c d :=
  PE.imp (pe_callTy hc (S.gl x (List.mem_of_getElem? hg)).1 (by rw [S.eM]; exact hm) hv ha (S.gl x (List.mem_of_getElem? hg)).2.2 (S.gl x (List.mem_of_getElem? hg)).2.1 he hpl) fun σ H Q ⟨F, E, q⟩ => ⟨F, E, fun vs F1 H1 e1 r1 => hr vs F1 H1 Q e1.fh r1 fun v F2 H2 e2 r2 => q v F2 H2 (e1.trans e2) r2⟩
theorem inv1 {K : PySem.W.Frag} {F : Hp} {vs : List V} {d : D} (r : Reps K F vs [d]) : ∃ v, vs = [v] ∧ Rep K F v d := by
  cases r with
  | cons a t => cases t; exact ⟨_, rfl, a⟩
theorem inv2 {K : PySem.W.Frag} {F : Hp} {vs : List V} {d e : D} (r : Reps K F vs [d, e]) : ∃ v w, vs = [v, w] ∧ Rep K F v d ∧ Rep K F w e := by
  cases r with
  | cons a t => obtain ⟨w, rfl, b⟩ := inv1 t; exact ⟨_, _, rfl, a, b⟩
theorem ev_abs (S : Se Y T k N G) (gi : Nat) {i : Int} {p : Pos} (ha : ArD Y [e] c [.int i]) (hm : T.mg "abs" = none) (hg : G[gi]? = some ("abs" : Str) := by rfl) (he : starEach [e] Y.X.env = (false, eval e Y.X.env) :: starEach [] Y.X.env := by rfl) : EvD Y (.Call (.Name "abs" p) [e] [] pos) c (.int (i.natAbs : Int)) :=
  ev_callB S gi call_abs hg hm bt_abs ha (fun vs F H Q f r q => by
    obtain ⟨v, rfl, rv⟩ := inv1 r
    refine ⟨i, by rw [inv_int rv], ?_⟩
    have e : (if i < 0 then -i else i) = (i.natAbs : Int) := by split <;> omega
    rw [e]
    exact q _ F H (Ext.refl f) (.int _)) he rfl
theorem ev_max (S : Se Y T k N G) (gi : Nat) {i j : Int} {p : Pos} {e1 : Expr} (ha : ArD Y [e, e1] c [.int i, .int j]) (hm : T.mg "max" = none) (hg : G[gi]? = some ("max" : Str) := by rfl) (he : starEach [e, e1] Y.X.env = (false, eval e Y.X.env) :: starEach [e1] Y.X.env := by rfl) (hpl : (backTo pos (starEach [e1] Y.X.env)).any (·.1) = false := by rfl) : EvD Y (.Call (.Name "max" p) [e, e1] [] pos) c (.int (max i j)) :=
  ev_callB S gi (call_max2 S.calm) hg hm bt_max ha (fun vs F H Q f r q => by
    obtain ⟨v, w, rfl, rv, rw'⟩ := inv2 r
    refine ⟨i, j, by rw [inv_int rv, inv_int rw'], ?_⟩
    have e : (if j > i then j else i) = max i j := by split <;> omega
    rw [e]
    exact q _ F H (Ext.refl f) (.int _)) he hpl
theorem ev_min (S : Se Y T k N G) (gi : Nat) {i j : Int} {p : Pos} {e1 : Expr} (ha : ArD Y [e, e1] c [.int i, .int j]) (hm : T.mg "min" = none) (hg : G[gi]? = some ("min" : Str) := by rfl) (he : starEach [e, e1] Y.X.env = (false, eval e Y.X.env) :: starEach [e1] Y.X.env := by rfl) (hpl : (backTo pos (starEach [e1] Y.X.env)).any (·.1) = false := by rfl) : EvD Y (.Call (.Name "min" p) [e, e1] [] pos) c (.int (min i j)) :=
  ev_callB S gi (call_min2 S.calm) hg hm bt_min ha (fun vs F H Q f r q => by
    obtain ⟨v, w, rfl, rv, rw'⟩ := inv2 r
    refine ⟨i, j, by rw [inv_int rv, inv_int rw'], ?_⟩
    have e : (if j < i then j else i) = min i j := by split <;> omega
    rw [e]
    exact q _ F H (Ext.refl f) (.int _)) he hpl
def lenD : D → Option Nat
  | .str x => if x.length ≤ 1000000 then some x.length else none
  | .tup xs => some xs.length
  | .lst xs => some xs.length
  | _ => none
theorem ev_len (S : Se Y T k N G) (gi : Nat) {n : Nat} {p : Pos} (ha : ArD Y [e] c [d]) (hl : lenD d = some n) (hm : T.mg "len" = none) (hg : G[gi]? = some ("len" : Str) := by rfl) (he : starEach [e] Y.X.env = (false, eval e Y.X.env) :: starEach [] Y.X.env := by rfl) : EvD Y (.Call (.Name "len" p) [e] [] pos) c (.int n) :=
  ev_callB S gi call_len hg hm bt_len ha (fun vs F H Q f r q => by
    obtain ⟨v, rfl, rv⟩ := inv1 r
    refine ⟨v, n, rfl, ?_, q _ F H (Ext.refl f) (.int _)⟩
    cases rv with
    | str x =>
      have hl' : (if x.length ≤ 1000000 then some x.length else none) = some n := hl
      by_cases hx : x.length ≤ 1000000
      · rw [if_pos hx] at hl'; cases hl'; exact ⟨small_le hx, rfl⟩
      · rw [if_neg hx] at hl'; cases hl'
    | tup h t => cases hl; exact .inr ⟨_, sqT_same f h, t.length.symm⟩
    | lst h t => cases hl; exact .inl ⟨_, f.seq h, t.length.symm⟩
    | _ => cases hl) he rfl
theorem ev_intOf (S : Se Y T k N G) (gi : Nat) {i : Bool} {p : Pos} (ha : ArD Y [e] c [.bl i]) (hm : T.mg "int" = none) (hg : G[gi]? = some ("int" : Str) := by rfl) (he : starEach [e] Y.X.env = (false, eval e Y.X.env) :: starEach [] Y.X.env := by rfl) : EvD Y (.Call (.Name "int" p) [e] [] pos) c (.int (if i then 1 else 0)) :=
  ev_callTy S gi call_int1 hg hm bt_int ha (fun vs F H Q f r q => by
    obtain ⟨v, rfl, rv⟩ := inv1 r
    exact .inr ⟨i, by rw [inv_bl rv], q _ F H (Ext.refl f) (.int _)⟩) he rfl

/-! ### statements -/
theorem ss_nil (h : P (.nx c)) : SsD Y [] c P := PSs.imp pss_nil fun D σ H ⟨F, E, m⟩ => m _ h σ F H (Same.refl F) E
/-- any reading of the rest -/
def tAny (Y : Cy) (rest : List Stmt) : TS := fun D σ H => ∃ c P F, SsD Y rest c P ∧ EnvY Y F H σ c ∧ ∀ o, P o → Meets Y F D o
theorem pss_any : PSs Y.X rest (tAny Y rest) := fun pins s σ H D I ⟨c, P, F, h, e, m⟩ => h pins s σ H D I ⟨F, e, m⟩
theorem ss_cons {st : Stmt} (h : StD Y st c (Thn Y rest P)) : SsD Y (st :: rest) c P :=
  PSs.imp (pss_cons h pss_any) fun D σ H ⟨F, e, m⟩ => ⟨F, e, fun o ho => by
    cases o with
    | nx c' => exact fun σ' F' H' s' E' => ⟨c', P, F', ho, E', fun o' ho' => (m o' ho').grow s'⟩
    | rt d => exact m (.rt d) ho
    | bk c' => exact m (.bk c') ho
    | ct c' => exact m (.ct c') ho
    | ro ds => exact m (.ro ds) ho
    | rs R => exact m (.rs R) ho⟩
theorem st_ret (h : EvD Y e c d) (hp : P (.rt d)) : StD Y (.Return (some e) pos) c P :=
  PS.imp (ps_ret h) fun D σ H ⟨F, E, m⟩ => ⟨F, E, fun v F' H' x r => m _ hp v F' H' x.ff (E.ext.trans x) r⟩
theorem ss_ret (h : EvD Y e c d) (hp : P (.rt d)) : SsD Y (.Return (some e) pos :: rest) c P := ss_cons (st_ret h hp)
theorem ss_if {t : Expr} {sa sb : List Stmt} {v : Bool} (ht : TeD Y t c v) (ha : v = true → SsD Y sa c (Thn Y rest P)) (hb : v = false → SsD Y sb c (Thn Y rest P)) : SsD Y (.If t sa sb pos :: rest) c P := by
  refine ss_cons ?_
  cases v with
  | true => exact PS.imp (ps_if ht (ha rfl) (pss_never (sts := sb))) fun D σ H ⟨F, E, m⟩ => ⟨F, E, fun F1 H1 e1 => L2.iteT ⟨F1, E.grow e1, fun o ho => (m o ho).grow e1.ff⟩⟩
  | false => exact PS.imp (ps_if ht (pss_never (sts := sa)) (hb rfl)) fun D σ H ⟨F, E, m⟩ => ⟨F, E, fun F1 H1 e1 => L2.iteF ⟨F1, E.grow e1, fun o ho => (m o ho).grow e1.ff⟩⟩
theorem ss_set (S : Sc Y T k N G) (i : Nat) {x : Str} {pos' : Pos} (he : EvD Y e c d)
    (hr : SsD Y rest (put c i (.val d)) P) (hi : N[i]? = some x := by rfl) (hlt : i < c.length := by first | exact of_decide_eq_true rfl | decide | omega) (hs : swapsWith e (some (.Name x pos')) pos.line Y.X.env = pure false := by rfl) : SsD Y (.Assign [.Name x pos'] e pos :: rest) c P := by
  have hx := S.loc x (List.mem_of_getElem? hi)
  have hN := S.nd
  rw [← S.n] at hi hN
  refine ss_cons (PS.imp (ps_set hN hi hx.1 he hs (.inl (S.fn x))) fun D σ H ⟨F, E, m⟩ => ⟨F, E, fun v F' H' e' r' => ?_⟩)
  exact m (.nx (put c i (.val d))) hr _ F' H' e'.ff ((E.grow e').set hlt r')
/-- if t: x = e (no else), the name's two values in one -/
theorem ss_ifI (S : Sc Y T k N G) (i : Nat) {x : Str} {t : Expr} {p1 p2 : Pos} {v : Bool} {a b : Int} (ht : TeD Y t c v) (he : v = true → EvD Y e c (.int a)) (hr : SsD Y rest (put c i (.val (.int (if v = true then a else b)))) P) (hsl : slot c i = .val (.int b) := by rfl) (hi : N[i]? = some x := by rfl)
    (hlt : i < c.length := by first | exact of_decide_eq_true rfl | decide | omega) (hs : swapsWith e (some (.Name x p1)) p2.line Y.X.env = pure false := by rfl) : SsD Y (.If t [.Assign [.Name x p1] e p2] [] pos :: rest) c P := by
  refine ss_if ht (fun h => ?_) (fun h => ?_)
  · refine ss_set S i (he h) (ss_nil ?_) hi hlt hs
    rw [if_pos h] at hr
    exact hr
  · refine ss_nil ?_
    rw [if_neg (by rw [h]; exact Bool.false_ne_true)] at hr
    have e : put c i (.val (.int b)) = c := by rw [← hsl]; exact put_slot c i
    rw [e] at hr
    exact hr
theorem ss_ifD (S : Sc Y T k N G) (i : Nat) {x : Str} {t : Expr} {p1 p2 : Pos} {v : Bool} (ht : TeD Y t c v) (he : v = true → EvD Y e c d1) (hr : SsD Y rest (put c i (.val (if v = true then d1 else d2))) P) (hsl : slot c i = .val d2 := by rfl) (hi : N[i]? = some x := by rfl)
    (hlt : i < c.length := by first | exact of_decide_eq_true rfl | decide | omega) (hs : swapsWith e (some (.Name x p1)) p2.line Y.X.env = pure false := by rfl) : SsD Y (.If t [.Assign [.Name x p1] e p2] [] pos :: rest) c P := by
  refine ss_if ht (fun h => ?_) (fun h => ?_)
  · refine ss_set S i (he h) (ss_nil ?_) hi hlt hs
    rw [if_pos h] at hr
    exact hr
  · refine ss_nil ?_
    rw [if_neg (by rw [h]; exact Bool.false_ne_true)] at hr
    have e : put c i (.val d2) = c := by rw [← hsl]; exact put_slot c i
    rw [e] at hr
    exact hr
/-- what a loop's turn is to reach -/
def Turned (I : List Slot → Prop) (Pn : List Slot → Prop) (Pr : D → Prop) : Out → Prop
  | .nx c => I c
  | .ct c => I c
  | .bk c => Pn c
  | .rt d => Pr d
  | .ro _ => False
  | .rs _ => False
def tAnyT (Y : Cy) (e : Expr) : TT := fun σ H Q => ∃ c v, TeD Y e c v ∧ tT Y c v σ H Q
theorem pt_any {e : Expr} : PT Y.X e (tAnyT Y e) := fun pins s σ H Q I ⟨c, v, h, q⟩ => h pins s σ H Q I q
theorem ss_while (S : Sc Y T k N G) {t : Expr} {body : List Stmt} (I : List Slot → Prop) (μ : List Slot → Nat) (h0 : I c)
    (hs : ∀ c, I c → ∃ v, TeD Y t c v ∧ (v = true → SsD Y body c (Turned (fun c' => I c' ∧ μ c' < μ c) (fun c' => SsD Y rest c' P) (fun d => P (.rt d)))) ∧ (v = false → SsD Y rest c P)) : SsD Y (.While t body [] pos :: rest) c P := by
  refine ss_cons (PS.imp (ps_while S.hp (pt_any (e := t)) (pss_any (rest := body))) fun D σ H ⟨F, E, m⟩ => ?_)
  refine ⟨fun n σ H => ∃ c F1, I c ∧ μ c = n ∧ EnvY Y F1 H σ c ∧ Same F F1, ⟨μ c, c, F, h0, rfl, E, Same.refl F⟩, ?_⟩
  rintro n σ H ⟨c, F1, hI, rfl, E, s1⟩
  obtain ⟨v, ht, hb, hn⟩ := hs c hI
  refine ⟨c, v, ht, F1, E, fun F2 H2 e2 => ?_⟩
  cases v with
  | false => exact L2.iteF (m (.nx c) (hn rfl) σ F2 H2 (s1.trans e2.ff) (E.grow e2))
  | true =>
    refine L2.iteT ⟨fun σ' H' => ∃ c' F', (I c' ∧ μ c' < μ c) ∧ EnvY Y F' H' σ' c' ∧ Same F F', fun σ' H' ⟨c', F', hI', E', s'⟩ => ⟨μ c', hI'.2, c', F', hI'.1, rfl, E', s'⟩, ?_⟩
    refine ⟨c, _, F2, hb rfl, E.grow e2, fun o ho => ?_⟩
    have s2 := s1.trans e2.ff
    cases o with
    | nx c' => exact fun σ' F' H' s' E' => ⟨c', F', ho, E', s2.trans s'⟩
    | ct c' => exact fun σ' F' H' s' E' => ⟨c', F', ho, E', s2.trans s'⟩
    | bk c' => exact fun σ' F' H' s' E' => m (.nx c') ho σ' F' H' (s2.trans s') E'
    | rt d => exact (m (.rt d) ho).grow s2
    | ro ds => exact False.elim ho
    | rs R => exact False.elim ho
end

/-! ### for -/
def Itrs (lo st : Int) (n : Nat) : It := ⟨fun i _ => i < n, fun i H x H' => H' = H ∧ x = .int (lo + i * st), fun i _ => n ≤ i⟩
theorem turn_ranges {P : Program} {w : World} {K : PySem.W.Frag} {tg : Expr} (it : Addr) (lo st : Int) (n : Nat) : Turn P w K tg (Itrs lo st n) [it] it (fun i h => IsRangeIter h it (lo + (i : Nat) * st) ((n : Int) - (i : Nat)) st) where
  mem := by simp
  obj := fun i h st b hb => by
    have e : b = it := by simpa using hb
    subst e
    exact ⟨_, st, fun v z => by
      have z' : Data.fields _ = Data.cell v := z
      cases z'⟩
  keep := fun i h h' st k => k it (by simp) _ st
  item := by
    intro X hP hw hK hc i pins s σ H E I hf stt hg
    subst hP hw hK
    obtain ⟨f0, f1, f2, f3, f4, f5⟩ := hf it (by simp)
    have W := PySem.Walks.range (prog := X.prog) (w := X.w) (I.ok.hd hc) it lo st n
    refine W.item i s _ _ hg stt fun v h' tk hv st' kk => ?_
    obtain ⟨t, rfl⟩ := hv
    have I1 : Inv X pins σ H { s with heap := h', toks := tk } := I.turned (fun b o hb e => kk b o (by simpa using hb) e) f0 f1 f3 f4 f5
    exact ⟨_, rfl, go_of (s := { s with heap := h', toks := tk }) (n := "range_iterator") st' rfl rfl (by decide) ⟨.int _, H, I1, ⟨t, rfl⟩, ⟨rfl, rfl⟩, st', fun b hb => (hf b hb).1⟩⟩
  done := by
    intro X hP hw hK hc i pins s σ H E I hf st hg
    subst hP hw hK
    obtain ⟨f0, f1, f2, f3, f4, f5⟩ := hf it (by simp)
    exact wpAny_pyNext_range_end (I.ok.hd hc) st (by have : n ≤ i := hg; omega) fun h' eb => ⟨rfl, I.turned (t' := s.toks) (fun b o hb e => eb b o hb e) f0 f1 f3 f4 f5⟩
  self := fun _ _ _ _ _ st h => wpAny_pyIter_rangeiter st h

section
variable {Y : Cy} {T : Tx} {k : Nat} {N G : List Str} {c c' : List Slot} {a b e tg : Expr} {es : List Expr} {pos : Pos} {d d1 d2 : D} {ds items : List D} {P : Out → Prop} {rest : List Stmt}
/-- the iterator J goes through the items -/
def Yields (K : PySem.W.Frag) (F1 : Hp) (J : It) (items : List D) : Prop := ∀ (i : Nat) (F H : Hp), Same F1 F → Same F H →
  (∀ d, items[i]? = some d → J.go i H ∧ ∀ x H', J.yld i H x H' → ∃ F', Ext F H F' H' ∧ Rep K F' x d) ∧ (items.length ≤ i → J.stop i H)
def tI (Y : Cy) (c : List Slot) (items : List D) : TI := fun σ H R => ∃ F, EnvY Y F H σ c ∧ ∀ J F1 H1, Ext F H F1 H1 → Yields Y.X.K F1 J items → R J H1
def ItD (Y : Cy) (tg e : Expr) (c : List Slot) (items : List D) : Prop := PI Y.X tg e (tI Y c items)
theorem PI.imp {X : Cx} {e : Expr} {t t' : TI} (h : PI X tg e t) (i : ∀ σ H R, t' σ H R → t σ H R) : PI X tg e t' := fun pins s σ H R I q => h pins s σ H R I (i _ _ _ q)
theorem it_list (h : EvD Y e c (.lst ds)) : ItD Y tg e c ds :=
  PI.imp (pi_list h) fun σ H R ⟨F, E, q⟩ => ⟨F, E, fun x F1 H1 e1 r1 => by
    obtain ⟨p, vs, rfl, hp, r⟩ := inv_lst r1
    refine ⟨p, rfl, ⟨vs, e1.fh.seq hp⟩, q _ F1 H1 e1 fun i F2 H2 s1 s2 => ⟨fun d hd => ?_, fun hl => ⟨vs, s2.seq (s1.seq hp), by rw [r.length]; exact hl⟩⟩⟩
    obtain ⟨v, hv, rv⟩ := r.get hd
    refine ⟨⟨vs, v, s2.seq (s1.seq hp), hv⟩, fun x H' y => ?_⟩
    obtain ⟨rfl, y⟩ := y
    have := y vs (s2.seq (s1.seq hp))
    rw [hv] at this
    cases this
    exact ⟨F2, Ext.refl s2, rv.mono s1⟩⟩
theorem it_tup (h : EvD Y e c (.tup ds)) : ItD Y tg e c ds :=
  PI.imp (pi_tup h) fun σ H R ⟨F, E, q⟩ => ⟨F, E, fun x F1 H1 e1 r1 => by
    obtain ⟨p, vs, rfl, hp, r⟩ := inv_tup r1
    refine ⟨p, rfl, ⟨vs, sqT_same e1.fh hp⟩, q _ F1 H1 e1 fun i F2 H2 s1 s2 => ⟨fun d hd => ?_, fun hl => ⟨vs, sqT_same s2 (sqT_same s1 hp), by rw [r.length]; exact hl⟩⟩⟩
    obtain ⟨v, hv, rv⟩ := r.get hd
    refine ⟨⟨vs, v, sqT_same s2 (sqT_same s1 hp), hv⟩, fun x H' y => ?_⟩
    obtain ⟨rfl, y⟩ := y
    have := y vs (sqT_same s2 (sqT_same s1 hp))
    rw [hv] at this
    cases this
    exact ⟨F2, Ext.refl s2, rv.mono s1⟩⟩
/-- lo, lo + st, .. (n of them) -/
def rangeD (lo st : Int) (n : Nat) : List D := (List.range n).map fun (m : Nat) => D.int (lo + (m : Int) * st)
theorem rangeD_length (lo st : Int) (n : Nat) : (rangeD lo st n).length = n := by simp [rangeD]
theorem rangeD_get {lo st : Int} {n m : Nat} (h : m < n) : (rangeD lo st n)[m]? = some (.int (lo + (m : Int) * st)) := by simp [rangeD, h]
theorem rangeD_of {lo st : Int} {n m : Nat} {d : D} (h : (rangeD lo st n)[m]? = some d) : m < n ∧ d = .int (lo + (m : Int) * st) := by
  have hl := (List.getElem?_eq_some_iff.mp h).1
  rw [rangeD_length] at hl
  rw [rangeD_get hl] at h
  cases h
  exact ⟨hl, rfl⟩
theorem yields_ranges {K : PySem.W.Frag} {F : Hp} (lo st : Int) (n : Nat) : Yields K F (Itrs lo st n) (rangeD lo st n) := fun i F2 H2 s1 s2 => ⟨fun d hd => by
    obtain ⟨hi, rfl⟩ := rangeD_of hd
    refine ⟨hi, fun x H' y => ?_⟩
    obtain ⟨rfl, rfl⟩ := y
    exact ⟨F2, Ext.refl s2, .int _⟩, fun hl => by rw [rangeD_length] at hl; exact hl⟩
theorem yields_range {K : PySem.W.Frag} {F : Hp} (lo : Int) (n : Nat) : Yields K F (Itr lo n) (rangeD lo 1 n) := fun i F2 H2 s1 s2 => ⟨fun d hd => by
    obtain ⟨hi, rfl⟩ := rangeD_of hd
    refine ⟨hi, fun x H' y => ?_⟩
    obtain ⟨rfl, rfl⟩ := y
    rw [Int.mul_one]
    exact ⟨F2, Ext.refl s2, .int _⟩, fun hl => by rw [rangeD_length] at hl; exact hl⟩
theorem it_range1 (S : Se Y T k N G) (gi : Nat) {j : Int} {p : Pos} (ha : ArD Y [a] c [.int j]) (h1 : -(2 ^ 62) ≤ j) (h2 : j < 2 ^ 62) (hm : T.mg "range" = none) (hg : G[gi]? = some ("range" : Str) := by rfl)
    (hs : starEach [a] Y.X.env = [(false, eval a Y.X.env)] := by rfl) : ItD Y tg (.Call (.Name "range" p) [a] [] pos) c (rangeD 0 1 j.toNat) :=
  PI.imp (pi_range1 (S.gl _ (List.mem_of_getElem? hg)).1 (by rw [S.eM]; exact hm) ha hs) fun σ H R ⟨F, E, q⟩ => ⟨F, E, fun vs F1 H1 e1 r1 => by
    obtain ⟨v, rfl, rv⟩ := inv1 r1
    exact ⟨j, by rw [inv_int rv], h1, h2, q _ F1 H1 e1 (yields_range 0 j.toNat)⟩⟩
theorem it_range2 (S : Se Y T k N G) (gi : Nat) {i j : Int} {p : Pos} (ha : ArD Y [a, b] c [.int i, .int j]) (h0 : -(2 ^ 62) ≤ i ∧ i < 2 ^ 62 ∧ -(2 ^ 62) ≤ j ∧ j < 2 ^ 62) (hm : T.mg "range" = none) (hg : G[gi]? = some ("range" : Str) := by rfl)
    (hs : starEach [a, b] Y.X.env = [(false, eval a Y.X.env), (false, eval b Y.X.env)] := by rfl) (hs2 : starEach [b] Y.X.env = [(false, eval b Y.X.env)] := by rfl) : ItD Y tg (.Call (.Name "range" p) [a, b] [] pos) c (rangeD i 1 (j - i).toNat) :=
  PI.imp (pi_range2 (S.gl _ (List.mem_of_getElem? hg)).1 (by rw [S.eM]; exact hm) ha hs hs2) fun σ H R ⟨F, E, q⟩ => ⟨F, E, fun vs F1 H1 e1 r1 => by
    obtain ⟨v, w, rfl, rv, rw'⟩ := inv2 r1
    exact ⟨i, j, by rw [inv_int rv, inv_int rw'], h0, q _ F1 H1 e1 (yields_range i _)⟩⟩
/-- how many -/
def rangeN (lo hi st : Int) : Nat := (Builtin.Range.rangeSize lo hi st).toNat
theorem inv3 {K : PySem.W.Frag} {F : Hp} {vs : List V} {d e f : D} (r : Reps K F vs [d, e, f]) : ∃ v w x, vs = [v, w, x] ∧ Rep K F v d ∧ Rep K F w e ∧ Rep K F x f := by
  cases r with
  | cons a t => obtain ⟨w, x, rfl, b, c⟩ := inv2 t; exact ⟨_, _, _, rfl, a, b, c⟩
/-! targets -/
def tG (Y : Cy) (d : D) (c c' : List Slot) : TG := fun v σ H Q => ∃ F, EnvY Y F H σ c ∧ Rep Y.X.K F v d ∧ ∀ σ' F' H', Ext F H F' H' → EnvY Y F' H' σ' c' → Q σ' H'
def TgD (Y : Cy) (tg : Expr) (d : D) (c c' : List Slot) : Prop := PG Y.X tg (tG Y d c c')
theorem PG.imp {X : Cx} {t t' : TG} (h : PG X tg t) (i : ∀ v σ H Q, t' v σ H Q → t v σ H Q) : PG X tg t' := fun pins s σ H x v Q I r q => h pins s σ H x v Q I r (i _ _ _ _ q)
theorem tg_name (S : Sc Y T k N G) (i : Nat) {x : Str} (hi : N[i]? = some x := by rfl) (hlt : i < c.length := by first | exact of_decide_eq_true rfl | decide | omega) : TgD Y (.Name x pos) d c (put c i (.val d)) := by
  have hx := S.loc x (List.mem_of_getElem? hi)
  have hN := S.nd
  rw [← S.n] at hi hN
  exact PG.imp (pg_name hN hi hx.1 (.inl (S.fn x))) fun v σ H Q ⟨F, E, r, q⟩ => q _ F H (Ext.refl E.fh) (E.set hlt r)
theorem tg_name0 (S : Sn Y T N G) (i : Nat) {x : Str} (hf : Y.X.fn x = true ∨ Y.X.env.scope.names.lookup x = some .local) (hi : N[i]? = some x := by rfl) (hlt : i < c.length := by first | exact of_decide_eq_true rfl | decide | omega) : TgD Y (.Name x pos) d c (put c i (.val d)) := by
  have hx := S.loc x (List.mem_of_getElem? hi)
  have hN := S.nd
  rw [← S.n] at hi hN
  exact PG.imp (pg_name hN hi hx.1 hf) fun v σ H Q ⟨F, E, r, q⟩ => q _ F H (Ext.refl E.fh) (E.set hlt r)
def gAny (Y : Cy) (tg : Expr) : TG := fun v σ H Q => ∃ d c c', TgD Y tg d c c' ∧ tG Y d c c' v σ H Q
theorem pg_any : PG Y.X tg (gAny Y tg) := fun pins s σ H x v Q I r ⟨d, c, c', h, q⟩ => h pins s σ H x v Q I r q
theorem ss_for (S : Sc Y T k N G) {iter : Expr} {body : List Stmt} (hi : ItD Y tg iter c items) (I : Nat → List Slot → Prop) (h0 : I 0 c)
    (hs : ∀ m d c, items[m]? = some d → I m c → ∃ c', TgD Y tg d c c' ∧ SsD Y body c' (Turned (I (m + 1)) (fun c' => SsD Y rest c' P) (fun d => P (.rt d))))
    (hd : ∀ c, I items.length c → SsD Y rest c P) (hf : ∀ x, foldedSetIterable iter Y.X.env x = pure x := by intro _; rfl) : SsD Y (.For tg iter body [] pos :: rest) c P := by
  refine ss_cons (PS.imp (ps_for S.hp S.calm hi (pg_any (tg := tg)) (pss_any (rest := body)) hf) fun D σ H ⟨F, E, m⟩ => ?_)
  refine ⟨F, E, fun J F1 H1 e1 yl => ?_⟩
  refine ⟨fun n r σ H => r = items.length - n ∧ n ≤ items.length ∧ ∃ c F, I n c ∧ EnvY Y F H σ c ∧ Same F1 F, ⟨_, rfl, Nat.zero_le _, c, F1, h0, E.grow e1, Same.refl _⟩, ?_⟩
  rintro n r σ2 H2 ⟨rfl, hn, c2, F2, hI, E2, s2⟩
  have y := yl n F2 H2 s2 E2.fh
  by_cases hlt : n < items.length
  · obtain ⟨d, hd⟩ : ∃ d, items[n]? = some d := ⟨items[n], List.getElem?_eq_getElem hlt⟩
    obtain ⟨go, yy⟩ := y.1 d hd
    obtain ⟨c3, tgd, ssd⟩ := hs n d c2 hd hI
    refine .inr ⟨go, fun σ' H' => ∃ c' F', I (n + 1) c' ∧ EnvY Y F' H' σ' c' ∧ Same F1 F', fun σ' H' ⟨c', F', hI', E', s'⟩ => ⟨items.length - (n + 1), by omega, rfl, hlt, c', F', hI', E', s'⟩, fun x H' yx => ?_⟩
    obtain ⟨F3, e3, r3⟩ := yy x H' yx
    refine ⟨d, c2, c3, tgd, F3, E2.grow e3, r3, fun σ' F' H'' s' E' => ?_⟩
    have s3 : Same F1 F' := s2.trans (e3.ff.trans s'.ff)
    refine ⟨c3, _, F', ssd, E', fun o ho => ?_⟩
    cases o with
    | nx c' => exact fun σ' F' H' s' E' => ⟨c', F', ho, E', s3.trans s'⟩
    | ct c' => exact fun σ' F' H' s' E' => ⟨c', F', ho, E', s3.trans s'⟩
    | bk c' => exact fun σ' F' H' s' E' => m (.nx c') ho σ' F' H' (e1.ff.trans (s3.trans s')) E'
    | rt d => exact (m (.rt d) ho).grow (e1.ff.trans s3)
    | ro ds => exact False.elim ho
    | rs R => exact False.elim ho
  · have e : n = items.length := by omega
    subst e
    exact .inl ⟨y.2 (Nat.le_refl _), m (.nx c2) (hd c2 hI) σ2 F2 H2 (e1.ff.trans s2) E2⟩
end

/-! ### contracts -/
/-- what a def promises: on arguments ds it hands back d, if R ds d -/
def spD (K : PySem.W.Frag) (R : List D → D → Prop) : Sp := fun vs H Q _ => ∃ F ds d, Same F H ∧ Reps K F vs ds ∧ R ds d ∧ ∀ v F' H', Ext F H F' H' → Rep K F' v d → Q v H'
structure FnD (T : Tx) (k : Nat) (x : Str) (R : List D → D → Prop) : Prop where
  ex : ∃ (f : Addr) (fd : FuncData) (ps : List Str), T.mg x = some (.ref f) ∧ PySem.W.keepIn T.K (.ref f) = true ∧ Binds T.K fd ps [] ∧ FnOk T.prog T.w T.K T.mg T.base CX0 k f fd ps (spD T.K R)
/-- the names' places at a def's entry -/
def ctx0 (N : List Str) (ds : List D) : List Slot := ds.map Slot.val ++ List.replicate (N.length - ds.length) Slot.un
def Ret (d : D) : Out → Prop
  | .rt e => e = d
  | .nx _ => d = .non
  | _ => False
theorem slot_un : ∀ (n i : Nat), slot (List.replicate n Slot.un) i = .un
  | 0, _ => rfl
  | _ + 1, 0 => rfl
  | n + 1, i + 1 => slot_un n i
section
variable {K : PySem.W.Frag} {F H H0 : Hp}
theorem start_sl {n : Nat} : ∀ {vs : List V} {ds : List D}, Reps K F vs ds → ∀ i, SlotOk K H0 F H (vs.map some ++ List.replicate n none)[i]? (slot (ds.map Slot.val ++ List.replicate n Slot.un) i)
  | _, _, .nil, i => by
    show SlotOk K H0 F H _ (slot (List.replicate n Slot.un) i)
    rw [slot_un]; exact trivial
  | _, _, .cons r t, 0 => ⟨_, rfl, r⟩
  | _, _, .cons r t, i + 1 => by
    have q := start_sl (n := n) t i
    simpa [slot] using q
theorem start_own {n : Nat} : ∀ (ds : List D) (i : Nat), isOwn (slot (ds.map Slot.val ++ List.replicate n Slot.un) i) = false
  | [], i => by
    show isOwn (slot (List.replicate n Slot.un) i) = false
    rw [slot_un]; rfl
  | _ :: _, 0 => rfl
  | _ :: r, i + 1 => start_own r i
theorem env_start {N : List Str} {vs : List V} {ds : List D} (f : Same F H) (r : Reps K F vs ds) : Env K F H F H (L2.start N vs) (ctx0 N ds) where
  ext := Ext.refl f
  len := by
    unfold L2.start ctx0
    simp [r.length]
  sl := fun i => by
    unfold L2.start ctx0
    rw [r.length]
    exact start_sl r i
  inj := fun i j a h _ _ _ => by
    unfold ctx0 at h
    rw [start_own] at h
    cases h
end
section
variable {Y : Cy} {T : Tx} {k j : Nat} {N G ps : List Str} {c : List Slot} {e : Expr} {es : List Expr} {pos p : Pos} {d : D} {ds : List D} {R : List D → D → Prop} {x qual : Str}
theorem ev_call (S : Se Y T k N G) (gi : Nat) (Fn : FnD T j x R) (hj : j ≤ k) (ha : ArD Y (e :: es) c ds) (hR : R ds d) (hg : G[gi]? = some x := by rfl)
    (he : starEach (e :: es) Y.X.env = (false, eval e Y.X.env) :: starEach es Y.X.env := by rfl) (hpl : (backTo pos (starEach es Y.X.env)).any (·.1) = false := by rfl) : EvD Y (.Call (.Name x p) (e :: es) [] pos) c d := by
  obtain ⟨f, fd, ps, hm, hk, hb, F⟩ := Fn.ex
  have F' : FnOk Y.X.prog Y.X.w Y.X.K Y.X.mg Y.X.base CX0 j f fd ps (spD Y.X.K R) := by rw [S.eP, S.eW, S.eK, S.eM, S.eB]; exact F
  have gl := S.gl x (List.mem_of_getElem? hg)
  refine PE.imp (pe_call F' (S.room.mono hj) gl.1 (by rw [S.eM]; exact hm) (by rw [S.eK]; exact hk) (by rw [S.eK]; exact hb) .nil pass0 ha gl.2.1 he hpl) fun σ H Q ⟨F, E, q⟩ => ⟨F, E, fun vs F1 H1 e1 r1 => ?_⟩
  show spD Y.X.K R (vs ++ []) H1 Q E0
  rw [List.append_nil]
  exact ⟨F1, ds, d, e1.fh, r1, hR, fun v F2 H2 e2 r2 => q v F2 H2 (e1.trans e2) r2⟩
/-- THE RULE: a def of the text keeps its promise -/
theorem fn_Dk {st : Stmt} {f : Addr} {fd : FuncData} (F : Fun T.K x qual st f fd) (B : ScB N ps G (defScope st)) (hlen : ∀ ds d, R ds d → ds.length = ps.length)
    (body : ∀ (Y : Cy) (S : Sc Y T k N G) (Z : Fx Y st) (ds : List D) (d : D), R ds d → SsD Y (defBody st) (ctx0 N ds) (Ret d)) : FnOk T.prog T.w T.K T.mg T.base CX0 (k + 1) f fd ps (spD T.K R) := by
  refine F.ok B.fs (fun vs H Q E h => ?_) fun cdv A outer s H vs Q E hr h => ?_
  · obtain ⟨F0, ds, d, _, r, hR, _⟩ := h
    rw [r.length]; exact hlen ds d hR
  · obtain ⟨F0, ds, d, f0, r, hR, q⟩ := h
    have S : Sc ⟨(cxOf CX0 T.prog T.w T.K T.mg T.base N qual (defScope st) f cdv A outer s H E).nox, F0, H⟩ T k N G :=
      ⟨⟨⟨rfl, rfl, rfl, rfl, rfl, rfl, B.fs.nd, B.loc, B.gl⟩, rfl, hr⟩, fun _ => rfl, PassesOwn.never⟩
    refine ⟨_, body _ S ⟨rfl, rfl, rfl, rfl⟩ ds d hR, F0, env_start f0 r, fun o ho => ?_⟩
    cases o with
    | rt e => cases ho; exact fun v F' H' _ x r' => q v F' H' x r'
    | nx c => cases ho; exact fun σ F' H' _ E' => q .non F' H' E'.ext .non
    | bk c => exact ho.elim
    | ct c => exact ho.elim
    | ro ds => exact ho.elim
    | rs R => exact ho.elim
/-- a def stands in the module -/
def At (T : Tx) (x : Str) (st : Stmt) : Prop := ∃ (f : Addr) (fd : FuncData), Fun T.K x x st f fd ∧ T.mg x = some (.ref f)
theorem fn_D {st : Stmt} (A : At T x st) (B : ScB N ps G (defScope st)) (hb : ∀ f fd, Fun T.K x x st f fd → Binds T.K fd ps []) (hlen : ∀ ds d, R ds d → ds.length = ps.length)
    (body : ∀ (Y : Cy) (S : Sc Y T k N G) (Z : Fx Y st) (ds : List D) (d : D), R ds d → SsD Y (defBody st) (ctx0 N ds) (Ret d)) : FnD T (k + 1) x R :=
  let ⟨f, fd, F, hm⟩ := A
  ⟨f, fd, ps, hm, F.kp, hb f fd F, fn_Dk F B hlen body⟩
/-- what the law promises -/
def R_law (ds : List D) (d : D) : Prop := ∃ ns : List Int, ds = [.lst (ns.map D.int)] ∧ ns.length ≤ 63 ∧ d = .bl true
theorem law_sp (K : PySem.W.Frag) (H : Hp) (a : Addr) (ns : List Int) (hl : ns.length ≤ 63) (hS : SqL K H a (ns.map V.int)) : spD K R_law [.ref a] H (fun v _ => v = .bl true) fun _ _ _ => False :=
  ⟨H, _, _, Same.refl H, .cons (.lst hS (Reps.ints ns)) .nil, ⟨ns, rfl, hl, rfl⟩, fun v F' H' _ r => inv_bl r⟩
def tyD : D → String
  | .non => "NoneType" | .bl _ => "bool" | .int _ => "int" | .str _ => "str" | .tup _ => "tuple" | .lst _ => "list"
end

/-! ### places of a text -/
/-! ### sizes -/
theorem Bd.mono {m n : Nat} {i : Int} (h : Bd m i) (l : m ≤ n) : Bd n i := Nat.lt_of_lt_of_le h (Nat.pow_le_pow_right (by decide) l)
theorem Bd.mul {m n : Nat} {i j : Int} (h1 : Bd m i) (h2 : Bd n j) : Bd (m + n) (i * j) := by
  unfold Bd at *
  rw [Int.natAbs_mul, Nat.pow_add]
  exact Nat.mul_lt_mul_of_lt_of_lt h1 h2
theorem Bd.add {m n : Nat} {i j : Int} (h1 : Bd m i) (h2 : Bd n j) : Bd (max m n + 1) (i + j) := by
  have a := h1.mono (Nat.le_max_left m n)
  have b := h2.mono (Nat.le_max_right m n)
  unfold Bd at *
  rw [Nat.pow_succ]
  omega
theorem Bd.neg {m : Nat} {i : Int} (h : Bd m i) : Bd m (-i) := by unfold Bd at *; rw [Int.natAbs_neg]; exact h
theorem Bd.sub {m n : Nat} {i j : Int} (h1 : Bd m i) (h2 : Bd n j) : Bd (max m n + 1) (i - j) := by rw [Int.sub_eq_add_neg]; exact h1.add h2.neg
theorem Bd.of {n : Nat} {i : Int} (b : Int) (h0 : -b < i) (h1 : i < b) (h : b ≤ 2 ^ n) : Bd n i := by
  unfold Bd
  have e : ((2 ^ n : Nat) : Int) = (2 : Int) ^ n := by simp
  omega

/-! ### == and != at any depth -/
mutual
def toPy : D → PyData
  | .non => .none
  | .bl b => .bool b
  | .int i => .int i
  | .str x => .str x
  | .tup xs => .tuple (toPys xs)
  | .lst xs => .list (toPys xs)
def toPys : List D → List PyData
  | [] => []
  | x :: xs => toPy x :: toPys xs
end
def eqD (d e : D) : Bool := PyData.eqv (toPy d) (toPy e)
section
variable {X : Cx} {pins : List (Addr × Obj)} {σ : St} {F H : Hp} {s : Shared}
mutual
theorem reads_of (I : Inv X pins σ H s) (f : Same F H) : ∀ {v : V} {d : D} {u : Value}, Rep X.K F v d → RelV v u → ∃ as, Reads s.heap u (toPy d) as
  | _, _, _, .non, r => by cases r; exact ⟨_, .none⟩
  | _, _, _, .bl b, r => by cases r; exact ⟨_, .bool b⟩
  | _, _, _, .int i, r => by obtain ⟨t, rfl⟩ := r; exact ⟨_, .int i t⟩
  | _, _, _, .str x, r => by obtain ⟨t, rfl⟩ := r; exact ⟨_, .str x t⟩
  | _, _, _, .tup h t, r => by
    cases r
    obtain ⟨its, r2, ⟨o, e1, e2, n, e3⟩, _⟩ := I.tuple (sqT_same f h)
    obtain ⟨as, ra⟩ := readss_of I f t r2
    exact ⟨as, .tuple e1 e2 e3 (by simpa using ra)⟩
  | _, _, _, .lst h t, r => by
    cases r
    obtain ⟨its, r2, ⟨o, n, e1, e2, _, e3⟩, _⟩ := I.list (f.seq h)
    obtain ⟨as, ra⟩ := readss_of I f t r2
    exact ⟨_, .list e1 e2 e3 (by simpa using ra)⟩
theorem readss_of (I : Inv X pins σ H s) (f : Same F H) : ∀ {vs : List V} {ds : List D} {us : List Value}, Reps X.K F vs ds → Vals vs us → ∃ as, ReadsAll s.heap us (toPys ds) as
  | _, _, _, .nil, r => by cases r; exact ⟨_, .nil⟩
  | _, _, _, .cons a t, r => by
    cases r with
    | cons r1 r2 =>
      obtain ⟨as, h1⟩ := reads_of I f a r1
      obtain ⟨bs, h2⟩ := readss_of I f t r2
      exact ⟨_, .cons h1 h2⟩
end
end
section
variable {Y : Cy} {T : Tx} {k : Nat} {N G : List Str} {c : List Slot} {a b : Expr} {pos : Pos} {d1 d2 : D}
def rEqD (K : PySem.W.Frag) (d1 d2 : D) (v : Bool) : R2 := fun x y H Q => ∃ F, Same F H ∧ Rep K F x d1 ∧ Rep K F y d2 ∧ Q (.bl v) H
theorem op_eqD {X : Cx} (hu : X.A.units + 64 < cLine) (h1 : SeqAt.shaped (toPy d1) = true) (h2 : SeqAt.shaped (toPy d2) = true) : OpR X (compareOp .Eq) (rEqD X.K d1 d2 (eqD d1 d2)) := by
  intro pins s σ H x y v u Q I rx ry ⟨F, f, r1, r2, q⟩
  obtain ⟨as, ra⟩ := reads_of I f r1 rx
  obtain ⟨bs, rb⟩ := reads_of I f r2 ry
  exact SeqAt.compareEq_shaped ra rb h1 h2 hu ⟨.bl _, H, I, rfl, q⟩
theorem op_neD {X : Cx} (hu : X.A.units + 64 < cLine) (h1 : SeqAt.shaped (toPy d1) = true) (h2 : SeqAt.shaped (toPy d2) = true) : OpR X (compareOp .NotEq) (rEqD X.K d1 d2 (!eqD d1 d2)) := by
  intro pins s σ H x y v u Q I rx ry ⟨F, f, r1, r2, q⟩
  obtain ⟨as, ra⟩ := reads_of I f r1 rx
  obtain ⟨bs, rb⟩ := reads_of I f r2 ry
  exact SeqAt.compareNe_shaped ra rb h1 h2 hu ⟨.bl _, H, I, rfl, q⟩
theorem te_eqD (S : Se Y T k N G) (ha : EvD Y a c d1) (hb : EvD Y b c d2) (h1 : SeqAt.shaped (toPy d1) = true := by rfl) (h2 : SeqAt.shaped (toPy d2) = true := by rfl) : TeD Y (.Compare a [.Eq] [b] pos) c (eqD d1 d2) :=
  te_cmp (op_eqD S.room.units h1 h2) (nomark _) ha hb fun x y F H Q f rx ry q => ⟨F, f, rx, ry, q F H (Ext.refl f)⟩
theorem te_neD (S : Se Y T k N G) (ha : EvD Y a c d1) (hb : EvD Y b c d2) (h1 : SeqAt.shaped (toPy d1) = true := by rfl) (h2 : SeqAt.shaped (toPy d2) = true := by rfl) : TeD Y (.Compare a [.NotEq] [b] pos) c (!eqD d1 d2) :=
  te_cmp (op_neD S.room.units h1 h2) (nomark _) ha hb fun x y F H Q f rx ry q => ⟨F, f, rx, ry, q F H (Ext.refl f)⟩
theorem ev_eqD (S : Se Y T k N G) (ha : EvD Y a c d1) (hb : EvD Y b c d2) (h1 : SeqAt.shaped (toPy d1) = true := by rfl) (h2 : SeqAt.shaped (toPy d2) = true := by rfl) : EvD Y (.Compare a [.Eq] [b] pos) c (.bl (eqD d1 d2)) :=
  ev_op2 (t := tC .non) (ta := tC .non) (tb := tC .non) (pe_cmpR (op_eqD S.room.units h1 h2) ha hb (nomark _)) fun x y F H Q f rx ry q => ⟨F, f, rx, ry, q _ F H (Ext.refl f) (.bl _)⟩
def isNon : D → Bool
  | .non => true
  | _ => false
theorem te_isN {e : Expr} {d : D} {j pos'} (ha : EvD Y e c d) : TeD Y (.Compare e [.Is] [.Constant .none j pos'] pos) c (isNon d) :=
  PT.imp (pt_cmp (pc_isN ha)) fun σ H Q ⟨F, E, q⟩ => ⟨F, E, fun x F1 H1 e1 r1 => by
    cases r1 <;> exact ⟨_, rfl, q F1 H1 e1⟩⟩
end

/-! ### truths by is -/
section
variable {Y : Cy} {c : List Slot} {a b : Expr} {pos : Pos} {v w : Bool}
end
/-! ### a def whose last parameter has a default, an int -/
def AtV (T : Tx) (x : Str) (st : Stmt) (i : Int) : Prop := ∃ (f Td : Addr) (oc : Value) (od : Option Addr) (kV doc pm : Value) (an : Option Addr) (cdv ct : Value) (osl : Array (Option Value)) (tk : Tok) (o : Obj) (n : Nat),
  T.K.lookup f = some ⟨oc, od, .func (PySem.W.fnOf x x (defArgs st) (defBody st) (defScope st) (.ref Td) kV doc pm an cdv ct), osl⟩ ∧ T.K.lookup Td = some o ∧ o.data = .seq #[.int i tk] n ∧ PySem.W.codeIn T.K cdv x = true ∧ PySem.W.keepIn T.K (.ref f) = true ∧ T.mg x = some (.ref f)
/-- the def called without its last argument -/
structure FnDd (T : Tx) (k : Nat) (x : Str) (i : Int) (R : List D → D → Prop) : Prop where
  ex : ∃ (f : Addr) (fd : FuncData) (ps : List Str) (tk : Tok), T.mg x = some (.ref f) ∧ PySem.W.keepIn T.K (.ref f) = true ∧ Binds T.K fd ps [.int i tk] ∧ FnOk T.prog T.w T.K T.mg T.base CX0 k f fd ps (spD T.K R)
theorem fn_DV {T : Tx} {k : Nat} {N G ps : List Str} {R : List D → D → Prop} {x : Str} {st : Stmt} {i : Int} (A : AtV T x st i) (B : ScB N ps G (defScope st))
    (hb : ∀ (Td : Addr) (kV doc pm : Value) (an : Option Addr) (cdv ct : Value) (tk : Tok) (o : Obj) (n : Nat), T.K.lookup Td = some o → o.data = .seq #[.int i tk] n →
      Binds T.K (PySem.W.fnOf x x (defArgs st) (defBody st) (defScope st) (.ref Td) kV doc pm an cdv ct) ps [] ∧ Binds T.K (PySem.W.fnOf x x (defArgs st) (defBody st) (defScope st) (.ref Td) kV doc pm an cdv ct) ps [.int i tk]) (hlen : ∀ ds d, R ds d → ds.length = ps.length)
    (body : ∀ (Y : Cy) (S : Sc Y T k N G) (Z : Fx Y st) (ds : List D) (d : D), R ds d → SsD Y (defBody st) (ctx0 N ds) (Ret d)) : FnD T (k + 1) x R ∧ FnDd T (k + 1) x i R := by
  obtain ⟨f, Td, oc, od, kV, doc, pm, an, cdv, ct, osl, tk, o, n, lk, lt, hs, hcd, kp, hm⟩ := A
  have hB := hb Td kV doc pm an cdv ct tk o n lt hs
  have main : FnOk T.prog T.w T.K T.mg T.base CX0 (k + 1) f (PySem.W.fnOf x x (defArgs st) (defBody st) (defScope st) (.ref Td) kV doc pm an cdv ct) ps (spD T.K R) := by
    refine fn_of lk hcd B.fs (fun vs H Q E h => ?_) fun A outer s H vs Q E hr h => ?_
    · obtain ⟨F0, ds, d, _, r, hR, _⟩ := h
      rw [r.length]; exact hlen ds d hR
    · obtain ⟨F0, ds, d, f0, r, hR, q⟩ := h
      have S : Sc ⟨(cxOf CX0 T.prog T.w T.K T.mg T.base N x (defScope st) f cdv A outer s H E).nox, F0, H⟩ T k N G :=
        ⟨⟨⟨rfl, rfl, rfl, rfl, rfl, rfl, B.fs.nd, B.loc, B.gl⟩, rfl, hr⟩, fun _ => rfl, PassesOwn.never⟩
      refine ⟨_, PSs.nox (body _ S ⟨rfl, rfl, rfl, rfl⟩ ds d hR), F0, env_start f0 r, fun o ho => ?_⟩
      cases o with
      | rt e => cases ho; exact fun v F' H' _ x r' => q v F' H' x r'
      | nx c => cases ho; exact fun σ F' H' _ E' => q .non F' H' E'.ext .non
      | bk c => exact ho.elim
      | ct c => exact ho.elim
      | ro ds => exact ho.elim
      | rs R => exact ho.elim
  exact ⟨⟨f, _, ps, hm, kp, hB.1, main⟩, ⟨f, _, ps, tk, hm, kp, hB.2, main⟩⟩
end DL

set_option Elab.async false
set_option linter.all false
set_option maxRecDepth 100000
namespace DL
open PySem L2 PySem.W PySem.Spec PySem.Calls PyProof.Rows Builtin Builtin.ObjectAttr Builtin.Getset_descriptor
section
variable {prog : Program} {w : World} {A : Around} {E : Value → Shared → Prop} {K : PySem.W.Frag} {x D : Addr} {o : Obj}
structure ExcK (K : PySem.W.Frag) (D : Addr) : Prop where
  ga : findIn K (.ref D) "__getattribute__" = some (some (.builtin "BaseException.__getattribute__"))
  gt : findIn K (.ref D) "__getattr__" = some none
  ca : findIn K (.ref D) "__class__" = some (some (.builtin "object.__class__"))
  cg : specialIn K (.builtin "object.__class__") "__get__" = some (some (.builtin "getset_descriptor.__get__"))
  tk : takesIn K (.builtin "object.__class__") = some true
  mo : mroIn K D (.type "object") = some true
  mb : mroIn K D (.type "BaseException") = some true
  cl : (clsIn K D).isSome = true
end

end DL
namespace DL
open PySem L2
/-! ### exceptions that pass -/
/-- what B keeps of the heap h: the tracked things, and what stood at s but the frames -/
def Kpt (B : Heap) (outer : List PySem.Env) (H : Hp) (s h : Heap) : Prop := ∀ b o, h.get? b = some o → (H b ≠ none ∨ (s.get? b ≠ none ∧ b ∉ frs outer)) → B.get? b = some o
/-- how an exception lies behind a call: the class C, at a -/
structure Lies (P : Program) (w : World) (outer : List PySem.Env) (H : Hp) (s : Shared) (a C : Addr) (H' : Hp) (s' : Shared) : Prop where
  os : s'.os = s.os
  bare : PyProof.Rows.AllBare s'.gens
  un : Un (frs outer) [] H H' s.heap s'.heap
  hok : HOk P w H' s'.heap
  new : s.heap.get? a = none
  fu : ∀ b ∈ frs outer, H' b = none
  fly : ∃ B a0, Heap.FlyingW B outer a (.ref C) a0 s'.heap ∧ Kpt B outer H' s.heap s'.heap
def CXE (P : Program) (w : World) : CXT := fun outer H s E e s' => ∃ a C H', e = .ref a ∧ Lies P w outer H s a C H' s' ∧ E (.ref C) none H'
/-- an exception of the class C that is raised here, or arrives here, is as it is wanted -/
structure RzM (Y : Cy) (C : Addr) (c : List Slot) : Prop where
  made : ∀ {pins : List (Addr × Obj)} {σ : St} {F H : Hp} {s : Shared} {h' : Heap} {e : Addr} {vs : List Value}, Inv Y.X pins σ H s → EnvY Y F H σ c → Heap.MadeExcOf s.heap h' e (.ref C) vs → Y.X.xe (.ref e) { s with heap := h' }
structure Rz (Y : Cy) (C : Addr) (c : List Slot) : Prop where
  fly : ∀ {pins : List (Addr × Obj)} {σ : St} {F H F' H' : Hp} {s s' : Shared} {e : Addr}, Inv Y.X pins σ H s → EnvY Y F H σ c → Ext F H F' H' → Lies Y.X.prog Y.X.w Y.X.stack H s e C H' s' → Y.X.xe (.ref e) s'
/-! ### defs that may refuse -/
/-- what a def hands back, or the class by which it refuses -/
inductive Rs where
  | ok (d : D) | ex (x : Str)
def spX (T : Tx) (R : List D → Rs → Prop) : Sp := fun vs H Q E => ∃ F ds r, Same F H ∧ Reps T.K F vs ds ∧ R ds r ∧ (match r with
  | .ok d => ∀ v F' H', Ext F H F' H' → Rep T.K F' v d → Q v H'
  | .ex x => ∀ C F' H', T.mg x = some (.ref C) → Ext F H F' H' → E (.ref C) none H')
structure FnX (T : Tx) (k : Nat) (x : Str) (R : List D → Rs → Prop) : Prop where
  ex : ∃ (f : Addr) (fd : FuncData) (ps : List Str), T.mg x = some (.ref f) ∧ PySem.W.keepIn T.K (.ref f) = true ∧ Binds T.K fd ps [] ∧ FnOk T.prog T.w T.K T.mg T.base (CXE T.prog T.w) k f fd ps (spX T R)
section
variable {Y : Cy} {T : Tx} {k j : Nat} {N G ps : List Str} {c : List Slot} {e : Expr} {es : List Expr} {pos p : Pos} {d : D} {ds : List D} {R : List D → Rs → Prop} {x qual y : Str} {P : Out → Prop} {rest : List Stmt}
end
/-! ### raise -/
section
variable {Y : Cy} {T : Tx} {k : Nat} {N G : List Str} {c : List Slot} {e : Expr} {es : List Expr} {pos p cpos : Pos} {ds : List D} {x : Str} {P : Out → Prop} {rest : List Stmt}
end
end DL

set_option Elab.async false
set_option linter.all false
set_option maxRecDepth 100000
namespace L2
open PySem PySem.Spec PyProof.Rows
/-! ### defs that are called within an except suite -/
structure RoomH (k : Nat) (A : Around) : Prop where
  dp : A.depth + 3 * k + 5 < recursionLimit
  un : A.units + 16 * k + 200 < cLine
structure FnOkH (P : Program) (w : World) (K : PySem.W.Frag) (mg : Str → Option Value) (base : Heap) (k : Nat) (f : Addr) (fd : FuncData) (ps : List Str) (sp : Sp) : Prop where
  len : ∀ vs H Q, sp vs H Q E0 → vs.length = ps.length
  run : ∀ (A : Around) (outer : List Env) (s : Shared) (H : Hp) (args : Args) (us : List Value) (vs : List V) (Q : VK), RoomH k A → Env0 P w K mg base A outer s H → BindsTo s fd args (ps.zip us) → Vals vs us → sp vs H Q E0 →
    codeAny (model P w) A (.call (.ref f) args) (CR CX0 outer P w H s Q E0) s
end L2
namespace DL
open PySem L2
structure ScH (Y : Cy) (T : Tx) (k : Nat) (N G : List Str) : Prop extends Sn Y T N G where
  fn : ∀ y, Y.X.fn y = true
  room : RoomH k Y.X.A
/-- what a def promises that is handed an exception of the class named x -/
def spH (T : Tx) (R : Str → D → Prop) : Sp := fun vs H Q _ => ∃ F a C x d, vs = [.ref a] ∧ Same F H ∧ (∃ dx, H a = some (.ext (ExcAt C dx a))) ∧ T.mg x = some (.ref C) ∧ R x d ∧ ∀ v F' H', Ext F H F' H' → Rep T.K F' v d → Q v H'
structure FnH (T : Tx) (k : Nat) (x : Str) (R : Str → D → Prop) : Prop where
  ex : ∃ (f : Addr) (fd : FuncData) (ps : List Str), T.mg x = some (.ref f) ∧ PySem.W.keepIn T.K (.ref f) = true ∧ Binds T.K fd ps [] ∧ FnOkH T.prog T.w T.K T.mg T.base k f fd ps (spH T R)
section
variable {Y : Cy} {T : Tx} {k j : Nat} {N G : List Str} {c : List Slot} {e a b : Expr} {es : List Expr} {pos p : Pos} {d : D} {ds : List D} {R : Str → D → Prop} {x qual y : Str} {P : Out → Prop} {rest : List Stmt}
end

/-! ### try .. except C as n -/
theorem Ext.track {F H : Hp} {e : Addr} {o : HO} (f : Same F H) (hn : H e = none) : Ext F H F (upd H e o) :=
  ⟨Same.refl F, fun b u q => by rw [upd_ne (ne_of_none (f _ _ q) hn)]; exact f _ _ q, fun b u q => by rw [upd_ne (ne_of_none q hn)]; exact q, fun _ _ z => z⟩
section
variable {X : Cx} {pins pins' : List (Addr × Obj)} {σ : St} {H : Hp} {s : Shared} {E : Value → Shared → Prop} {e : Value}
end
section
variable {K : PySem.W.Frag} {F₀ H₀ F H F1 H1 : Hp} {σ σ0 : St} {c c0 : List Slot}
end
end DL

set_option Elab.async false
set_option linter.all false
set_option maxRecDepth 100000
namespace DL
open PySem L2
/-! ### list comprehensions -/
theorem closure_ex (env : PySem.Env) : ∀ (l : List (Str × NameKind)) (acc : List (Str × Addr)), (∀ x ∈ l, x.2 = .free → ∃ c, env.cells.lookup x.1 = some c) →
    ∃ cl, (forIn l acc (fun (x : Str × NameKind) (cs : List (Str × Addr)) => (if (x.2 == .free) = true then do let a ← cellOf env x.1; pure (ForInStep.yield ((x.1, a) :: cs)) else pure (ForInStep.yield cs) : Sem (ForInStep (List (Str × Addr))))) : Sem (List (Str × Addr))) = pure cl ∧
      (∀ y c, cl.lookup y = some c → acc.lookup y = some c ∨ (env.cells.lookup y = some c ∧ (y, NameKind.free) ∈ l)) ∧ (∀ y, (acc.lookup y).isSome = true ∨ (y, NameKind.free) ∈ l → ∃ c, cl.lookup y = some c)
  | [], acc, _ => ⟨acc, rfl, fun y c h => .inl h, fun y h => by
      rcases h with h | h
      · exact Option.isSome_iff_exists.mp h
      · simp at h⟩
  | (n, kd) :: r, acc, h => by
    by_cases hk : kd = .free
    · subst hk
      obtain ⟨a, ha⟩ := h (n, .free) List.mem_cons_self rfl
      obtain ⟨cl, e, h1, h2⟩ := closure_ex env r ((n, a) :: acc) fun x hx => h x (List.mem_cons_of_mem _ hx)
      refine ⟨cl, ?_, fun y c q => ?_, fun y q => ?_⟩
      · rw [List.forIn_cons]
        have ec : cellOf env n = pure a := by unfold cellOf; rw [ha]
        simp only [beq_self_eq_true, if_true, ec]
        exact e
      · rcases h1 y c q with z | ⟨z1, z2⟩
        · rw [List.lookup_cons] at z
          split at z
          · rename_i b
            have : y = n := by simpa using b
            subst this
            cases z
            exact .inr ⟨ha, List.mem_cons_self⟩
          · exact .inl z
        · exact .inr ⟨z1, List.mem_cons_of_mem _ z2⟩
      · refine h2 y ?_
        rcases q with q | q
        · left; rw [List.lookup_cons]; split
          · rfl
          · exact q
        · rcases List.mem_cons.mp q with z | z
          · cases z; left; rw [List.lookup_cons, beq_self_eq_true]; rfl
          · exact .inr z
    · obtain ⟨cl, e, h1, h2⟩ := closure_ex env r acc fun x hx => h x (List.mem_cons_of_mem _ hx)
      refine ⟨cl, ?_, fun y c q => ?_, fun y q => h2 y ?_⟩
      · rw [List.forIn_cons]
        have : (kd == NameKind.free) = false := by cases kd <;> first | rfl | exact absurd rfl hk
        simp only [this, Bool.false_eq_true, if_false]
        exact e
      · rcases h1 y c q with z | ⟨z1, z2⟩
        · exact .inl z
        · exact .inr ⟨z1, List.mem_cons_of_mem _ z2⟩
      · rcases q with q | q
        · exact .inl q
        · rcases List.mem_cons.mp q with z | z
          · cases z; exact absurd rfl hk
          · exact .inr z
theorem closureFor_ex (scope : Scope) (env : PySem.Env) (h : ∀ x ∈ scope.names, x.2 = .free → ∃ c, env.cells.lookup x.1 = some c) :
    ∃ cl, closureFor scope env = pure cl ∧ (∀ y c, cl.lookup y = some c → env.cells.lookup y = some c ∧ (y, NameKind.free) ∈ scope.names) ∧ ∀ y, (y, NameKind.free) ∈ scope.names → ∃ c, cl.lookup y = some c := by
  obtain ⟨cl, e, h1, h2⟩ := closure_ex env scope.names [] h
  refine ⟨cl, ?_, fun y c q => ?_, fun y q => h2 y (.inr q)⟩
  · have z : closureFor scope env = ((forIn scope.names ([] : List (Str × Addr)) (fun (x : Str × NameKind) (cs : List (Str × Addr)) => (if (x.2 == .free) = true then do let a ← cellOf env x.1; pure (ForInStep.yield ((x.1, a) :: cs)) else pure (ForInStep.yield cs) : Sem (ForInStep (List (Str × Addr))))) : Sem (List (Str × Addr))) >>= fun r => pure r) := rfl
    rw [z, e]
    rfl
  · rcases h1 y c q with z | z
    · cases z
    · exact z

theorem compLoop_any {prog : Program} {w : World} {A : Around} {R : Result → Shared → Prop} {s : Shared} {elt target iter : Expr} {ifs : List Expr} {scope : Scope} {pos : Pos} {it acc : Value} {env : PySem.Env} (I : Nat → Shared → Prop)
    (turn : ∀ n s, I n s → wpAny (model prog w) A (pyNext it) (fun r s₁ => match r with
      | none => R (.ok .next) s₁
      | some v => wpAny (model prog w) A (letOwnedTupleGo target it v) (fun _ s₁' => wpAny (model prog w) A (assign target env v) (fun _ s₂ =>
          wpAny (model prog w) A (forIn ifs true fun c r => if r = true then do let ok ← isTrue c env (eval c env); pure (ForInStep.yield ok) else pure (ForInStep.yield r)) (fun ok s₃ =>
            if ok = true then wpAny (model prog w) A (eval elt env) (fun x s₄ =>
              wpAny (model prog w) A (call (.builtin "list.append") [acc, x]) (fun _ s₅ => ∃ m, m < n ∧ I m s₅) (fun _ _ => False) s₄) (fun _ _ => False) s₃
            else ∃ m, m < n ∧ I m s₃) (fun _ _ => False) s₂) (fun _ _ => False) s₁') (fun _ _ => False) s₁) (fun _ _ => False) s)
    (n : Nat) (h : I n s) :
    codeAny (model prog w) A (.compLoop (.ListComp elt [⟨target, iter, ifs, 0⟩] scope pos) 0 it acc env) R s := by
  refine codeAny_loop rfl I (fun n s hI => ?_) n h
  show wpAny _ A ((compTurn (.ListComp elt [⟨target, iter, ifs, 0⟩] scope pos) 0 it acc env).onRaise (fun x => do noteFrame x env; theTreesLotGoes x)) _ _ s
  refine wpAny_noted ?_
  rw [compTurn_list]
  refine wpAny_bind (wpAny_standAt (wpAny_bind (wpAny_mono (turn n s hI) (fun r s₁ h₁ => ?_) fun _ _ h' => h'.elim)))
  cases r with
  | none => exact wpAny_pure h₁
  | some v =>
    refine wpAny_bind (wpAny_mono h₁ (fun _ s₁' h₁' => ?_) fun _ _ h' => h'.elim)
    refine wpAny_bind (wpAny_mono h₁' (fun _ s₂ h₂ => wpAny_bind (wpAny_mono h₂ (fun ok s₃ h₃ => ?_) fun _ _ h' => h'.elim)) fun _ _ h' => h'.elim)
    cases ok with
    | false => exact wpAny_pure ⟨rfl, h₃⟩
    | true =>
      exact wpAny_bind (wpAny_bind (wpAny_mono h₃ (fun x s₄ h₄ => wpAny_bind (wpAny_mono h₄ (fun _ s₅ h₅ => wpAny_pure (wpAny_pure ⟨rfl, h₅⟩)) fun _ _ h' => h'.elim)) fun _ _ h' => h'.elim))
/-- a comprehension's block -/
def cxC (X : Cx) (N' : List Str) (scope : Scope) (cl : List (Str × Addr)) (C : Addr) (s : Shared) (H : Hp) (ex : List Addr) : Cx :=
  { X with N := N', s₀ := s, H₀ := H, env := compEnvC scope cl C X.env, outer := X.stack, ex := ex, fn := fun x => (cl.lookup x).isNone, pn := [], xe := fun _ _ => False }
/-- what stands of the scopes: tn the targets, fs the names of the def that are used (at the places ix), G the global ones -/
structure CmB (N tn fs : List Str) (ix : List Nat) (G : List Str) (scope osc : Scope) : Prop where
  kd : scope.kind = .function
  okd : osc.kind = .function
  nocell : ∀ x ∈ scope.names, x.2 ≠ .cell
  once : ∀ x ∈ scope.names, x.2 = .local → scope.names.lookup x.1 = some .local
  fr : ∀ x ∈ scope.names, x.2 = .free → osc.names.lookup x.1 = some .cell
  htn : ∀ x ∈ tn, scope.names.lookup x = some .local ∧ (x == ("__debug__" : Str)) = false ∧ (x == ("__classdict__" : Str)) = false
  hfs : ∀ x ∈ fs, scope.names.lookup x = some .free ∧ (x == ("__debug__" : Str)) = false ∧ (x == ("__classdict__" : Str)) = false
  hnd : (tn ++ fs).Nodup
  hix : ix.map (fun i => N[i]?) = fs.map some
  hgl : ∀ x ∈ G, scope.names.lookup x = some .globalImplicit ∧ (x == ("__debug__" : Str)) = false ∧ x ≠ "__name__"
theorem relabel_of {scope : Scope} {env : PySem.Env} {x : Str} : ∀ {names : List (Str × NameKind)} {k : NameKind}, names.lookup x = some k →
    (names.map fun (n, k) => if (k == NameKind.free && env.scope.kind == .function && env.kindOf n == some .cell) then (n, NameKind.cell) else (n, k)).lookup x = some (if (k == NameKind.free && env.scope.kind == .function && env.kindOf x == some .cell) = true then .cell else k)
  | [], _, h => by simp at h
  | (n, k') :: r, k, h => by
    have ih := @relabel_of scope env x r k
    show List.lookup x ((if (k' == NameKind.free && env.scope.kind == .function && env.kindOf n == some .cell) = true then (n, NameKind.cell) else (n, k')) :: _) = _
    cases hx : x == n with
    | true =>
      simp only [List.lookup_cons, hx] at h
      cases h
      have : x = n := by simpa using hx
      subst this
      split
      · rename_i hc; simp [List.lookup_cons, hc]
      · rename_i hc; simp only [List.lookup_cons, hx, if_neg hc]
    | false =>
      simp only [List.lookup_cons, hx] at h
      by_cases hc : (k' == NameKind.free && env.scope.kind == .function && env.kindOf n == some .cell) = true
      · rw [if_pos hc]; simp only [List.lookup_cons, hx]; exact ih h
      · rw [if_neg hc]; simp only [List.lookup_cons, hx]; exact ih h
theorem relabel_back {scope : Scope} {env : PySem.Env} {x : Str} : ∀ {names : List (Str × NameKind)} {k : NameKind},
    (names.map fun (n, k) => if (k == NameKind.free && env.scope.kind == .function && env.kindOf n == some .cell) then (n, NameKind.cell) else (n, k)).lookup x = some k → ∃ k', names.lookup x = some k' ∧ (x, k') ∈ names ∧ (k = k' ∨ k' = .free)
  | [], _, h => by simp at h
  | (n, k') :: r, k, h => by
    have ih := @relabel_back scope env x r k
    have h : List.lookup x ((if (k' == NameKind.free && env.scope.kind == .function && env.kindOf n == some .cell) = true then (n, NameKind.cell) else (n, k')) :: (r.map fun (n, k) => if (k == NameKind.free && env.scope.kind == .function && env.kindOf n == some .cell) then (n, NameKind.cell) else (n, k))) = some k := h
    cases hx : x == n with
    | true =>
      have : x = n := by simpa using hx
      subst this
      refine ⟨k', by simp [List.lookup_cons], List.mem_cons_self, ?_⟩
      by_cases hc : (k' == NameKind.free && env.scope.kind == .function && env.kindOf x == some .cell) = true
      · right
        simp only [Bool.and_eq_true] at hc
        have := hc.1.1
        cases k' <;> first | rfl | exact absurd this (by decide)
      · rw [if_neg hc] at h
        simp [List.lookup_cons] at h
        exact .inl h.symm
    | false =>
      have h' : List.lookup x (r.map fun (n, k) => if (k == NameKind.free && env.scope.kind == .function && env.kindOf n == some .cell) then (n, NameKind.cell) else (n, k)) = some k := by
        by_cases hc : (k' == NameKind.free && env.scope.kind == .function && env.kindOf n == some .cell) = true
        · rw [if_pos hc] at h; simpa only [List.lookup_cons, hx] using h
        · rw [if_neg hc] at h; simpa only [List.lookup_cons, hx] using h
      obtain ⟨k2, a, b, c⟩ := ih h'
      exact ⟨k2, by simp only [List.lookup_cons, hx]; exact a, List.mem_cons_of_mem _ b, c⟩

theorem cxC_kind {X : Cx} {N' : List Str} {scope : Scope} {cl : List (Str × Addr)} {C : Addr} {s : Shared} {H : Hp} {ex : List Addr} {x : Str} {k : NameKind} (h : scope.names.lookup x = some k) :
    (cxC X N' scope cl C s H ex).env.scope.names.lookup x = some (if (k == NameKind.free && X.env.scope.kind == .function && X.env.kindOf x == some .cell) = true then .cell else k) := relabel_of (scope := scope) h
section
variable {X : Cx} {pins : List (Addr × Obj)} {σ : St} {H2 : Hp} {s2 : Shared} {N tn fs G : List Str} {ix : List Nat} {scope osc : Scope} {cl : List (Str × Addr)} {fp : List Addr} {tnn : Nat → Heap → Prop} {J : It} {it D C : Addr} {tg : Expr} {h4 : Heap} {m0 : Str → Option Value}
def capt (n : Nat) (ix : List Nat) (σ : St) : St := List.replicate n none ++ ix.map fun i => (σ[i]?).join
theorem inv_comp (I2 : Inv X pins σ H2 s2) (T : Turn X.prog X.w X.K tg J fp it tnn) (st2 : tnn 0 s2.heap) (f2 : ∀ b ∈ fp, FpOk X pins H2 b) (hsc : X.env.scope = osc) (hN : X.N = N) (B : CmB N tn fs ix G scope osc)
    (hcl1 : ∀ y c, cl.lookup y = some c → X.env.cells.lookup y = some c ∧ (y, NameKind.free) ∈ scope.names) (hcl2 : ∀ y, (y, NameKind.free) ∈ scope.names → ∃ c, cl.lookup y = some c)
    (k : ∀ b u, s2.heap.get? b = some u → h4.get? b = some u) (eD : D = s2.heap.objs.size) (hD : h4.get? D = some { cls := .type "list", data := .seq #[] }) (hns : h4.Ns C m0) (hC : s2.heap.objs.size < C) {t' : Nat} :
    Inv (cxC X (tn ++ fs) scope cl C s2 H2 fp) [] (capt tn.length ix σ) (upd H2 D (.lst [])) { s2 with heap := h4, toks := t' } := by
  have old : ∀ b u, s2.heap.get? b = some u → b ≠ C := fun b u e z => by
    have := Heap.lt_size e; rw [z] at this; exact Nat.lt_irrefl _ (Nat.lt_trans this hC)
  have oldD : ∀ b u, s2.heap.get? b = some u → b ≠ D := fun b u e z => by
    have := Heap.lt_size e; rw [z, eD] at this; exact Nat.lt_irrefl _ this
  have freeOf : ∀ x, ((cxC X (tn ++ fs) scope cl C s2 H2 fp).env.kindOf x = some .cell ∨ (cxC X (tn ++ fs) scope cl C s2 H2 fp).env.kindOf x = some .free) → (x, NameKind.free) ∈ scope.names := fun x hx => by
    have : ∃ k, (cxC X (tn ++ fs) scope cl C s2 H2 fp).env.kindOf x = some k ∧ (k = .cell ∨ k = .free) := by
      rcases hx with h | h
      · exact ⟨_, h, .inl rfl⟩
      · exact ⟨_, h, .inr rfl⟩
    obtain ⟨k, hk, hc⟩ := this
    obtain ⟨k', e1, e2, e3⟩ := relabel_back (scope := scope) (env := X.env) (names := scope.names) hk
    rcases e3 with rfl | rfl
    · rcases hc with rfl | rfl
      · exact absurd rfl (B.nocell _ e2)
      · exact e2
    · exact e2
  have hH : ∀ b, H2 b = none → b ≠ D → upd H2 D (.lst []) b = none := fun b h1 h2 => by rw [upd_ne h2]; exact h1
  refine ⟨⟨I2.ok.mod, ?_, I2.ok.glob, I2.ok.blt, Nat.le_of_lt hC, fun x y c h1 h2 => I2.ok.inj x y c (hcl1 x c h1).1 (hcl1 y c h2).1, fun x hx => hcl2 x (freeOf x hx), fun x c h1 h2 => ?_, I2.ok.hd, I2.ok.frames, .inl rfl, fun b hb => ⟨?_, fun x c e => ?_⟩, I2.bs, Nat.le_trans I2.ok.bsz I2.sz, fun b o e hb => ?_, fun b hb hs => ?_, I2.stack, I2.stkFree⟩,
    rfl, I2.bare, Un.laid k (by rw [eD]; exact Nat.le_refl _) (I2.hok.fresh (by rw [eD]; exact Nat.le_refl _)), ⟨m0, hns, fun i x v e1 e2 e3 => ?_⟩, fun x c e => ?_, ?_, fun x c e => ?_, fun p hp => absurd (show p ∈ ([] : List (Addr × Obj)) from hp) (by simp), ?_, ?_⟩
  · show scope.kind = .function; exact B.kd
  · have h1 : (cl.lookup x).isNone = true := h1
    rw [show cl.lookup x = some c from h2] at h1; cases h1
  · obtain ⟨o, e, _⟩ := T.obj 0 _ st2 b hb; exact old b o e
  · exact (f2 b hb).2.2.2.2.1 x c (hcl1 x c e).1
  · have hb : b ∈ fp := hb
    rcases (f2 b hb).2.2.2.1 with z | z
    · exact I2.ok.noex b o e z
    · exact absurd (Nat.lt_of_lt_of_le (Heap.lt_size (I2.ok.bs b o e).1) z) (Nat.lt_irrefl _)
  · have hb : b ∈ fp := hb
    rcases List.mem_cons.mp (I2.stkSub b hs) with z | z
    · exact (f2 b hb).2.1 z
    · exact (f2 b hb).2.2.1 z
  · -- the captured names
    have hl : tn.length ≤ i := by
      rcases Nat.lt_or_ge i tn.length with z | z
      · unfold capt at e2
        rw [List.getElem?_append_left (by simpa using z), List.getElem?_replicate] at e2
        split at e2 <;> cases e2
      · exact z
    have e1' : fs[i - tn.length]? = some x := by
      have : (tn ++ fs)[i]? = some x := e1
      rwa [List.getElem?_append_right hl] at this
    have e2' : (ix.map fun i => (σ[i]?).join)[i - tn.length]? = some (some v) := by
      unfold capt at e2
      rwa [List.getElem?_append_right (by simpa using hl), List.length_replicate] at e2
    rw [List.getElem?_map] at e2'
    cases qj : ix[i - tn.length]? with
    | none => rw [qj] at e2'; cases e2'
    | some j =>
      rw [qj] at e2'
      have e3' : σ[j]? = some (some v) := by
        have : (σ[j]?).join = some v := by simpa using e2'
        cases q : σ[j]? with
        | none => rw [q] at this; cases this
        | some o => rw [q] at this; have : o = some v := this; rw [this]
      have e4 : X.N[j]? = some x := by
        have z := congrArg (fun l => l[i - tn.length]?) B.hix
        simp only [List.getElem?_map, qj, e1', Option.map_some] at z
        rw [hN]; exact Option.some.inj z
      have hx := B.hfs x (List.mem_of_getElem? e1')
      have hmem : (x, NameKind.free) ∈ scope.names := PySem.mem_of_lookup hx.1
      have hcell : X.env.kindOf x = some .cell := by show X.env.scope.names.lookup x = _; rw [hsc]; exact B.fr _ hmem rfl
      obtain ⟨mm, _, hv⟩ := I2.loc
      obtain ⟨u, ru, lu⟩ := hv j x v e4 e3' (.inr (.inl hcell))
      refine ⟨u, ru, .inr ⟨.inl ?_, ?_⟩⟩
      · show (cxC X (tn ++ fs) scope cl C s2 H2 fp).env.scope.names.lookup x = _
        rw [cxC_kind hx.1]
        have hk : X.env.scope.kind = .function := by rw [hsc]; exact B.okd
        simp [hk, hcell]
      · obtain ⟨c, hc⟩ := hcl2 x hmem
        refine ⟨c, hc, ?_⟩
        rcases lu with ⟨z, _⟩ | ⟨_, c', h1, h2⟩
        · rw [hcell] at z; cases z
        · have := (hcl1 x c hc).1
          rw [h1] at this; cases this
          obtain ⟨o, ho, hd⟩ := h2
          exact ⟨o, k _ _ ho, hd⟩
  · obtain ⟨v, o, ho, hd⟩ := I2.cell x c (hcl1 x c e).1
    exact ⟨v, o, k _ _ ho, hd⟩
  · refine hH C (I2.hok.fresh (Nat.le_of_lt hC)) ?_
    intro z; rw [z, eD] at hC; exact Nat.lt_irrefl _ hC
  · obtain ⟨v, o, ho, hd⟩ := I2.cell x c (hcl1 x c e).1
    exact hH c (I2.freeC x c (hcl1 x c e).1) (oldD c o ho)
  · exact I2.hok.laid (a := D) (o := .lst []) k (by rw [eD]; exact Nat.le_refl _) ⟨Nat.zero_le _, [], 0, .nil, hD⟩
  · show (capt tn.length ix σ).length = (tn ++ fs).length
    have := congrArg List.length B.hix
    simp only [List.length_map] at this
    unfold capt
    simp [this]
end

def capS : Slot → Slot
  | .val d => .val d
  | .thg t => .bor t
  | .bor t => .bor t
  | _ => .un
/-- a comprehension's tests -/
def TsD (Y : Cy) : List Expr → List Slot → Bool → Prop
  | [], _, b => b = true
  | [t], c, b => TeD Y t c b
  | _, _, _ => False
theorem slot_map {α : Type} (f : α → Slot) : ∀ (l : List α) (i : Nat), slot (l.map f) i = (match l[i]? with | some x => f x | none => .un)
  | [], i => by simp [slot]
  | x :: r, 0 => rfl
  | x :: r, i + 1 => by simpa [slot] using slot_map f r i
theorem slot_app_left : ∀ (a b : List Slot) (i : Nat), i < a.length → slot (a ++ b) i = slot a i
  | [], _, _, h => by simp at h
  | _ :: _, _, 0, _ => rfl
  | _ :: r, b, i + 1, h => slot_app_left r b i (by simpa using h)
theorem slot_app_right : ∀ (a b : List Slot) (i : Nat), slot (a ++ b) (a.length + i) = slot b i
  | [], _, i => by simp
  | _ :: r, b, i => by
    have := slot_app_right r b i
    simp only [List.length_cons, List.cons_append]
    rw [show r.length + 1 + i = (r.length + i) + 1 by omega]
    exact this
theorem env_comp {K : PySem.W.Frag} {F₀ H₀ F H : Hp} {σ : St} {c : List Slot} {n : Nat} {ix : List Nat} {D : Addr} {o : HO} (E : Env K F₀ H₀ F H σ c) (hn : H D = none) :
    Env K F H F (upd H D o) (capt n ix σ) (List.replicate n .un ++ ix.map fun i => capS (slot c i)) where
  ext := Ext.track E.fh hn
  len := by unfold capt; simp
  sl := fun j => by
    unfold capt
    by_cases hj : j < n
    · rw [slot_app_left _ _ _ (by simpa using hj), slot_un]; exact trivial
    · have ej : j = (List.replicate n Slot.un).length + (j - n) := by simp; omega
      have e2 : slot (List.replicate n .un ++ ix.map fun i => capS (slot c i)) j = slot (ix.map fun i => capS (slot c i)) (j - n) := by
        have := slot_app_right (List.replicate n .un) (ix.map fun i => capS (slot c i)) (j - n)
        rw [← ej] at this; exact this
      rw [e2, slot_map, List.getElem?_append_right (by simp; omega), List.length_replicate, List.getElem?_map]
      cases q : ix[j - n]? with
      | none => exact trivial
      | some i =>
        show SlotOk K H F (upd H D o) (some ((σ[i]?).join)) (capS (slot c i))
        have z := E.sl i
        cases e : slot c i with
        | val d =>
          rw [e] at z
          obtain ⟨x, ex, r⟩ := z
          exact ⟨x, by rw [ex]; rfl, r⟩
        | thg t =>
          rw [e] at z
          obtain ⟨a, o', ex, h1, _, _, r⟩ := z
          exact ⟨a, o', by rw [ex]; rfl, h1, r⟩
        | bor t =>
          rw [e] at z
          obtain ⟨a, o', ex, h1, r⟩ := z
          exact ⟨a, o', by rw [ex]; rfl, E.ext.hh _ _ h1, r⟩
        | _ => exact trivial
  inj := fun i j a h _ _ _ => by
    exfalso
    have : isOwn (slot (List.replicate n .un ++ ix.map fun i => capS (slot c i)) i) = false := by
      by_cases hj : i < n
      · rw [slot_app_left _ _ _ (by simpa using hj), slot_un]; rfl
      · have ej : i = (List.replicate n Slot.un).length + (i - n) := by simp; omega
        have e2 : slot (List.replicate n .un ++ ix.map fun i => capS (slot c i)) i = slot (ix.map fun i => capS (slot c i)) (i - n) := by
          have := slot_app_right (List.replicate n .un) (ix.map fun i => capS (slot c i)) (i - n)
          rw [← ej] at this; exact this
        rw [e2, slot_map]
        split
        · rename_i x _; cases slot c x <;> rfl
        · rfl
    rw [this] at h; cases h
/-- a list that the slots do not know grows -/
theorem Env.aside {K : PySem.W.Frag} {F₀ H₀ F H : Hp} {σ : St} {c : List Slot} {D : Addr} {vs ws : List V} (E : Env K F₀ H₀ F H σ c) (h0 : H₀ D = none) (hF : F D = none) (hD : H D = some (.lst vs)) (hs : ∀ i a, isOwn (slot c i) = true → σ[i]? = some (some (.ref a)) → a ≠ D) : Env K F₀ H₀ F (upd H D (.lst ws)) σ c where
  ext := ⟨E.ext.ff, fun b u q => by rw [upd_ne (fun z => by rw [z, hF] at q; cases q)]; exact E.ext.fh _ _ q, fun b u q => by rw [upd_ne (fun z => by rw [z, h0] at q; cases q)]; exact E.ext.hh _ _ q, E.ext.fr⟩
  len := E.len
  sl := fun i => by
    have z := E.sl i
    cases e : slot c i with
    | un => exact trivial
    | val d => rw [e] at z; exact z
    | own ds =>
      rw [e] at z
      obtain ⟨a, vs', h1, h2, h3, h4, h5⟩ := z
      exact ⟨a, vs', h1, by rw [upd_ne (hs i a (by rw [e]; rfl) h1)]; exact h2, h3, h4, h5⟩
    | dic ds =>
      rw [e] at z
      obtain ⟨a, vs', h1, h2, h3, h4, h5⟩ := z
      exact ⟨a, vs', h1, by rw [upd_ne (hs i a (by rw [e]; rfl) h1)]; exact h2, h3, h4, h5⟩
    | thg t =>
      rw [e] at z
      obtain ⟨a, vs', h1, h2, h3, h4, h5⟩ := z
      exact ⟨a, vs', h1, by rw [upd_ne (hs i a (by rw [e]; rfl) h1)]; exact h2, h3, h4, h5⟩
    | bor t => rw [e] at z; exact z
    | exc C dx =>
      rw [e] at z
      obtain ⟨a, h1, h2⟩ := z
      exact ⟨a, h1, by rw [upd_ne (fun q => by rw [q, hD] at h2; cases h2)]; exact h2⟩
  inj := E.inj

theorem ts_run {Y : Cy} {ifs : List Expr} {c : List Slot} {b : Bool} {pins : List (Addr × Obj)} {s : Shared} {σ : St} {F H : Hp} (h : TsD Y ifs c b) (I : Inv Y.X pins σ H s) (E : EnvY Y F H σ c) (hx : Y.X.xe = fun _ _ => False) {Q : Bool → Shared → Prop}
    (q : ∀ s' F' H', Ext F H F' H' → Inv Y.X pins σ H' s' → Q b s') :
    wpAny (model Y.X.prog Y.X.w) Y.X.A (forIn ifs true fun c r => if r = true then do let ok ← isTrue c Y.X.env (eval c Y.X.env); pure (ForInStep.yield ok) else pure (ForInStep.yield r)) Q (fun _ _ => False) s := by
  match ifs, h with
  | [], h =>
    have h : b = true := h
    subst h
    exact wpAny_tests_nil (q s F H (Ext.refl E.fh) I)
  | [t], h =>
    refine wpAny_tests_one ?_
    have w := (show TeD Y t c b from h) pins s σ H (fun v H' => v = b ∧ ∃ F', Ext F H F' H') I ⟨F, E, fun F' H' e => ⟨rfl, F', e⟩⟩
    rw [hx] at w
    refine wpAny_mono w (fun v s' hv => ?_) fun _ _ z => z
    obtain ⟨H', I', rfl, F', e⟩ := hv
    exact q s' F' H' e I'
theorem own_all : ∀ {ts : List Slot}, ts.all (fun s => !isOwn s) = true → ∀ j, isOwn (slot ts j) = false
  | [], _, _ => rfl
  | x :: r, h, 0 => by simp at h; exact h.1
  | x :: r, h, j + 1 => own_all (ts := r) (by simp at h ⊢; exact h.2) j
theorem own_none {ts : List Slot} {ix : List Nat} {c : List Slot} (h : ts.all (fun s => !isOwn s) = true) {j : Nat} : isOwn (slot (ts ++ ix.map fun i => capS (slot c i)) j) = false := by
  refine own_all ?_ j
  rw [List.all_append, h, Bool.true_and, List.all_map]
  rw [List.all_eq_true]
  intro i _
  show (!isOwn (capS (slot c i))) = true
  cases slot c i <;> rfl
theorem comp_coreG {Y : Cy} {T : Tx} {k : Nat} {N G tn fs G' : List Str} {ix : List Nat} {c : List Slot} {tg iter elt : Expr} {ifs : List Expr} {scope osc : Scope} {pos : Pos} {items : List D} (S : Se Y T k N G) (hsc : Y.X.env.scope = osc) (B : CmB N tn fs ix G' scope osc) (hi : ItD Y tg iter c items)
    (rs : List (Option D)) (hlen : rs.length = items.length) (hz : rs.length ≤ 100000)
    (turn : ∀ (Y' : Cy) (S' : Se Y' T k (tn ++ fs) G'), (∀ x ∈ tn, Y'.X.env.scope.names.lookup x = some .local) → ∀ (m : Nat) (d : D) (r : Option D), items[m]? = some d → rs[m]? = some r → ∀ ts : List Slot, ts.length = tn.length →
      ∃ ts' : List Slot, ts'.length = tn.length ∧ ts'.all (fun s => !isOwn s) = true ∧ TgD Y' tg d (ts ++ ix.map fun i => capS (slot c i)) (ts' ++ ix.map fun i => capS (slot c i)) ∧ (match r with
        | some e => TsD Y' ifs (ts' ++ ix.map fun i => capS (slot c i)) true ∧ EvD Y' elt (ts' ++ ix.map fun i => capS (slot c i)) e
        | none => TsD Y' ifs (ts' ++ ix.map fun i => capS (slot c i)) false))
    (hs : ∀ x, foldedSetIterable iter Y.X.env x = pure x := by intro _; rfl)
    {pins : List (Addr × Obj)} {s : Shared} {σ : St} {F H : Hp} (I : Inv Y.X pins σ H s) (E : EnvY Y F H σ c) {use : Option (Value → Sem Unit)} {Qv : Value → Shared → Prop} {cpos : Pos}
    (post : ∀ (D C : Addr) (s' : Shared) (m : Str → Option Value) (F' H' : Hp) (vs : List V), s'.heap.Ns C m → FpOk Y.X pins H' C → (∀ h', Heap.SameBut C s'.heap h' → Inv Y.X pins σ H' { s' with heap := h' }) → Ext F H F' H' → H D = none → H' D = some (.lst vs) → F' D = none → Reps Y.X.K F' vs (rs.filterMap id) →
      compPost (model Y.X.prog Y.X.w) Y.X.A Y.X.xe use Qv (.ref D) C (.ok .next) s') :
    wpAny (model Y.X.prog Y.X.w) Y.X.A (comprehension (.ListComp elt [⟨tg, iter, ifs, 0⟩] scope pos) scope Y.X.env cpos (newList []) (firstAsync [⟨tg, iter, ifs, 0⟩]) (firstIter [⟨tg, iter, ifs, 0⟩] Y.X.env) use) Qv Y.X.xe s := by
  obtain ⟨cl, ecl, hcl1, hcl2⟩ := closureFor_ex scope Y.X.env fun x hx hf => I.ok.has x.1 (.inl (by show Y.X.env.scope.names.lookup x.1 = _; rw [hsc]; exact B.fr x hx hf))
  refine wpAny_comprehension_free (g := ⟨tg, iter, ifs, 0⟩) (gs := []) rfl hs ecl B.kd B.once ?_
  have h1 := hi pins s σ H (fun J H1 => ∃ F1, Ext F H F1 H1 ∧ Yields Y.X.K F1 J items) I ⟨F, E, fun J F1 H1 e1 y => ⟨F1, e1, y⟩⟩
  refine thn h1 fun x s1 h1 => thn h1 fun itv s2 h2 => ?_
  obtain ⟨it, fp, tnn, J, H2, rfl, I2, TT, st2, f2, F2, e2, yl⟩ := h2
  refine wpAny_newObj_type (wpAny_newFunctionEnv B.nocell (by intro y hy; simp at hy) (fun h4 hns hsb => ?_) B.kd)
  dsimp only at hns hsb ⊢
  generalize hH3 : s2.heap.push { cls := .type "list", dict := none, data := .seq ([] : List Value).toArray } = g3 at hns hsb ⊢
  have hC : g3.objs.size = s2.heap.objs.size + 1 := by rw [← hH3, Heap.size_push]
  have hD3 : g3.get? s2.heap.objs.size = some { cls := .type "list", dict := none, data := .seq ([] : List Value).toArray } := by rw [← hH3]; exact Heap.get?_push_size _ rfl
  have kk : ∀ b u, s2.heap.get? b = some u → h4.get? b = some u := fun b u e => hsb.extBut b u (by rw [hC]; exact Nat.ne_of_lt (Nat.lt_succ_of_lt (Heap.lt_size e))) (Heap.get?_push_of_some _ (hH3 ▸ Heap.get?_push_of_some _ e))
  have hD : h4.get? s2.heap.objs.size = some { cls := .type "list", data := .seq #[] } := hsb.extBut _ _ (by rw [hC]; exact Nat.ne_of_lt (Nat.lt_succ_self _)) (Heap.get?_push_of_some _ hD3)
  have hCl : s2.heap.objs.size < g3.objs.size := by rw [hC]; exact Nat.lt_succ_self _
  generalize hDe : s2.heap.objs.size = D at hD hCl ⊢
  generalize g3.objs.size = C at hns hsb hCl ⊢
  have hDn : H2 D = none := I2.hok.fresh (by rw [hDe]; exact Nat.le_refl _)
  have I4 := inv_comp (t' := s2.toks + ([] : List (Str × Value)).length) I2 TT st2 f2 hsc S.n B hcl1 hcl2 kk hDe.symm hD hns (by rw [hDe]; exact hCl)
  generalize hXc : cxC Y.X (tn ++ fs) scope cl C s2 H2 fp = Xc at I4
  have xP : Xc.prog = Y.X.prog := by rw [← hXc]; rfl
  have xW : Xc.w = Y.X.w := by rw [← hXc]; rfl
  have xK : Xc.K = Y.X.K := by rw [← hXc]; rfl
  have xA : Xc.A = Y.X.A := by rw [← hXc]; rfl
  have xE : Xc.xe = fun _ _ => False := by rw [← hXc]; rfl
  have xenv : Xc.env = compEnvC scope cl C Y.X.env := by rw [← hXc]; rfl
  have S' : Se ⟨Xc, F2, H2⟩ T k (tn ++ fs) G' := by
    subst hXc
    refine ⟨⟨S.eP, S.eW, S.eK, S.eM, S.eB, rfl, B.hnd, fun x hx => ?_, fun x hx => ?_⟩, S.calm, S.room⟩
    · rcases List.mem_append.mp hx with h | h
      · have z := B.htn x h
        exact ⟨.inl (lookup_relabel_local z.1), z.2⟩
      · have z := B.hfs x h
        refine ⟨.inr ?_, z.2⟩
        have zz := cxC_kind (X := Y.X) (N' := tn ++ fs) (cl := cl) (C := C) (s := s2) (H := H2) (ex := fp) z.1
        have hk : Y.X.env.scope.kind = .function := by rw [hsc]; exact B.okd
        have hcell : Y.X.env.kindOf x = some .cell := by show Y.X.env.scope.names.lookup x = _; rw [hsc]; exact B.fr _ (PySem.mem_of_lookup z.1) rfl
        rw [hk, hcell] at zz
        exact zz
    · have z := B.hgl x hx
      refine ⟨?_, z.2⟩
      have zz := cxC_kind (X := Y.X) (N' := tn ++ fs) (cl := cl) (C := C) (s := s2) (H := H2) (ex := fp) z.1
      exact zz
  have hloc : ∀ x ∈ tn, (⟨Xc, F2, H2⟩ : Cy).X.env.scope.names.lookup x = some .local := fun x hx => by
    show Xc.env.scope.names.lookup x = _
    rw [xenv]; exact lookup_relabel_local (B.htn x hx).1
  have E2 := E.grow e2
  have E4 : Env Y.X.K F2 H2 F2 (upd H2 D (.lst [])) (capt tn.length ix σ) (List.replicate tn.length .un ++ ix.map fun i => capS (slot c i)) := env_comp E2 hDn
  have fin : ∀ {σ' : St} {F' H' : Hp} {s' : Shared} {vs : List V}, Inv Xc [] σ' H' s' → Ext F2 H2 F' H' → H' D = some (.lst vs) → F' D = none → Reps Y.X.K F' vs (rs.filterMap id) →
      compPost (model Y.X.prog Y.X.w) Y.X.A Y.X.xe use Qv (.ref D) C (.ok .next) s' := by
    intro σ' F' H' s' vs I' ex hv hf r
    obtain ⟨m, hn, _⟩ := id I'.loc
    rw [xenv] at hn
    have b0 : Un (frs Y.X.stack) fp H2 H' s2.heap s'.heap := by have := I'.base; rw [← hXc] at this; exact this
    have nC : ∀ b o, s2.heap.get? b = some o → b ≠ C := fun b o e z => by
      have := Heap.lt_size e; rw [z, hDe] at this; exact Nat.lt_irrefl _ (Nat.lt_trans this hCl)
    have hfC : H' C = none := by have := I'.free; rw [xenv] at this; exact this
    have I9 : ∀ h', Heap.SameBut C s'.heap h' → Inv Y.X pins σ H' { s' with heap := h' } := fun h' hs' => by
      have un : Un (frs Y.X.stack) fp H2 H' s2.heap h' := ⟨fun b o e n hb hx => (hs'.2 b (nC b o e)).trans (b0.keep b o e n hb hx), fun b o e n hb hx => by
          obtain ⟨sl, z⟩ := b0.slot b o e n hb hx
          exact ⟨sl, (hs'.2 b (nC b o e)).trans z⟩, b0.free, fun b o e hx => by
          obtain ⟨o', z⟩ := b0.there b o e hx
          exact ⟨o', (hs'.2 b (nC b o e)).trans z⟩, b0.tups, b0.frzs, b0.tbls⟩
      have hok : HOk Y.X.prog Y.X.w H' h' := by
        have ok' : HOk Y.X.prog Y.X.w H' s'.heap := by rw [← xP, ← xW]; exact I'.hok
        intro b o e
        refine (ok' b o e).stay (fun c w' hc z => (hs'.2 c ?_).trans z) (fun _ z => z) fun _ _ z => z
        rintro rfl
        rcases hc with rfl | hc
        · rw [hfC] at e; cases e
        · rw [hfC] at hc; cases hc
      have os : ({ s' with heap := h' } : Shared).os = s2.os := by have := I'.os; rw [← hXc] at this; exact this
      exact I2.call' (s' := { s' with heap := h' }) (ch := fp) os un hok I'.bare fun b hb => ⟨(f2 b hb).2.2.2.1, (f2 b hb).2.1, (f2 b hb).2.2.2.2.1, (f2 b hb).2.2.2.2.2⟩
    have hD0 : H D = none := by
      cases z : H D with
      | none => rfl
      | some u => rw [e2.hh _ _ z] at hDn; cases hDn
    exact post D C s' m F' H' vs hn (I2.fpOk (by rw [hDe]; exact Nat.le_of_lt hCl) hfC) I9 (e2.trans ex) hD0 hv hf r
  have calm : Xc.calm = true := S'.calm
  have cells : ∀ b ∈ fp, ∀ x c, Xc.env.cells.lookup x = some c → c ≠ b := fun b hb x c e => by
    rw [xenv] at e
    exact (f2 b hb).2.2.2.2.1 x c (hcl1 x c e).1
  have neC : ∀ b ∈ fp, b ≠ Xc.env.locals := fun b hb => by
    rw [xenv]
    obtain ⟨o, e, _⟩ := TT.obj 0 _ st2 b hb
    intro z
    have z : b = C := z
    have := Heap.lt_size e; rw [z, hDe] at this; exact Nat.lt_irrefl _ (Nat.lt_trans this hCl)
  have nfs : ∀ b ∈ fp, b ∉ Xc.fs := fun b hb z => by
    rw [← hXc] at z
    rcases List.mem_cons.mp (I2.stkSub b z) with z | z
    · exact (f2 b hb).2.1 z
    · exact (f2 b hb).2.2.1 z
  have inex : ∀ b ∈ fp, b ∈ Xc.ex := fun b hb => by rw [← hXc]; exact hb
  have stat : ∀ {H' : Hp}, (∀ b ∈ fp, H' b = none) → ∀ b ∈ fp, FpOk Xc [] H' b := fun hn b hb => ⟨hn b hb, neC b hb, nfs b hb, .inl (inex b hb), cells b hb, fun p hp => by rw [← hXc] at hp; exact absurd (show p ∈ ([] : List (Addr × Obj)) from hp) (by simp)⟩
  have TX : Turn Xc.prog Xc.w Xc.K tg J fp it tnn := by rw [xP, xW, xK]; exact TT
  have loop : ∀ s3 : Shared, s3 = { s2 with heap := h4, toks := s2.toks + ([] : List (Str × Value)).length } →
      codeAny (model Y.X.prog Y.X.w) Y.X.A (.compLoop (.ListComp elt [⟨tg, iter, ifs, 0⟩] scope pos) 0 (.ref it) (.ref D) (compEnvC scope cl C Y.X.env)) (compPost (model Y.X.prog Y.X.w) Y.X.A Y.X.xe use Qv (.ref D) C) s3 := by
    rintro s3 rfl
    rw [← xP, ← xW, ← xA, ← xenv]
    refine compLoop_any (fun n s' => ∃ (i : Nat) (σ' : St) (F' H' : Hp) (vs : List V) (ts : List Slot), n = items.length - i ∧ i ≤ items.length ∧ Inv Xc [] σ' H' s' ∧ tnn i s'.heap ∧ (∀ b ∈ fp, H' b = none) ∧ Env Y.X.K F2 H2 F' H' σ' (ts ++ ix.map fun i => capS (slot c i)) ∧ ts.length = tn.length ∧
      H' D = some (.lst vs) ∧ F' D = none ∧ Reps Y.X.K F' vs ((rs.take i).filterMap id)) ?_ items.length ⟨0, _, F2, _, [], _, rfl, Nat.zero_le _, I4, TT.keep _ _ _ st2 fun b hb o e => kk b o e, fun b hb => ?_, E4, by simp, upd_same, ?_, .nil⟩
    · rintro n s' ⟨i, σ', F', H', vs, ts, rfl, hi', I', st', fr', E', hts, hv, hf, rp⟩
      have y := yl i F' H' E'.ext.ff E'.fh
      by_cases hlt : i < items.length
      · obtain ⟨d, hd⟩ : ∃ d, items[i]? = some d := ⟨items[i], List.getElem?_eq_getElem hlt⟩
        obtain ⟨r, hr⟩ : ∃ r, rs[i]? = some r := ⟨rs[i]'(by rw [hlen]; exact hlt), List.getElem?_eq_getElem _⟩
        obtain ⟨go, yy⟩ := y.1 d hd
        obtain ⟨ts', hts', hown, tgd, body⟩ := turn ⟨Xc, F2, H2⟩ S' hloc i d r hd hr ts hts
        refine thn (TX.item Xc rfl rfl rfl calm i [] s' σ' H' _ I' (stat fr') st' go) fun rr s4 ⟨u, hr', h4'⟩ => ?_
        subst hr'
        refine thn h4' fun _ s5 ⟨xv, H5, I5, r5, y5, st5, fr5⟩ => ?_
        obtain ⟨F5, ex5, rep5⟩ := yy xv H5 y5
        have I5' := I5.pinned (stat fr5) (TT.obj _ _ st5)
        have E5 : Env Y.X.K F2 H2 F5 H5 σ' (ts ++ ix.map fun i => capS (slot c i)) := E'.grow ex5
        have tgr := tgd _ s5 σ' H5 xv u (fun σ6 H6 => ∃ F6, Ext F5 H5 F6 H6 ∧ Env Y.X.K F2 H2 F6 H6 σ6 (ts' ++ ix.map fun i => capS (slot c i))) I5' r5 ⟨F5, by show Env Xc.K _ _ _ _ _ _; rw [xK]; exact E5, by show Rep Xc.K _ _ _; rw [xK]; exact rep5, fun σ6 F6 H6 ex6 E6 => ⟨F6, ex6, by have z : Env Xc.K F2 H2 F6 H6 σ6 _ := E6; rw [xK] at z; exact z⟩⟩
        rw [show (⟨Xc, F2, H2⟩ : Cy).X.xe = fun _ _ => False from xE] at tgr
        refine thn tgr fun _ s6 ⟨σ6, H6, I6, F6, ex6, E6⟩ => ?_
        have ne : ∀ {Fa Ha Fb Hb : Hp} {ws : List V}, Ext Fa Ha Fb Hb → Ha D = some (.lst ws) → Fa D = none → Hb D = some (.lst ws) ∧ Fb D = none := fun ex h1 h2 => ⟨ex.hh _ _ h1, ex.fr D (by rw [h1]; exact fun z => nomatch z) h2⟩
        obtain ⟨hv5, hf5⟩ := ne ex5 hv hf
        obtain ⟨hv6, hf6⟩ := ne ex6 hv5 hf5
        have rp6 := (rp.mono ex5.ff).mono ex6.ff
        have E6' : EnvY ⟨Xc, F2, H2⟩ F6 H6 σ6 (ts' ++ ix.map fun i => capS (slot c i)) := by show Env Xc.K _ _ _ _ _ _; rw [xK]; exact E6
        have again : ∀ {s7 : Shared} {σ7 : St} {F7 H7 : Hp} {ws : List V}, Inv Xc ([] ++ pinsAt fp s5.heap) σ7 H7 s7 → Env Y.X.K F2 H2 F7 H7 σ7 (ts' ++ ix.map fun i => capS (slot c i)) → H7 D = some (.lst ws) → F7 D = none → Reps Y.X.K F7 ws ((rs.take (i + 1)).filterMap id) →
            ∃ m, m < items.length - i ∧ ∃ (i : Nat) (σ' : St) (F' H' : Hp) (vs : List V) (ts : List Slot), m = items.length - i ∧ i ≤ items.length ∧ Inv Xc [] σ' H' s7 ∧ tnn i s7.heap ∧ (∀ b ∈ fp, H' b = none) ∧ Env Y.X.K F2 H2 F' H' σ' (ts ++ ix.map fun i => capS (slot c i)) ∧ ts.length = tn.length ∧ H' D = some (.lst vs) ∧ F' D = none ∧ Reps Y.X.K F' vs ((rs.take i).filterMap id) := by
          intro s7 σ7 F7 H7 ws I7 E7 h7 f7 r7
          refine ⟨items.length - (i + 1), by omega, i + 1, σ7, F7, H7, ws, ts', rfl, hlt, I7.unpinned, TT.keep _ _ _ st5 fun b hb o e => (I7.pin (b, o) (List.mem_append_right _ (List.mem_append_right _ (mem_pinsAt hb e)))).1, fun b hb => ?_, E7, hts', h7, f7, r7⟩
          obtain ⟨o, e, dd⟩ := TT.obj _ _ st5 b hb
          exact (I7.pin (b, o) (List.mem_append_right _ (List.mem_append_right _ (mem_pinsAt hb e)))).2.1
        have tk : (rs.take (i + 1)).filterMap id = (rs.take i).filterMap id ++ r.toList := by
          rw [List.take_add_one, hr, List.filterMap_append]
          cases r <;> rfl
        cases r with
        | none =>
          refine ts_run (Y := ⟨Xc, F2, H2⟩) body I6 E6' xE fun s7 F7 H7 ex7 I7 => ?_
          rw [if_neg Bool.false_ne_true]
          obtain ⟨hv7, hf7⟩ := ne ex7 hv6 hf6
          exact again I7 (E6.grow ex7) hv7 hf7 (by rw [tk]; simpa using rp6.mono ex7.ff)
        | some e =>
          refine ts_run (Y := ⟨Xc, F2, H2⟩) body.1 I6 E6' xE fun s7 F7 H7 ex7 I7 => ?_
          rw [if_pos rfl]
          obtain ⟨hv7, hf7⟩ := ne ex7 hv6 hf6
          have el := body.2 _ s7 σ6 H7 (fun v H8 => ∃ F8, Ext F7 H7 F8 H8 ∧ Rep Y.X.K F8 v e) I7 ⟨F7, by show Env Xc.K _ _ _ _ _ _; rw [xK]; exact E6.grow ex7, fun v F8 H8 ex8 r8 => ⟨F8, ex8, by have z : Rep Xc.K F8 v e := r8; rw [xK] at z; exact z⟩⟩
          rw [show (⟨Xc, F2, H2⟩ : Cy).X.xe = fun _ _ => False from xE] at el
          refine thn el fun u8 s8 ⟨v8, H8, I8, r8, F8, ex8, rep8⟩ => ?_
          obtain ⟨hv8, hf8⟩ := ne ex8 hv7 hf7
          have rp8 := (rp6.mono ex7.ff).mono ex8.ff
          have E8 := (E6.grow ex7).grow ex8
          have ln : vs.length < sizeLine := by
            rw [rp.length]
            have l1 : ((rs.take i).filterMap id).length ≤ (rs.take i).length := List.length_filterMap_le _ _
            have l2 : (rs.take i).length ≤ rs.length := by simp; omega
            rw [sizeLine_eq]; omega
          have ap := (mt_append (X := Xc)) _ s8 σ6 H8 (.ref D) [v8] (.ref D) [u8] (fun _ H9 => H9 = upd H8 D (.lst (vs ++ [v8]))) I8 rfl (.cons r8 .nil) ⟨D, vs, v8, rfl, rfl, hv8, ln, rfl⟩
          rw [xE] at ap
          refine thn ap fun _ s9 ⟨v9, H9, I9, _, e9⟩ => ?_
          subst e9
          refine again (ws := vs ++ [v8]) I9 (E8.aside hDn hf8 hv8 fun j a hj ha => ?_) upd_same hf8 (by rw [tk]; exact rp8.append (.cons rep8 .nil))
          rw [own_none hown] at hj; cases hj
      · have ei : i = items.length := by omega
        subst ei
        refine thn (TX.done Xc rfl rfl rfl calm items.length [] s' σ' H' _ I' (stat fr') st' (y.2 (Nat.le_refl _))) fun rr s4 ⟨hr', I4'⟩ => ?_
        subst hr'
        show compPost (model Xc.prog Xc.w) Xc.A Y.X.xe use Qv (.ref D) C (.ok .next) s4
        rw [xP, xW, xA]
        exact fin I4' E'.ext hv hf (by rw [← hlen, List.take_length] at rp; exact rp)
    · rw [upd_ne (fun z => ?_)]
      · exact (f2 b hb).1
      · obtain ⟨o, e, _⟩ := TT.obj 0 _ st2 b hb
        have := Heap.lt_size e; rw [z, hDe] at this; exact Nat.lt_irrefl _ this
    · cases z : F2 D with
      | none => rfl
      | some u => rw [e2.fh _ _ z] at hDn; cases hDn
  exact codeAny_compStart_list (loop _ rfl) (TT.self _ 0 _ _ _ (TT.keep _ _ _ st2 fun b hb o e => kk b o e) (loop _ rfl))
theorem comp_core {Y : Cy} {T : Tx} {k : Nat} {N G tn fs G' : List Str} {ix : List Nat} {c : List Slot} {tg iter elt : Expr} {ifs : List Expr} {scope osc : Scope} {pos : Pos} {items : List D} (S : Se Y T k N G) (hsc : Y.X.env.scope = osc) (B : CmB N tn fs ix G' scope osc) (hi : ItD Y tg iter c items)
    (rs : List (Option D)) (hlen : rs.length = items.length) (hz : rs.length ≤ 100000)
    (turn : ∀ (Y' : Cy) (S' : Se Y' T k (tn ++ fs) G'), (∀ x ∈ tn, Y'.X.env.scope.names.lookup x = some .local) → ∀ (m : Nat) (d : D) (r : Option D), items[m]? = some d → rs[m]? = some r → ∀ ts : List Slot, ts.length = tn.length →
      ∃ ts' : List Slot, ts'.length = tn.length ∧ ts'.all (fun s => !isOwn s) = true ∧ TgD Y' tg d (ts ++ ix.map fun i => capS (slot c i)) (ts' ++ ix.map fun i => capS (slot c i)) ∧ (match r with
        | some e => TsD Y' ifs (ts' ++ ix.map fun i => capS (slot c i)) true ∧ EvD Y' elt (ts' ++ ix.map fun i => capS (slot c i)) e
        | none => TsD Y' ifs (ts' ++ ix.map fun i => capS (slot c i)) false))
    (hs : ∀ x, foldedSetIterable iter Y.X.env x = pure x := by intro _; rfl)
    {pins : List (Addr × Obj)} {s : Shared} {σ : St} {F H : Hp} (I : Inv Y.X pins σ H s) (E : EnvY Y F H σ c) {use : Option (Value → Sem Unit)} {Qv : Value → Shared → Prop} {cpos : Pos}
    (post : ∀ (D C : Addr) (s' : Shared) (m : Str → Option Value) (F' H' : Hp), s'.heap.Ns C m → FpOk Y.X pins H' C → (∀ h', Heap.SameBut C s'.heap h' → Inv Y.X pins σ H' { s' with heap := h' }) → Ext F H F' H' → Rep Y.X.K F' (.ref D) (.lst (rs.filterMap id)) →
      compPost (model Y.X.prog Y.X.w) Y.X.A Y.X.xe use Qv (.ref D) C (.ok .next) s') :
    wpAny (model Y.X.prog Y.X.w) Y.X.A (comprehension (.ListComp elt [⟨tg, iter, ifs, 0⟩] scope pos) scope Y.X.env cpos (newList []) (firstAsync [⟨tg, iter, ifs, 0⟩]) (firstIter [⟨tg, iter, ifs, 0⟩] Y.X.env) use) Qv Y.X.xe s := by
  refine comp_coreG S hsc B hi rs hlen hz turn hs I E fun D C s' m F' H' vs hn fp hI ex hD hv hf r => ?_
  have sm : Same F' (upd F' D (.lst vs)) := fun b u z => by rw [upd_ne (fun w => by rw [w, hf] at z; cases z)]; exact z
  have ex2 : Ext F H (upd F' D (.lst vs)) H' := ⟨ex.ff.trans sm, fun b u z => by
      by_cases hb : b = D
      · subst hb; rw [upd_same] at z; cases z; exact hv
      · rw [upd_ne hb] at z; exact ex.fh _ _ z, ex.hh, fun b h1 h2 => by
      rw [upd_ne (fun w => h1 (by rw [w]; exact hD))]; exact ex.fr b h1 h2⟩
  exact post D C s' m _ H' hn fp hI ex2 (.lst (SqL.of upd_same) (r.mono sm))
theorem ev_comp {Y : Cy} {T : Tx} {k : Nat} {N G tn fs G' : List Str} {ix : List Nat} {c : List Slot} {tg iter elt : Expr} {ifs : List Expr} {scope osc : Scope} {pos : Pos} {items : List D} (S : Se Y T k N G) (hsc : Y.X.env.scope = osc) (B : CmB N tn fs ix G' scope osc) (hi : ItD Y tg iter c items)
    (rs : List (Option D)) (hlen : rs.length = items.length) (hz : rs.length ≤ 100000)
    (turn : ∀ (Y' : Cy) (S' : Se Y' T k (tn ++ fs) G'), (∀ x ∈ tn, Y'.X.env.scope.names.lookup x = some .local) → ∀ (m : Nat) (d : D) (r : Option D), items[m]? = some d → rs[m]? = some r → ∀ ts : List Slot, ts.length = tn.length →
      ∃ ts' : List Slot, ts'.length = tn.length ∧ ts'.all (fun s => !isOwn s) = true ∧ TgD Y' tg d (ts ++ ix.map fun i => capS (slot c i)) (ts' ++ ix.map fun i => capS (slot c i)) ∧ (match r with
        | some e => TsD Y' ifs (ts' ++ ix.map fun i => capS (slot c i)) true ∧ EvD Y' elt (ts' ++ ix.map fun i => capS (slot c i)) e
        | none => TsD Y' ifs (ts' ++ ix.map fun i => capS (slot c i)) false))
    (hs : ∀ x, foldedSetIterable iter Y.X.env x = pure x := by intro _; rfl) : EvD Y (.ListComp elt [⟨tg, iter, ifs, 0⟩] scope pos) c (.lst (rs.filterMap id)) := by
  intro pins s σ H Q I ⟨F, E, q⟩
  rw [eval_ListComp]
  exact comp_core S hsc B hi rs hlen hz turn hs I E (use := none) (Qv := EP Y.X pins σ Q) fun D C s' m F' H' hn _ hI ex r => ⟨m, hn, fun h' hs' => ⟨.ref D, H', hI h' hs', rfl, q _ F' H' ex r⟩⟩
end DL

set_option Elab.async false
set_option linter.all false
set_option maxRecDepth 100000
namespace DL
open PySem L2
/-! ### more expressions -/
def rCatS (K : PySem.W.Frag) : R2 := fun x y H Q => ∃ l b xs zs, x = .ref l ∧ y = .ref b ∧ SqL K H l xs ∧ SqL K H b zs ∧ xs.length + zs.length ≤ sizeLine ∧ ∀ p, H p = none → Q (.ref p) (upd H p (.lst (xs ++ zs)))
theorem op_catS {X : Cx} : OpR X (binaryOp .Add) (rCatS X.K) := by
  intro pins s σ H x y v u Q I rx ry h
  obtain ⟨l, b, xs, zs, rfl, rfl, hH, hB, hz, q⟩ := h
  cases rx
  cases ry
  obtain ⟨its, r, ⟨⟨cls, dd, data, sl⟩, n, e, hc, hdd, hd⟩, z1⟩ := I.list hH
  obtain ⟨its2, r2, ⟨⟨cls2, dd2, data2, sl2⟩, n2, e2, hc2, hdd2, hd2⟩, z2⟩ := I.list hB
  simp only at hc hd hc2 hd2
  subst hc hd hc2 hd2
  have l1 := r.length
  have l2 := r2.length
  refine concat_meets ⟨_, e, rfl⟩ ⟨_, e2, rfl⟩ noFill_list_add seq_list_add PySem.F.slot_list_add PySem.F.entry_list_add (PySem.F.args_list_add_2 _ _) (PyProof.Rows.list_addW l b its.toArray its2.toArray n n2 dd dd2 sl sl2 (by rw [List.size_toArray, List.size_toArray]; omega)) ⟨e, e2, ?_⟩
  have ea : its.toArray ++ its2.toArray = (its ++ its2).toArray := by simp
  rw [ea]
  exact ⟨.ref _, _, I.lnew (t' := s.toks) (r.append r2) (by rw [List.length_append]; omega), rfl, q _ I.fresh⟩
section
variable {Y : Cy} {T : Tx} {k : Nat} {N G : List Str} {c : List Slot} {a b e : Expr} {es : List Expr} {pos : Pos} {d d1 d2 : D} {ds es' xs ys : List D} {P : Out → Prop} {rest : List Stmt}
/-- a constant of the module: a tuple of ints -/
def CstT (T : Tx) (x : Str) (l : List Int) : Prop := ∃ a, T.mg x = some (.ref a) ∧ ∃ (o : Obj) (its : Array Value) (n : Nat), T.K.lookup a = some o ∧ o.cls = .type "tuple" ∧ o.data = .seq its n ∧ its.size ≤ sizeLine ∧ Vals (l.map V.int) its.toList
theorem ev_cstT (S : Sn Y T N G) (gi : Nat) {x : Str} {l : List Int} (h : CstT T x l) (hg : G[gi]? = some x := by rfl) : EvD Y (.Name x pos) c (.tup (l.map D.int)) := by
  obtain ⟨a, hm, o, its, n, h1, h2, h3, h4, h5⟩ := h
  have gl := S.gl x (List.mem_of_getElem? hg)
  refine PE.imp (pe_glob (v := .ref a) gl.1 (by rw [S.eM]; exact hm) rfl gl.2.1) fun σ H Q ⟨F, E, q⟩ => q _ F H (Ext.refl E.fh) (.tup (.inr ⟨o, its, n, by rw [S.eK]; exact h1, h2, h3, h4, h5⟩) (Reps.ints l))
end
end DL
namespace DL
open PySem L2
end DL
namespace DL
open PySem L2
/-! ### defs that may refuse: where they don't; with a default -/
structure FnXd (T : Tx) (k : Nat) (x : Str) (i : Int) (R : List D → Rs → Prop) : Prop where
  ex : ∃ (f : Addr) (fd : FuncData) (ps : List Str) (tk : Tok), T.mg x = some (.ref f) ∧ PySem.W.keepIn T.K (.ref f) = true ∧ Binds T.K fd ps [.int i tk] ∧ FnOk T.prog T.w T.K T.mg T.base (CXE T.prog T.w) k f fd ps (spX T R)
end DL

set_option Elab.async false
set_option linter.all false
set_option maxRecDepth 100000
namespace DL
open PySem PySem.Spec PyProof.Rows L2
section
variable {Y : Cy} {T : Tx} {k j : Nat} {N G : List Str} {c : List Slot} {e : Expr} {es : List Expr} {x y : Str} {pos p : Pos}
/-- an if without an else, the ways behind it in one -/
def Jn (J : List Slot → Prop) (P : Out → Prop) : Out → Prop
  | .nx c => J c
  | o => P o
theorem ss_ifJ {t : Expr} {sa rest : List Stmt} {v : Bool} {P : Out → Prop} (J : List Slot → Prop) (ht : TeD Y t c v) (ha : v = true → SsD Y sa c (Jn J P)) (hb : v = false → J c) (hr : ∀ c', J c' → SsD Y rest c' P) : SsD Y (.If t sa [] pos :: rest) c P := by
  refine ss_if ht (fun h => PSs.imp (ha h) fun D σ H ⟨F, E, m⟩ => ⟨F, E, fun o ho => m o ?_⟩) (fun h => ss_nil (hr c (hb h)))
  cases o with
  | nx c' => exact hr c' ho
  | rt d => exact ho
  | bk c' => exact ho
  | ct c' => exact ho
  | ro ds => exact ho
  | rs R => exact ho
end
end DL

set_option Elab.async false
set_option linter.all false
set_option maxRecDepth 100000
namespace DL
open PySem L2
section
variable {Y : Cy} {T : Tx} {k j : Nat} {N G : List Str} {c c' c'' : List Slot} {a b e tg : Expr} {es : List Expr} {pos p : Pos} {rest : List Stmt} {P : Out → Prop} {d d1 d2 d3 : D} {ds : List D} {R : List D → D → Prop} {x : Str}
/-- any target = value -/
theorem ss_asg (he : EvD Y e c d) (hg : TgD Y tg d c c') (hr : SsD Y rest c' P) (hs : swapsWithSole [tg] e pos.line Y.X.env = pure false := by rfl) (hw : swappedStores [tg] e Y.X.env = pure none := by rfl)
    (h1 : (assignEach [tg] Y.X.env).map (·.2) = [assign tg Y.X.env] := by rfl) : SsD Y (.Assign [tg] e pos :: rest) c P := by
  refine ss_cons (PS.imp (ps_asg he hg hs hw h1) fun D σ H ⟨F, E, m⟩ => ⟨F, E, fun v F' H' e' r' => ?_⟩)
  exact ⟨F', E.grow e', r', fun σ2 F2 H2 e2 E2 => m (.nx c') hr σ2 F2 H2 (e'.trans e2).ff E2⟩
end

section
variable {Y : Cy} {T : Tx} {k j : Nat} {N G : List Str} {c c' c'' : List Slot} {a b e tg : Expr} {es : List Expr} {pos p : Pos} {rest : List Stmt} {P : Out → Prop} {d d1 d2 d3 : D} {ds : List D} {R : List D → D → Prop} {x : Str}
/-! targets in a row -/
def tGs (Y : Cy) (ds : List D) (c c' : List Slot) : TGs := fun vs σ H Q => ∃ F, EnvY Y F H σ c ∧ Reps Y.X.K F vs ds ∧ ∀ σ' F' H', Ext F H F' H' → EnvY Y F' H' σ' c' → Q σ' H'
def TgsD (Y : Cy) (es : List Expr) (ds : List D) (c c' : List Slot) : Prop := PGs Y.X es (tGs Y ds c c')
theorem PGs.imp {X : Cx} {t t' : TGs} (h : PGs X es t) (i : ∀ vs σ H Q, t' vs σ H Q → t vs σ H Q) : PGs X es t' := fun pins s σ H vs us Q I r q => h pins s σ H vs us Q I r (i _ _ _ _ q)
theorem tgs_nil : TgsD Y [] [] c c := PGs.imp pgs_nil fun vs σ H Q ⟨F, E, r, q⟩ => by
  cases r
  exact ⟨rfl, q σ F H (Ext.refl E.fh) E⟩
theorem tgs_cons (h1 : TgD Y e d c c') (h2 : TgsD Y es ds c' c'') (hs : (assignEach (e :: es) Y.X.env).map (·.2) = assign e Y.X.env :: (assignEach es Y.X.env).map (·.2) := by rfl) : TgsD Y (e :: es) (d :: ds) c c'' :=
  PGs.imp (pgs_cons h1 h2 hs) fun vs σ H Q ⟨F, E, r, q⟩ => by
    cases r with
    | cons r rr => exact ⟨_, _, rfl, F, E, r, fun σ' F' H' x E' => ⟨F', E', rr.mono x.ff, fun σ2 F2 H2 x2 E2 => q σ2 F2 H2 (x.trans x2) E2⟩⟩
/-- a, b, .. = a tuple -/
theorem tg_tupN (hc : Y.X.calm = true) {kt : Nat} (h : TgsD Y es ds c c') (hn : (assignEach es Y.X.env).length = ds.length := by rfl) (hst : (assignEach es Y.X.env).findIdx? (·.1) = none := by rfl) : TgD Y (.Tuple es kt pos) (.tup ds) c c' :=
  PG.imp (pg_tup hc h hn hst) fun v σ H Q ⟨F, E, r, q⟩ => by
    obtain ⟨a, vs, rfl, hp, rs⟩ := inv_tup r
    exact ⟨a, vs, rfl, sqT_same E.fh hp, rs.length, F, E, rs, q⟩
/-! a list taken apart -/
theorem draw_L {prog : Program} {w : World} {A : Around} {E : Value → Shared → Prop} {it l : Addr} {items : Array Value} (hne : l ≠ it) : ∀ (n i : Nat) (s : Shared) (Q : List Value → Shared → Prop), s.heap.IsListIter it l i → s.heap.IsList l items → i + n ≤ items.size →
    (∀ h', h'.IsListIter it l (i + n) → Heap.SameBut it s.heap h' → Q ((items.toList.drop i).take n) { s with heap := h' }) → wpAny (model prog w) A (draw (.ref it) n) Q E s
  | 0, i, s, Q, st, _, _, q => by
    show wpAny _ _ (pure []) Q E s
    exact wpAny_pure (by simpa using q s.heap st (Heap.SameBut.refl ..))
  | n + 1, i, s, Q, st, hl, le, q => by
    have lt : i < items.size := by omega
    show wpAny _ _ (pyNext (.ref it) >>= _) Q E s
    refine wpAny_bind (wpAny_pyNext_list_item st hl (x := items[i]) (by simp [lt]) fun h1 st1 sb1 => ?_)
    refine wpAny_bind (wpAny_holding (draw_L hne n (i + 1) _ _ st1 (hl.extBut sb1.extBut hne) (by omega) fun h2 st2 sb2 => wpAny_pure ?_))
    have e : items.toList.drop i = items[i] :: items.toList.drop (i + 1) := by simp [List.drop_eq_getElem_cons, lt]
    have z := q h2 (by rw [show i + (n + 1) = i + 1 + n by omega]; exact st2) (sb1.trans sb2)
    rw [e, List.take_succ_cons] at z
    exact z
theorem assign_T_list {prog : Program} {w : World} {A : Around} {E : Value → Shared → Prop} {s : Shared} {env : PySem.Env} {elts : List Expr} {x1} {pos : Pos} {t : Addr} {items : Array Value} {Q : Unit → Shared → Prop} (hh : A.handled = none) (ht : s.heap.IsList t items)
    (hn : (assignEach elts env).length = items.size) (hst : (assignEach elts env).findIdx? (·.1) = none)
    (h : ∀ h', Heap.ExtBut s.heap.objs.size s.heap h' → wpAny (model prog w) A (assignInOrder ((assignEach elts env).map (·.2)) items.toList) Q E { s with heap := h' }) :
    wpAny (model prog w) A (assign (.Tuple elts x1 pos) env (.ref t)) Q E s := by
  have ne : t ≠ s.heap.objs.size := by obtain ⟨o, ho, _⟩ := ht; exact Nat.ne_of_lt (Heap.lt_size ho)
  rw [PyProof.Rows.assign_Tuple]
  refine wpAny_bind (wpAny_standAt ?_)
  unfold unpack
  rw [hn, hst]
  refine wpAny_bind (wpAny_holding ?_)
  unfold unpackItems
  refine wpAny_bind ?_
  unfold notIterableAtAll
  refine wpAny_bind (wpAny_specialOf ht.typeIs slot_list_iter.lookup ?_)
  refine wpAny_pure ?_
  simp only [Bool.false_eq_true, if_false]
  refine wpAny_bind (wpAny_holding (wpAny_pyIter_list ht ?_))
  refine wpAny_bind (wpAny_holding (draw_L ne items.size 0 _ _ ⟨_, Heap.get?_push_size _ rfl, rfl, rfl⟩ (ht.push _) (by omega) fun h1 st1 sb1 => ?_))
  have al : List.take items.size (List.drop 0 items.toList) = items.toList := by
    rw [List.drop_zero]; exact List.take_of_length_le (by simp)
  rw [al, if_neg (by simp)]
  refine wpAny_bind (wpAny_holding (wpAny_pyNext_list_end hh st1 ((ht.push _).extBut sb1.extBut ne) (by simp) fun h2 eb2 => ?_))
  simp only [Option.isSome_none, Bool.false_eq_true, if_false]
  exact wpAny_pure (h h2 fun b o hb q => eb2 b o hb (sb1.extBut b o hb (Heap.get?_push_of_some _ q)))
def gLst (K : PySem.W.Frag) (n : Nat) (t : TGs) : TG := fun v σ H Q => ∃ a xs, v = .ref a ∧ SqL K H a xs ∧ xs.length = n ∧ t xs σ H Q
theorem pg_lst {X : Cx} {kt : Nat} {t : TGs} {n : Nat} (hc : X.calm = true) (h : PGs X es t)
    (hn : (assignEach es X.env).length = n) (hst : (assignEach es X.env).findIdx? (·.1) = none) : PG X (.Tuple es kt pos) (gLst X.K n t) := by
  intro pins s σ H v u Q I r hw
  obtain ⟨a, xs, e1, hq, hl, hw⟩ := hw
  subst e1
  cases r
  obtain ⟨its, rv, pl, hz⟩ := I.list hq
  refine assign_T_list (I.ok.hd hc) pl.isList (by simp [hn, ← hl, rv.length]) hst fun h' hx => ?_
  have I1 : Inv X pins σ H { s with heap := h' } := I.kept (t' := s.toks) fun b o e => hx b o (Nat.ne_of_lt (Heap.lt_size e)) e
  exact h pins _ σ H xs _ Q I1 (by simpa using rv) hw
theorem tg_lstN (hc : Y.X.calm = true) {kt : Nat} (h : TgsD Y es ds c c') (hn : (assignEach es Y.X.env).length = ds.length := by rfl) (hst : (assignEach es Y.X.env).findIdx? (·.1) = none := by rfl) : TgD Y (.Tuple es kt pos) (.lst ds) c c' :=
  PG.imp (pg_lst hc h hn hst) fun v σ H Q ⟨F, E, r, q⟩ => by
    obtain ⟨a, vs, rfl, hp, rs⟩ := inv_lst r
    exact ⟨a, vs, rfl, E.fh.seq hp, rs.length, F, E, rs, q⟩
/-! a, b = x, y -/
theorem swap_at {env : PySem.Env} {sc : Scope} {ts : List Expr} {v : Expr} {r : Sem (Option (List Str))} (h : env.scope = sc) (hs : ∀ env : PySem.Env, swappedStores ts v { env with scope := sc } = r) : swappedStores ts v env = r := by
  subst h
  exact hs env
theorem ss_par (S : Sc Y T k N G) (i j : Nat) {x y : Str} {px py pt pt2 : Pos} {kt k2 : Nat} (ha : ArD Y [a, b] c [d1, d2]) (hx : Y.X.env.scope.names.lookup x = some .local) (hy : Y.X.env.scope.names.lookup y = some .local)
    (hw : swappedStores [.Tuple [.Name x px, .Name y py] kt pt] (.Tuple [a, b] k2 pt2) Y.X.env = pure (some [x, y])) (hr : SsD Y rest (put (put c i (.val d1)) j (.val d2)) P) (hij : i ≠ j := by decide) (hi : N[i]? = some x := by rfl) (hj : N[j]? = some y := by rfl)
    (hlt : i < c.length := by first | exact of_decide_eq_true rfl | decide | omega) (hlt2 : j < c.length := by first | exact of_decide_eq_true rfl | decide | omega)
    (hs : swapsWithSole [.Tuple [.Name x px, .Name y py] kt pt] (.Tuple [a, b] k2 pt2) pos.line Y.X.env = pure false := by rfl) : SsD Y (.Assign [.Tuple [.Name x px, .Name y py] kt pt] (.Tuple [a, b] k2 pt2) pos :: rest) c P := by
  have hN := S.nd
  rw [← S.n] at hi hj hN
  refine ss_cons (PS.imp (ps_par S.calm hN hi hj hij hx hy ha hw hs) fun D σ H ⟨F, E, m⟩ => ⟨F, E, fun vs F' H' e' r' => ?_⟩)
  obtain ⟨v1, v2, rfl, r1, r2⟩ := inv2 r'
  exact ⟨v1, v2, rfl, m (.nx _) hr _ F' H' e'.ff (((E.grow e').set hlt r1).set (by rw [put_length]; exact hlt2) r2)⟩
/-! a list comprehension without a test -/
theorem ev_compM {tn fs G' : List Str} {ix : List Nat} {iter elt : Expr} {scope osc : Scope} {items : List D} (S : Se Y T k N G) (hsc : Y.X.env.scope = osc) (B : CmB N tn fs ix G' scope osc) (hi : ItD Y tg iter c items)
    (hlen : ds.length = items.length) (hz : ds.length ≤ 100000)
    (turn : ∀ (Y' : Cy) (S' : Se Y' T k (tn ++ fs) G'), (∀ x ∈ tn, Y'.X.env.scope.names.lookup x = some .local) → ∀ (m : Nat) (d r : D), items[m]? = some d → ds[m]? = some r → ∀ ts : List Slot, ts.length = tn.length →
      ∃ ts' : List Slot, ts'.length = tn.length ∧ ts'.all (fun s => !isOwn s) = true ∧ TgD Y' tg d (ts ++ ix.map fun i => capS (slot c i)) (ts' ++ ix.map fun i => capS (slot c i)) ∧ EvD Y' elt (ts' ++ ix.map fun i => capS (slot c i)) r)
    (hs : ∀ x, foldedSetIterable iter Y.X.env x = pure x := by intro _; rfl) : EvD Y (.ListComp elt [⟨tg, iter, [], 0⟩] scope pos) c (.lst ds) := by
  have h := ev_comp (pos := pos) (ifs := []) (elt := elt) S hsc B hi (ds.map some) (by rw [List.length_map]; exact hlen) (by rw [List.length_map]; exact hz) (fun Y' S' hl m d r hd hr ts hts => by
    rw [List.getElem?_map] at hr
    cases hq : ds[m]? with
    | none => rw [hq] at hr; cases hr
    | some q =>
      rw [hq] at hr
      cases hr
      obtain ⟨ts', h1, h2, h3, h4⟩ := turn Y' S' hl m d q hd hq ts hts
      exact ⟨ts', h1, h2, h3, rfl, h4⟩) hs
  have e : (ds.map some).filterMap id = ds := by rw [List.filterMap_map]; simp
  rw [e] at h
  exact h
theorem ev_lto {xs ys : List D} (h : EvD Y e c (.lst xs)) (he : xs = ys) : EvD Y e c (.lst ys) := he ▸ h
theorem star_T {env : PySem.Env} {es' : List Expr} {x1 : Nat} {p1 : Pos} : starEach (.Tuple es' x1 p1 :: es) env = (false, eval (.Tuple es' x1 p1) env) :: starEach es env := by rfl
/-- a written tuple among others -/
theorem ar_consT {es' : List Expr} {x1 : Nat} {p1 : Pos} (ha : EvD Y (.Tuple es' x1 p1) c d) (hr : ArD Y es c ds) : ArD Y (.Tuple es' x1 p1 :: es) c (d :: ds) := ar_cons ha hr star_T
/-! tuple(list) -/
theorem ev_tupleL (S : Se Y T k N G) (gi : Nat) {p : Pos} (ha : ArD Y [e] c [.lst ds]) (hm : T.mg "tuple" = none) (hg : G[gi]? = some ("tuple" : Str) := by rfl) (he : starEach [e] Y.X.env = (false, eval e Y.X.env) :: starEach [] Y.X.env := by rfl) : EvD Y (.Call (.Name "tuple" p) [e] [] pos) c (.tup ds) :=
  ev_callTy S gi call_tuple_of hg hm bt_tuple ha (fun vs F H Q f r q => by
    obtain ⟨v, rfl, rv⟩ := inv1 r
    obtain ⟨p, ws, rfl, hp, rs⟩ := inv_lst rv
    refine ⟨p, ws, rfl, .inl ⟨f.seq hp, fun l hl => ?_⟩⟩
    have x := Ext.new (F := F) f hl (.tup ws)
    exact q (.ref l) _ _ x (.tup (SqT.of upd_same) (rs.mono x.ff))) he rfl
/-! min(list) -/
theorem best_min (val : Nat → Int) : ∀ (l : List Int) (x : Int), (∀ i, i < (x :: l).length → val i = (x :: l).getD i 0) → ∀ m, m < (x :: l).length → val (argBest (fun i j => decide (val i < val j)) m) = ((x :: l).take (m + 1)).tail.foldl min x
  | l, x, h, 0, _ => by rw [h _ (by simp [argBest])]; rfl
  | l, x, h, m + 1, hm => by
    have ih := best_min val l x h m (by omega)
    have hm' : m < l.length := by simpa using hm
    have e : ((x :: l).take (m + 1 + 1)).tail = ((x :: l).take (m + 1)).tail ++ [l[m]] := by
      show l.take (m + 1) = l.take m ++ [l[m]]
      rw [List.take_succ, List.getElem?_eq_getElem hm']
      rfl
    have hv : val (m + 1) = l[m] := by rw [h _ hm]; simp [hm']
    rw [e, List.foldl_append, ← ih]
    show val (if decide (val (m + 1) < val (argBest _ m)) = true then m + 1 else argBest _ m) = min (val (argBest _ m)) l[m]
    rw [← hv]
    split
    · rename_i q; have : val (m + 1) < val (argBest (fun i j => decide (val i < val j)) m) := by simpa using q
      omega
    · rename_i q; have : ¬ val (m + 1) < val (argBest (fun i j => decide (val i < val j)) m) := by simpa using q
      omega
theorem call_minL {X : Cx} (hh : X.A.handled = none) : CallR X (.builtin "min") (fun xs H Q => ∃ (p : Addr) (x : Int) (l : List Int), xs = [.ref p] ∧ SqL X.K H p ((x :: l).map V.int) ∧ Q (.int (l.foldl min x)) H) := by
  intro pins s σ H xs us Q I r h
  obtain ⟨p, x, l, rfl, hp, q⟩ := h
  obtain ⟨u, rfl, ru⟩ := vals1 r
  cases (show u = Value.ref p from ru)
  obtain ⟨its, rv, pl, hz⟩ := I.list hp
  have hlt : p < s.heap.objs.size := by obtain ⟨o, n, e, _⟩ := pl; exact Heap.lt_size e
  have hl := rv.length
  have hval : ∀ i v, its.toArray[i]? = some v → ∃ t, v = Value.int ((x :: l).getD i 0) t := fun i v hv => by
    have hv : its[i]? = some v := by simpa using hv
    have hi : i < (x :: l).length := by
      have := (List.getElem?_eq_some_iff.mp hv).1
      rw [← hl, List.length_map] at this; exact this
    obtain ⟨u', hu', r'⟩ := rv.get (i := i) (x := .int (x :: l)[i]) (by rw [List.getElem?_map, List.getElem?_eq_getElem hi]; rfl)
    rw [hv] at hu'
    cases hu'
    obtain ⟨t, rfl⟩ := r'
    exact ⟨t, by rw [List.getD_eq_getElem?_getD, List.getElem?_eq_getElem hi]; rfl⟩
  have hn : its.toArray.size = (x :: l).length := by rw [List.size_toArray, ← hl, List.length_map]
  refine call_min_walk (wpAny_pyIter_list pl.isList ?_)
  refine ⟨s.heap.objs.size, _, _, _, _, _, _, rfl, Walks.list (prog := X.prog) (w := X.w) (A := X.A.in1) hh s.heap.objs.size p (Nat.ne_of_lt hlt) its.toArray, ⟨⟨_, Heap.get?_push_size _ rfl, rfl, rfl⟩, pl.isList.push _⟩, fun b hb => ?_, by rw [hn]; simp, CmpOf.ints_lt (fun i => (x :: l).getD i 0) hval, fun v h' tk hv hk => ?_⟩
  · have hb' : b = s.heap.objs.size ∨ b = p := by simpa using hb
    have hz : (s.heap.push { cls := .type "list_iterator", data := .fields #[.ref p, .int 0 0] }).objs.size = s.heap.objs.size + 1 := Heap.size_push ..
    show b < (s.heap.push _).objs.size
    rw [hz]
    rcases hb' with rfl | rfl
    · exact Nat.lt_succ_self _
    · exact Nat.lt_succ_of_lt hlt
  · obtain ⟨t, rfl⟩ := hval _ v hv
    have e := best_min (fun i => (x :: l).getD i 0) l x (fun _ _ => rfl) (its.toArray.size - 1) (by rw [hn]; simp)
    have e2 : ((x :: l).take (its.toArray.size - 1 + 1)).tail = l := by rw [hn]; simp
    rw [e2] at e
    refine ⟨.int _, H, I.kept (t' := tk) fun b o z => ?_, ⟨t, rfl⟩, ?_⟩
    · refine hk b o ?_ (Heap.get?_push_of_some _ z)
      have := Heap.lt_size z
      simp; exact Nat.ne_of_lt this
    · have e' : (x :: l).getD (argBest (fun i j => decide ((x :: l).getD i 0 < (x :: l).getD j 0)) (its.toArray.size - 1)) 0 = l.foldl min x := e
      rw [e']
      exact q
theorem reps_int {K : PySem.W.Frag} {F : Hp} : ∀ {vs : List V} {l : List Int}, Reps K F vs (l.map D.int) → vs = l.map V.int
  | _, [], r => by cases r; rfl
  | _, b :: bs, r => by
    cases r with
    | cons h t => rw [inv_int h, reps_int t]; rfl
theorem ev_minL (S : Se Y T k N G) (gi : Nat) {i : Int} {l : List Int} {p : Pos} (ha : ArD Y [e] c [.lst ((i :: l).map D.int)]) (hm : T.mg "min" = none) (hg : G[gi]? = some ("min" : Str) := by rfl) (he : starEach [e] Y.X.env = (false, eval e Y.X.env) :: starEach [] Y.X.env := by rfl) : EvD Y (.Call (.Name "min" p) [e] [] pos) c (.int (l.foldl min i)) :=
  ev_callB S gi (call_minL S.room.hd) hg hm bt_min ha (fun vs F H Q f r q => by
    obtain ⟨v, rfl, rv⟩ := inv1 r
    obtain ⟨p, ws, rfl, hp, rs⟩ := inv_lst rv
    have := reps_int rs
    subst this
    exact ⟨p, i, l, rfl, f.seq hp, q _ F H (Ext.refl f) (.int _)⟩) he rfl
/-! all -/
end
end DL

set_option Elab.async false
set_option linter.all false
set_option maxRecDepth 100000
namespace DL
open PySem
section
variable {prog : Program} {w : World} {A : Around} {E : Value → Shared → Prop} {s : Shared}
/-- the zip at z, ready: its two iterators i1 and i2 stand in the pair at U, what it handed out in the pair at V -/
structure ZipT (g : Heap) (z U V i1 i2 t1 t2 : Addr) (k : Nat) (f : Value) : Prop where
  zz : IsZip g z U V f
  uu : IsPair g U (.ref i1) (.ref i2)
  vv : ∃ a b, IsPair g V a b
  j1 : g.IsTupleIter i1 t1 k
  j2 : g.IsTupleIter i2 t2 k
/-- five places, all apart -/
structure Five (z U V i1 i2 : Addr) : Prop where
  uz : U ≠ z
  vz : V ≠ z
  az : i1 ≠ z
  bz : i2 ≠ z
  uv : U ≠ V
  ua : U ≠ i1
  ub : U ≠ i2
  va : V ≠ i1
  vb : V ≠ i2
  ab : i1 ≠ i2
end
end DL

namespace DL
open PySem L2
section
variable {Y : Cy} {T : Tx} {k : Nat} {N G : List Str} {c : List Slot} {a b : Expr} {pos : Pos} {xs ys : List D}
end
end DL

set_option Elab.async false
set_option linter.all false
set_option maxRecDepth 100000
namespace DL
open PySem L2
/-! lists of our own, that are written -/
section
variable {K : PySem.W.Frag} {F₀ H₀ F H : Hp} {σ : St} {c : List Slot} {i : Nat} {a p : Addr} {vs : List V} {ds : List D}
end
section
variable {Y : Cy} {T : Tx} {k : Nat} {N G : List Str} {c : List Slot} {a b e : Expr} {es : List Expr} {pos p1 p2 p3 : Pos} {rest : List Stmt} {P : Out → Prop} {d : D} {ds : List D} {x : Str}
/-- e makes a new list -/
def OwD (Y : Cy) (e : Expr) (c : List Slot) (ds : List D) : Prop := PE Y.X e fun σ H Q => ∃ F, EnvY Y F H σ c ∧ ∀ vs F1 H1 p, Ext F H F1 H1 → Reps Y.X.K F1 vs ds → H1 p = none → Q (.ref p) (upd H1 p (.lst vs))
/-! max(list), sum(list) -/
end
end DL

set_option Elab.async false
set_option linter.all false
set_option maxRecDepth 100000
namespace DL
open PySem L2
section
variable {Y : Cy} {T : Tx} {k : Nat} {N G : List Str} {c : List Slot} {tg iter elt : Expr} {ifs : List Expr} {pos p1 p2 : Pos} {rest : List Stmt} {P : Out → Prop} {ds items : List D} {x : Str} {tn fs G' : List Str} {ix : List Nat} {scope osc : Scope}
theorem swapC_at {env : PySem.Env} {sc : Scope} {v : Expr} {t : Option Expr} {n : Nat} {r : Sem Bool} (h : env.scope = sc) (hs : ∀ env : PySem.Env, swapsWith v t n { env with scope := sc } = r) : swapsWith v t n env = r := by
  subst h
  exact hs env
/-- x = [.. for ..]: the list is stored ahead of the comprehension's own names' end -/
theorem ss_setC (S : Sc Y T k N G) (i : Nat) (hsc : Y.X.env.scope = osc) (B : CmB N tn fs ix G' scope osc) (hi : ItD Y tg iter c items)
    (rs : List (Option D)) (hlen : rs.length = items.length) (hz : rs.length ≤ 100000)
    (turn : ∀ (Y' : Cy) (S' : Se Y' T k (tn ++ fs) G'), (∀ x ∈ tn, Y'.X.env.scope.names.lookup x = some .local) → ∀ (m : Nat) (d : D) (r : Option D), items[m]? = some d → rs[m]? = some r → ∀ ts : List Slot, ts.length = tn.length →
      ∃ ts' : List Slot, ts'.length = tn.length ∧ ts'.all (fun s => !isOwn s) = true ∧ TgD Y' tg d (ts ++ ix.map fun i => capS (slot c i)) (ts' ++ ix.map fun i => capS (slot c i)) ∧ (match r with
        | some e => TsD Y' ifs (ts' ++ ix.map fun i => capS (slot c i)) true ∧ EvD Y' elt (ts' ++ ix.map fun i => capS (slot c i)) e
        | none => TsD Y' ifs (ts' ++ ix.map fun i => capS (slot c i)) false))
    (hw : swapsWith (.ListComp elt [⟨tg, iter, ifs, 0⟩] scope p2) (some (.Name x p1)) pos.line Y.X.env = pure true)
    (hr : SsD Y rest (put c i (.val (.lst (rs.filterMap id)))) P)
    (hs : ∀ x, foldedSetIterable iter Y.X.env x = pure x := by intro _; rfl) (hix : N[i]? = some x := by rfl) (hlt : i < c.length := by first | exact of_decide_eq_true rfl | decide | omega) :
    SsD Y (.Assign [.Name x p1] (.ListComp elt [⟨tg, iter, ifs, 0⟩] scope p2) pos :: rest) c P := by
  have hx := S.loc x (List.mem_of_getElem? hix)
  have hN := S.nd
  rw [← S.n] at hix hN
  refine ss_cons fun pins s σ H D I ⟨F, E, m⟩ => ?_
  rw [exec_Assign_Name_used _ _ _ _ hw]
  refine wpAny_bind (wpAny_standAt (wpAny_bind ?_))
  rw [arm_evalThenUse_ListComp]
  refine wpAny_bind (wpAny_mono (comp_core (pos := p2) S.toSe hsc B hi rs hlen hz turn hs I E (use := some (assign (.Name x p1) Y.X.env)) (Qv := fun _ s3 => SP Y.X pins D .next s3) (fun D' C s' mm F' H' hn fp hI ex r => ?_)) (fun _ s3 q => wpAny_pure (wpAny_pure q)) fun _ _ q => q)
  have I1 : Inv Y.X pins σ H' s' := hI s'.heap (Heap.SameBut.refl ..)
  obtain ⟨o, es, ep, ho, r'⟩ := id hn
  have I2 : Inv Y.X (pins ++ [(C, o)]) σ H' s' := I1.pins_of fun q hq => by
    rcases List.mem_append.mp hq with hq | hq
    · have := I1.pin q (List.mem_append_right _ hq)
      exact this
    · have : q = (C, o) := by simpa using hq
      subst this
      exact ⟨ho, fp.1, fp.2.1, fp.2.2.1, fun v z => by rw [r'.1] at z; cases z⟩
  show wpAny _ _ (do standAt p1; bindName Y.X.env x (.ref D')) _ _ s'
  refine wpAny_bind (wpAny_standAt (wpAny_bindName (store_ok I2 hN hix hx.1 (show RelV (.ref D') (.ref D') from rfl) (fun s2 I3 => ?_) (.inl (S.fn x)))))
  have hp := I3.pin (C, o) (by simp)
  refine ⟨mm, ⟨o, es, ep, hp.1, r'⟩, fun h' hs' => ?_⟩
  have I3' : Inv Y.X pins (σ.set i (some (.ref D'))) H' s2 := I3.pins_of fun q hq => I3.pin q (List.mem_append_right _ (List.mem_append_left _ hq))
  have I4 : Inv Y.X pins (σ.set i (some (.ref D'))) H' { s2 with heap := h' } := I3'.turned (it := C) (t' := s2.toks) (fun b o hb e => (hs'.2 b hb).trans e) fp.1 fp.2.1 fp.2.2.2.1 fp.2.2.2.2.1 fp.2.2.2.2.2
  exact ⟨_, H', I4, m (.nx _) hr _ F' H' ex.ff ((E.grow ex).set hlt r)⟩
/-- .. without a test -/
theorem ss_setCM (S : Sc Y T k N G) (i : Nat) (hsc : Y.X.env.scope = osc) (B : CmB N tn fs ix G' scope osc) (hi : ItD Y tg iter c items)
    (hlen : ds.length = items.length) (hz : ds.length ≤ 100000)
    (turn : ∀ (Y' : Cy) (S' : Se Y' T k (tn ++ fs) G'), (∀ x ∈ tn, Y'.X.env.scope.names.lookup x = some .local) → ∀ (m : Nat) (d r : D), items[m]? = some d → ds[m]? = some r → ∀ ts : List Slot, ts.length = tn.length →
      ∃ ts' : List Slot, ts'.length = tn.length ∧ ts'.all (fun s => !isOwn s) = true ∧ TgD Y' tg d (ts ++ ix.map fun i => capS (slot c i)) (ts' ++ ix.map fun i => capS (slot c i)) ∧ EvD Y' elt (ts' ++ ix.map fun i => capS (slot c i)) r)
    (hw : swapsWith (.ListComp elt [⟨tg, iter, [], 0⟩] scope p2) (some (.Name x p1)) pos.line Y.X.env = pure true)
    (hr : SsD Y rest (put c i (.val (.lst ds))) P)
    (hs : ∀ x, foldedSetIterable iter Y.X.env x = pure x := by intro _; rfl) (hix : N[i]? = some x := by rfl) (hlt : i < c.length := by first | exact of_decide_eq_true rfl | decide | omega) :
    SsD Y (.Assign [.Name x p1] (.ListComp elt [⟨tg, iter, [], 0⟩] scope p2) pos :: rest) c P := by
  have e : (ds.map some).filterMap id = ds := by rw [List.filterMap_map]; simp
  refine ss_setC S i hsc B hi (ds.map some) (by rw [List.length_map]; exact hlen) (by rw [List.length_map]; exact hz) (fun Y' S' hl m d r hd hr ts hts => ?_) hw (by rw [e]; exact hr) hs hix hlt
  rw [List.getElem?_map] at hr
  cases hq : ds[m]? with
  | none => rw [hq] at hr; cases hr
  | some q =>
    rw [hq] at hr
    cases hr
    obtain ⟨ts', h1, h2, h3, h4⟩ := turn Y' S' hl m d q hd hq ts hts
    exact ⟨ts', h1, h2, h3, rfl, h4⟩
end
end DL

set_option Elab.async false
set_option linter.all false
set_option maxRecDepth 100000
namespace DL
open PySem L2
/-! ### sorted(list of whole numbers) -/
section
variable {Y : Cy} {T : Tx} {k : Nat} {N G : List Str} {c : List Slot} {e : Expr} {pos : Pos}
end
end DL

set_option Elab.async false
set_option linter.all false
set_option maxRecDepth 100000
namespace DMX
open PySem PySem.Spec PyProof.Rows L2
section
open PySem.SeqAt
open PySem.AutoSeq1 (wpAny_loadPart')
open PySem.MeetsSeq PySem.MeetsSeq2 PySem.MeetsSeq3
theorem rcGt_int (A : Around) (s : Shared) (a : Int) (t : Tok) (c : Int) (u : Tok) (prog : Program) (w : World) (E : Value → Shared → Prop) (Q : Value → Shared → Prop) (h : Q (.bool (decide (c < a))) s) :
    wpAny (model prog w) A (richCompare .Gt (.int a t) (.int c u)) Q E s :=
  (PyProof.Rows.gt_int h : wpAny (model prog w) A (compareOp .Gt (.int a t) (.int c u)) Q E s)
theorem tuple_gt_first (l b : Addr) (i j : Int) (t u : Tok) (x y : Value) (n n2 : Nat) (dd dd2 : Option Addr) (sl sl2 : Array (Option Value)) :
    Meets (Builtin.«tuple.__gt__» ⟨[.ref l, .ref b], []⟩)
      (fun A R s => s.heap.get? l = some { cls := .type "tuple", dict := dd, data := .seq #[.int i t, x] n, slots := sl } ∧ s.heap.get? b = some { cls := .type "tuple", dict := dd2, data := .seq #[.int j u, y] n2, slots := sl2 } ∧
        (i = j → EqAt A.in1 s x y true) ∧ R (.ok (.ret (.bool (decide (j < i))))) s) :=
  .of_wp fun prog w A R s h => by
    obtain ⟨hp, g, d, tk, os⟩ := s; obtain ⟨hl, hb, hq, h⟩ := h
    have f2 := AutoSeq1.sub_tuple_tuple
    wp_walk using wpAny_loadPart' hl, wpAny_loadPart' hb, wpAny_forIn_list _ (fun rest r s' => r.1 = none ∧ s' = ⟨hp, g, d, tk, os⟩ ∧ (rest = [(Value.int i t, Value.int j u), (x, y)] ∨ (i = j ∧ (rest = [(x, y)] ∨ rest = [])))) _
    case turn =>
      rintro ⟨v, v'⟩ rest r s' ⟨hr, rfl, hc⟩
      rcases hc with hc | ⟨hij, hc | hc⟩
      · injection hc with h1 h2
        injection h1 with h3 h4
        subst h3 h4
        obtain ⟨e, he, hiff⟩ := HT.eqAt_int A.in1 ⟨hp, g, d, tk, os⟩ i t j u
        refine wpAny_bind (he prog w _ _ ?_)
        cases e with
        | true =>
          wp_walk
          exact ⟨rfl, rfl, .inr ⟨hiff.mp rfl, .inl h2⟩⟩
        | false =>
          have hri := rcGt_int A.in1 ⟨hp, g, d, tk, os⟩ i t j u prog w
          wp_walk using hri
          exact ⟨_, rfl, by simpa using h⟩
      · injection hc with h1 h2
        injection h1 with h3 h4
        subst h3 h4
        refine wpAny_bind (hq hij prog w _ _ ?_)
        wp_walk
        exact ⟨rfl, rfl, .inr ⟨hij, .inr h2⟩⟩
      · cases hc
    case fin =>
      rintro ⟨r1, r2⟩ s' ⟨hr, rfl, hc⟩
      simp only at hr
      subst hr
      have hij : i = j := by
        rcases hc with hc | ⟨hij, _⟩
        · cases hc
        · exact hij
      have e : decide (j < i) = false := decide_eq_false (by omega)
      rw [e] at h
      wp_walk
      exact ⟨_, rfl, by simpa [Builtin.Tuple.tupleCompareSizes] using h⟩
    case h =>
      exact ⟨rfl, rfl, .inl rfl⟩
theorem gt_first {prog : Program} {w : World} {A : Around} {E : Value → Shared → Prop} {s : Shared} {l b : Addr} {i j : Int} {t u : Tok} {x y : Value} {Q : Value → Shared → Prop} (hl : IsTup s.heap l #[.int i t, x]) (hb : IsTup s.heap b #[.int j u, y])
    (hq : i = j → EqAt A.in1 s x y true) (hu : A.units < cLine) (h : Q (.bool (decide (j < i))) s) : wpAny (model prog w) A (richCompare .Gt (.ref l) (.ref b)) Q E s := by
  obtain ⟨⟨cls, dd, data, sl⟩, ho, hc, n, hd⟩ := id hl
  obtain ⟨⟨cls2, dd2, data2, sl2⟩, ho2, hc2, n2, hd2⟩ := id hb
  simp only at hc hd hc2 hd2
  subst hc hd hc2 hd2
  exact richCompare_meets_room (op := .Gt) ⟨_, ho, rfl⟩ ⟨_, ho2, rfl⟩ PySem.F.slot_tuple_gt PySem.F.entry_tuple_gt (PySem.F.args_tuple_gt_2 _ _) (tuple_gt_first l b i j t u x y n n2 dd dd2 sl sl2)
    ⟨ho, ho2, hq, show Value.bool (decide (j < i)) ≠ Value.notImplemented ∧ Q (.bool (decide (j < i))) s from ⟨(fun x => nomatch x), h⟩⟩ hu
end
end DMX
namespace DL
open PySem L2
/-! ### max of a list of tuples (whole number, thing): two of them have unlike first numbers, or are alike -/
/-- what lay there lies there -/
def Up (h₀ h : Heap) : Prop := ∀ b o, h₀.get? b = some o → h.get? b = some o
theorem Up.step {h₀ h h' : Heap} {wr : List Addr} (k : Up h₀ h) (fw : ∀ b ∈ wr, h₀.get? b = none) (m : ∀ b o, b ∉ wr → h.get? b = some o → h'.get? b = some o) : Up h₀ h' := fun b o e => m b o (fun z => by rw [fw b z] at e; cases e) (k b o e)
theorem Up.upd {h₀ h : Heap} {S : Addr} {f : Obj → Obj} (k : Up h₀ h) (fS : h₀.get? S = none) : Up h₀ (h.update S f) := fun b o e => by
  have ne : S ≠ b := fun z => by rw [z, e] at fS; cases fS
  exact (Heap.get?_update_other _ _ ne).trans (k b o e)
/-- a comparison that reads what lay there -/
def CmpUp (prog : Program) (w : World) (A : Around) (P : Nat → Value → Prop) (bt : Nat → Nat → Bool) (h₀ : Heap) : Prop :=
  ∀ (i j : Nat) (x y : Value) (z : Shared) (Q : Value → Shared → Prop) (E : Value → Shared → Prop), Up h₀ z.heap → P i x → P j y → Q (.bool (bt i j)) z → wpAny (model prog w) A (richCompare .Gt x y) Q E z
section
variable {prog : Program} {w : World} {A : Around} {R : Result → Shared → Prop} {it S : Addr} {fp wr : List Addr} {n : Nat} {P : Nat → Value → Prop} {St : Nat → Heap → Prop} {bt : Nat → Nat → Bool} {h₀ : Heap}
theorem mx_name : (toString "max" ++ toString ".loop" : String) = "max.loop" := by decide
theorem mx_loop (V : Walks prog w A.in1 it fp wr n P St) (cu : CmpUp prog w A.in1 P bt h₀) (nS : S ∉ fp) (fw : ∀ b ∈ wr, h₀.get? b = none) (fS : h₀.get? S = none) :
    ∀ (f j : Nat) (z : Shared) (best : Value) (ep : Nat), n = j + 1 + f → St (j + 1) z.heap → P (argBest bt j) best → Up h₀ z.heap →
    z.heap.get? S = some { cls := .type "list", dict := none, data := .seq #[best, best] ep, slots := #[] } →
    (∀ v h' tk, P (argBest bt (n - 1)) v → Up h₀ h' → R (.ok (.ret v)) { z with heap := h', toks := tk }) →
    codeAny (model prog w) A (.builtin "max.loop" ⟨[.ref it, .none, .ref S], []⟩) R z := by
  have sw : S ∉ wr := fun q => nS (V.sub _ q)
  intro f
  induction f with
  | zero =>
    intro j z best ep ej st pb up oS goal
    have ej : j + 1 = n := by omega
    refine codeAny_builtin F.entry_max_loop ?_
    rw [Around.under_plainId F.plain_max_loop _]
    show wpAny _ A.in1 (seqItems? (.ref S) >>= _) _ _ z
    refine wpAny_bind (wpAny_seqItems oS rfl ?_)
    show wpAny _ A.in1 (tryCatch (pyNext (.ref it)) _ >>= _) _ _ z
    refine wpAny_bind (wpAny_tryCatch (V.done z _ _ (ej ▸ st) fun h1 tk1 keep => ?_))
    have oS1 := keep S _ sw oS
    show wpAny _ A.in1 (updateSeq S (fun _ => #[]) >>= _) _ _ _
    refine wpAny_bind (wpAny_updateSeq oS1 rfl (wpAny_bind (wpAny_letGo (wpAny_pure ?_))))
    exact goal best _ tk1 (by rw [← ej]; exact pb) ((up.step fw keep).upd fS)
  | succ f ih =>
    intro j z best ep ej st pb up oS goal
    have lt : j + 1 < n := by omega
    refine codeAny_builtin F.entry_max_loop ?_
    rw [Around.under_plainId F.plain_max_loop _]
    show wpAny _ A.in1 (seqItems? (.ref S) >>= _) _ _ z
    refine wpAny_bind (wpAny_seqItems oS rfl ?_)
    show wpAny _ A.in1 (tryCatch (pyNext (.ref it)) _ >>= _) _ _ z
    refine wpAny_bind (wpAny_tryCatch (V.item (j + 1) z _ _ lt st fun x h1 tk1 px st1 keep => ?_))
    have oS1 := keep S _ sw oS
    have up1 := up.step fw keep
    show wpAny _ A.in1 (tryCatch (holding [x, x] (richCompare .Gt x best >>= _)) _ >>= _) _ _ _
    refine wpAny_bind (wpAny_tryCatch (wpAny_holding (wpAny_bind (cu (j + 1) (argBest bt j) x best _ _ _ up1 px pb ?_))))
    refine wpAny_bind (wpAny_holding (wpAny_truthy_bool (wpAny_bind (wpAny_letGo (wpAny_pure ?_)))))
    cases hb : bt (j + 1) (argBest bt j) with
    | true =>
      simp only [if_true]
      refine wpAny_bind (wpAny_updateSeq oS1 rfl (wpAny_bind (wpAny_letGo ?_)))
      rw [mx_name]
      refine wpAny_pure ⟨plainId_quiet F.plain_max_loop _, ih (j + 1) _ x _ (by omega) (V.frame _ _ _ st1 fun b hbf o e => ?_) (by simp only [argBest, hb, if_true]; exact px) (up1.upd fS) (Heap.get?_update_self _ oS1 rfl) fun v h2 tk2 pv up2 => goal v h2 tk2 pv up2⟩
      have ne : S ≠ b := fun q => nS (by rw [q]; exact hbf)
      exact (Heap.get?_update_other _ _ ne).trans e
    | false =>
      simp only [Bool.false_eq_true, if_false]
      refine wpAny_bind (wpAny_letGo ?_)
      rw [mx_name]
      exact wpAny_pure ⟨plainId_quiet F.plain_max_loop _, ih (j + 1) _ best ep (by omega) st1 (by simp only [argBest, hb, Bool.false_eq_true, if_false]; exact pb) up1 oS1 fun v h2 tk2 pv up2 => goal v h2 tk2 pv up2⟩
theorem mx_first (V : Walks prog w A.in1 it fp wr n P St) (cu : CmpUp prog w A.in1 P bt h₀) (nS : S ∉ fp) (fw : ∀ b ∈ wr, h₀.get? b = none) (fS : h₀.get? S = none) (n0 : 0 < n) {z : Shared} {ep : Nat} (st : St 0 z.heap) (up : Up h₀ z.heap)
    (oS : z.heap.get? S = some { cls := .type "list", dict := none, data := .seq #[] ep, slots := #[] })
    (goal : ∀ v h' tk, P (argBest bt (n - 1)) v → Up h₀ h' → R (.ok (.ret v)) { z with heap := h', toks := tk }) :
    codeAny (model prog w) A (.builtin "max.loop" ⟨[.ref it, .none, .ref S], []⟩) R z := by
  have sw : S ∉ wr := fun q => nS (V.sub _ q)
  refine codeAny_builtin F.entry_max_loop ?_
  rw [Around.under_plainId F.plain_max_loop _]
  show wpAny _ A.in1 (seqItems? (.ref S) >>= _) _ _ z
  refine wpAny_bind (wpAny_seqItems oS rfl ?_)
  show wpAny _ A.in1 (tryCatch (pyNext (.ref it)) _ >>= _) _ _ z
  refine wpAny_bind (wpAny_tryCatch (V.item 0 z _ _ n0 st fun x h1 tk1 px st1 keep => ?_))
  have oS1 := keep S _ sw oS
  show wpAny _ A.in1 (updateSeq S (fun _ => #[x, x]) >>= _) _ _ _
  refine wpAny_bind (wpAny_updateSeq oS1 rfl ?_)
  rw [mx_name]
  refine wpAny_pure ⟨plainId_quiet F.plain_max_loop _, mx_loop V cu nS fw fS (n - 1) 0 _ x _ (by omega) (V.frame _ _ _ st1 fun b hbf o e => ?_) px ((up.step fw keep).upd fS) (Heap.get?_update_self _ oS1 rfl) fun v h2 tk2 pv up2 => goal v h2 tk2 pv up2⟩
  have ne : S ≠ b := fun q => nS (by rw [q]; exact hbf)
  exact (Heap.get?_update_other _ _ ne).trans e
end
abbrev pairD (s : Int × D) : D := .tup [.int s.1, s.2]
section
variable {Y : Cy} {T : Tx} {k : Nat} {N G : List Str} {c : List Slot} {e : Expr} {pos : Pos}
end
end DL

set_option Elab.async false
set_option linter.all false
set_option maxRecDepth 100000
namespace DL
open PySem L2
/-! ### texts -/
def tx (l : List Nat) : Str := ⟨l.toArray⟩
section
variable {Y : Cy} {T : Tx} {k : Nat} {N G : List Str} {c : List Slot} {a b e : Expr} {es : List Expr} {pos p2 : Pos} {d d1 d2 : D} {ds : List D} {x y : Str} {P : Out → Prop} {rest : List Stmt}
theorem te_eqS (ha : EvD Y a c (.str x)) (hb : EvD Y b c (.str y)) : TeD Y (.Compare a [.Eq] [b] pos) c (x == y) :=
  te_cmp op_eq (nomark _) ha hb fun u v F H Q f rx ry q => by
    rw [inv_str rx, inv_str ry]
    refine ⟨rfl, ?_⟩
    rw [dec_str]
    exact q F H (Ext.refl f)
theorem te_neS (ha : EvD Y a c (.str x)) (hb : EvD Y b c (.str y)) : TeD Y (.Compare a [.NotEq] [b] pos) c (!(x == y)) :=
  te_cmp op_ne (nomark _) ha hb fun u v F H Q f rx ry q => by
    rw [inv_str rx, inv_str ry]
    refine ⟨rfl, ?_⟩
    rw [dec_str]
    exact q F H (Ext.refl f)
theorem ev_eqS (ha : EvD Y a c (.str x)) (hb : EvD Y b c (.str y)) : EvD Y (.Compare a [.Eq] [b] pos) c (.bl (x == y)) :=
  ev_op2 (t := tC .non) (ta := tC .non) (tb := tC .non) (pe_cmpR op_eq ha hb (nomark _)) fun u v F H Q f rx ry q => by
    rw [inv_str rx, inv_str ry]
    refine ⟨rfl, ?_⟩
    rw [dec_str]
    exact q _ F H (Ext.refl f) (.bl _)
/-! f-strings -/
inductive FvK | int (i : Int) | str (x : Str) | rep (x : Str)
end
end DL

set_option Elab.async false
set_option linter.all false
set_option maxRecDepth 100000
namespace DL
open PySem L2
/-! ### n.bit_length() -/
def bits (a : Int) : Nat := Builtin.Int.intBits a
section
variable {Y : Cy} {c : List Slot} {a : Expr} {pos apos : Pos}
end
end DL

set_option Elab.async false
set_option linter.all false
set_option maxRecDepth 100000
/-! ### sorted(list of spots): the order is told by the spots alone -/
namespace DGX
open PySem PySem.Spec PySem.W PyProof.Rows
/-- how a sort goes if the answers are these -/
def runP {α : Type} (lt : Nat → Nat → Bool) : KasT α → α
  | .ret a => a
  | .ask i j k => runP lt (k (lt i j))
def AskOk {α : Type} (n : Nat) : KasT α → (α → Prop) → Prop
  | .ret a, R => R a
  | .ask i j k, R => i < n ∧ j < n ∧ ∀ b, AskOk n (k b) R
theorem ask_bind {α β : Type} {n : Nat} {f : α → KasT β} {R : β → Prop} {R' : α → Prop} (hf : ∀ a, R' a → AskOk n (f a) R) : ∀ t : KasT α, AskOk n t R' → AskOk n (t.bind f) R
  | .ret a, h => hf a h
  | .ask i j k, h => ⟨h.1, h.2.1, fun b => ask_bind hf (k b) (h.2.2 b)⟩
theorem runP_ok {α : Type} {n : Nat} {lt : Nat → Nat → Bool} {R : α → Prop} : ∀ t : KasT α, AskOk n t R → R (runP lt t)
  | .ret _, h => h
  | .ask i j k, h => runP_ok (k (lt i j)) (h.2.2 _)
theorem run_wp {α : Type} {n : Nat} {lt : Nat → Nat → Bool} {R : α → Prop} {cmp : Nat → Nat → (Bool → Shared → Prop) → Shared → Prop} {G : α → Shared → Prop} {z : Shared} (hc : ∀ i j C, i < n → j < n → C (lt i j) z → cmp i j C z) :
    ∀ t : KasT α, AskOk n t R → G (runP lt t) z → t.kasWp cmp G z
  | .ret _, _, g => g
  | .ask i j k, h, g => hc i j _ h.1 h.2.1 (run_wp hc (k (lt i j)) (h.2.2 _) g)
def Gd (n : Nat) (p : Array Nat) : Prop := p.Perm (List.toArray (List.range n))
section
variable {n : Nat} {p : Array Nat}
theorem Gd.lt (h : Gd n p) (n0 : 0 < n) (x : Nat) : p.getD x 0 < n := by
  by_cases hx : x < p.size
  · have e : p.getD x 0 = p[x] := by simp [Array.getD, hx]
    have m : p[x] ∈ List.toArray (List.range n) := h.mem_iff.mp (Array.getElem_mem hx)
    rw [e]
    simpa using m
  · have e : p.getD x 0 = 0 := by simp [Array.getD, hx]
    omega
theorem Gd.rev (h : Gd n p) (i j : Nat) : Gd n (kas_rev p i j) := (foldl_swaps_perm _ _ _ _).trans h
theorem Gd.bub (h : Gd n p) (i j : Nat) : Gd n (bubble p i j) := (bubble_perm _ _ _).trans h
theorem ok_asc (h : Gd n p) (n0 : 0 < n) : ∀ f m, AskOk n (kas_asc p f m) (fun _ => True)
  | 0, _ => trivial
  | f + 1, m => ⟨h.lt n0 _, h.lt n0 _, fun b => by
    cases b with
    | true => exact trivial
    | false => exact ok_asc h n0 f (m + 1)⟩
theorem ok_desc (n0 : 0 < n) : ∀ (f : Nat) (p : Array Nat) (m q : Nat), Gd n p → AskOk n (kas_desc f p m q) (fun r => Gd n r.1)
  | 0, _, _, _, h => h
  | f + 1, p, m, q, h => ⟨h.lt n0 _, h.lt n0 _, fun b => by
    cases b with
    | true =>
      show AskOk n (if q > 0 then kas_desc f (kas_rev p (m - (q + 1)) m) (m + 1) 0 else kas_desc f p (m + 1) 0) _
      split
      · exact ok_desc n0 f _ _ _ (h.rev _ _)
      · exact ok_desc n0 f _ _ _ h
    | false =>
      refine ⟨h.lt n0 _, h.lt n0 _, fun d => ?_⟩
      cases d with
      | true => exact h
      | false => exact ok_desc n0 f _ _ _ h⟩
theorem ok_tail3 (h : Gd n p) (n0 : 0 < n) (m r : Nat) : AskOk n (kas_tail3 m r p) (fun x => Gd n x.2) := by
  unfold kas_tail3
  refine ask_bind (R' := fun _ => True) (fun x _ => ?_) _ (ok_asc (h.rev 0 m) n0 _ _)
  exact h.rev 0 m
theorem ok_descPart (h : Gd n p) (n0 : 0 < n) (m r : Nat) : AskOk n (kas_descPart m r p) (fun x => Gd n x.2) :=
  ask_bind (R' := fun x => Gd n x.1) (fun x hx => by
    split
    · exact ok_tail3 (hx.rev _ _) n0 _ _
    · exact ok_tail3 hx n0 _ _) _ (ok_desc n0 _ _ _ _ h)
theorem ok_count (h : Gd n p) (n0 : 0 < n) (r : Nat) : AskOk n (kas_count r p) (fun x => Gd n x.2) :=
  ask_bind (R' := fun _ => True) (fun m _ => by
    split
    · exact h
    · split
      · refine ⟨h.lt n0 _, h.lt n0 _, fun b => ?_⟩
        cases b with
        | true => exact h
        | false => exact ok_descPart (h.rev _ _) n0 _ _
      · exact ok_descPart h n0 _ _) _ (ok_asc h n0 _ _)
theorem ok_place (h : Gd n p) (n0 : 0 < n) (k : Nat) : ∀ f l r, AskOk n (kas_place p k f l r) (fun _ => True)
  | 0, _, _ => trivial
  | f + 1, l, r => by
    unfold kas_place
    split
    · exact trivial
    · refine ⟨h.lt n0 _, h.lt n0 _, fun b => ?_⟩
      cases b with
      | true => exact ok_place h n0 k f _ _
      | false => exact ok_place h n0 k f _ _
theorem ok_bin (n0 : 0 < n) : ∀ (f : Nat) (p : Array Nat) (k : Nat), Gd n p → AskOk n (kas_bin f p k) (Gd n)
  | 0, _, _, h => h
  | f + 1, p, k, h => ask_bind (R' := fun _ => True) (fun l _ => ok_bin n0 f _ _ (h.bub _ _)) _ (ok_place h n0 k _ _ _)
theorem ok_sort (n0 : 0 < n) : AskOk n (kas_sort n) (Gd n) :=
  ask_bind (R' := fun x => Gd n x.2) (fun x hx => by
    split
    · exact ok_bin n0 _ _ _ hx
    · exact hx) _ (ok_count (Array.Perm.refl _) n0 n)
end
/-- the places in their order -/
def ord (n : Nat) (lt : Nat → Nat → Bool) : List Nat := (runP lt (kas_sort n)).toList
theorem ord_ok {n : Nat} (n0 : 0 < n) (lt : Nat → Nat → Bool) : (ord n lt).length = n ∧ ∀ i ∈ ord n lt, i < n := by
  have g := runP_ok (lt := lt) _ (ok_sort n0)
  refine ⟨?_, fun i hi => ?_⟩
  · have := g.size_eq
    simpa [ord] using this
  · have m : i ∈ runP lt (kas_sort n) := by simpa [ord] using hi
    have := g.mem_iff.mp m
    simpa using this
/-- but for one place -/
def But (a : Addr) (h h' : Heap) : Prop := ∀ b o, b ≠ a → h.get? b = some o → h'.get? b = some o
section
variable {prog : Program} {w : World} {A : Around} {E : Value → Shared → Prop} {s : Shared}
theorem srt_tree {a : Addr} {vs : List Value} {ep : Nat} {P : PySem.Fin → Shared → Prop} {κ : SortKind} {lt : Nat → Nat → Bool} (ho : s.heap.get? a = some (seqObj "list" vs.toArray ep)) (h2 : 2 ≤ vs.length) (h64 : vs.length < 64)
    (hk : ∀ (z : Shared) (Q : SortKind → Shared → Prop), But a s.heap z.heap → Q κ z → wpAny (model prog w) A (keyKind' vs.toArray) Q E z)
    (hc : ∀ (z : Shared) (i j : Nat) (C : Bool → Shared → Prop), But a s.heap z.heap → i < vs.length → j < vs.length → C (lt i j) z → wpAny (model prog w) A (keyLt' κ (vs.getD i Value.none) (vs.getD j Value.none)) C (fun _ _ => False) z)
    (done : P (.done (.ret .none)) { s with heap := sortedHeap s.heap a vs (List.toArray ((ord vs.length lt).map fun i => vs.getD i Value.none)) }) :
    wpAny (model prog w) A (Builtin.«list.sort» ⟨[.ref a], []⟩) P E s := by
  have la : a < s.heap.objs.size := Heap.lt_size ho
  have z64 : (64 : Nat) ≤ sizeLine := by rw [sizeLine_eq]; omega
  have sv : vs.toArray.size = vs.length := List.size_toArray ..
  obtain ⟨e1, o1⟩ : ∃ e1, (s.heap.update a (Obj.mapSeq fun _ => (#[] : Array Value))).get? a = some (seqObj "list" #[] e1) := ⟨_, get?_update_seq ho fun _ => #[]⟩
  rw [list_sort_plain]
  refine wpAny_bind (listItems_at ho rfl (wpAny_bind (listUpdate_at ho rfl ?_ (by rw [sv]; omega) (Nat.zero_le _))))
  refine wpAny_bind (seqEpoch_at o1 rfl (wpAny_bind (wpAny_newTuple ?_ (by show vs.length ≤ _; omega))))
  refine wpAny_bind (wpAny_newList (wpAny_holding ?_) (Nat.zero_le _))
  have o6 : (((s.heap.update a (Obj.mapSeq fun _ => (#[] : Array Value))).push (seqObj "tuple" vs.toArray 0)).push (seqObj "list" #[] 0)).get? a = some (seqObj "list" #[] e1) :=
    Heap.get?_push_of_some _ (Heap.get?_push_of_some _ o1)
  have bt : But a s.heap (((s.heap.update a (Obj.mapSeq fun _ => (#[] : Array Value))).push (seqObj "tuple" vs.toArray 0)).push (seqObj "list" #[] 0)) := fun b o hb e =>
    Heap.get?_push_of_some _ (Heap.get?_push_of_some _ ((Heap.get?_update_other _ _ (Ne.symm hb)).trans e))
  show wpAny (model prog w) A _ P E { s with heap := ((s.heap.update a (Obj.mapSeq fun _ => (#[] : Array Value))).push (seqObj "tuple" vs.toArray 0)).push (seqObj "list" #[] 0) }
  dsimp only
  have n2 : ¬ vs.toArray.size < 2 := by rw [sv]; omega
  rw [if_neg n2, if_neg n2]
  refine wpAny_bind (hk { s with heap := ((s.heap.update a (Obj.mapSeq fun _ => (#[] : Array Value))).push (seqObj "tuple" vs.toArray 0)).push (seqObj "list" #[] 0) } _ bt ?_)
  refine wpAny_bind (wpAny_mono (kat_run (κ := κ) (ks := vs) (vs := vs) (G := fun p z => p = runP lt (kas_sort vs.length) ∧ z = { s with heap := ((s.heap.update a (Obj.mapSeq fun _ => (#[] : Array Value))).push (seqObj "tuple" vs.toArray 0)).push (seqObj "list" #[] 0) })
    (Q := fun st z => (arrOf st).map (·.2) = List.toArray ((ord vs.length lt).map fun i => vs.getD i Value.none) ∧ failedOf st = none ∧ z = { s with heap := ((s.heap.update a (Obj.mapSeq fun _ => (#[] : Array Value))).push (seqObj "tuple" vs.toArray 0)).push (seqObj "list" #[] 0) })
    rfl h2 h64 (fun q st z _ har hf hg => ?_) ?_) ?_ fun _ _ e => e)
  · obtain ⟨rfl, rfl⟩ := hg
    exact ⟨kat_snds rfl har, hf, rfl⟩
  · exact run_wp (fun i j C hi hj hC => hc _ i j C bt hi hj hC) _ (ok_sort (by omega)) ⟨rfl, rfl⟩
  · rintro ⟨⟨⟩, st⟩ z ⟨hout, hf, rfl⟩
    dsimp only
    rw [hout]
    have so : (List.toArray ((ord vs.length lt).map fun i => vs.getD i Value.none)).size = vs.length := by rw [List.size_toArray, List.length_map]; exact (ord_ok (by omega) lt).1
    refine wpAny_bind (seqEpoch_at o6 rfl (wpAny_bind (listUpdate_at o6 rfl ?_ (Nat.zero_le _) (by rw [so]; omega))))
    rw [hf]
    simp only [bne_self_eq_false, Bool.false_eq_true, if_false]
    exact wpAny_pure done
theorem srt_call {l : Addr} {vs : List Value} {Q : Value → Shared → Prop} {κ : SortKind} {lt : Nat → Nat → Bool} (hl : s.heap.IsList l vs.toArray) (h2 : 2 ≤ vs.length) (h64 : vs.length < 64)
    (hk : ∀ (z : Shared) (Q : SortKind → Shared → Prop), (∀ b o, s.heap.get? b = some o → z.heap.get? b = some o) → Q κ z → ∀ E, wpAny (model prog w) A.in1.in1 (keyKind' vs.toArray) Q E z)
    (hc : ∀ (z : Shared) (i j : Nat) (C : Bool → Shared → Prop), (∀ b o, s.heap.get? b = some o → z.heap.get? b = some o) → i < vs.length → j < vs.length → C (lt i j) z → wpAny (model prog w) A.in1.in1 (keyLt' κ (vs.getD i Value.none) (vs.getD j Value.none)) C (fun _ _ => False) z)
    (done : Q (.ref (s.heap.objs.size + 1)) { s with heap := sortedAll s.heap vs (List.toArray ((ord vs.length lt).map fun i => vs.getD i Value.none)) }) :
    wpAny (model prog w) A (call (.builtin "sorted") [.ref l]) Q E s := by
  have z64 : (64 : Nat) ≤ sizeLine := by rw [sizeLine_eq]; omega
  refine Calls.call_function_entry kind_sorted plain_sorted entry_sorted (args_sorted1 _) ?_
  unfold Builtin.«sorted»
  refine wpAny_bind (m := checkCount "sorted" 1 1 _) (wpAny_pure (wpAny_bind (collect_list hl ?_ (by omega))))
  refine wpAny_bind (wpAny_newList ?_ (by omega))
  have z1 : ((s.heap.push (seqObj "list" #[] 0)).update s.heap.objs.size (Obj.mapSeq (· ++ vs.toArray))).objs.size = s.heap.objs.size + 1 := by rw [Heap.size_update, size_push']
  have oN : (((s.heap.push (seqObj "list" #[] 0)).update s.heap.objs.size (Obj.mapSeq (· ++ vs.toArray))).push (seqObj "list" vs.toArray 0)).get? (s.heap.objs.size + 1) = some (seqObj "list" vs.toArray 0) := by
    rw [← z1]
    exact Heap.get?_push_size _ rfl
  have up : ∀ b o, s.heap.get? b = some o → b ≠ s.heap.objs.size + 1 ∧ (((s.heap.push (seqObj "list" #[] 0)).update s.heap.objs.size (Obj.mapSeq (· ++ vs.toArray))).push (seqObj "list" vs.toArray 0)).get? b = some o := fun b o e => by
    have hlt : b < s.heap.objs.size := Heap.lt_size e
    exact ⟨Nat.ne_of_lt (Nat.lt_succ_of_lt hlt), Heap.get?_push_of_some _ ((Heap.get?_update_other _ _ (Ne.symm (Nat.ne_of_lt hlt))).trans (Heap.get?_push_of_some _ e))⟩
  show wpAny _ _ _ _ _ { s with heap := ((s.heap.push (seqObj "list" #[] 0)).update s.heap.objs.size (Obj.mapSeq (· ++ vs.toArray))).push (seqObj "list" vs.toArray 0) }
  rw [z1]
  refine wpAny_bind (wpAny_holding (wpAny_call_entry slot_list_sort ⟨_, oN, rfl⟩ entry_list_sort (srt_tree (κ := κ) (lt := lt) oN h2 h64 (fun z Q' bt q => hk z Q' (fun b o e => bt b o (up b o e).1 (up b o e).2) q _) (fun z i j C bt hi hj hC => hc z i j C (fun b o e => bt b o (up b o e).1 (up b o e).2) hi hj hC) ⟨_, rfl, ?_⟩) (args_list_sort _)))
  exact wpAny_pure ⟨_, rfl, done⟩
end
end DGX

set_option Elab.async false
set_option linter.all false
set_option maxRecDepth 100000
namespace DL
open PySem L2
/-! ### a def that hands back a list of its own -/
def spO (K : PySem.W.Frag) (R : List D → List D → Prop) : Sp := fun vs H Q _ => ∃ F ds l, Same F H ∧ Reps K F vs ds ∧ R ds l ∧ ∀ ws F' H' p, Ext F H F' H' → Reps K F' ws l → H' p = none → Q (.ref p) (upd H' p (.lst ws))
structure FnO (T : Tx) (k : Nat) (x : Str) (R : List D → List D → Prop) : Prop where
  ex : ∃ (f : Addr) (fd : FuncData) (ps : List Str), T.mg x = some (.ref f) ∧ PySem.W.keepIn T.K (.ref f) = true ∧ Binds T.K fd ps [] ∧ FnOk T.prog T.w T.K T.mg T.base CX0 k f fd ps (spO T.K R)
def RetO (l : List D) : Out → Prop
  | .ro e => e = l
  | _ => False
section
variable {Y : Cy} {T : Tx} {k j : Nat} {N G ps : List Str} {c : List Slot} {e : Expr} {es : List Expr} {pos p : Pos} {d : D} {ds l : List D} {R : List D → List D → Prop} {x qual : Str} {P : Out → Prop} {rest : List Stmt}
theorem ow_call (S : Se Y T k N G) (gi : Nat) (Fn : FnO T j x R) (hj : j ≤ k) (ha : ArD Y (e :: es) c ds) (hR : R ds l) (hg : G[gi]? = some x := by rfl)
    (he : starEach (e :: es) Y.X.env = (false, eval e Y.X.env) :: starEach es Y.X.env := by rfl) (hpl : (backTo pos (starEach es Y.X.env)).any (·.1) = false := by rfl) : OwD Y (.Call (.Name x p) (e :: es) [] pos) c l := by
  obtain ⟨f, fd, ps, hm, hk, hb, F⟩ := Fn.ex
  have F' : FnOk Y.X.prog Y.X.w Y.X.K Y.X.mg Y.X.base CX0 j f fd ps (spO Y.X.K R) := by rw [S.eP, S.eW, S.eK, S.eM, S.eB]; exact F
  have gl := S.gl x (List.mem_of_getElem? hg)
  refine PE.imp (pe_call F' (S.room.mono hj) gl.1 (by rw [S.eM]; exact hm) (by rw [S.eK]; exact hk) (by rw [S.eK]; exact hb) .nil pass0 ha gl.2.1 he hpl) fun σ H Q ⟨F, E, q⟩ => ⟨F, E, fun vs F1 H1 e1 r1 => ?_⟩
  show spO Y.X.K R (vs ++ []) H1 Q E0
  rw [List.append_nil]
  exact ⟨F1, ds, l, e1.fh, r1, hR, fun ws F2 H2 p e2 r2 hn => q ws F2 H2 p (e1.trans e2) r2 hn⟩
theorem ss_retO (h : OwD Y e c ds) (hp : P (.ro ds)) : SsD Y (.Return (some e) pos :: rest) c P :=
  ss_cons (PS.imp (ps_ret h) fun D σ H ⟨F, E, m⟩ => ⟨F, E, fun vs F1 H1 p x r hn => m (.ro ds) hp vs F1 H1 p x.ff (E.ext.trans x) r hn⟩)
theorem fn_O {st : Stmt} (A : At T x st) (B : ScB N ps G (defScope st)) (hb : ∀ f fd, Fun T.K x x st f fd → Binds T.K fd ps []) (hlen : ∀ ds l, R ds l → ds.length = ps.length)
    (body : ∀ (Y : Cy) (S : Sc Y T k N G) (Z : Fx Y st) (ds l : List D), R ds l → SsD Y (defBody st) (ctx0 N ds) (RetO l)) : FnO T (k + 1) x R := by
  obtain ⟨f, fd, F, hm⟩ := A
  refine ⟨f, fd, ps, hm, F.kp, hb f fd F, ?_⟩
  refine F.ok B.fs (fun vs H Q E h => ?_) fun cdv A outer s H vs Q E hr h => ?_
  · obtain ⟨F0, ds, l, _, r, hR, _⟩ := h
    rw [r.length]; exact hlen ds l hR
  · obtain ⟨F0, ds, l, f0, r, hR, q⟩ := h
    have S : Sc ⟨(cxOf CX0 T.prog T.w T.K T.mg T.base N x (defScope st) f cdv A outer s H E).nox, F0, H⟩ T k N G :=
      ⟨⟨⟨rfl, rfl, rfl, rfl, rfl, rfl, B.fs.nd, B.loc, B.gl⟩, rfl, hr⟩, fun _ => rfl, PassesOwn.never⟩
    refine ⟨_, body _ S ⟨rfl, rfl, rfl, rfl⟩ ds l hR, F0, env_start f0 r, fun o ho => ?_⟩
    cases o with
    | ro e => cases ho; exact fun vs F' H' p _ x r' hn => q vs F' H' p x r' hn
    | rt e => exact False.elim ho
    | nx c => exact False.elim ho
    | bk c => exact False.elim ho
    | ct c => exact False.elim ho
    | rs R => exact False.elim ho
/-- a new list, never written -/
theorem ev_ow (h : OwD Y e c ds) : EvD Y e c (.lst ds) := PE.imp h fun σ H Q ⟨F, E, q⟩ => ⟨F, E, fun vs F1 H1 p e1 r1 hn => by
  have x := Ext.new e1.fh hn (.lst vs)
  exact q (.ref p) _ _ (e1.trans x) (.lst (SqL.of upd_same) (r1.mono x.ff))⟩
theorem ow_callB (S : Se Y T k N G) (gi : Nat) {id : String} {x : Str} {p : Pos} {r : List V → Hp → VK → Prop} (hc : CallR Y.X (.builtin id) r) (hg : G[gi]? = some x) (hm : T.mg x = none) (hv : bootBuiltins x = some (.builtin id)) (ha : ArD Y (e :: es) c ds)
    (hr : ∀ vs F H Q, Same F H → Reps Y.X.K F vs ds → (∀ ws F' H' p, Ext F H F' H' → Reps Y.X.K F' ws l → H' p = none → Q (.ref p) (upd H' p (.lst ws))) → r vs H Q)
    (he : starEach (e :: es) Y.X.env = (false, eval e Y.X.env) :: starEach es Y.X.env) (hpl : (backTo pos (starEach es Y.X.env)).any (·.1) = false) : OwD Y (.Call (.Name x p) (e :: es) [] pos) c l :=
  PE.imp (pe_callB hc (S.gl x (List.mem_of_getElem? hg)).1 (by rw [S.eM]; exact hm) hv ha (S.gl x (List.mem_of_getElem? hg)).2.2 (S.gl x (List.mem_of_getElem? hg)).2.1 he hpl) fun σ H Q ⟨F, E, q⟩ => ⟨F, E, fun vs F1 H1 e1 r1 => hr vs F1 H1 Q e1.fh r1 fun ws F2 H2 p e2 r2 hn => q ws F2 H2 p (e1.trans e2) r2 hn⟩
end
/-! ### sorted(list of (whole number, (whole number, whole number))) -/
abbrev triD (t : Int × Int × Int) : D := .tup [.int t.1, .tup [.int t.2.1, .int t.2.2]]
def triLt (s t : Int × Int × Int) : Bool := if s.1 = t.1 then (if s.2 = t.2 then false else HT.lexLt [s.2.1, s.2.2] [t.2.1, t.2.2]) else decide (s.1 < t.1)
def triO (l : List (Int × Int × Int)) : List Nat := DGX.ord l.length fun i j => triLt (l.getD i (0, 0, 0)) (l.getD j (0, 0, 0))
def triS (l : List (Int × Int × Int)) : List (Int × Int × Int) := (triO l).map fun i => l.getD i (0, 0, 0)
/-- where a spot lies -/
structure TriAt (h : Heap) (u : Value) (t : Int × Int × Int) (a b : Addr) (t1 t2 t3 : Tok) : Prop where
  u : u = .ref a
  ta : PyProof.Rows.IsTup h a #[.int t.1 t1, .ref b]
  tb : PyProof.Rows.IsTup h b #[.int t.2.1 t2, .int t.2.2 t3]
  rd : ∃ as, Reads h (.ref b) (toPy (.tup [.int t.2.1, .int t.2.2])) as
theorem TriAt.up {h h' : Heap} {u : Value} {t : Int × Int × Int} {a b : Addr} {t1 t2 t3 : Tok} (x : TriAt h u t a b t1 t2 t3) (k : ∀ b o, h.get? b = some o → h'.get? b = some o) : TriAt h' u t a b t1 t2 t3 := by
  have tu : ∀ {a : Addr} {its : Array Value}, PyProof.Rows.IsTup h a its → PyProof.Rows.IsTup h' a its := fun {a its} h => by
    obtain ⟨o, e1, e2, e3⟩ := h
    exact ⟨o, k _ _ e1, e2, e3⟩
  obtain ⟨as, r⟩ := x.rd
  exact ⟨x.u, tu x.ta, tu x.tb, as, PyProof.Rows.Reads.keeps k r⟩
section
variable {X : Cx} {pins : List (Addr × Obj)} {σ : St} {F H : Hp} {s : Shared}
theorem tri_at (I : Inv X pins σ H s) (f : Same F H) {v : V} {u : Value} {t : Int × Int × Int} (r : Rep X.K F v (triD t)) (ru : RelV v u) : ∃ a b t1 t2 t3, TriAt s.heap u t a b t1 t2 t3 := by
  obtain ⟨a, ws, rfl, ht, rw'⟩ := inv_tup r
  obtain ⟨v1, v2, rfl, r1, r2⟩ := inv2 rw'
  obtain ⟨its, rv, it, _⟩ := I.tuple (sqT_same f ht)
  cases inv_int r1
  cases (show u = Value.ref a from ru)
  obtain ⟨b, ws2, rfl, ht2, rw2⟩ := inv_tup r2
  obtain ⟨v3, v4, rfl, r3, r4⟩ := inv2 rw2
  obtain ⟨its2, rv2, it2, _⟩ := I.tuple (sqT_same f ht2)
  cases inv_int r3
  cases inv_int r4
  cases rv with
  | cons c1 c2 =>
    obtain ⟨t1, rfl⟩ := c1
    cases c2 with
    | cons c3 c4 =>
      cases c4
      cases c3
      cases rv2 with
      | cons d1 d2 =>
        obtain ⟨t2, rfl⟩ := d1
        cases d2 with
        | cons d3 d4 =>
          cases d4
          obtain ⟨t3, rfl⟩ := d3
          obtain ⟨as, ra⟩ := reads_of I f r2 (show RelV (.ref b) (.ref b) from rfl)
          exact ⟨a, b, t1, t2, t3, rfl, it, it2, as, ra⟩
theorem tri_tups {h : Heap} {F : Hp} (k : ∀ b o, s.heap.get? b = some o → h.get? b = some o) (I : Inv X pins σ H s) (f : Same F H) : ∀ {vs : List V} {its : List Value} {l : List (Int × Int × Int)}, Reps X.K F vs (l.map triD) → Vals vs its →
    ∃ fs, PySem.W.KatTups h its fs ∧ (∀ v ∈ fs, ∃ i t, v = Value.int i t) ∧ fs.length = l.length
  | _, _, [], r, w => by
    cases r
    cases w
    exact ⟨[], .nil, fun _ z => (nomatch z), rfl⟩
  | _, _, t :: l, r, w => by
    cases r with
    | cons r1 r2 =>
      cases w with
      | cons w1 w2 =>
        obtain ⟨fs, h1, h2, h3⟩ := tri_tups k I f r2 w2
        obtain ⟨a, b, t1, t2, t3, x⟩ := tri_at I f r1 w1
        have x := x.up k
        cases x.u
        obtain ⟨o, e1, e2, n, e3⟩ := x.ta
        refine ⟨.int t.1 t1 :: fs, .cons e1 e2 e3 rfl h1, fun v hv => ?_, by simp [h3]⟩
        rcases List.mem_cons.mp hv with rfl | hv
        · exact ⟨_, _, rfl⟩
        · exact h2 v hv
end
theorem eqD_pair (a b c d : Int) : eqD (.tup [.int a, .int b]) (.tup [.int c, .int d]) = decide ((a, b) = (c, d)) := by
  have e : eqD (.tup [.int a, .int b]) (.tup [.int c, .int d]) = ((a == c) && ((b == d) && true)) := rfl
  rw [e, Bool.eq_iff_iff]
  simp
theorem call_sortT {X : Cx} (hu : X.A.units + 80 < cLine) : CallR X (.builtin "sorted") (fun xs H Q => ∃ (F : Hp) (p : Addr) (vs : List V) (l : List (Int × Int × Int)), xs = [.ref p] ∧ Same F H ∧ SqL X.K F p vs ∧ Reps X.K F vs (l.map triD) ∧ 2 ≤ l.length ∧ l.length < 64 ∧
    ∀ p' : Addr, H p' = none → Q (.ref p') (upd H p' (.lst ((triO l).map fun i => vs.getD i .non)))) := by
  intro pins s σ H xs us Q I r h
  obtain ⟨F, p, vs, l, rfl, f, hp, rs, h2, h64, q⟩ := h
  obtain ⟨u, rfl, ru⟩ := vals1 r
  cases (show u = Value.ref p from ru)
  obtain ⟨its, rv, pl, hz⟩ := I.list (f.seq hp)
  have n1 : vs.length = l.length := by rw [rs.length, List.length_map]
  have n2 := rv.length
  have n3 : its.length = l.length := by omega
  have at_ : ∀ i, i < its.length → ∃ a b t1 t2 t3, TriAt s.heap (its.getD i Value.none) (l.getD i (0, 0, 0)) a b t1 t2 t3 := fun i hi => by
    have hv : i < vs.length := by omega
    have hl : i < l.length := by omega
    obtain ⟨u', hu', r'⟩ := rv.get (i := i) (x := vs[i]) (List.getElem?_eq_getElem hv)
    obtain ⟨d, hd, rd⟩ := rs.get' (List.getElem?_eq_getElem hv)
    rw [List.getElem?_map, List.getElem?_eq_getElem hl] at hd
    cases hd
    have e1 : its.getD i Value.none = u' := by rw [List.getD_eq_getElem?_getD, hu']; rfl
    have e2 : l.getD i (0, 0, 0) = l[i] := by rw [List.getD_eq_getElem?_getD, List.getElem?_eq_getElem hl]; rfl
    rw [e1, e2]
    exact tri_at I f rd r'
  have u2 : X.A.in1.in1.units ≤ X.A.units + 2 := Nat.le_refl _
  have hT : (Value.type "int" != Value.type "tuple") = true := by decide
  refine DGX.srt_call (κ := PyProof.Rows.tuples' true) (lt := fun i j => triLt (l.getD i (0, 0, 0)) (l.getD j (0, 0, 0))) pl.isList (by omega) (by omega) (fun z Q' k q E' => ?_) (fun z i j C k hi hj hC => ?_) ?_
  · obtain ⟨fs, k1, k2, k3⟩ := tri_tups k I f rs rv
    refine PySem.W.kat_kind (T := Value.type "int") k1 (by omega) (fun v hv => ?_) (by decide) (by rw [hT]; exact q)
    obtain ⟨i, t, rfl⟩ := k2 v hv
    exact PySem.W.Looks.of_pure rfl
  · obtain ⟨a, b, t1, t2, t3, x⟩ := at_ i hi
    obtain ⟨a', b', u1, u2', u3, y⟩ := at_ j hj
    have x := x.up k
    have y := y.up k
    rw [x.u, y.u]
    generalize l.getD i (0, 0, 0) = ti at x hC
    generalize l.getD j (0, 0, 0) = tj at y hC
    obtain ⟨ox, ex1, ex2, nx, ex3⟩ := x.ta
    obtain ⟨oy, ey1, ey2, ny, ey3⟩ := y.ta
    refine PySem.W.kat_lt ex1 ex3 ey1 ey3 (PySem.W.kat_cons (SeqAt.EqAt.int_int ti.1 t1 tj.1 u1 _ _ _ _ ?_))
    unfold triLt at hC
    by_cases e1 : ti.1 = tj.1
    · rw [if_pos e1] at hC
      rw [show (ti.1 == tj.1) = true by simpa using e1]
      obtain ⟨as, ra⟩ := x.rd
      obtain ⟨bs, rb⟩ := y.rd
      have kk := SeqAt.eqAt_reads _ _ X.A.in1.in1 z _ _ as bs ra rb rfl rfl (by
        show X.A.in1.in1.units + min 1 1 < cLine
        omega)
      have ev : PyData.eqv (toPy (.tup [.int ti.2.1, .int ti.2.2])) (toPy (.tup [.int tj.2.1, .int tj.2.2])) = decide (ti.2 = tj.2) := eqD_pair ti.2.1 ti.2.2 tj.2.1 tj.2.2
      rw [ev] at kk
      refine PySem.W.kat_yes (PySem.W.kat_cons (kk _ _ _ _ ?_))
      by_cases e2 : ti.2 = tj.2
      · rw [if_pos e2] at hC
        rw [decide_eq_true e2]
        exact PySem.W.kat_yes (PySem.W.kat_nil hC)
      · rw [if_neg e2] at hC
        rw [decide_eq_false e2]
        refine PySem.W.kat_no (PySem.W.kat_one _ _ ?_)
        exact HT.lt_tupInts x.tb y.tb (.cons _ _ (.cons _ _ .nil)) (.cons _ _ (.cons _ _ .nil)) (by omega) hC
    · rw [if_neg e1] at hC
      rw [show (ti.1 == tj.1) = false by simpa using e1]
      exact PySem.W.kat_no (PyProof.Rows.oneLt_int hC)
  · obtain ⟨e, he⟩ := PyProof.Rows.sortedAll_at s.heap its (List.toArray ((triO l).map fun i => its.getD i Value.none))
    have et : DGX.ord its.length (fun i j => triLt (l.getD i (0, 0, 0)) (l.getD j (0, 0, 0))) = triO l := by unfold triO; rw [n3]
    rw [et]
    have o := DGX.ord_ok (n := l.length) (by omega) fun i j => triLt (l.getD i (0, 0, 0)) (l.getD j (0, 0, 0))
    refine ⟨.ref _, upd H _ (.lst ((triO l).map fun i => vs.getD i .non)), I.laid (t' := s.toks) (fun _ _ => PyProof.Rows.sortedAll_old) (Nat.le_succ _) ⟨?_, (triO l).map fun i => its.getD i Value.none, e, ?_, he⟩, rfl, q _ (I.hok.fresh (Nat.le_succ _))⟩
    · rw [List.length_map]
      have : (triO l).length = l.length := o.1
      have : (64 : Nat) ≤ sizeLine := by decide
      omega
    · have hm : ∀ i ∈ triO l, i < its.length := fun i hi => by rw [n3]; exact o.2 i hi
      generalize triO l = L at hm
      induction L with
      | nil => exact .nil
      | cons i L ih =>
        refine .cons ?_ (ih fun j hj => hm j (List.mem_cons_of_mem _ hj))
        have hi := hm i (List.mem_cons_self ..)
        have hv : i < vs.length := by omega
        obtain ⟨u', hu', r'⟩ := rv.get (i := i) (x := vs[i]) (List.getElem?_eq_getElem hv)
        show RelV (vs.getD i .non) (its.getD i Value.none)
        rw [List.getD_eq_getElem?_getD, List.getD_eq_getElem?_getD, hu', List.getElem?_eq_getElem hv]
        exact r'
theorem bt_sorted' : bootBuiltins "sorted" = some (.builtin "sorted") := by decide +kernel
theorem ow_sortT {Y : Cy} {T : Tx} {k : Nat} {N G : List Str} {c : List Slot} {e : Expr} {pos : Pos} (S : Se Y T k N G) (gi : Nat) {l : List (Int × Int × Int)} {p : Pos} (ha : ArD Y [e] c [.lst (l.map triD)]) (h2 : 2 ≤ l.length) (h64 : l.length < 64)
    (hm : T.mg "sorted" = none) (hg : G[gi]? = some ("sorted" : Str) := by rfl) (he : starEach [e] Y.X.env = (false, eval e Y.X.env) :: starEach [] Y.X.env := by rfl) : OwD Y (.Call (.Name "sorted" p) [e] [] pos) c ((triS l).map triD) :=
  ow_callB S gi (call_sortT (by have := S.room.un; omega)) hg hm bt_sorted' ha (fun vs F H Q f r q => by
    obtain ⟨v, rfl, rv⟩ := inv1 r
    obtain ⟨p, ws, rfl, hp, rs⟩ := inv_lst rv
    refine ⟨F, p, ws, l, rfl, f, hp, rs, h2, h64, fun p' hn => q _ F H p' (Ext.refl f) ?_ hn⟩
    have o := DGX.ord_ok (n := l.length) (by omega) fun i j => triLt (l.getD i (0, 0, 0)) (l.getD j (0, 0, 0))
    have hm : ∀ i ∈ triO l, i < l.length := o.2
    unfold triS
    rw [List.map_map]
    generalize triO l = L at hm
    induction L with
    | nil => exact .nil
    | cons i L ih =>
      refine .cons ?_ (ih fun j hj => hm j (List.mem_cons_of_mem _ hj))
      have hi := hm i (List.mem_cons_self ..)
      obtain ⟨v, hv, r'⟩ := rs.get (i := i) (d := triD l[i]) (by rw [List.getElem?_map, List.getElem?_eq_getElem hi]; rfl)
      show Rep Y.X.K F (ws.getD i .non) (triD (l.getD i (0, 0, 0)))
      rw [List.getD_eq_getElem?_getD, List.getD_eq_getElem?_getD, hv, List.getElem?_eq_getElem hi]
      exact r') he rfl
end DL

set_option Elab.async false
set_option linter.all false
set_option maxRecDepth 100000
/-! ### what sorted tells is in order -/
namespace DGX
open PySem PySem.Spec PySem.W PyProof.Rows
structure Lo (n : Nat) (lt : Nat → Nat → Bool) : Prop where
  as : ∀ i j, lt i j = true → lt j i = false
  tr : ∀ i j k, lt j i = false → lt k j = false → lt k i = false
  tot : ∀ i j, i < n → j < n → i ≠ j → lt i j = false → lt j i = true
theorem runP_bind {α β : Type} (lt : Nat → Nat → Bool) (f : α → KasT β) : ∀ t : KasT α, runP lt (t.bind f) = runP lt (f (runP lt t))
  | .ret a => rfl
  | .ask i j k => runP_bind lt f (k (lt i j))
section
variable {n : Nat} {lt : Nat → Nat → Bool} {p : Array Nat} {k : Nat}
def Srt (lt : Nat → Nat → Bool) (p : Array Nat) (k : Nat) : Prop := ∀ i j, i < j → j < k → lt (p.getD j 0) (p.getD i 0) = false
def Dsc (lt : Nat → Nat → Bool) (p : Array Nat) (k : Nat) : Prop := ∀ i j, i < j → j < k → lt (p.getD j 0) (p.getD i 0) = true
theorem Lo.st (L : Lo n lt) {a b c : Nat} (h1 : lt b a = true) (h2 : lt c b = true) : lt c a = true := by
  cases h : lt c a with
  | true => rfl
  | false =>
    have := L.tr a c b h (L.as _ _ h2)
    rw [h1] at this
    cases this
theorem Srt.push (L : Lo n lt) (h : Srt lt p k) (k1 : 1 ≤ k) (e : lt (p.getD k 0) (p.getD (k - 1) 0) = false) : Srt lt p (k + 1) := by
  intro i j hij hj
  by_cases hk : j < k
  · exact h i j hij hk
  · have q : j = k := by omega
    subst q
    by_cases hi : i = j - 1
    · rw [hi]; exact e
    · exact L.tr _ _ _ (h i (j - 1) (by omega) (by omega)) e
theorem Dsc.push (L : Lo n lt) (h : Dsc lt p k) (k1 : 1 ≤ k) (e : lt (p.getD k 0) (p.getD (k - 1) 0) = true) : Dsc lt p (k + 1) := by
  intro i j hij hj
  by_cases hk : j < k
  · exact h i j hij hk
  · have q : j = k := by omega
    subst q
    by_cases hi : i = j - 1
    · rw [hi]; exact e
    · exact L.st (h i (j - 1) (by omega) (by omega)) e
theorem asc_is (L : Lo n lt) : ∀ f m, 1 ≤ m → Srt lt p m → m ≤ runP lt (kas_asc p f m) ∧ runP lt (kas_asc p f m) ≤ m + f ∧ Srt lt p (runP lt (kas_asc p f m)) ∧ (runP lt (kas_asc p f m) < m + f → lt (p.getD (runP lt (kas_asc p f m)) 0) (p.getD (runP lt (kas_asc p f m) - 1) 0) = true)
  | 0, m, h1, hs => ⟨Nat.le_refl _, Nat.le_refl _, hs, fun h => absurd h (Nat.lt_irrefl _)⟩
  | f + 1, m, h1, hs => by
    have e : runP lt (kas_asc p (f + 1) m) = runP lt (if lt (p.getD m 0) (p.getD (m - 1) 0) = true then .ret m else kas_asc p f (m + 1)) := rfl
    rw [e]
    by_cases c : lt (p.getD m 0) (p.getD (m - 1) 0) = true
    · rw [if_pos c]
      exact ⟨Nat.le_refl _, Nat.le_add_right _ _, hs, fun _ => c⟩
    · rw [if_neg c]
      obtain ⟨a, b, d, g⟩ := asc_is L f (m + 1) (by omega) (hs.push L h1 (by simpa using c))
      exact ⟨by omega, by omega, d, fun h => g (by omega)⟩
theorem getD_q (p : Array Nat) (i : Nat) : p.getD i 0 = (p[i]?).getD 0 := by simp
theorem Gd.size (G : Gd n p) : p.size = n := by simpa using G.size_eq
theorem Gd.inj (G : Gd n p) {i j : Nat} (hi : i < n) (hj : j < n) (e : p.getD i 0 = p.getD j 0) : i = j := by
  have s := G.size
  have nd : p.toList.Nodup := G.toList.nodup_iff.mpr List.nodup_range
  have e1 : p.getD i 0 = p.toList[i]'(by simpa [s] using hi) := by simp [Array.getD, s, hi]
  have e2 : p.getD j 0 = p.toList[j]'(by simpa [s] using hj) := by simp [Array.getD, s, hj]
  rw [e1, e2] at e
  exact (List.getElem_inj nd).mp e
theorem Gd.tot (G : Gd n p) (L : Lo n lt) {i j : Nat} (hi : i < n) (hj : j < n) (ne : i ≠ j) (h : lt (p.getD i 0) (p.getD j 0) = false) : lt (p.getD j 0) (p.getD i 0) = true :=
  L.tot _ _ (G.lt (by omega) _) (G.lt (by omega) _) (fun z => ne (G.inj hi hj z)) h
theorem desc_is (L : Lo n lt) (G : Gd n p) : ∀ f m, 1 ≤ m → m + f ≤ n → Dsc lt p m → ∃ r, runP lt (kas_desc f p m 0) = (p, r, 0) ∧ m ≤ r ∧ r ≤ m + f ∧ Dsc lt p r
  | 0, m, h1, hn, hs => ⟨m, rfl, Nat.le_refl _, Nat.le_refl _, hs⟩
  | f + 1, m, h1, hn, hs => by
    have e : runP lt (kas_desc (f + 1) p m 0) = runP lt (if lt (p.getD m 0) (p.getD (m - 1) 0) = true then (if 0 > 0 then kas_desc f (kas_rev p (m - (0 + 1)) m) (m + 1) 0 else kas_desc f p (m + 1) 0)
      else .ask (p.getD (m - 1) 0) (p.getD m 0) fun d => if d = true then .ret (p, m, 0) else kas_desc f p (m + 1) (0 + 1)) := rfl
    rw [e]
    by_cases c : lt (p.getD m 0) (p.getD (m - 1) 0) = true
    · rw [if_pos c, if_neg (by omega)]
      obtain ⟨r, a, b, d, g⟩ := desc_is L G f (m + 1) (by omega) (by omega) (hs.push L h1 c)
      exact ⟨r, a, by omega, by omega, g⟩
    · rw [if_neg c]
      have d := G.tot L (i := m) (j := m - 1) (by omega) (by omega) (by omega) (by simpa using c)
      show ∃ r, runP lt (if lt (p.getD (m - 1) 0) (p.getD m 0) = true then _ else _) = _ ∧ _
      rw [if_pos d]
      exact ⟨m, rfl, Nat.le_refl _, by omega, hs⟩
theorem rev_at {m : Nat} (hm : m ≤ p.size) (i : Nat) : (kas_rev p 0 m).getD i 0 = if i < m then p.getD (m - 1 - i) 0 else p.getD i 0 := by
  have h := getElem?_mirror_all (xs := p) (i := 0) (j := m) hm i
  rw [getD_q, getD_q, getD_q]
  have e : kas_rev p 0 m = mirror p 0 m ((m - 0) / 2) := rfl
  rw [e, h]
  by_cases q : i < m
  · rw [if_pos ⟨Nat.zero_le _, q⟩, if_pos q, show 0 + m - 1 - i = m - 1 - i by omega]
  · rw [if_neg (fun z => q z.2), if_neg q]
theorem count_is (L : Lo n lt) (G : Gd n p) (n1 : 1 ≤ n) : 1 ≤ (runP lt (kas_count n p)).1 ∧ (runP lt (kas_count n p)).1 ≤ n ∧ Srt lt (runP lt (kas_count n p)).2 (runP lt (kas_count n p)).1 := by
  unfold kas_count
  rw [runP_bind]
  have s := G.size
  obtain ⟨a, b, d, g⟩ := asc_is (p := p) L (n - 1) 1 (Nat.le_refl _) (fun i j h h' => absurd h (by omega))
  generalize runP lt (kas_asc p (n - 1) 1) = m at a b d g ⊢
  by_cases e : m = n
  · subst e
    rw [if_pos (by simp)]
    exact ⟨a, Nat.le_refl _, d⟩
  · rw [if_neg (by simpa using e)]
    by_cases m1 : m > 1
    · rw [if_pos m1]
      have c : lt (p.getD 0 0) (p.getD (m - 1) 0) = true := G.tot L (by omega) (by omega) (by omega) (d 0 (m - 1) (by omega) (by omega))
      have e2 : runP lt (KasT.ask (p.getD 0 0) (p.getD (m - 1) 0) fun c => if c = true then .ret (m, p) else kas_descPart m n (kas_rev p 0 m)) = (m, p) := by
        show runP lt (if lt (p.getD 0 0) (p.getD (m - 1) 0) = true then KasT.ret (m, p) else kas_descPart m n (kas_rev p 0 m)) = (m, p)
        rw [if_pos c]
        rfl
      rw [e2]
      exact ⟨a, by show m ≤ n; omega, d⟩
    · rw [if_neg m1]
      have e1 : m = 1 := by omega
      subst e1
      have c := g (by omega)
      unfold kas_descPart
      rw [runP_bind]
      obtain ⟨r, er, r1, r2, hr⟩ := desc_is L G (n - (1 + 1)) (1 + 1) (by omega) (by omega) (fun i j h h' => by
        have hi : i = 0 := by omega
        have hj : j = 1 := by omega
        rw [hi, hj]; exact c)
      rw [er]
      have e3 : (if (p, r, 0).2.2 > 0 then kas_tail3 (p, r, 0).2.1 n (kas_rev (p, r, 0).1 ((p, r, 0).2.1 - ((p, r, 0).2.2 + 1)) (p, r, 0).2.1) else kas_tail3 (p, r, 0).2.1 n (p, r, 0).1) = kas_tail3 r n p := if_neg (Nat.lt_irrefl 0)
      rw [e3]
      unfold kas_tail3
      rw [runP_bind]
      have sr : Srt lt (kas_rev p 0 r) r := by
        intro i j h h'
        rw [rev_at (by omega), rev_at (by omega), if_pos h', if_pos (by omega)]
        exact L.as _ _ (hr _ _ (by omega) (by omega))
      obtain ⟨a', b', d', _⟩ := asc_is (p := kas_rev p 0 r) L (n - r) r (by omega) sr
      exact ⟨by show 1 ≤ runP lt (kas_asc (kas_rev p 0 r) (n - r) r); omega, by show runP lt (kas_asc (kas_rev p 0 r) (n - r) r) ≤ n; omega, d'⟩
theorem place_is (L : Lo n lt) (hs : Srt lt p k) : ∀ f l r, l ≤ r → r ≤ k → r - l ≤ f → (∀ i, i < l → lt (p.getD k 0) (p.getD i 0) = false) → (∀ i, r ≤ i → i < k → lt (p.getD k 0) (p.getD i 0) = true) →
    runP lt (kas_place p k f l r) ≤ k ∧ (∀ i, i < runP lt (kas_place p k f l r) → lt (p.getD k 0) (p.getD i 0) = false) ∧ (∀ i, runP lt (kas_place p k f l r) ≤ i → i < k → lt (p.getD k 0) (p.getD i 0) = true)
  | 0, l, r, h1, h2, h3, a, b => ⟨by show l ≤ k; omega, a, fun i hi => b i (by have : l ≤ i := hi; omega)⟩
  | f + 1, l, r, h1, h2, h3, a, b => by
    unfold kas_place
    by_cases q : l ≥ r
    · rw [if_pos q]
      exact ⟨by show l ≤ k; omega, a, fun i hi => b i (by have : l ≤ i := hi; omega)⟩
    · rw [if_neg q]
      obtain ⟨c, hc⟩ : ∃ c, lt (p.getD k 0) (p.getD ((l + r) / 2) 0) = c := ⟨_, rfl⟩
      show runP lt (if lt (p.getD k 0) (p.getD ((l + r) / 2) 0) = true then kas_place p k f l ((l + r) / 2) else kas_place p k f ((l + r) / 2 + 1) r) ≤ k ∧ (∀ i, i < runP lt (if lt (p.getD k 0) (p.getD ((l + r) / 2) 0) = true then kas_place p k f l ((l + r) / 2) else kas_place p k f ((l + r) / 2 + 1) r) → _) ∧ (∀ i, runP lt (if lt (p.getD k 0) (p.getD ((l + r) / 2) 0) = true then kas_place p k f l ((l + r) / 2) else kas_place p k f ((l + r) / 2 + 1) r) ≤ i → _)
      rw [hc]
      cases c with
      | true =>
        rw [if_pos rfl]
        refine place_is L hs f l ((l + r) / 2) (by omega) (by omega) (by omega) a fun i hi hk => ?_
        cases e : lt (p.getD k 0) (p.getD i 0) with
        | true => rfl
        | false =>
          by_cases ei : i = (l + r) / 2
          · rw [ei, hc] at e; cases e
          · have := L.tr _ _ _ (hs ((l + r) / 2) i (by omega) hk) e
            rw [hc] at this
            cases this
      | false =>
        rw [if_neg (by simp)]
        refine place_is L hs f ((l + r) / 2 + 1) r (by omega) (by omega) (by omega) (fun i hi => ?_) b
        by_cases ei : i = (l + r) / 2
        · rw [ei]; exact hc
        · exact L.tr _ _ _ (hs i ((l + r) / 2) (by omega) (by omega)) hc
theorem bub_at {l : Nat} (hk : k < p.size) (hl : l ≤ k) (i : Nat) : (bubble p k (k - l)).getD i 0 = if i = l then p.getD k 0 else if l < i ∧ i ≤ k then p.getD (i - 1) 0 else p.getD i 0 := by
  have h := getElem?_bubble (xs := p) hk (k - l) (by omega) i
  rw [show k - (k - l) = l by omega] at h
  rw [getD_q, getD_q, getD_q, getD_q, h]
  split
  · rfl
  · split <;> rfl
theorem bin_is (L : Lo n lt) : ∀ f (p : Array Nat) k, Gd n p → Srt lt p k → k + f = n → Srt lt (runP lt (kas_bin f p k)) n
  | 0, p, k, G, hs, e => by
    have e : k = n := e
    rw [← e]
    exact hs
  | f + 1, p, k, G, hs, e => by
    unfold kas_bin
    rw [runP_bind]
    obtain ⟨a, b, d⟩ := place_is L hs k 0 k (Nat.zero_le _) (Nat.le_refl _) (by omega) (fun i hi => absurd hi (by omega)) (fun i h h' => absurd h' (by omega))
    generalize runP lt (kas_place p k k 0 k) = l at a b d ⊢
    refine bin_is L f _ (k + 1) (G.bub _ _) (fun i j hij hj => ?_) (by omega)
    have s := G.size
    rw [bub_at (by omega) a, bub_at (by omega) a]
    by_cases j1 : j = l
    · rw [if_pos j1, if_neg (by omega), if_neg (by omega)]
      exact b i (by omega)
    · rw [if_neg j1]
      by_cases j2 : l < j ∧ j ≤ k
      · rw [if_pos j2]
        by_cases i1 : i = l
        · rw [if_pos i1]
          exact L.as _ _ (d (j - 1) (by omega) (by omega))
        · rw [if_neg i1]
          by_cases i2 : l < i ∧ i ≤ k
          · rw [if_pos i2]
            exact hs _ _ (by omega) (by omega)
          · rw [if_neg i2]
            exact hs _ _ (by omega) (by omega)
      · rw [if_neg j2, if_neg (by omega), if_neg (by omega)]
        exact hs _ _ hij (by omega)
theorem sort_is (L : Lo n lt) (n1 : 1 ≤ n) : Srt lt (runP lt (kas_sort n)) n := by
  unfold kas_sort
  rw [runP_bind]
  have G0 : Gd n (List.toArray (List.range n)) := Array.Perm.refl _
  have G := runP_ok (lt := lt) _ (ok_count G0 n1 n)
  obtain ⟨a, b, d⟩ := count_is L G0 n1
  generalize runP lt (kas_count n (List.toArray (List.range n))) = r at G a b d ⊢
  by_cases h : r.1 < n
  · rw [if_pos h, show max r.1 1 = r.1 by omega]
    exact bin_is L _ _ _ G d (by omega)
  · rw [if_neg h]
    have e : r.1 = n := by omega
    rw [← e]
    exact d
theorem ord_srt (L : Lo n lt) (n1 : 1 ≤ n) : (ord n lt).Pairwise (fun i j => lt j i = false) := by
  have h := sort_is L n1
  have G := runP_ok (lt := lt) _ (ok_sort (n := n) n1)
  have s := G.size
  unfold ord
  rw [List.pairwise_iff_getElem]
  intro i j hi hj hij
  have hj' : j < n := by simpa [s] using hj
  have e := h i j hij hj'
  simpa [Array.getD, s, hj', show i < n by omega] using e
end
end DGX
namespace DL
open PySem L2
theorem triLt_iff (s t : Int × Int × Int) : triLt s t = true ↔ s.1 < t.1 ∨ (s.1 = t.1 ∧ (s.2.1 < t.2.1 ∨ (s.2.1 = t.2.1 ∧ s.2.2 < t.2.2))) := by
  obtain ⟨a, b, c⟩ := s
  obtain ⟨a', b', c'⟩ := t
  unfold triLt
  by_cases h : a = a'
  · subst h
    by_cases h2 : b = b'
    · subst h2
      by_cases h3 : c = c'
      · subst h3
        simp
      · simp [HT.lexLt, h3]
    · simp [HT.lexLt, h2]
  · simp [h]
theorem triLt_no (s t : Int × Int × Int) : triLt s t = false ↔ ¬ (s.1 < t.1 ∨ (s.1 = t.1 ∧ (s.2.1 < t.2.1 ∨ (s.2.1 = t.2.1 ∧ s.2.2 < t.2.2)))) := by
  rw [← triLt_iff, Bool.not_eq_true]
theorem tri_lo {l : List (Int × Int × Int)} (nd : l.Nodup) : DGX.Lo l.length (fun i j => triLt (l.getD i (0, 0, 0)) (l.getD j (0, 0, 0))) where
  as := fun i j h => by
    rw [triLt_iff] at h
    rw [triLt_no]
    omega
  tr := fun i j k h1 h2 => by
    rw [triLt_no] at h1 h2 ⊢
    omega
  tot := fun i j hi hj ne h => by
    rw [triLt_no] at h
    rw [triLt_iff]
    have n2 : l.getD i (0, 0, 0) ≠ l.getD j (0, 0, 0) := fun e => by
      have e1 : l.getD i (0, 0, 0) = l[i] := by simp [hi]
      have e2 : l.getD j (0, 0, 0) = l[j] := by simp [hj]
      rw [e1, e2] at e
      exact ne ((List.getElem_inj nd).mp e)
    have n3 : ¬ ((l.getD i (0, 0, 0)).1 = (l.getD j (0, 0, 0)).1 ∧ (l.getD i (0, 0, 0)).2.1 = (l.getD j (0, 0, 0)).2.1 ∧ (l.getD i (0, 0, 0)).2.2 = (l.getD j (0, 0, 0)).2.2) := fun e => n2 (Prod.ext e.1 (Prod.ext e.2.1 e.2.2))
    omega
theorem triS_srt {l : List (Int × Int × Int)} (h : l ≠ []) (nd : l.Nodup) : (triS l).Pairwise (fun x y => triLt y x = false) := by
  unfold triS triO
  rw [List.pairwise_map]
  exact DGX.ord_srt (tri_lo nd) (List.length_pos_iff.mpr h)
theorem tri_uq : ∀ {a b : List (Int × Int × Int)}, a.Perm b → a.Pairwise (fun x y => triLt y x = false) → b.Pairwise (fun x y => triLt y x = false) → a = b
  | [], b, h, _, _ => (List.nil_perm.mp h).symm
  | x :: a, [], h, _, _ => by simpa using h.length_eq
  | x :: a, y :: b, h, ha, hb => by
    have e : x = y := by
      have m1 : x ∈ y :: b := h.mem_iff.mp List.mem_cons_self
      have m2 : y ∈ x :: a := h.mem_iff.mpr List.mem_cons_self
      rcases List.mem_cons.mp m1 with m1 | m1
      · exact m1
      · rcases List.mem_cons.mp m2 with m2 | m2
        · exact m2.symm
        · have h1 := (List.pairwise_cons.mp hb).1 x m1
          have h2 := (List.pairwise_cons.mp ha).1 y m2
          rw [triLt_no] at h1 h2
          exact Prod.ext (by omega) (Prod.ext (by omega) (by omega))
    subst e
    rw [tri_uq (List.Perm.cons_inv h) (List.pairwise_cons.mp ha).2 (List.pairwise_cons.mp hb).2]
end DL

set_option Elab.async false
set_option linter.all false
set_option maxRecDepth 100000
/-! ### list(reversed(list)) -/
namespace DBX
open PySem PySem.Spec PyProof.Rows
open Sem (wp)
section
variable {prog : Program} {w : World} {A : Around} {E : Value → Shared → Prop} {s : Shared}
end
end DBX
namespace DL
open PySem L2
section
variable {Y : Cy} {T : Tx} {k : Nat} {N G : List Str} {c : List Slot} {e a b b' tg : Expr} {pos p1 p2 p3 : Pos} {d : D} {ds : List D} {P : Out → Prop} {rest : List Stmt} {x : Str}
theorem ow_catL {xs ys : List D} (ha : EvD Y a c (.lst xs)) (hb : EvD Y b c (.lst ys)) (hz : xs.length + ys.length ≤ 1000000) : OwD Y (.BinOp a .Add b pos) c (xs ++ ys) :=
  PE.imp (pe_op op_catS ha hb) fun σ H Q ⟨F, E, q⟩ => ⟨F, E, fun x F1 H1 e1 r1 => ⟨F1, E.grow e1, fun y F2 H2 e2 r2 => by
    obtain ⟨l, vs, rfl, hl, rl⟩ := inv_lst (r1.mono e2.ff)
    obtain ⟨b, ws, rfl, hb', rb⟩ := inv_lst r2
    refine ⟨l, b, vs, ws, rfl, rfl, e2.fh.seq hl, e2.fh.seq hb', ?_, fun p hp => q _ F2 H2 p (e1.trans e2) (rl.append rb) hp⟩
    rw [rl.length, rb.length]
    exact small_le hz⟩⟩
theorem down_small {a b : Int} (h1 : -(2 ^ 61) ≤ a) (h2 : a < 2 ^ 61) (h3 : -(2 ^ 61) ≤ b) (h4 : b < 2 ^ 61) : Builtin.Range.small a b (-1) = true := by
  unfold Builtin.Range.small Builtin.Range.rangeSize
  simp only [Builtin.Range.rangeFitsLong, Bool.and_eq_true, Bool.or_eq_true, decide_eq_true_eq, beq_iff_eq]
  simp
  omega
theorem rangeN_down (i j : Int) : rangeN i j (-1) = (i - j).toNat := by
  unfold rangeN Builtin.Range.rangeSize
  simp
  split <;> omega
/-- range(i, j, -1) -/
theorem it_rangeD (S : Se Y T k N G) (gi : Nat) {i j : Int} {p : Pos} (ha : ArD Y [a, b, b'] c [.int i, .int j, .int (-1)]) (h0 : -(2 ^ 61) ≤ i ∧ i < 2 ^ 61 ∧ -(2 ^ 61) ≤ j ∧ j < 2 ^ 61) (hm : T.mg "range" = none) (hg : G[gi]? = some ("range" : Str) := by rfl)
    (hs : starEach [a, b, b'] Y.X.env = (false, eval a Y.X.env) :: starEach [b, b'] Y.X.env := by rfl) (hs2 : (backTo pos (starEach [b, b'] Y.X.env)).any (·.1) = false := by rfl) : ItD Y tg (.Call (.Name "range" p) [a, b, b'] [] pos) c (rangeD i (-1) (i - j).toNat) := by
  intro pins s σ H R I ⟨F, E, q⟩
  have hgl := (S.gl _ (List.mem_of_getElem? hg)).1
  refine PyProof.Rows.Call_ (ld_blt I hgl (by rw [S.eM]; exact hm) PyProof.Rows.boot_range (PyProof.Rows.callWith_type1 (thn (ha pos pins s σ H (fun vs H1 => ∃ F1, Ext F H F1 H1 ∧ vs = [V.int i, V.int j, V.int (-1)]) I ⟨F, E, fun vs F1 H1 e1 r1 => ⟨F1, e1, by
    obtain ⟨v, w, x, rfl, rv, rw', rx⟩ := inv3 r1
    rw [inv_int rv, inv_int rw', inv_int rx]⟩⟩) fun us s1 ⟨vs, H1, I1, r1, F1, e1, ev⟩ => ?_) hs hs2))
  subst ev
  obtain ⟨u1, us1, rfl, ⟨t1, rfl⟩, r2⟩ : ∃ u us1, us = u :: us1 ∧ RelV (.int i) u ∧ Vals [.int j, .int (-1)] us1 := by cases r1 with | cons a t => exact ⟨_, _, rfl, a, t⟩
  obtain ⟨u2, u3, rfl, ⟨t2, rfl⟩, ⟨t3, rfl⟩⟩ := vals2 r2
  refine PySem.call_range_3 (by omega) ?_ (.inl (PyProof.noPylong_small (by omega)))
  refine wpAny_pyIter_range (IsRange.new ..) (down_small h0.1 h0.2.1 h0.2.2.1 h0.2.2.2) ?_
  have I2 : Inv Y.X pins σ H1 { s1 with heap := s1.heap.push { cls := .type "range", data := .fields #[.int i t1, .int j t2, .int (-1) t3] }, toks := s1.toks } := I1.kept fun b o e => Heap.get?_push_of_some _ e
  rw [← rangeN_down i j] at q
  refine ⟨(s1.heap.push { cls := .type "range", data := .fields #[.int i t1, .int j t2, .int (-1) t3] }).objs.size, [(s1.heap.push { cls := .type "range", data := .fields #[.int i t1, .int j t2, .int (-1) t3] }).objs.size], _, _, H1, rfl,
    I2.kept (t' := s1.toks) fun b o e => Heap.get?_push_of_some _ e, turn_ranges _ i (-1) (rangeN i j (-1)), ?_, fun b hb => ?_, q _ F1 H1 e1 (yields_ranges i (-1) _)⟩
  · have e1 : i + ((0 : Nat) : Int) * (-1) = i := by simp
    have e2 : ((rangeN i j (-1) : Nat) : Int) - ((0 : Nat) : Int) = Builtin.Range.rangeSize i j (-1) := by
      unfold rangeN
      have nn : 0 ≤ Builtin.Range.rangeSize i j (-1) := by
        unfold Builtin.Range.rangeSize
        simp
        split <;> omega
      omega
    show IsRangeIter _ _ (i + ((0 : Nat) : Int) * (-1)) (((rangeN i j (-1) : Nat) : Int) - ((0 : Nat) : Int)) (-1)
    rw [e1, e2]
    exact Heap.get?_push_size _ rfl
  · have e : b = (s1.heap.push { cls := .type "range", data := .fields #[.int i t1, .int j t2, .int (-1) t3] }).objs.size := by simpa using hb
    subst e
    exact I2.fpOk (Nat.le_refl _) (I2.hok.fresh (Nat.le_refl _))
end
end DL

set_option Elab.async false
set_option linter.all false
set_option maxRecDepth 100000
namespace DL
open PySem L2
/-! ### x in a list of tuples, max of three whole numbers -/
section
variable {Y : Cy} {T : Tx} {k : Nat} {N G : List Str} {c : List Slot} {a b : Expr} {pos : Pos} {d : D} {ds : List D}
end
end DL

set_option Elab.async false
set_option linter.all false
set_option maxRecDepth 100000
namespace DL
open PySem L2
/-! ### enumerate of a list that lies still -/
structure EnumT (g : Heap) (e it a : Addr) (i : Nat) : Prop where
  ee : ∃ old, IsEnum g e it i old
  ii : g.IsListIter it a i
section
variable {Y : Cy} {T : Tx} {k : Nat} {N G : List Str} {c : List Slot} {a : Expr} {pos : Pos} {xs : List D}
end
/-! ### any(list of truths), l[i:j] -/
section
variable {Y : Cy} {T : Tx} {k : Nat} {N G : List Str} {c : List Slot} {e a b b2 : Expr} {pos p2 : Pos} {ds : List D}
theorem reps_drop32 {K : PySem.W.Frag} {F : Hp} : ∀ (n : Nat) {vs : List V} {ds : List D}, Reps K F vs ds → Reps K F (vs.drop n) (ds.drop n)
  | 0, _, _, r => r
  | n + 1, _, _, .nil => .nil
  | n + 1, _, _, .cons _ t => reps_drop32 n t
theorem reps_take32 {K : PySem.W.Frag} {F : Hp} : ∀ (n : Nat) {vs : List V} {ds : List D}, Reps K F vs ds → Reps K F (vs.take n) (ds.take n)
  | 0, _, _, _ => .nil
  | n + 1, _, _, .nil => .nil
  | n + 1, _, _, .cons h t => .cons h (reps_take32 n t)
theorem po_D32 {e : Expr} {i : Int} (h : EvD Y e c (.int i)) : PO Y.X (some e) (fun σ H Q => ∃ F, EnvY Y F H σ c ∧ ∀ F' H', Ext F H F' H' → Q (some i) H') := by
  have := po_some h
  intro pins s σ H Q I ⟨F, E, q⟩
  exact this pins s σ H Q I ⟨F, E, fun v F1 H1 e1 r1 => ⟨i, inv_int r1, q F1 H1 e1⟩⟩
end
end DL

set_option Elab.async false
set_option linter.all false
set_option maxRecDepth 100000
namespace DL
open PySem L2
/-! ### zip of two lists -/
structure ZipL (g : Heap) (z U V i1 i2 l1 l2 : Addr) (k : Nat) (f : Value) : Prop where
  zz : IsZip g z U V f
  uu : IsPair g U (.ref i1) (.ref i2)
  vv : ∃ a b, IsPair g V a b
  j1 : g.IsListIter i1 l1 k
  j2 : g.IsListIter i2 l2 k
section
variable {Y : Cy} {T : Tx} {k : Nat} {N G : List Str} {c : List Slot} {a b : Expr} {pos p2 : Pos} {xs ys ds : List D} {d : D}
/-! ### l[::n] -/
/-! ### x not in a list of tuples -/
end
end DL

set_option Elab.async false
set_option linter.all false
set_option maxRecDepth 100000
namespace DL
open PySem L2
/-! dicts of our own, their keys whole numbers -/
section
variable {K : PySem.W.Frag} {F₀ H₀ F H : Hp} {σ : St} {c : List Slot} {i : Nat} {a p : Addr} {kv : List (Key × V)} {kvs : List (Int × D)}
end
section
variable {Y : Cy} {T : Tx} {k : Nat} {N G : List Str} {c : List Slot} {a b e : Expr} {es : List Expr} {pos p1 p2 p3 : Pos} {rest : List Stmt} {P : Out → Prop} {d : D} {kvs : List (Int × D)} {x : Str}
theorem dic_units (S : Se Y T k N G) : Y.X.A.units + 1 < cLine := Nat.lt_of_le_of_lt (Nat.add_le_add_left (by decide : 1 ≤ 64) _) S.room.units
end
end DL

set_option Elab.async false
set_option linter.all false
set_option maxRecDepth 100000
namespace DL
open PySem L2
/-! ### a def that hands back a tuple of a whole number and two new lists -/
def spG (K : PySem.W.Frag) (R : List D → (PySem.W.Frag → Hp → Hp → V → Hp → Prop) → Prop) : Sp := fun vs H Q _ => ∃ F ds r, Same F H ∧ Reps K F vs ds ∧ R ds r ∧ ∀ v F' H1 H', Ext F H F' H1 → r K F' H1 v H' → Q v H'
structure FnG (T : Tx) (k : Nat) (x : Str) (R : List D → (PySem.W.Frag → Hp → Hp → V → Hp → Prop) → Prop) : Prop where
  ex : ∃ (f : Addr) (fd : FuncData) (ps : List Str), T.mg x = some (.ref f) ∧ PySem.W.keepIn T.K (.ref f) = true ∧ Binds T.K fd ps [] ∧ FnOk T.prog T.w T.K T.mg T.base CX0 k f fd ps (spG T.K R)
section
variable {Y : Cy} {T : Tx} {k j : Nat} {N G ps : List Str} {c : List Slot} {e e1 e2 e3 : Expr} {es : List Expr} {pos p : Pos} {d : D} {ds l l1 l2 : List D} {R : List D → (PySem.W.Frag → Hp → Hp → V → Hp → Prop) → Prop} {r : PySem.W.Frag → Hp → Hp → V → Hp → Prop} {x qual : Str} {P : Out → Prop} {rest : List Stmt}
/-- a tuple with two lists of our own is at hand -/
structure At3 (Y : Cy) (i : Nat) (c : List Slot) (F H : Hp) (σ : St) (p a b : Addr) (x : Int) (ws1 ws2 : List V) : Prop where
  E : EnvY Y F H σ (put c i .un)
  s : σ[i]? = some (some (.ref p))
  hp : H p = some (.tup [.int x, .ref a, .ref b])
  ha : H a = some (.lst ws1)
  hb : H b = some (.lst ws2)
  fp : F p = none
  fa : F a = none
  fb : F b = none
  op : Y.H0 p = none
  oa : Y.H0 a = none
  ob : Y.H0 b = none
  ab : a ≠ b
  pa : p ≠ a
  pb : p ≠ b
end
end DL

set_option linter.all false
namespace STB
open PySem
/-! ### the walk i, 5 i + 1, .. goes through all slots -/
def aa : Nat → Nat
  | 0 => 0
  | n + 1 => 5 * aa n + 1
def wk (M i : Nat) : Nat → Nat
  | 0 => i
  | n + 1 => (5 * wk M i n + 1) % M
/-! ### the leaps -/
/-! ### a clean table is laid -/
structure OwnerOk (mask : Nat) (owner : Array (Option Nat)) (ps : List Nat) : Prop where
  sz : owner.size = mask + 1
  nd : ps.Nodup
  le : ∀ x ∈ ps, x ≤ mask
  at' : ∀ j, j ≤ mask → (j ∈ ps → ∃ i, owner[j]? = some (some i) ∧ i < ps.length) ∧ (j ∉ ps → owner[j]? = some none)
/-- a table is sound: slots in rising order, none gone -/
structure Tab (t : SetTable) (n : Nat) : Prop where
  pow : ∃ k, 3 ≤ k ∧ t.mask + 1 = 2 ^ k
  dm : t.dummies = #[]
  sz : t.place.size = n
  up : List.Pairwise (· < ·) t.place.toList
  le : ∀ x ∈ t.place.toList, x ≤ t.mask
/-- and not too full -/
structure Good (t : SetTable) (n : Nat) : Prop extends Tab t n where
  full : n * 5 < t.mask * 3
/-! ### where a slot stands among the rising ones -/
/-! ### the search -/
structure PrOk (t : SetTable) (p : SetTable.Probe) : Prop where
  i : p.i ≤ t.mask
  jm : p.j + p.more ≤ t.mask
  dm : p.dummy = none
end STB

set_option Elab.async false
set_option linter.all false
set_option maxRecDepth 100000
namespace SPT
open PySem PySem.Spec PyProof.Rows
/-- a spot lies at a -/
structure Pt (h : Heap) (t : Int × Int × Int) (a b : Addr) (t1 t2 t3 : Tok) : Prop where
  ta : ∃ o n, h.get? a = some o ∧ o.cls = .type "tuple" ∧ o.data = .seq #[.int t.1 t1, .ref b] n
  tb : ∃ o n, h.get? b = some o ∧ o.cls = .type "tuple" ∧ o.data = .seq #[.int t.2.1 t2, .int t.2.2 t3] n
section
variable {prog : Program} {w : World} {A : Around} {E : Value → Shared → Prop} {s : Shared} {t : Int × Int × Int} {u : Value}
end
end SPT

set_option Elab.async false
set_option linter.all false
set_option maxRecDepth 100000
namespace DL
open PySem L2
section
variable {X : Cx} {pins : List (Addr × Obj)} {σ : St} {F H : Hp} {s : Shared}
end
end DL

set_option Elab.async false
set_option linter.all false
set_option maxRecDepth 100000
namespace SPT
open PySem PySem.Spec PyProof.Rows STB
section
variable {prog : Program} {w : World} {A : Around} {E : Value → Shared → Prop} {s : Shared} {t : SetTable} {S : Addr} {oS : Obj} {es : Array (Int × Value)} {ep : Nat} {x : Value} {tx : Int × Int × Int} {h : Int}
end
end SPT

set_option Elab.async false
set_option linter.all false
set_option maxRecDepth 100000
namespace SPT
open PySem PySem.Spec PyProof.Rows STB
section
variable {prog : Program} {w : World} {A : Around} {E : Value → Shared → Prop} {s : Shared} {t : SetTable} {S : Addr} {oS : Obj} {es : Array (Int × Value)} {ep : Nat} {x : Value} {tx : Int × Int × Int} {h : Int}
/-- the set's object -/
structure SetO (h : Heap) (S : Addr) (es : Array (Int × Value)) (t : SetTable) : Prop where
  ex : ∃ ep, h.get? S = some { cls := .type "set", dict := none, data := .set es ep t, slots := #[] }
end
end SPT

set_option Elab.async false
set_option linter.all false
set_option maxRecDepth 100000
namespace SPT
open PySem PySem.Spec PyProof.Rows STB
section
variable {prog : Program} {w : World} {A : Around} {E : Value → Shared → Prop} {S I l : Addr} {items : Array Value} {ts : List (Int × Int × Int)}
end
end SPT

set_option Elab.async false
set_option linter.all false
set_option maxRecDepth 100000
namespace DL
open PySem L2
/-! ### len(set(list of different spots)) -/
section
variable {Y : Cy} {T : Tx} {k : Nat} {N G : List Str} {c : List Slot} {e : Expr} {pos p1 p2 p3 : Pos}
end
end DL

set_option Elab.async false
set_option linter.all false
set_option maxRecDepth 100000
namespace DL
open PySem L2
/-! ### for .. in reversed(list) -/
section
variable {Y : Cy} {T : Tx} {k : Nat} {N G : List Str} {c : List Slot} {e a b tg : Expr} {pos p p2 : Pos} {d : D} {ds : List D}
/-! ### l[:j], l[i:] -/
theorem po_D0 : PO Y.X none (fun σ H Q => ∃ F, EnvY Y F H σ c ∧ ∀ F' H', Ext F H F' H' → Q none H') := by
  have := po_none (X := Y.X)
  intro pins s σ H Q I ⟨F, E, q⟩
  exact this pins s σ H Q I (q F H (Ext.refl E.fh))
def cutO (ds : List D) (lo hi : Option Int) : List D := (ds.drop (HT.sIx ds.length 0 lo)).take (HT.sIx ds.length ds.length hi - HT.sIx ds.length 0 lo)
end
end DL

set_option Elab.async false
set_option linter.all false
set_option maxRecDepth 100000
namespace DMX
open PySem PySem.Spec PyProof.Rows L2
section
open PySem.SeqAt
open PySem.AutoSeq1 (wpAny_loadPart')
open PySem.MeetsSeq PySem.MeetsSeq2 PySem.MeetsSeq3
theorem rcLt_int (A : Around) (s : Shared) (a : Int) (t : Tok) (c : Int) (u : Tok) (prog : Program) (w : World) (E : Value → Shared → Prop) (Q : Value → Shared → Prop) (h : Q (.bool (decide (a < c))) s) :
    wpAny (model prog w) A (richCompare .Lt (.int a t) (.int c u)) Q E s :=
  (PyProof.Rows.lt_int h : wpAny (model prog w) A (compareOp .Lt (.int a t) (.int c u)) Q E s)
theorem tuple_lt_first (l b : Addr) (i j : Int) (t u : Tok) (x y : Value) (n n2 : Nat) (dd dd2 : Option Addr) (sl sl2 : Array (Option Value)) :
    Meets (Builtin.«tuple.__lt__» ⟨[.ref l, .ref b], []⟩)
      (fun A R s => s.heap.get? l = some { cls := .type "tuple", dict := dd, data := .seq #[.int i t, x] n, slots := sl } ∧ s.heap.get? b = some { cls := .type "tuple", dict := dd2, data := .seq #[.int j u, y] n2, slots := sl2 } ∧
        (i = j → EqAt A.in1 s x y true) ∧ R (.ok (.ret (.bool (decide (i < j))))) s) :=
  .of_wp fun prog w A R s h => by
    obtain ⟨hp, g, d, tk, os⟩ := s; obtain ⟨hl, hb, hq, h⟩ := h
    have f2 := AutoSeq1.sub_tuple_tuple
    wp_walk using wpAny_loadPart' hl, wpAny_loadPart' hb, wpAny_forIn_list _ (fun rest r s' => r.1 = none ∧ s' = ⟨hp, g, d, tk, os⟩ ∧ (rest = [(Value.int i t, Value.int j u), (x, y)] ∨ (i = j ∧ (rest = [(x, y)] ∨ rest = [])))) _
    case turn =>
      rintro ⟨v, v'⟩ rest r s' ⟨hr, rfl, hc⟩
      rcases hc with hc | ⟨hij, hc | hc⟩
      · injection hc with h1 h2
        injection h1 with h3 h4
        subst h3 h4
        obtain ⟨e, he, hiff⟩ := HT.eqAt_int A.in1 ⟨hp, g, d, tk, os⟩ i t j u
        refine wpAny_bind (he prog w _ _ ?_)
        cases e with
        | true =>
          wp_walk
          exact ⟨rfl, rfl, .inr ⟨hiff.mp rfl, .inl h2⟩⟩
        | false =>
          have hri := rcLt_int A.in1 ⟨hp, g, d, tk, os⟩ i t j u prog w
          wp_walk using hri
          exact ⟨_, rfl, by simpa using h⟩
      · injection hc with h1 h2
        injection h1 with h3 h4
        subst h3 h4
        refine wpAny_bind (hq hij prog w _ _ ?_)
        wp_walk
        exact ⟨rfl, rfl, .inr ⟨hij, .inr h2⟩⟩
      · cases hc
    case fin =>
      rintro ⟨r1, r2⟩ s' ⟨hr, rfl, hc⟩
      simp only at hr
      subst hr
      have hij : i = j := by
        rcases hc with hc | ⟨hij, _⟩
        · cases hc
        · exact hij
      have e : decide (i < j) = false := decide_eq_false (by omega)
      rw [e] at h
      wp_walk
      exact ⟨_, rfl, by simpa [Builtin.Tuple.tupleCompareSizes] using h⟩
    case h =>
      exact ⟨rfl, rfl, .inl rfl⟩
theorem lt_first {prog : Program} {w : World} {A : Around} {E : Value → Shared → Prop} {s : Shared} {l b : Addr} {i j : Int} {t u : Tok} {x y : Value} {Q : Value → Shared → Prop} (hl : IsTup s.heap l #[.int i t, x]) (hb : IsTup s.heap b #[.int j u, y])
    (hq : i = j → EqAt A.in1 s x y true) (hu : A.units < cLine) (h : Q (.bool (decide (i < j))) s) : wpAny (model prog w) A (richCompare .Lt (.ref l) (.ref b)) Q E s := by
  obtain ⟨⟨cls, dd, data, sl⟩, ho, hc, n, hd⟩ := id hl
  obtain ⟨⟨cls2, dd2, data2, sl2⟩, ho2, hc2, n2, hd2⟩ := id hb
  simp only at hc hd hc2 hd2
  subst hc hd hc2 hd2
  exact richCompare_meets_room (op := .Lt) ⟨_, ho, rfl⟩ ⟨_, ho2, rfl⟩ PySem.F.slot_tuple_lt PySem.F.entry_tuple_lt (PySem.F.args_tuple_lt_2 _ _) (tuple_lt_first l b i j t u x y n n2 dd dd2 sl sl2)
    ⟨ho, ho2, hq, show Value.bool (decide (i < j)) ≠ Value.notImplemented ∧ Q (.bool (decide (i < j))) s from ⟨(fun x => nomatch x), h⟩⟩ hu
theorem gt_ne {prog : Program} {w : World} {A : Around} {E : Value → Shared → Prop} {s : Shared} {l b : Addr} {i j : Int} {t u : Tok} {x y : Value} {Q : Value → Shared → Prop} (hl : IsTup s.heap l #[.int i t, x]) (hb : IsTup s.heap b #[.int j u, y]) (ne : i ≠ j) (hu : A.units < cLine) (h : Q (.bool (decide (j < i))) s) : wpAny (model prog w) A (richCompare .Gt (.ref l) (.ref b)) Q E s := gt_first hl hb (fun z => absurd z ne) hu h
theorem lt_ne {prog : Program} {w : World} {A : Around} {E : Value → Shared → Prop} {s : Shared} {l b : Addr} {i j : Int} {t u : Tok} {x y : Value} {Q : Value → Shared → Prop} (hl : IsTup s.heap l #[.int i t, x]) (hb : IsTup s.heap b #[.int j u, y]) (ne : i ≠ j) (hu : A.units < cLine) (h : Q (.bool (decide (i < j))) s) : wpAny (model prog w) A (richCompare .Lt (.ref l) (.ref b)) Q E s := lt_first hl hb (fun z => absurd z ne) hu h
theorem gt_same {prog : Program} {w : World} {A : Around} {E : Value → Shared → Prop} {s : Shared} {l : Addr} {i : Int} {t : Tok} {x : Value} {Q : Value → Shared → Prop} (hl : IsTup s.heap l #[.int i t, x]) (hu : A.units < cLine) (h : Q (.bool false) s) : wpAny (model prog w) A (richCompare .Gt (.ref l) (.ref l)) Q E s := gt_first hl hl (fun _ => EqAt.same _) hu (by simpa using h)
theorem lt_same {prog : Program} {w : World} {A : Around} {E : Value → Shared → Prop} {s : Shared} {l : Addr} {i : Int} {t : Tok} {x : Value} {Q : Value → Shared → Prop} (hl : IsTup s.heap l #[.int i t, x]) (hu : A.units < cLine) (h : Q (.bool false) s) : wpAny (model prog w) A (richCompare .Lt (.ref l) (.ref l)) Q E s := lt_first hl hl (fun _ => EqAt.same _) hu (by simpa using h)
end
end DMX
namespace DL
open PySem L2
/-- a comparison that reads what lay there -/
def CmpLo (prog : Program) (w : World) (A : Around) (P : Nat → Value → Prop) (bt : Nat → Nat → Bool) (h₀ : Heap) : Prop :=
  ∀ (i j : Nat) (x y : Value) (z : Shared) (Q : Value → Shared → Prop) (E : Value → Shared → Prop), Up h₀ z.heap → P i x → P j y → Q (.bool (bt i j)) z → wpAny (model prog w) A (richCompare .Lt x y) Q E z
section
variable {prog : Program} {w : World} {A : Around} {R : Result → Shared → Prop} {it S : Addr} {fp wr : List Addr} {n : Nat} {P : Nat → Value → Prop} {St : Nat → Heap → Prop} {bt : Nat → Nat → Bool} {h₀ : Heap}
theorem mn_name : (toString "min" ++ toString ".loop" : String) = "min.loop" := by decide
theorem mn_loop (V : Walks prog w A.in1 it fp wr n P St) (cu : CmpLo prog w A.in1 P bt h₀) (nS : S ∉ fp) (fw : ∀ b ∈ wr, h₀.get? b = none) (fS : h₀.get? S = none) :
    ∀ (f j : Nat) (z : Shared) (best : Value) (ep : Nat), n = j + 1 + f → St (j + 1) z.heap → P (argBest bt j) best → Up h₀ z.heap →
    z.heap.get? S = some { cls := .type "list", dict := none, data := .seq #[best, best] ep, slots := #[] } →
    (∀ v h' tk, P (argBest bt (n - 1)) v → Up h₀ h' → R (.ok (.ret v)) { z with heap := h', toks := tk }) →
    codeAny (model prog w) A (.builtin "min.loop" ⟨[.ref it, .none, .ref S], []⟩) R z := by
  have sw : S ∉ wr := fun q => nS (V.sub _ q)
  intro f
  induction f with
  | zero =>
    intro j z best ep ej st pb up oS goal
    have ej : j + 1 = n := by omega
    refine codeAny_builtin F.entry_min_loop ?_
    rw [Around.under_plainId F.plain_min_loop _]
    show wpAny _ A.in1 (seqItems? (.ref S) >>= _) _ _ z
    refine wpAny_bind (wpAny_seqItems oS rfl ?_)
    show wpAny _ A.in1 (tryCatch (pyNext (.ref it)) _ >>= _) _ _ z
    refine wpAny_bind (wpAny_tryCatch (V.done z _ _ (ej ▸ st) fun h1 tk1 keep => ?_))
    have oS1 := keep S _ sw oS
    show wpAny _ A.in1 (updateSeq S (fun _ => #[]) >>= _) _ _ _
    refine wpAny_bind (wpAny_updateSeq oS1 rfl (wpAny_bind (wpAny_letGo (wpAny_pure ?_))))
    exact goal best _ tk1 (by rw [← ej]; exact pb) ((up.step fw keep).upd fS)
  | succ f ih =>
    intro j z best ep ej st pb up oS goal
    have lt : j + 1 < n := by omega
    refine codeAny_builtin F.entry_min_loop ?_
    rw [Around.under_plainId F.plain_min_loop _]
    show wpAny _ A.in1 (seqItems? (.ref S) >>= _) _ _ z
    refine wpAny_bind (wpAny_seqItems oS rfl ?_)
    show wpAny _ A.in1 (tryCatch (pyNext (.ref it)) _ >>= _) _ _ z
    refine wpAny_bind (wpAny_tryCatch (V.item (j + 1) z _ _ lt st fun x h1 tk1 px st1 keep => ?_))
    have oS1 := keep S _ sw oS
    have up1 := up.step fw keep
    show wpAny _ A.in1 (tryCatch (holding [x, x] (richCompare .Lt x best >>= _)) _ >>= _) _ _ _
    refine wpAny_bind (wpAny_tryCatch (wpAny_holding (wpAny_bind (cu (j + 1) (argBest bt j) x best _ _ _ up1 px pb ?_))))
    refine wpAny_bind (wpAny_holding (wpAny_truthy_bool (wpAny_bind (wpAny_letGo (wpAny_pure ?_)))))
    cases hb : bt (j + 1) (argBest bt j) with
    | true =>
      simp only [if_true]
      refine wpAny_bind (wpAny_updateSeq oS1 rfl (wpAny_bind (wpAny_letGo ?_)))
      rw [mn_name]
      refine wpAny_pure ⟨plainId_quiet F.plain_min_loop _, ih (j + 1) _ x _ (by omega) (V.frame _ _ _ st1 fun b hbf o e => ?_) (by simp only [argBest, hb, if_true]; exact px) (up1.upd fS) (Heap.get?_update_self _ oS1 rfl) fun v h2 tk2 pv up2 => goal v h2 tk2 pv up2⟩
      have ne : S ≠ b := fun q => nS (by rw [q]; exact hbf)
      exact (Heap.get?_update_other _ _ ne).trans e
    | false =>
      simp only [Bool.false_eq_true, if_false]
      refine wpAny_bind (wpAny_letGo ?_)
      rw [mn_name]
      exact wpAny_pure ⟨plainId_quiet F.plain_min_loop _, ih (j + 1) _ best ep (by omega) st1 (by simp only [argBest, hb, Bool.false_eq_true, if_false]; exact pb) up1 oS1 fun v h2 tk2 pv up2 => goal v h2 tk2 pv up2⟩
theorem mn_first (V : Walks prog w A.in1 it fp wr n P St) (cu : CmpLo prog w A.in1 P bt h₀) (nS : S ∉ fp) (fw : ∀ b ∈ wr, h₀.get? b = none) (fS : h₀.get? S = none) (n0 : 0 < n) {z : Shared} {ep : Nat} (st : St 0 z.heap) (up : Up h₀ z.heap)
    (oS : z.heap.get? S = some { cls := .type "list", dict := none, data := .seq #[] ep, slots := #[] })
    (goal : ∀ v h' tk, P (argBest bt (n - 1)) v → Up h₀ h' → R (.ok (.ret v)) { z with heap := h', toks := tk }) :
    codeAny (model prog w) A (.builtin "min.loop" ⟨[.ref it, .none, .ref S], []⟩) R z := by
  have sw : S ∉ wr := fun q => nS (V.sub _ q)
  refine codeAny_builtin F.entry_min_loop ?_
  rw [Around.under_plainId F.plain_min_loop _]
  show wpAny _ A.in1 (seqItems? (.ref S) >>= _) _ _ z
  refine wpAny_bind (wpAny_seqItems oS rfl ?_)
  show wpAny _ A.in1 (tryCatch (pyNext (.ref it)) _ >>= _) _ _ z
  refine wpAny_bind (wpAny_tryCatch (V.item 0 z _ _ n0 st fun x h1 tk1 px st1 keep => ?_))
  have oS1 := keep S _ sw oS
  show wpAny _ A.in1 (updateSeq S (fun _ => #[x, x]) >>= _) _ _ _
  refine wpAny_bind (wpAny_updateSeq oS1 rfl ?_)
  rw [mn_name]
  refine wpAny_pure ⟨plainId_quiet F.plain_min_loop _, mn_loop V cu nS fw fS (n - 1) 0 _ x _ (by omega) (V.frame _ _ _ st1 fun b hbf o e => ?_) px ((up.step fw keep).upd fS) (Heap.get?_update_self _ oS1 rfl) fun v h2 tk2 pv up2 => goal v h2 tk2 pv up2⟩
  have ne : S ≠ b := fun q => nS (by rw [q]; exact hbf)
  exact (Heap.get?_update_other _ _ ne).trans e
/-- max(a, b) -/
theorem mx_two {E : Value → Shared → Prop} {z : Shared} {u v : Value} {Q : Value → Shared → Prop} (hh : A.handled = none) (cu : CmpUp prog w A.in1 (fun i y => (#[u, v] : Array Value)[i]? = some y) bt z.heap)
    (goal : ∀ y h' tk, (#[u, v] : Array Value)[argBest bt 1]? = some y → Up z.heap h' → Q y { z with heap := h', toks := tk }) :
    wpAny (model prog w) A (call (.builtin "max") [u, v]) Q E z := by
  refine call_function_tree F.kind_max F.plain_max F.entry_max (F.args_max2 _ _) ?_
  show wpAny _ A.in1 (Builtin.Builtins.bindParams "max" ["key", "default"] 0 ⟨[], []⟩ >>= _) _ _ z
  refine wpAny_bind (wpAny_of_eq (show Builtin.Builtins.bindParams "max" ["key", "default"] 0 ⟨[], []⟩ = pure [none, none] from rfl) ?_)
  show wpAny _ A.in1 (newTuple [u, v] >>= _) _ _ z
  refine wpAny_bind (wpAny_newObj_type ?_)
  have hT : (z.heap.push { cls := .type "tuple", data := .seq #[u, v] }).IsTuple z.heap.objs.size #[u, v] := ⟨_, Heap.get?_push_size _ rfl, rfl, 0, rfl⟩
  refine wpAny_bind (wpAny_pyIter_tuple hT (wpAny_bind (wpAny_newObj_type ?_)))
  have z0 : (z.heap.push { cls := .type "tuple", data := .seq #[u, v] }).objs.size = z.heap.objs.size + 1 := Heap.size_push ..
  have z1 : ((z.heap.push { cls := .type "tuple", data := .seq #[u, v] }).push { cls := .type "tuple_iterator", data := .fields #[.ref z.heap.objs.size, .int 0 0] }).objs.size = z.heap.objs.size + 2 := by rw [Heap.size_push, z0]
  have V := Walks.tuple (prog := prog) (w := w) (A := A.in1) hh (z.heap.push { cls := .type "tuple", data := .seq #[u, v] }).objs.size z.heap.objs.size (by rw [z0]; exact Nat.ne_of_lt (Nat.lt_succ_self _)) #[u, v]
  have nn : ∀ b, z.heap.objs.size ≤ b → z.heap.get? b = none := fun b hb => Heap.get?_none_of_le hb
  rw [mx_name]
  refine wpAny_pure ⟨plainId_quiet F.plain_max_loop _, mx_first (h₀ := z.heap) V cu ?_ ?_ (nn _ (by show _ ≤ ((z.heap.push _).push _).objs.size; rw [z1]; omega)) (Nat.succ_pos _) ⟨?_, ?_⟩ ?_ (Heap.get?_push_size _ rfl) fun v h' tk pv up => goal v h' tk pv up⟩
  · intro q
    simp only [List.mem_cons, List.not_mem_nil, or_false] at q
    have e2 : ((z.heap.push { cls := .type "tuple", data := .seq #[u, v] }).push { cls := .type "tuple_iterator", data := .fields #[.ref z.heap.objs.size, .int 0 0] }).objs.size = z.heap.objs.size + 2 := z1
    rcases q with q | q
    · have := e2.symm.trans (q.trans z0)
      exact absurd this (Nat.succ_ne_self _)
    · have := e2.symm.trans q
      exact absurd this (Nat.ne_of_gt (Nat.lt_succ_of_lt (Nat.lt_succ_self _)))
  · intro b hb
    have hb : b = (z.heap.push { cls := .type "tuple", data := .seq #[u, v] }).objs.size := by simpa using hb
    rw [hb, z0]
    exact nn _ (Nat.le_succ _)
  · exact ⟨_, Heap.get?_push_of_some _ (Heap.get?_push_size _ rfl), rfl, rfl⟩
  · exact (hT.push _).push _
  · exact fun b o e => Heap.get?_push_of_some _ (Heap.get?_push_of_some _ (Heap.get?_push_of_some _ e))
/-- min(a, b) -/
theorem mn_two {E : Value → Shared → Prop} {z : Shared} {u v : Value} {Q : Value → Shared → Prop} (hh : A.handled = none) (cu : CmpLo prog w A.in1 (fun i y => (#[u, v] : Array Value)[i]? = some y) bt z.heap)
    (goal : ∀ y h' tk, (#[u, v] : Array Value)[argBest bt 1]? = some y → Up z.heap h' → Q y { z with heap := h', toks := tk }) :
    wpAny (model prog w) A (call (.builtin "min") [u, v]) Q E z := by
  refine call_function_tree F.kind_min F.plain_min F.entry_min (F.args_min2 _ _) ?_
  show wpAny _ A.in1 (Builtin.Builtins.bindParams "min" ["key", "default"] 0 ⟨[], []⟩ >>= _) _ _ z
  refine wpAny_bind (wpAny_of_eq (show Builtin.Builtins.bindParams "min" ["key", "default"] 0 ⟨[], []⟩ = pure [none, none] from rfl) ?_)
  show wpAny _ A.in1 (newTuple [u, v] >>= _) _ _ z
  refine wpAny_bind (wpAny_newObj_type ?_)
  have hT : (z.heap.push { cls := .type "tuple", data := .seq #[u, v] }).IsTuple z.heap.objs.size #[u, v] := ⟨_, Heap.get?_push_size _ rfl, rfl, 0, rfl⟩
  refine wpAny_bind (wpAny_pyIter_tuple hT (wpAny_bind (wpAny_newObj_type ?_)))
  have z0 : (z.heap.push { cls := .type "tuple", data := .seq #[u, v] }).objs.size = z.heap.objs.size + 1 := Heap.size_push ..
  have z1 : ((z.heap.push { cls := .type "tuple", data := .seq #[u, v] }).push { cls := .type "tuple_iterator", data := .fields #[.ref z.heap.objs.size, .int 0 0] }).objs.size = z.heap.objs.size + 2 := by rw [Heap.size_push, z0]
  have V := Walks.tuple (prog := prog) (w := w) (A := A.in1) hh (z.heap.push { cls := .type "tuple", data := .seq #[u, v] }).objs.size z.heap.objs.size (by rw [z0]; exact Nat.ne_of_lt (Nat.lt_succ_self _)) #[u, v]
  have nn : ∀ b, z.heap.objs.size ≤ b → z.heap.get? b = none := fun b hb => Heap.get?_none_of_le hb
  rw [mn_name]
  refine wpAny_pure ⟨plainId_quiet F.plain_min_loop _, mn_first (h₀ := z.heap) V cu ?_ ?_ (nn _ (by show _ ≤ ((z.heap.push _).push _).objs.size; rw [z1]; omega)) (Nat.succ_pos _) ⟨?_, ?_⟩ ?_ (Heap.get?_push_size _ rfl) fun v h' tk pv up => goal v h' tk pv up⟩
  · intro q
    simp only [List.mem_cons, List.not_mem_nil, or_false] at q
    have e2 : ((z.heap.push { cls := .type "tuple", data := .seq #[u, v] }).push { cls := .type "tuple_iterator", data := .fields #[.ref z.heap.objs.size, .int 0 0] }).objs.size = z.heap.objs.size + 2 := z1
    rcases q with q | q
    · have := e2.symm.trans (q.trans z0)
      exact absurd this (Nat.succ_ne_self _)
    · have := e2.symm.trans q
      exact absurd this (Nat.ne_of_gt (Nat.lt_succ_of_lt (Nat.lt_succ_self _)))
  · intro b hb
    have hb : b = (z.heap.push { cls := .type "tuple", data := .seq #[u, v] }).objs.size := by simpa using hb
    rw [hb, z0]
    exact nn _ (Nat.le_succ _)
  · exact ⟨_, Heap.get?_push_of_some _ (Heap.get?_push_size _ rfl), rfl, rfl⟩
  · exact (hT.push _).push _
  · exact fun b o e => Heap.get?_push_of_some _ (Heap.get?_push_of_some _ (Heap.get?_push_of_some _ e))
end
theorem call_max2T {X : Cx} (hh : X.A.handled = none) (hu : X.A.units + 70 < cLine) : CallR X (.builtin "max") (fun xs H Q => ∃ (F : Hp) (x y : V) (s t : Int × D), xs = [x, y] ∧ Same F H ∧ Rep X.K F x (pairD s) ∧ Rep X.K F y (pairD t) ∧ s.1 ≠ t.1 ∧ Q (if s.1 < t.1 then y else x) H) := by
  intro pins s σ H xs us Q I r h
  obtain ⟨F, x, y, d, e, rfl, f, rx, ry, ne, q⟩ := h
  obtain ⟨u, v, rfl, r1, r2⟩ := vals2 r
  have at_ : ∀ {x : V} {u : Value} {d : Int × D}, RelV x u → Rep X.K F x (pairD d) → ∃ (a : Addr) (t : Tok) (y : Value), u = .ref a ∧ PyProof.Rows.IsTup s.heap a #[.int d.1 t, y] := fun {x u d} r' rd => by
    obtain ⟨a, ws, ev, ht, rw'⟩ := inv_tup rd
    obtain ⟨v1, v2, rfl, r1, r2⟩ := inv2 rw'
    obtain ⟨its', rv', it', _⟩ := I.tuple (sqT_same f ht)
    cases inv_int r1
    rw [ev] at r'
    cases (show u = Value.ref a from r')
    cases rv' with
    | cons c1 c2 =>
      obtain ⟨t, rfl⟩ := c1
      cases c2 with
      | cons c3 c4 =>
        cases c4
        exact ⟨a, t, _, rfl, it'⟩
  obtain ⟨a, t1, y1, rfl, i1⟩ := at_ r1 rx
  obtain ⟨b, t2, y2, rfl, i2⟩ := at_ r2 ry
  have u1 : X.A.in1.units ≤ X.A.units + 1 := Nat.le_refl _
  refine mx_two (bt := fun i j => decide (i = 1 ∧ j = 0 ∧ d.1 < e.1) || decide (i = 0 ∧ j = 1 ∧ e.1 < d.1)) hh (fun i j x y z Q' E' up hx hy hq => ?_) fun v h' tk hv up => ?_
  · have tu : ∀ {a : Addr} {its : Array Value}, PyProof.Rows.IsTup s.heap a its → PyProof.Rows.IsTup z.heap a its := fun {a its} h => by
      obtain ⟨o, e1, e2, e3⟩ := h
      exact ⟨o, up _ _ e1, e2, e3⟩
    have lt : ∀ (i : Nat) (x : Value), (#[.ref a, .ref b] : Array Value)[i]? = some x → (i = 0 ∧ x = .ref a) ∨ (i = 1 ∧ x = .ref b) := fun i x h => by
      match i, h with
      | 0, h => cases h; exact .inl ⟨rfl, rfl⟩
      | 1, h => cases h; exact .inr ⟨rfl, rfl⟩
      | i + 2, h => simp at h
    rcases lt i x hx with ⟨rfl, rfl⟩ | ⟨rfl, rfl⟩ <;> rcases lt j y hy with ⟨rfl, rfl⟩ | ⟨rfl, rfl⟩
    · refine DMX.gt_same (tu i1) (by omega) (by simpa using hq)
    · exact DMX.gt_ne (tu i1) (tu i2) ne (by omega) (by simpa using hq)
    · exact DMX.gt_ne (tu i2) (tu i1) (Ne.symm ne) (by omega) (by simpa using hq)
    · refine DMX.gt_same (tu i2) (by omega) (by simpa using hq)
  · by_cases hc : d.1 < e.1
    · rw [if_pos hc] at q
      have : v = .ref b := by
        have e : argBest (fun i j => decide (i = 1 ∧ j = 0 ∧ d.1 < e.1) || decide (i = 0 ∧ j = 1 ∧ e.1 < d.1)) 1 = 1 := by simp [argBest, hc]
        rw [e] at hv
        cases hv
        rfl
      subst this
      exact ⟨y, H, I.kept (t' := tk) up, r2, q⟩
    · rw [if_neg hc] at q
      have : v = .ref a := by
        have e : argBest (fun i j => decide (i = 1 ∧ j = 0 ∧ d.1 < e.1) || decide (i = 0 ∧ j = 1 ∧ e.1 < d.1)) 1 = 0 := by simp [argBest, hc]
        rw [e] at hv
        cases hv
        rfl
      subst this
      exact ⟨x, H, I.kept (t' := tk) up, r1, q⟩
theorem call_min2T {X : Cx} (hh : X.A.handled = none) (hu : X.A.units + 70 < cLine) : CallR X (.builtin "min") (fun xs H Q => ∃ (F : Hp) (x y : V) (s t : Int × D), xs = [x, y] ∧ Same F H ∧ Rep X.K F x (pairD s) ∧ Rep X.K F y (pairD t) ∧ s.1 ≠ t.1 ∧ Q (if t.1 < s.1 then y else x) H) := by
  intro pins s σ H xs us Q I r h
  obtain ⟨F, x, y, d, e, rfl, f, rx, ry, ne, q⟩ := h
  obtain ⟨u, v, rfl, r1, r2⟩ := vals2 r
  have at_ : ∀ {x : V} {u : Value} {d : Int × D}, RelV x u → Rep X.K F x (pairD d) → ∃ (a : Addr) (t : Tok) (y : Value), u = .ref a ∧ PyProof.Rows.IsTup s.heap a #[.int d.1 t, y] := fun {x u d} r' rd => by
    obtain ⟨a, ws, ev, ht, rw'⟩ := inv_tup rd
    obtain ⟨v1, v2, rfl, r1, r2⟩ := inv2 rw'
    obtain ⟨its', rv', it', _⟩ := I.tuple (sqT_same f ht)
    cases inv_int r1
    rw [ev] at r'
    cases (show u = Value.ref a from r')
    cases rv' with
    | cons c1 c2 =>
      obtain ⟨t, rfl⟩ := c1
      cases c2 with
      | cons c3 c4 =>
        cases c4
        exact ⟨a, t, _, rfl, it'⟩
  obtain ⟨a, t1, y1, rfl, i1⟩ := at_ r1 rx
  obtain ⟨b, t2, y2, rfl, i2⟩ := at_ r2 ry
  have u1 : X.A.in1.units ≤ X.A.units + 1 := Nat.le_refl _
  refine mn_two (bt := fun i j => decide (i = 1 ∧ j = 0 ∧ e.1 < d.1) || decide (i = 0 ∧ j = 1 ∧ d.1 < e.1)) hh (fun i j x y z Q' E' up hx hy hq => ?_) fun v h' tk hv up => ?_
  · have tu : ∀ {a : Addr} {its : Array Value}, PyProof.Rows.IsTup s.heap a its → PyProof.Rows.IsTup z.heap a its := fun {a its} h => by
      obtain ⟨o, e1, e2, e3⟩ := h
      exact ⟨o, up _ _ e1, e2, e3⟩
    have lt : ∀ (i : Nat) (x : Value), (#[.ref a, .ref b] : Array Value)[i]? = some x → (i = 0 ∧ x = .ref a) ∨ (i = 1 ∧ x = .ref b) := fun i x h => by
      match i, h with
      | 0, h => cases h; exact .inl ⟨rfl, rfl⟩
      | 1, h => cases h; exact .inr ⟨rfl, rfl⟩
      | i + 2, h => simp at h
    rcases lt i x hx with ⟨rfl, rfl⟩ | ⟨rfl, rfl⟩ <;> rcases lt j y hy with ⟨rfl, rfl⟩ | ⟨rfl, rfl⟩
    · refine DMX.lt_same (tu i1) (by omega) (by simpa using hq)
    · exact DMX.lt_ne (tu i1) (tu i2) ne (by omega) (by simpa using hq)
    · exact DMX.lt_ne (tu i2) (tu i1) (Ne.symm ne) (by omega) (by simpa using hq)
    · refine DMX.lt_same (tu i2) (by omega) (by simpa using hq)
  · by_cases hc : e.1 < d.1
    · rw [if_pos hc] at q
      have : v = .ref b := by
        have e : argBest (fun i j => decide (i = 1 ∧ j = 0 ∧ e.1 < d.1) || decide (i = 0 ∧ j = 1 ∧ d.1 < e.1)) 1 = 1 := by simp [argBest, hc]
        rw [e] at hv
        cases hv
        rfl
      subst this
      exact ⟨y, H, I.kept (t' := tk) up, r2, q⟩
    · rw [if_neg hc] at q
      have : v = .ref a := by
        have e : argBest (fun i j => decide (i = 1 ∧ j = 0 ∧ e.1 < d.1) || decide (i = 0 ∧ j = 1 ∧ d.1 < e.1)) 1 = 0 := by simp [argBest, hc]
        rw [e] at hv
        cases hv
        rfl
      subst this
      exact ⟨x, H, I.kept (t' := tk) up, r1, q⟩
end DL
namespace DGX
open PySem PySem.Spec PySem.W PyProof.Rows
section
variable {prog : Program} {w : World} {A : Around} {E : Value → Shared → Prop} {s : Shared}
theorem srt1_tree {a : Addr} {v : Value} {ep : Nat} {P : PySem.Fin → Shared → Prop} (ho : s.heap.get? a = some (seqObj "list" [v].toArray ep))
    (done : P (.done (.ret .none)) { s with heap := sortedHeap s.heap a [v] [v].toArray }) :
    wpAny (model prog w) A (Builtin.«list.sort» ⟨[.ref a], []⟩) P E s := by
  have z64 : (64 : Nat) ≤ sizeLine := by rw [sizeLine_eq]; omega
  have sv : [v].toArray.size = 1 := rfl
  obtain ⟨e1, o1⟩ : ∃ e1, (s.heap.update a (Obj.mapSeq fun _ => (#[] : Array Value))).get? a = some (seqObj "list" #[] e1) := ⟨_, get?_update_seq ho fun _ => #[]⟩
  rw [list_sort_plain]
  refine wpAny_bind (listItems_at ho rfl (wpAny_bind (listUpdate_at ho rfl ?_ (by rw [sv]; omega) (Nat.zero_le _))))
  refine wpAny_bind (seqEpoch_at o1 rfl (wpAny_bind (wpAny_newTuple ?_ (by show 1 ≤ _; omega))))
  refine wpAny_bind (wpAny_newList (wpAny_holding ?_) (Nat.zero_le _))
  have o6 : (((s.heap.update a (Obj.mapSeq fun _ => (#[] : Array Value))).push (seqObj "tuple" [v].toArray 0)).push (seqObj "list" #[] 0)).get? a = some (seqObj "list" #[] e1) :=
    Heap.get?_push_of_some _ (Heap.get?_push_of_some _ o1)
  show wpAny (model prog w) A _ P E { s with heap := ((s.heap.update a (Obj.mapSeq fun _ => (#[] : Array Value))).push (seqObj "tuple" [v].toArray 0)).push (seqObj "list" #[] 0) }
  dsimp only
  have n2 : [v].toArray.size < 2 := by rw [sv]; omega
  rw [if_pos n2, if_pos n2]
  refine wpAny_bind (wpAny_pure ?_)
  rw [StateT.run_pure]
  refine wpAny_bind (wpAny_pure ?_)
  dsimp only
  have ea : Array.map (fun x => x.snd) (arrOf (SortSt.mk' general' (([v].toArray).zip [v].toArray) #[] 7 none)) = [v].toArray := by
    show Array.map (fun x => x.snd) (([v].toArray).zip [v].toArray) = [v].toArray
    simp
  rw [ea]
  refine wpAny_bind (seqEpoch_at o6 rfl (wpAny_bind (listUpdate_at o6 rfl ?_ (Nat.zero_le _) ?_)))
  · simp only [bne_self_eq_false, Bool.false_eq_true, if_false]
    exact wpAny_pure done
  · show 1 ≤ _
    omega
theorem srt1_call {l : Addr} {v : Value} {Q : Value → Shared → Prop} (hl : s.heap.IsList l [v].toArray)
    (done : Q (.ref (s.heap.objs.size + 1)) { s with heap := sortedAll s.heap [v] [v].toArray }) :
    wpAny (model prog w) A (call (.builtin "sorted") [.ref l]) Q E s := by
  have z64 : (64 : Nat) ≤ sizeLine := by rw [sizeLine_eq]; omega
  refine Calls.call_function_entry kind_sorted plain_sorted entry_sorted (args_sorted1 _) ?_
  unfold Builtin.«sorted»
  refine wpAny_bind (m := checkCount "sorted" 1 1 _) (wpAny_pure (wpAny_bind (collect_list hl ?_ (by show 1 ≤ _; omega))))
  refine wpAny_bind (wpAny_newList ?_ (by show 1 ≤ _; omega))
  have z1 : ((s.heap.push (seqObj "list" #[] 0)).update s.heap.objs.size (Obj.mapSeq (· ++ [v].toArray))).objs.size = s.heap.objs.size + 1 := by rw [Heap.size_update, size_push']
  have oN : (((s.heap.push (seqObj "list" #[] 0)).update s.heap.objs.size (Obj.mapSeq (· ++ [v].toArray))).push (seqObj "list" [v].toArray 0)).get? (s.heap.objs.size + 1) = some (seqObj "list" [v].toArray 0) := by
    rw [← z1]
    exact Heap.get?_push_size _ rfl
  show wpAny _ _ _ _ _ { s with heap := ((s.heap.push (seqObj "list" #[] 0)).update s.heap.objs.size (Obj.mapSeq (· ++ [v].toArray))).push (seqObj "list" [v].toArray 0) }
  rw [z1]
  refine wpAny_bind (wpAny_holding (wpAny_call_entry slot_list_sort ⟨_, oN, rfl⟩ entry_list_sort (srt1_tree oN ⟨_, rfl, ?_⟩) (args_list_sort _)))
  exact wpAny_pure ⟨_, rfl, done⟩
end
end DGX
namespace DL
open PySem L2
theorem call_sort1 {X : Cx} : CallR X (.builtin "sorted") (fun xs H Q => ∃ (p : Addr) (v : V), xs = [.ref p] ∧ SqL X.K H p [v] ∧ ∀ p' : Addr, H p' = none → Q (.ref p') (upd H p' (.lst [v]))) := by
  intro pins s σ H xs us Q I r h
  obtain ⟨p, v, rfl, hp, q⟩ := h
  obtain ⟨u, rfl, ru⟩ := vals1 r
  cases (show u = Value.ref p from ru)
  obtain ⟨its, rv, pl, hz⟩ := I.list hp
  obtain ⟨v', rfl, r1⟩ := vals1 rv
  refine DGX.srt1_call pl.isList ?_
  obtain ⟨e, he⟩ := PyProof.Rows.sortedAll_at s.heap [v'] [v'].toArray
  exact ⟨.ref _, upd H _ (.lst [v]), I.laid (t' := s.toks) (fun _ _ => PyProof.Rows.sortedAll_old) (Nat.le_succ _) ⟨hz, [v'], e, rv, he⟩, rfl, q _ (I.hok.fresh (Nat.le_succ _))⟩
theorem ow_sort1 {Y : Cy} {T : Tx} {k : Nat} {N G : List Str} {c : List Slot} {e : Expr} {pos : Pos} (S : Se Y T k N G) (gi : Nat) {d : D} {p : Pos} (ha : ArD Y [e] c [.lst [d]])
    (hm : T.mg "sorted" = none) (hg : G[gi]? = some ("sorted" : Str) := by rfl) (he : starEach [e] Y.X.env = (false, eval e Y.X.env) :: starEach [] Y.X.env := by rfl) : OwD Y (.Call (.Name "sorted" p) [e] [] pos) c [d] :=
  ow_callB S gi call_sort1 hg hm bt_sorted' ha (fun vs F H Q f r q => by
    obtain ⟨v, rfl, rv⟩ := inv1 r
    obtain ⟨p, ws, rfl, hp, rs⟩ := inv_lst rv
    obtain ⟨w, rfl, rw'⟩ := inv1 rs
    exact ⟨p, w, rfl, f.seq hp, fun p' hn => q _ F H p' (Ext.refl f) (.cons rw' .nil) hn⟩) he rfl
section
variable {Y : Cy} {T : Tx} {k : Nat} {N G : List Str} {c : List Slot} {a b e e1 : Expr} {pos : Pos} {d : D} {ds xs ys : List D}
theorem ev_max2T (S : Se Y T k N G) (gi : Nat) {s t : Int × D} {p : Pos} (ha : ArD Y [e, e1] c [pairD s, pairD t]) (ne : s.1 ≠ t.1) (hm : T.mg "max" = none) (hg : G[gi]? = some ("max" : Str) := by rfl) (he : starEach [e, e1] Y.X.env = (false, eval e Y.X.env) :: starEach [e1] Y.X.env := by rfl) (hpl : (backTo pos (starEach [e1] Y.X.env)).any (·.1) = false := by rfl) : EvD Y (.Call (.Name "max" p) [e, e1] [] pos) c (if s.1 < t.1 then pairD t else pairD s) :=
  ev_callB S gi (call_max2T S.room.hd (by have := S.room.un; omega)) hg hm bt_max ha (fun vs F H Q f r q => by
    obtain ⟨v, w, rfl, rv, rw'⟩ := inv2 r
    refine ⟨F, v, w, s, t, rfl, f, rv, rw', ne, ?_⟩
    split
    · rename_i h; rw [if_pos h] at q; exact q _ F H (Ext.refl f) rw'
    · rename_i h; rw [if_neg h] at q; exact q _ F H (Ext.refl f) rv) he hpl
theorem ev_min2T (S : Se Y T k N G) (gi : Nat) {s t : Int × D} {p : Pos} (ha : ArD Y [e, e1] c [pairD s, pairD t]) (ne : s.1 ≠ t.1) (hm : T.mg "min" = none) (hg : G[gi]? = some ("min" : Str) := by rfl) (he : starEach [e, e1] Y.X.env = (false, eval e Y.X.env) :: starEach [e1] Y.X.env := by rfl) (hpl : (backTo pos (starEach [e1] Y.X.env)).any (·.1) = false := by rfl) : EvD Y (.Call (.Name "min" p) [e, e1] [] pos) c (if t.1 < s.1 then pairD t else pairD s) :=
  ev_callB S gi (call_min2T S.room.hd (by have := S.room.un; omega)) hg hm bt_min ha (fun vs F H Q f r q => by
    obtain ⟨v, w, rfl, rv, rw'⟩ := inv2 r
    refine ⟨F, v, w, s, t, rfl, f, rv, rw', ne, ?_⟩
    split
    · rename_i h; rw [if_pos h] at q; exact q _ F H (Ext.refl f) rw'
    · rename_i h; rw [if_neg h] at q; exact q _ F H (Ext.refl f) rv) he hpl
def rLtP (K : PySem.W.Frag) (s t : Int × D) (v : Bool) : R2 := fun x y H Q => ∃ F, Same F H ∧ Rep K F x (pairD s) ∧ Rep K F y (pairD t) ∧ Q (.bl v) H
theorem op_ltP {X : Cx} {d e : Int × D} (hu : X.A.units + 64 < cLine) (ne : d.1 ≠ e.1) : OpR X (compareOp .Lt) (rLtP X.K d e (decide (d.1 < e.1))) := by
  intro pins s σ H x y v u Q I rx ry ⟨F, f, r1, r2, q⟩
  have at_ : ∀ {x : V} {u : Value} {d : Int × D}, RelV x u → Rep X.K F x (pairD d) → ∃ (a : Addr) (t : Tok) (y : Value), u = .ref a ∧ PyProof.Rows.IsTup s.heap a #[.int d.1 t, y] := fun {x u d} r' rd => by
    obtain ⟨a, ws, ev, ht, rw'⟩ := inv_tup rd
    obtain ⟨v1, v2, rfl, r1, r2⟩ := inv2 rw'
    obtain ⟨its', rv', it', _⟩ := I.tuple (sqT_same f ht)
    cases inv_int r1
    rw [ev] at r'
    cases (show u = Value.ref a from r')
    cases rv' with
    | cons c1 c2 =>
      obtain ⟨t, rfl⟩ := c1
      cases c2 with
      | cons c3 c4 =>
        cases c4
        exact ⟨a, t, _, rfl, it'⟩
  obtain ⟨a, t1, y1, rfl, i1⟩ := at_ rx r1
  obtain ⟨b, t2, y2, rfl, i2⟩ := at_ ry r2
  exact DMX.lt_ne i1 i2 ne (by omega) ⟨.bl _, H, I, rfl, q⟩
theorem te_ltP (S : Se Y T k N G) {s t : Int × D} (ha : EvD Y a c (pairD s)) (hb : EvD Y b c (pairD t)) (ne : s.1 ≠ t.1) : TeD Y (.Compare a [.Lt] [b] pos) c (decide (s.1 < t.1)) :=
  te_cmp (op_ltP S.room.units ne) (nomark _) ha hb fun x y F H Q f rx ry q => ⟨F, f, rx, ry, q F H (Ext.refl f)⟩
/-- t + u, both not empty -/
theorem ev_catT (ha : EvD Y a c (.tup xs)) (hb : EvD Y b c (.tup ys)) (hx : xs ≠ []) (hy : ys ≠ []) (hz : xs.length + ys.length ≤ 1000000) : EvD Y (.BinOp a .Add b pos) c (.tup (xs ++ ys)) :=
  ev_op2 (t := tC .non) (ta := tC .non) (tb := tC .non) (pe_op op_catT ha hb) fun x y F H Q f rx ry q => by
    obtain ⟨p1, vs, rfl, h1, r1⟩ := inv_tup rx
    obtain ⟨p2, ws, rfl, h2, r2⟩ := inv_tup ry
    have l1 := r1.length
    have l2 := r2.length
    refine ⟨p1, p2, vs, ws, rfl, rfl, sqT_same f h1, sqT_same f h2, fun z => ?_, by rw [l1, l2]; exact small_le hz, fun z => ?_, fun _ p hp => q (.ref p) _ _ (Ext.new f hp (.tup (vs ++ ws))) (.tup (SqT.of upd_same) ((r1.append r2).mono (Ext.new f hp _).ff))⟩
    · rw [z] at l1; exact hx (List.eq_nil_of_length_eq_zero l1.symm)
    · rw [z] at l2; exact absurd (List.eq_nil_of_length_eq_zero l2.symm) hy
/-- t[i:], t[:j] -/
theorem ev_slTT {x y : Option Int} {lo hi : Option Expr} {p2 : Pos} (ha : EvD Y a c (.tup ds)) (hb : PO Y.X lo (fun σ H Q => ∃ F, EnvY Y F H σ c ∧ ∀ F' H', Ext F H F' H' → Q x H')) (hc : PO Y.X hi (fun σ H Q => ∃ F, EnvY Y F H σ c ∧ ∀ F' H', Ext F H F' H' → Q y H'))
    (hw : ¬ (HT.sIx ds.length 0 x = 0 ∧ HT.sIx ds.length ds.length y = ds.length)) : EvD Y (.Subscript a (.Slice lo hi none p2) pos) c (.tup (cutO ds x y)) :=
  PE.imp (pe_slice sl_tup ha hb hc) fun σ H Q ⟨F, E, q⟩ => ⟨F, E, fun v F1 H1 e1 r1 => ⟨F1, E.grow e1, fun F2 H2 e2 => ⟨F2, (E.grow e1).grow e2, fun F3 H3 e3 => by
    obtain ⟨p, vs, rfl, hp, rs⟩ := inv_tup r1
    have e123 := e1.trans (e2.trans e3)
    have f3 := (e2.trans e3)
    have hl := rs.length
    refine ⟨p, vs, rfl, sqT_same e123.fh (sqT_same f3.ff hp), by rw [hl]; exact hw, fun p' hp' => ?_⟩
    have ex := Ext.new e123.fh hp' (.tup (cutV vs x y))
    refine q (.ref p') _ _ (e123.trans ex) (.tup (SqT.of upd_same) ?_)
    have r2 : Reps Y.X.K F1 (cutV vs x y) (cutO ds x y) := by
      unfold cutV cutO
      rw [hl]
      exact reps_take32 _ (reps_drop32 _ rs)
    exact r2.mono (f3.ff.trans ex.ff)⟩⟩⟩
theorem ev_slT1 {p2 : Pos} (ha : EvD Y a c (.tup (d :: ds))) (hb : EvD Y b c (.int 1)) : EvD Y (.Subscript a (.Slice (some b) none none p2) pos) c (.tup ds) := by
  have h := ev_slTT (p2 := p2) (pos := pos) (x := some 1) (y := none) ha (po_D32 hb) po_D0 (by
    unfold HT.sIx
    simp)
  have e : cutO (d :: ds) (some 1) none = ds := by
    unfold cutO HT.sIx
    have q : ¬ (1 : Int) < 0 := by omega
    simp only [q, if_false, List.length_cons]
    have e1 : min (1 : Int).toNat (ds.length + 1) = 1 := by have : (1 : Int).toNat = 1 := rfl; omega
    rw [e1]
    simp
  rw [e] at h
  exact h
theorem ev_slT3 {p2 : Pos} {d0 d1 d2 d3 : D} (ha : EvD Y a c (.tup [d0, d1, d2, d3])) (hb : EvD Y b c (.int 3)) : EvD Y (.Subscript a (.Slice none (some b) none p2) pos) c (.tup [d0, d1, d2]) := by
  have h := ev_slTT (p2 := p2) (pos := pos) (x := none) (y := some 3) ha po_D0 (po_D32 hb) (by
    unfold HT.sIx
    simp)
  exact h
/-- {k0: v0, ..}[e], three texts -/
theorem ev_dgetS {o : Expr} {trs : List (TE × TE)} {kvs : List (Key × V)} {j v : Str} (S : Se Y T k N G) (ho : PE Y.X o (tDisp trs)) (hps : ∀ σ H (Q : List (V × V) → Hp → Prop), Q (kvs.map fun kv => (kV kv.1, kv.2)) H → tPairs trs σ H Q) (hl : kvs.length ≤ 15) (hb : EvD Y b c (.str j)) (hv : valV (mergeK [] kvs) (Sum.inr j) = some (.str v)) (hp : NoSl b) : EvD Y (.Subscript o b pos) c (.str v) := by
  refine PE.imp (pe_dget (dic_units S) ho hb hp) fun σ H Q ⟨F, E, q⟩ q0 hq0 => hps _ _ _ ?_
  refine ⟨upd_same, kvs, rfl, hl, ?_⟩
  have X : Ext F H F (upd (upd H q0 (.dK [])) q0 (.dK (mergeK [] kvs))) := by
    have sm : Same H (upd (upd H q0 (.dK [])) q0 (.dK (mergeK [] kvs))) := fun z u w => by rw [upd_ne (ne_of_none w hq0), upd_ne (ne_of_none w hq0)]; exact w
    exact ⟨Same.refl _, E.ext.fh.trans sm, sm, fun _ _ z => z⟩
  refine ⟨F, E.grow X, fun u F1 H1 e1 r1 => ⟨q0, .str v, rfl, ?_, q _ F1 H1 (X.trans e1) (.str v)⟩⟩
  rw [inv_str r1, ← hv]
  exact DGet.k (k := Sum.inr j) (e1.hh _ _ upd_same)
theorem ev_dlit3S {k0 k1 k2 v0 v1 v2 j v : Str} {o0 o1 o2 u0 u1 u2 : Expr} {p : Pos} (S : Se Y T k N G) (h0 : PE Y.X o0 (tC (.str k0))) (h1 : PE Y.X o1 (tC (.str k1))) (h2 : PE Y.X o2 (tC (.str k2)))
    (g0 : PE Y.X u0 (tC (.str v0))) (g1 : PE Y.X u1 (tC (.str v1))) (g2 : PE Y.X u2 (tC (.str v2))) (hb : EvD Y b c (.str j))
    (hv : valV (mergeK [] [(Sum.inr k0, .str v0), (Sum.inr k1, .str v1), (Sum.inr k2, .str v2)]) (Sum.inr j) = some (.str v)) (hp : NoSl b) :
    EvD Y (.Subscript (.Dict [some o0, some o1, some o2] [u0, u1, u2] p) b pos) c (.str v) :=
  ev_dgetS (kvs := [(Sum.inr k0, .str v0), (Sum.inr k1, .str v1), (Sum.inr k2, .str v2)]) S (pe_disp (pps_cons h0 g0 (pps_cons h1 g1 (pps_cons h2 g2 pps_nil))) rfl rfl (fun z => by cases z) (Nat.le_of_ble_eq_true rfl)) (fun _ _ _ q => q) (Nat.le_of_ble_eq_true rfl) hb hv hp
end
end DL

set_option Elab.async false
set_option linter.all false
set_option maxRecDepth 100000
namespace DL
open PySem L2
/-! what an exception passes by does not touch its dict -/
def KeepD (e : Addr) (dx : Option Addr) (h : Heap) : Prop := ∃ o, h.get? e = some o ∧ o.dict = dx
section
variable {e : Addr} {dx : Option Addr} {α β : Type}
end
end DL

set_option Elab.async false
set_option linter.all false
set_option maxRecDepth 100000
namespace DL
open PySem PySem.W PySem.Calls PyProof.Rows Builtin Builtin.ObjectAttr
/-! an own class of refusals with its own __init__ that lays one field -/
abbrev VEs : List Value := [.type "ValueError", .type "Exception", .type "BaseException", .type "object"]
def farIn (K : PySem.W.Frag) (C : Addr) : Bool := match K.lookup C with
  | some ⟨.type "type", _, .cls cd, sl⟩ => (match cd.mro, sl.toList with
    | .ref C' :: bm, [_, _, _, _, some (.builtin n), _] => C' == C && (n == "ValueError.__new__" && (!cd.hasDel && (tailIn K VEs bm && cd.hasDict)))
    | _, _ => false)
  | _ => false
/-- the object of such an exception -/
def exo (C : Addr) (dx : Option Addr) (t : Addr) : Obj := { cls := .ref C, dict := dx, data := .fields #[.ref t, .none, .none, .none, .bool false, .none] }
structure FarK (K : PySem.W.Frag) (C D fI : Addr) : Prop where
  fa : farIn K C = true
  init : findIn K (.ref C) "__init__" = some (some (.ref fI))
  fn : typeIn K (.ref fI) = some (.type "function")
  sa : findIn K (.ref C) "__setattr__" = some (some (.builtin "object.__setattr__"))
  nf : findIn K (.ref C) "far" = some none
  rd : readsIn K D (.type "type") = true
  fi : findCls K (.ref D) (.type "type") "__init__" = some (.val (.builtin "ValueError.__init__"))
  sg : specialIn K (.ref D) "__getattribute__" = some (some (.builtin "type.__getattribute__"))
section
variable {prog : Program} {w : World} {A : Around} {E : Value → Shared → Prop} {K : PySem.W.Frag} {C D fI e t0 : Addr} {h : Heap} {g : Array GenState} {d : Drawn} {t : Nat} {os : OsState}
end
end DL

set_option Elab.async false
set_option linter.all false
set_option maxRecDepth 100000
namespace DL
open PySem PySem.W PySem.Calls PyProof.Rows Builtin Builtin.ObjectAttr
section
variable {prog : Program} {w : World} {A : Around} {E : Value → Shared → Prop} {K : PySem.W.Frag} {C D fI e t0 : Addr} {h : Heap} {g : Array GenState} {d : Drawn} {t : Nat} {os : OsState}
end
end DL

set_option Elab.async false
set_option linter.all false
set_option maxRecDepth 100000
namespace DL
open PySem L2
abbrev farF (n : Int) : List (Str × V) := [("far", .int n)]
section
variable {Y : Cy} {T : Tx} {k : Nat} {N G : List Str} {c : List Slot} {js : Expr} {z : Str} {x y sf : Str} {p1 p2 p3 p5 p6 : Pos} {C D fI : Addr}
end
end DL

set_option Elab.async false
set_option linter.all false
set_option maxRecDepth 100000
namespace DL
open PySem L2 PySem.W PyProof.Rows
section
variable {M : Model} {A : Around} {E : Value → Shared → Prop} {K : PySem.W.Frag} {C : Addr} {env : PySem.Env} {s : Shared}
end
end DL
namespace DL
open PySem L2
/-- how an exception with a dict lies behind a call -/
structure LiesD (P : Program) (w : World) (outer : List PySem.Env) (H : Hp) (s : Shared) (a C dx : Addr) (H' : Hp) (s' : Shared) : Prop extends Lies P w outer H s a C H' s' where
  dict : KeepD a (some dx) s'.heap
def CXF (P : Program) (w : World) : CXT := fun outer H s E e s' => ∃ a C dx H', e = .ref a ∧ LiesD P w outer H s a C dx H' s' ∧ E (.ref C) (some dx) H'
end DL

set_option Elab.async false
set_option linter.all false
set_option maxRecDepth 100000
namespace DL
open PySem L2
section
variable {Y : Cy} {T : Tx} {k j : Nat} {N G ps : List Str} {c : List Slot} {js a e : Expr} {es : List Expr} {z : Str} {x y cl sf fr qual : Str} {pos p p1 p2 p3 p5 p6 q1 q2 q3 q4 cpos : Pos} {C D fI : Addr} {n : Int} {d : DL.D} {ds : List DL.D} {P : Out → Prop} {rest : List Stmt} {R : List DL.D → DL.Rs → Prop}
end
end DL

set_option Elab.async false
set_option linter.all false
set_option maxRecDepth 100000
namespace DL
open PySem L2
inductive Rf where
  | ok (d : D) | far (n : Int)
def spZ (T : Tx) (cl : Str) (R : List D → Rf → Prop) : Sp := fun vs H Q E => ∃ F ds r, Same F H ∧ Reps T.K F vs ds ∧ R ds r ∧ (match r with
  | .ok d => ∀ v F' H', Ext F H F' H' → Rep T.K F' v d → Q v H'
  | .far n => ∀ C dx F' H', T.mg cl = some (.ref C) → Ext F H F' H' → F' dx = some (.xd (farF n)) → E (.ref C) (some dx) H')
structure FnZ (T : Tx) (k : Nat) (x cl : Str) (R : List D → Rf → Prop) : Prop where
  ex : ∃ (f : Addr) (fd : FuncData) (ps : List Str), T.mg x = some (.ref f) ∧ PySem.W.keepIn T.K (.ref f) = true ∧ Binds T.K fd ps [] ∧ FnOk T.prog T.w T.K T.mg T.base (CXF T.prog T.w) k f fd ps (spZ T cl R)
/-- a refusal with a field that arrives here, or is raised here, is as it is wanted -/
structure RzD (Y : Cy) (C : Addr) (n : Int) (c : List Slot) : Prop where
  fly : ∀ {pins : List (Addr × Obj)} {σ : St} {F H F' H' : Hp} {s s' : Shared} {e dx : Addr}, Inv Y.X pins σ H s → EnvY Y F H σ c → Ext F H F' H' → LiesD Y.X.prog Y.X.w Y.X.stack H s e C dx H' s' → F' dx = some (.xd (farF n)) → Y.X.xe (.ref e) s'
structure RzDM (Y : Cy) (C : Addr) (n : Int) (c : List Slot) : Prop where
  made : ∀ {pins : List (Addr × Obj)} {σ : St} {F H : Hp} {s : Shared} {e dx t : Addr}, Inv Y.X pins σ H s → EnvY Y F H σ c → F dx = some (.xd (farF n)) → Y.X.s₀.heap.get? e = none → H e = none → e ≠ Y.X.env.locals → s.heap.get? e = some (exo C (some dx) t) → Y.X.xe (.ref e) s
section
variable {Y : Cy} {T : Tx} {k j : Nat} {N G ps : List Str} {c : List Slot} {e : Expr} {es : List Expr} {pos p cpos : Pos} {d : D} {ds : List D} {R : List D → Rf → Prop} {x qual cl : Str} {P : Out → Prop} {rest : List Stmt} {n : Int}
end
end DL

set_option Elab.async false
set_option linter.all false
set_option maxRecDepth 100000
namespace DL
open PySem L2 PySem.W PyProof.Rows
section
variable {Y : Cy} {T : Tx} {k j : Nat} {N G : List Str} {c : List Slot} {pos : Pos} {n : Int}
end
end DL

set_option Elab.async false
set_option linter.all false
set_option maxRecDepth 100000
namespace DL
open PySem L2
section
variable {Y : Cy} {T : Tx} {k j : Nat} {N G ps : List Str} {c : List Slot} {e a b : Expr} {es : List Expr} {pos p cpos : Pos} {d d1 d2 : D} {ds : List D} {x y cl : Str} {P : Out → Prop} {rest : List Stmt} {n : Int}
/-! a def that is handed a refusal with a field -/
def spHF (T : Tx) (cl : Str) (R : Int → D → Prop) : Sp := fun vs H Q _ => ∃ F a C dx n d, vs = [.ref a] ∧ Same F H ∧ H a = some (.ext (ExcAt C (some dx) a)) ∧ F dx = some (.xd (farF n)) ∧ T.mg cl = some (.ref C) ∧ R n d ∧ ∀ v F' H', Ext F H F' H' → Rep T.K F' v d → Q v H'
structure FnHF (T : Tx) (k : Nat) (x cl : Str) (R : Int → D → Prop) : Prop where
  ex : ∃ (f : Addr) (fd : FuncData) (ps : List Str), T.mg x = some (.ref f) ∧ PySem.W.keepIn T.K (.ref f) = true ∧ Binds T.K fd ps [] ∧ FnOkH T.prog T.w T.K T.mg T.base k f fd ps (spHF T cl R)
/-! a plain def that is also called within an except suite -/
structure FnDH (T : Tx) (k : Nat) (x : Str) (R : List D → D → Prop) : Prop where
  ex : ∃ (f : Addr) (fd : FuncData) (ps : List Str), T.mg x = some (.ref f) ∧ PySem.W.keepIn T.K (.ref f) = true ∧ Binds T.K fd ps [] ∧ FnOkH T.prog T.w T.K T.mg T.base k f fd ps (spD T.K R)
/-- a constant of the module: a pair with a pair in it -/
def TupK (K : PySem.W.Frag) (a : Addr) (vs : List V) : Prop := ∃ (o : Obj) (its : Array Value) (n : Nat), K.lookup a = some o ∧ o.cls = .type "tuple" ∧ o.data = .seq its n ∧ its.size ≤ sizeLine ∧ Vals vs its.toList
def CstP (T : Tx) (x : Str) (i j l : Int) : Prop := ∃ a b, T.mg x = some (.ref a) ∧ TupK T.K a [.int i, .ref b] ∧ TupK T.K b [.int j, .int l]
theorem ev_cstP (S : Sn Y T N G) (gi : Nat) {i j l : Int} (h : CstP T x i j l) (hg : G[gi]? = some x := by rfl) : EvD Y (.Name x pos) c (.tup [.int i, .tup [.int j, .int l]]) := by
  obtain ⟨a, b, hm, h1, h2⟩ := h
  have gl := S.gl x (List.mem_of_getElem? hg)
  refine PE.imp (pe_glob (v := .ref a) gl.1 (by rw [S.eM]; exact hm) rfl gl.2.1) fun σ H Q ⟨F, E, q⟩ => q _ F H (Ext.refl E.fh) (.tup (.inr (by rw [S.eK]; exact h1)) (.cons (.int i) (.cons (.tup (.inr (by rw [S.eK]; exact h2)) (.cons (.int j) (.cons (.int l) .nil))) .nil)))
end
end DL

set_option Elab.async false
set_option linter.all false
set_option maxRecDepth 100000
namespace DL
open PySem L2
section
variable {Y : Cy} {T : Tx} {N G : List Str} {c : List Slot} {pos : Pos}
/-! constants of the module -/
def CstS (T : Tx) (x : Str) (z : Str) : Prop := ∃ t, T.mg x = some (.str z t)
def CstI (T : Tx) (x : Str) (i : Int) : Prop := ∃ t, T.mg x = some (.int i t)
theorem ev_cstS (S : Sn Y T N G) (gi : Nat) {x z : Str} (h : CstS T x z) (hg : G[gi]? = some x := by rfl) : EvD Y (.Name x pos) c (.str z) := by
  obtain ⟨t, hm⟩ := h
  have gl := S.gl x (List.mem_of_getElem? hg)
  exact PE.imp (pe_glob (v := .str z) gl.1 (by rw [S.eM]; exact hm) ⟨t, rfl⟩ gl.2.1) fun σ H Q ⟨F, E, q⟩ => q _ F H (Ext.refl E.fh) (.str z)
theorem ev_cstI (S : Sn Y T N G) (gi : Nat) {x : Str} {i : Int} (h : CstI T x i) (hg : G[gi]? = some x := by rfl) : EvD Y (.Name x pos) c (.int i) := by
  obtain ⟨t, hm⟩ := h
  have gl := S.gl x (List.mem_of_getElem? hg)
  exact PE.imp (pe_glob (v := .int i) gl.1 (by rw [S.eM]; exact hm) ⟨t, rfl⟩ gl.2.1) fun σ H Q ⟨F, E, q⟩ => q _ F H (Ext.refl E.fh) (.int i)
end
end DL

set_option maxHeartbeats 4000000
namespace R
open PySem L2 DL
theorem gcd_step (x y : Int) : Int.gcd y (x.fmod y) = Int.gcd x y := by
  rw [Int.fmod_def, Int.gcd_sub_mul_left_right, Int.gcd_comm]
theorem fmod_small (x : Int) {y : Int} (h : y ≠ 0) : (x.fmod y).natAbs < y.natAbs := by
  rcases Int.lt_or_gt_of_ne h with h | h
  · have h1 := Int.fmod_def x y
    have e := Int.neg_fmod_neg x y
    have h2 := Int.fmod_nonneg_of_pos (-x) (show 0 < -y by omega)
    have h3 := Int.fmod_lt_of_pos (-x) (show 0 < -y by omega)
    omega
  · have h2 := Int.fmod_nonneg_of_pos x h
    have h3 := Int.fmod_lt_of_pos x h
    omega
def R_shared (ds : List D) (d : D) : Prop := ∃ a b : Int, ds = [.int a, .int b] ∧ d = .int (Int.gcd a b)
def Pr (p : Int) : Prop := p = 2 ∨ p = 3 ∨ p = 5 ∨ p = 7
theorem inv_ex {p n : Int} (hp : Pr p) (hn : ¬ n % p = 0) : ∃ b, 1 ≤ b ∧ b ≤ p - 1 ∧ n * b % p = 1 := by
  rcases hp with rfl | rfl | rfl | rfl
  · exact ⟨1, by omega, by omega, by omega⟩
  · rcases (show n % 3 = 1 ∨ n % 3 = 2 by omega) with h | h
    · exact ⟨1, by omega, by omega, by omega⟩
    · exact ⟨2, by omega, by omega, by omega⟩
  · rcases (show n % 5 = 1 ∨ n % 5 = 2 ∨ n % 5 = 3 ∨ n % 5 = 4 by omega) with h | h | h | h
    · exact ⟨1, by omega, by omega, by omega⟩
    · exact ⟨3, by omega, by omega, by omega⟩
    · exact ⟨2, by omega, by omega, by omega⟩
    · exact ⟨4, by omega, by omega, by omega⟩
  · rcases (show n % 7 = 1 ∨ n % 7 = 2 ∨ n % 7 = 3 ∨ n % 7 = 4 ∨ n % 7 = 5 ∨ n % 7 = 6 by omega) with h | h | h | h | h | h
    · exact ⟨1, by omega, by omega, by omega⟩
    · exact ⟨4, by omega, by omega, by omega⟩
    · exact ⟨5, by omega, by omega, by omega⟩
    · exact ⟨2, by omega, by omega, by omega⟩
    · exact ⟨3, by omega, by omega, by omega⟩
    · exact ⟨6, by omega, by omega, by omega⟩
theorem inv_found {p n a : Int} (hp : Pr p) (hn : ¬ n % p = 0) (h0 : 1 ≤ a) (h1 : a ≤ p - 1) (h : ∀ b, 1 ≤ b → b < a → n * b % p ≠ 1) (he : ¬ a < p - 1 ∨ n * a % p = 1) : n * a % p = 1 := by
  obtain ⟨b, b0, b1, hb⟩ := inv_ex hp hn
  rcases he with he | he
  · have e : a = b := by
      rcases Int.lt_trichotomy a b with l | l | l
      · omega
      · exact l
      · exact absurd hb (h b b0 l)
    rw [e]; exact hb
  · exact he
theorem pow_dvd (p : Int) {m n : Nat} (h : m ≤ n) : p ^ m ∣ p ^ n := ⟨p ^ (n - m), by rw [← Int.pow_add]; congr 1; omega⟩
theorem newton {p n a : Int} {s k : Nat} (h : p ^ (min s k) ∣ n * a - 1) : p ^ (min (2 * s) k) ∣ n * (a * (2 - n * a) % p ^ k) - 1 := by
  have e : a * (2 - n * a) % p ^ k = a * (2 - n * a) - p ^ k * (a * (2 - n * a) / p ^ k) := Int.emod_def _ _
  have e2 : n * (a * (2 - n * a) % p ^ k) - 1 = -((n * a - 1) * (n * a - 1)) - p ^ k * (n * (a * (2 - n * a) / p ^ k)) := by
    rw [e]; grind
  rw [e2]
  have d1 : p ^ (min (2 * s) k) ∣ (n * a - 1) * (n * a - 1) := by
    have q : p ^ (min s k) * p ^ (min s k) ∣ (n * a - 1) * (n * a - 1) := Int.mul_dvd_mul h h
    rw [← Int.pow_add] at q
    exact Int.dvd_trans (pow_dvd p (by omega)) q
  have d2 : p ^ (min (2 * s) k) ∣ p ^ k := pow_dvd p (by omega)
  exact Int.dvd_sub (Int.dvd_neg.mpr d1) (Int.dvd_trans d2 (Int.dvd_mul_right _ _))
theorem Pr.two_le {p : Int} (h : Pr p) : 2 ≤ p ∧ p ≤ 7 := by rcases h with rfl | rfl | rfl | rfl <;> omega
theorem pw_pos {p : Int} (hp : Pr p) (k : Nat) : 0 < p ^ k := Int.pow_pos (by have := hp.two_le; omega)
theorem inv_exists {p n : Int} (hp : Pr p) (hn : ¬ n % p = 0) : ∀ k : Nat, ∃ x, p ^ k ∣ n * x - 1
  | 0 => ⟨0, by simp⟩
  | 1 => by
    obtain ⟨b, _, _, hb⟩ := inv_ex hp hn
    refine ⟨b, ?_⟩
    rw [Int.pow_one]
    have := Int.emod_add_mul_ediv (n * b) p
    exact ⟨n * b / p, by omega⟩
  | k + 2 => by
    obtain ⟨x, hx⟩ := inv_exists hp hn (k + 1)
    have h : p ^ (min (k + 1) (k + 2)) ∣ n * x - 1 := by rw [show min (k + 1) (k + 2) = k + 1 by omega]; exact hx
    have := newton h
    rw [show min (2 * (k + 1)) (k + 2) = k + 2 by omega] at this
    exact ⟨_, this⟩
/-- the number over n by p ^ k -/
def IsOver (p n : Int) (k : Nat) (x : Int) : Prop := 0 ≤ x ∧ x < p ^ k ∧ p ^ k ∣ n * x - 1
theorem over_uniq {p n : Int} {k : Nat} {x y : Int} (hx : IsOver p n k x) (hy : IsOver p n k y) : x = y := by
  obtain ⟨x0, x1, xd⟩ := hx
  obtain ⟨y0, y1, yd⟩ := hy
  have d : p ^ k ∣ x - y := by
    have e : x - y = x * (n * y - 1) * (-1) + y * (n * x - 1) := by grind
    rw [e]
    exact Int.dvd_add (Int.dvd_mul_of_dvd_left (Int.dvd_mul_of_dvd_right yd)) (Int.dvd_mul_of_dvd_right xd)
  have : x - y = 0 := by
    rcases Int.lt_trichotomy (x - y) 0 with h | h | h
    · have := Int.le_of_dvd (show 0 < -(x - y) by omega) (Int.dvd_neg.mpr d); omega
    · exact h
    · have := Int.le_of_dvd h d; omega
  omega
theorem over_ex {p n : Int} (hp : Pr p) (hn : ¬ n % p = 0) (k : Nat) : ∃ x, IsOver p n k x := by
  obtain ⟨x, hx⟩ := inv_exists hp hn k
  have pp := pw_pos hp k
  refine ⟨x % p ^ k, Int.emod_nonneg _ (by omega), Int.emod_lt_of_pos _ pp, ?_⟩
  have e : n * (x % p ^ k) - 1 = (n * x - 1) - p ^ k * (n * (x / p ^ k)) := by rw [Int.emod_def]; grind
  rw [e]
  exact Int.dvd_sub hx (Int.dvd_mul_right _ _)
noncomputable def overBy (p n : Int) (k : Nat) : Int := Classical.epsilon (IsOver p n k)
theorem overBy_is {p n : Int} (hp : Pr p) (hn : ¬ n % p = 0) (k : Nat) : IsOver p n k (overBy p n k) := Classical.epsilon_spec (over_ex hp hn k)

theorem pw_le {p : Int} (hp : Pr p) : ∀ k : Nat, p ^ k < 2 ^ (3 * k + 1)
  | 0 => by rw [Int.pow_zero]; decide
  | k + 1 => by
    have h := pw_le hp k
    have q := pw_pos hp k
    have h7 := hp.two_le
    rw [Int.pow_succ, show 3 * (k + 1) + 1 = 3 * k + 1 + 3 by omega, Int.pow_add]
    have : p ^ k * p ≤ p ^ k * 7 := Int.mul_le_mul_of_nonneg_left h7.2 (by omega)
    have e : (2 : Int) ^ 3 = 8 := by decide
    rw [e]; omega
theorem sq_step {x y p : Int} {k k0 : Nat} (h : x * y ^ k = p ^ k0) : (if k % 2 = 1 then x * y else x) * (y * y) ^ (k / 2) = p ^ k0 := by
  rw [← h, Int.mul_pow, ← Int.pow_add]
  split
  · rw [Int.mul_assoc, ← Int.pow_succ']
    congr 2; omega
  · congr 2; omega
theorem le_self_pow {y : Int} (h : 1 ≤ y) : ∀ {k : Nat}, 1 ≤ k → y ≤ y ^ k
  | 1, _ => by rw [Int.pow_one]; exact Int.le_refl y
  | k + 2, _ => by
    have := le_self_pow h (show 1 ≤ k + 1 by omega)
    rw [Int.pow_succ]
    have q : y ^ (k + 1) * 1 ≤ y ^ (k + 1) * y := Int.mul_le_mul_of_nonneg_left h (by omega)
    omega
theorem le_mul_pos {x y : Int} (hx : 1 ≤ x) (hy : 1 ≤ y) : x ≤ x * y ∧ y ≤ x * y := by
  have h1 : x * 1 ≤ x * y := Int.mul_le_mul_of_nonneg_left hy (by omega)
  have h2 : 1 * y ≤ x * y := Int.mul_le_mul_of_nonneg_right hx (by omega)
  omega

theorem pw_bd {p : Int} (hp : Pr p) (k : Nat) : Bd (3 * k + 1) (p ^ k) := by
  have h := pw_le hp k
  have q := pw_pos hp k
  unfold Bd
  have e : ((2 ^ (3 * k + 1) : Nat) : Int) = (2 : Int) ^ (3 * k + 1) := by simp
  omega
theorem Bd.of_le {n : Nat} {x y : Int} (h0 : 0 ≤ x) (h1 : x ≤ y) (h : Bd n y) : Bd n x := by unfold Bd at *; omega
theorem sq_ok {x y p : Int} {k' k0 : Nat} (hp : Pr p) (hx : 1 ≤ x) (hy : 1 ≤ y) (hk : 1 ≤ k') (h0 : k0 ≤ 1000000) (h : x * y ^ k' = p ^ k0) : IntMulOk x y ∧ IntMulOk y y := by
  have b := pw_bd hp k0
  have y1 := le_self_pow hy hk
  have z := le_mul_pos hx (show 1 ≤ y ^ k' by omega)
  rw [h] at z
  have bx : Bd (3 * k0 + 1) x := Bd.of_le (by omega) z.1 b
  have by' : Bd (3 * k0 + 1) y := Bd.of_le (by omega) (by omega) b
  exact ⟨mulOk bx by' (by omega), mulOk by' by' (by omega)⟩
def R_raised (ds : List D) (d : D) : Prop := ∃ p k : Int, ds = [.int p, .int k] ∧ Pr p ∧ k ≤ 1000000 ∧ d = .int (p ^ k.toNat)
def R_obp (ds : List D) (d : D) : Prop := ∃ p n : Int, ds = [.int p, .int n] ∧ Pr p ∧ ¬ n % p = 0 ∧ Bd 1000000 n ∧ d = .int (overBy p n 1)
def R_over_by (ds : List D) (d : D) : Prop := ∃ p n k : Int, ds = [.int p, .int n, .int k] ∧ Pr p ∧ ¬ n % p = 0 ∧ 0 ≤ k ∧ k ≤ 1000000 ∧ Bd 1000000 n ∧ d = .int (overBy p n k.toNat)
/-! fractions -/
theorem low_num (t : Int) {b : Int} (hb : b ≠ 0) : t.fdiv (if b < 0 then -(Int.gcd t b : Int) else (Int.gcd t b : Int)) = (Rat.divInt t b).num ∧ b.fdiv (if b < 0 then -(Int.gcd t b : Int) else (Int.gcd t b : Int)) = ((Rat.divInt t b).den : Int) := by
  have hg : 0 < Int.gcd t b := Int.gcd_pos_of_ne_zero_right t hb
  have dt := Int.gcd_dvd_left t b
  have db := Int.gcd_dvd_right t b
  rw [Rat.num_divInt, Rat.den_divInt, if_neg hb, Int.gcd_comm b t]
  obtain ⟨u, hu⟩ := dt
  obtain ⟨v, hv⟩ := db
  have g0 : (Int.gcd t b : Int) ≠ 0 := by omega
  generalize hgg : (Int.gcd t b : Int) = g at *
  have hgn : Int.gcd t b = g.toNat := by omega
  have gp : 0 < g := by omega
  rw [hgn]
  have fm : ∀ x : Int, (g * x).fdiv g = x := fun x => by rw [Int.mul_comm]; exact Int.mul_fdiv_cancel x g0
  have fm' : ∀ x : Int, (g * x).fdiv (-g) = -x := fun x => by rw [show g * x = (-x) * (-g) by grind]; exact Int.mul_fdiv_cancel (-x) (by omega)
  have em : ∀ x : Int, (g * x) / g = x := fun x => Int.mul_ediv_cancel_left x g0
  by_cases hb0 : b < 0
  · rw [if_pos hb0]
    have s : b.sign = -1 := Int.sign_eq_neg_one_of_neg hb0
    rw [s]
    constructor
    · rw [hu, fm', show -1 * (g * u) = g * (-u) by grind, em]
    · rw [hv, fm']
      have vn : v < 0 := by
        by_cases h : v < 0
        · exact h
        · have := Int.mul_nonneg (show 0 ≤ g by omega) (show 0 ≤ v by omega); omega
      have : (g * v).natAbs / g.toNat = v.natAbs := by
        rw [Int.natAbs_mul, show g.natAbs = g.toNat by omega]
        exact Nat.mul_div_cancel_left _ (by omega)
      rw [this]; omega
  · rw [if_neg hb0]
    have s : b.sign = 1 := Int.sign_eq_one_of_pos (by omega)
    rw [s]
    constructor
    · rw [hu, fm, Int.one_mul, em]
    · rw [hv, fm]
      have vn : 0 ≤ v := by
        by_cases h : v < 0
        · have := Int.mul_nonneg (show 0 ≤ g by omega) (show 0 ≤ -v by omega)
          rw [show g * -v = -(g * v) by grind] at this; 
          have : g * v = 0 := by omega
          omega
        · omega
      have : (g * v).natAbs / g.toNat = v.natAbs := by
        rw [Int.natAbs_mul, show g.natAbs = g.toNat by omega]
        exact Nat.mul_div_cancel_left _ (by omega)
      rw [this]; omega
/-! powers -/
def vp (p n : Int) : Nat := if h : 2 ≤ p ∧ n ≠ 0 ∧ n % p = 0 then vp p (n / p) + 1 else 0
termination_by n.natAbs
decreasing_by
  have e := Int.emod_add_mul_ediv n p
  rw [h.2.2, Int.zero_add] at e
  have h1 : n / p ≠ 0 := fun z => h.2.1 (by rw [← e, z, Int.mul_zero])
  have : (p * (n / p)).natAbs = n.natAbs := by rw [e]
  rw [Int.natAbs_mul] at this
  have h2 : 2 * (n / p).natAbs ≤ p.natAbs * (n / p).natAbs := Nat.mul_le_mul_right _ (by omega)
  omega
theorem vp_step {p n : Int} (hp : 2 ≤ p) (hn : n ≠ 0) (h : n % p = 0) : vp p n = vp p (n / p) + 1 := by rw [vp, dif_pos ⟨hp, hn, h⟩]
theorem vp_zero {p n : Int} (h : ¬ n % p = 0) : vp p n = 0 := by rw [vp, dif_neg (fun z => h z.2.2)]
theorem div_facts {p n : Int} (hp : 2 ≤ p) (hn : n ≠ 0) (h : n % p = 0) : n = p * (n / p) ∧ n / p ≠ 0 ∧ (n / p).natAbs < n.natAbs := by
  have e := Int.emod_add_mul_ediv n p
  rw [h, Int.zero_add] at e
  have h1 : n / p ≠ 0 := fun z => hn (by rw [← e, z, Int.mul_zero])
  have : (p * (n / p)).natAbs = n.natAbs := by rw [e]
  rw [Int.natAbs_mul] at this
  have h2 : 2 * (n / p).natAbs ≤ p.natAbs * (n / p).natAbs := Nat.mul_le_mul_right _ (by omega)
  exact ⟨e.symm, h1, by omega⟩
theorem vp_mulp {p n : Int} (hp : 2 ≤ p) (hn : n ≠ 0) : vp p (p * n) = vp p n + 1 := by
  rw [vp_step hp (Int.mul_ne_zero (by omega) hn) (Int.mul_emod_right p n), Int.mul_ediv_cancel_left n (by omega)]
theorem vp_pow {p : Int} (hp : 2 ≤ p) : ∀ k : Nat, vp p (p ^ k) = k
  | 0 => by
    rw [Int.pow_zero, vp_zero]
    rw [Int.emod_eq_of_lt (by omega) (by omega)]; decide
  | k + 1 => by
    rw [Int.pow_succ', vp_mulp hp (Int.ne_of_gt (Int.pow_pos (by omega))), vp_pow hp k]
theorem vp_one {p : Int} (hp : 2 ≤ p) : vp p 1 = 0 := by have := vp_pow hp 0; rw [Int.pow_zero] at this; exact this
/-- None or a number -/
def vq (p : Int) (r : Rat) : Option Int := if r.num = 0 then none else some ((vp p r.num : Int) - (vp p r.den : Int))

abbrev frD (r : Rat) : D := .tup [.int r.num, .int (r.den : Int)]
def optI : Option Int → D
  | none => .non
  | some i => .int i
theorem num_le (t : Int) {b : Int} (hb : b ≠ 0) : (Rat.divInt t b).num.natAbs ≤ t.natAbs ∧ (Rat.divInt t b).den ≤ b.natAbs := by
  have h := low_num t hb
  have hg : 0 < Int.gcd t b := Int.gcd_pos_of_ne_zero_right t hb
  rw [Rat.num_divInt, Rat.den_divInt, if_neg hb]
  refine ⟨?_, Nat.div_le_self _ _⟩
  rw [Int.gcd_comm] at hg
  refine Nat.le_trans (Int.natAbs_ediv_le_natAbs _ _) ?_
  rw [Int.natAbs_mul]
  have : b.sign.natAbs ≤ 1 := by
    rcases Int.lt_trichotomy b 0 with h | h | h
    · rw [Int.sign_eq_neg_one_of_neg h]; decide
    · exact absurd h hb
    · rw [Int.sign_eq_one_of_pos h]; decide
  calc b.sign.natAbs * t.natAbs ≤ 1 * t.natAbs := Nat.mul_le_mul_right _ this
    _ = t.natAbs := Nat.one_mul _
/-- a fraction of at most n bits above and below -/
def Fb (n : Nat) (r : Rat) : Prop := Bd n r.num ∧ Bd n (r.den : Int)
theorem Fb.mono {m n : Nat} {r : Rat} (h : Fb m r) (l : m ≤ n) : Fb n r := ⟨h.1.mono l, h.2.mono l⟩
theorem Fb.divInt {m : Nat} {t b : Int} (hb : b ≠ 0) (h1 : Bd m t) (h2 : Bd m b) : Fb m (Rat.divInt t b) := by
  have q := num_le t hb
  refine ⟨Nat.lt_of_le_of_lt q.1 h1, ?_⟩
  show ((Rat.divInt t b).den : Int).natAbs < 2 ^ m
  rw [Int.natAbs_natCast]
  exact Nat.lt_of_le_of_lt q.2 h2
theorem den_ne (r : Rat) : (r.den : Int) ≠ 0 := by have := r.den_nz; omega
theorem den_pos (r : Rat) : 0 < (r.den : Int) := by have := r.den_nz; omega
theorem rat_mul (a b : Rat) : Rat.divInt (a.num * b.num) ((a.den : Int) * (b.den : Int)) = a * b := by
  rw [Rat.mul_def', ← Rat.divInt_ofNat]; simp
theorem rat_add (a b : Rat) : Rat.divInt (a.num * (b.den : Int) + b.num * (a.den : Int)) ((a.den : Int) * (b.den : Int)) = a + b := by
  rw [Rat.add_def', ← Rat.divInt_ofNat]; simp
theorem rat_sub (a b : Rat) : Rat.divInt (a.num * (b.den : Int) - b.num * (a.den : Int)) ((a.den : Int) * (b.den : Int)) = a - b := by
  rw [Rat.sub_def', ← Rat.divInt_ofNat]; simp
theorem Fb.mul {m n : Nat} {a b : Rat} (h1 : Fb m a) (h2 : Fb n b) : Fb (m + n) (a * b) := by
  rw [← rat_mul]
  exact Fb.divInt (Int.mul_ne_zero (den_ne a) (den_ne b)) (h1.1.mul h2.1) (h1.2.mul h2.2)
theorem Fb.add {m n : Nat} {a b : Rat} (h1 : Fb m a) (h2 : Fb n b) : Fb (m + n + 1) (a + b) := by
  rw [← rat_add]
  refine Fb.divInt (Int.mul_ne_zero (den_ne a) (den_ne b)) ?_ ((h1.2.mul h2.2).mono (by omega))
  have q := (h1.1.mul h2.2).add (h2.1.mul h1.2)
  rw [show max (m + n) (n + m) + 1 = m + n + 1 by omega] at q
  exact q
theorem Fb.sub {m n : Nat} {a b : Rat} (h1 : Fb m a) (h2 : Fb n b) : Fb (m + n + 1) (a - b) := by
  rw [← rat_sub]
  refine Fb.divInt (Int.mul_ne_zero (den_ne a) (den_ne b)) ?_ ((h1.2.mul h2.2).mono (by omega))
  have q := (h1.1.mul h2.2).sub (h2.1.mul h1.2)
  rw [show max (m + n) (n + m) + 1 = m + n + 1 by omega] at q
  exact q
/-- p to a power of either sign -/
def ppw (p k : Int) : Rat := (p : Rat) ^ k
theorem ppw_nn {p k : Int} (h : 0 ≤ k) : (ppw p k).num = p ^ k.toNat ∧ (ppw p k).den = 1 := by
  unfold ppw
  have e : k = ((k.toNat : Nat) : Int) := by omega
  rw [e, Rat.zpow_natCast, Rat.num_pow, Rat.den_pow]
  constructor
  · rfl
  · show (1 : Nat) ^ _ = 1
    simp
theorem ppw_neg {p k : Int} (hp : 0 < p) (h : k < 0) : (ppw p k).num = 1 ∧ ((ppw p k).den : Int) = p ^ (-k).toNat := by
  have q := ppw_nn (p := p) (k := -k) (by omega)
  have e : ppw p k = (ppw p (-k))⁻¹ := by
    unfold ppw
    rw [Rat.zpow_neg, Rat.inv_inv]
  have pp : 0 < p ^ (-k).toNat := Int.pow_pos hp
  rw [e, Rat.num_inv, Rat.den_inv, q.1, q.2, Int.sign_eq_one_of_pos pp, if_neg (by omega)]
  constructor
  · rfl
  · omega
theorem vq_ppw {p k : Int} (hp : Pr p) : vq p (ppw p k) = some k := by
  have p2 := hp.two_le
  unfold vq
  by_cases h : 0 ≤ k
  · have q := ppw_nn (p := p) h
    have pp : 0 < p ^ k.toNat := Int.pow_pos (by omega)
    rw [q.1, q.2, if_neg (by omega), vp_pow p2.1, show ((1 : Nat) : Int) = 1 from rfl, vp_one p2.1]
    congr 1; omega
  · have q := ppw_neg (p := p) (k := k) (by omega) (by omega)
    rw [q.1, q.2, if_neg (by decide), vp_pow p2.1, vp_one p2.1]
    congr 1; omega
def R_power_of (ds : List D) (d : D) : Prop := ∃ p n : Int, ds = [.int p, .int n] ∧ Pr p ∧ d = (if n = 0 then .non else .int (vp p n : Int))
def R_power_in (ds : List D) (d : D) : Prop := ∃ (p : Int) (a : Rat), ds = [.int p, frD a] ∧ Pr p ∧ d = optI (vq p a)
def R_ppw (ds : List D) (d : D) : Prop := ∃ p k : Int, ds = [.int p, .int k] ∧ Pr p ∧ -1000000 ≤ k ∧ k ≤ 1000000 ∧ d = frD (ppw p k)
def R_low (ds : List D) (d : D) : Prop := ∃ t b : Int, ds = [.int t, .int b] ∧ b ≠ 0 ∧ Bd 8900 b ∧ d = frD (Rat.divInt t b)
def R_qmul (ds : List D) (d : D) : Prop := ∃ a b : Rat, ds = [frD a, frD b] ∧ Fb 4400 a ∧ Fb 4400 b ∧ d = frD (a * b)
def R_qadd (ds : List D) (d : D) : Prop := ∃ a b : Rat, ds = [frD a, frD b] ∧ Fb 4400 a ∧ Fb 4400 b ∧ d = frD (a + b)
def R_qsub (ds : List D) (d : D) : Prop := ∃ a b : Rat, ds = [frD a, frD b] ∧ Fb 4400 a ∧ Fb 4400 b ∧ d = frD (a - b)
theorem low_bd {t b : Int} (hb : b ≠ 0) (h : Bd 8900 b) : (if b < 0 then -(Int.gcd t b : Int) else (Int.gcd t b : Int)) ≠ 0 ∧ Bd 9000 (if b < 0 then -(Int.gcd t b : Int) else (Int.gcd t b : Int)) := by
  have hg : 0 < Int.gcd t b := Int.gcd_pos_of_ne_zero_right t hb
  have hl := Int.gcd_le_natAbs_right t hb
  have h' := h.mono (show 8900 ≤ 9000 by decide)
  unfold Bd at *
  refine ⟨by split <;> omega, ?_⟩
  refine Nat.lt_of_le_of_lt ?_ h'
  split <;> omega
def R_overD (ds : List D) (d : D) : Prop := ∃ a b : Rat, ds = [frD a, frD b] ∧ Fb 4400 a ∧ Fb 4400 b ∧ (b.num ≠ 0 ∧ d = frD (Rat.divInt (a.num * (b.den : Int)) ((a.den : Int) * b.num)))
theorem pr_mul {p a b : Int} (hp : Pr p) (ha : ¬ a % p = 0) (hb : ¬ b % p = 0) : ¬ a * b % p = 0 := by
  intro h
  obtain ⟨c, _, _, hc⟩ := inv_ex hp hb
  have h1 := Int.dvd_of_emod_eq_zero h
  have h2 : p ∣ a * (b * c) := by rw [← Int.mul_assoc]; exact Int.dvd_mul_of_dvd_left h1
  have e : b * c = 1 + p * (b * c / p) := by have := Int.emod_add_mul_ediv (b * c) p; omega
  rw [e, Int.mul_add, Int.mul_one, Int.mul_left_comm] at h2
  have h3 : p ∣ a := (Int.dvd_add_left (Int.dvd_mul_right p _)).mp h2
  exact ha (Int.emod_eq_zero_of_dvd h3)
/-- a number's part without p -/
theorem vp_split {p : Int} (hp : Pr p) : ∀ (m : Nat) (n : Int), n.natAbs ≤ m → n ≠ 0 → ∃ u, n = p ^ (vp p n) * u ∧ ¬ u % p = 0
  | 0, n, hm, hn => by omega
  | m + 1, n, hm, hn => by
    have p2 := hp.two_le
    by_cases h : n % p = 0
    · have f := div_facts p2.1 hn h
      obtain ⟨u, hu, hup⟩ := vp_split hp m (n / p) (by omega) f.2.1
      refine ⟨u, ?_, hup⟩
      rw [vp_step p2.1 hn h, Int.pow_succ', Int.mul_assoc, ← hu]
      exact f.1
    · exact ⟨n, by rw [vp_zero h, Int.pow_zero, Int.one_mul], h⟩
theorem vp_ex {p : Int} (hp : Pr p) {n : Int} (hn : n ≠ 0) : ∃ u, n = p ^ (vp p n) * u ∧ ¬ u % p = 0 := vp_split hp _ n (Nat.le_refl _) hn
/-- p ^ n divides m * w, p does not divide w -/
theorem pw_gauss {p w : Int} (hp : Pr p) (hw : ¬ w % p = 0) : ∀ (n : Nat) (m : Int), p ^ n ∣ m * w → p ^ n ∣ m
  | 0, m, _ => by rw [Int.pow_zero]; exact Int.one_dvd m
  | n + 1, m, h => by
    have p2 := hp.two_le
    have hm : p ∣ m := by
      have h1 : p ∣ m * w := Int.dvd_trans (by rw [Int.pow_succ']; exact Int.dvd_mul_right _ _) h
      by_cases z : m % p = 0
      · exact Int.dvd_of_emod_eq_zero z
      · exact absurd (Int.emod_eq_zero_of_dvd h1) (pr_mul hp z hw)
    obtain ⟨q, rfl⟩ := hm
    rw [Int.pow_succ', Int.mul_assoc] at h
    have h2 : p ^ n ∣ q * w := Int.dvd_of_mul_dvd_mul_left (by omega) h
    rw [Int.pow_succ']
    exact Int.mul_dvd_mul_left p (pw_gauss hp hw n q h2)
theorem ppw_add {p : Int} (hp : Pr p) (a b : Int) : ppw p (a + b) = ppw p a * ppw p b := by
  have p2 := hp.two_le
  exact Rat.zpow_add (by intro z; have : p = 0 := by exact_mod_cast z
                         omega) a b
theorem ppw_nat (p : Int) (n : Nat) : ppw p (n : Int) = ((p ^ n : Int) : Rat) := by
  have q := ppw_nn (p := p) (k := (n : Int)) (by omega)
  apply Rat.ext
  · rw [q.1]; simp
  · rw [q.2]; simp
theorem ppw_zero (p : Int) : ppw p 0 = 1 := by have := ppw_nat p 0; simpa using this
theorem ppw_ne {p : Int} (hp : Pr p) (k : Int) : ppw p k ≠ 0 := by
  intro z
  have h := ppw_add hp k (-k)
  rw [z, Rat.zero_mul, show k + -k = 0 by omega, ppw_zero] at h
  exact absurd h (by decide)
theorem ppw_inv {p : Int} (hp : Pr p) (k : Int) : ppw p (-k) * ppw p k = 1 := by
  rw [← ppw_add hp, show -k + k = 0 by omega, ppw_zero]
theorem rat_pos_of {a : Rat} (h : 0 < a.num) : 0 < a := by
  rw [Rat.lt_iff]; simpa using h
theorem ppw_pos {p : Int} (hp : Pr p) (k : Int) : 0 < ppw p k := by
  have p2 := hp.two_le
  have nat : ∀ n : Nat, 0 < ppw p (n : Int) := fun n => by
    apply rat_pos_of
    rw [(ppw_nn (p := p) (k := (n : Int)) (by omega)).1]
    exact pw_pos hp _
  by_cases h : 0 ≤ k
  · have := nat k.toNat
    rw [show ((k.toNat : Nat) : Int) = k by omega] at this
    exact this
  · have h1 := nat (-k).toNat
    rw [show (((-k).toNat : Nat) : Int) = -k by omega] at h1
    have e := ppw_inv hp k
    by_cases z : 0 < ppw p k
    · exact z
    · exfalso
      have z' : ppw p k ≤ 0 := Rat.not_lt.mp z
      have : ppw p (-k) * ppw p k ≤ ppw p (-k) * 0 := Rat.mul_le_mul_of_nonneg_left z' (Rat.le_of_lt h1)
      rw [e, Rat.mul_zero] at this
      exact absurd this (by decide)
/-- r is p ^ k times a fraction that is whole by p -/
def Dv (p k : Int) (r : Rat) : Prop := ∃ u w : Int, ¬ w % p = 0 ∧ r * (w : Rat) = (u : Rat) * ppw p k

theorem dv_zero (p k : Int) (hp : Pr p) : Dv p k 0 := ⟨0, 1, by rcases hp with rfl | rfl | rfl | rfl <;> decide, by simp⟩
theorem dv_add {p k : Int} (hp : Pr p) {r s : Rat} (hr : Dv p k r) (hs : Dv p k s) : Dv p k (r + s) := by
  obtain ⟨u, w, hw, h⟩ := hr
  obtain ⟨u', w', hw', h'⟩ := hs
  refine ⟨u * w' + u' * w, w * w', pr_mul hp hw hw', ?_⟩
  push_cast
  grind
theorem dv_neg {p k : Int} {r : Rat} (hr : Dv p k r) : Dv p k (-r) := by
  obtain ⟨u, w, hw, h⟩ := hr
  refine ⟨-u, w, hw, ?_⟩
  push_cast
  grind
theorem dv_sub {p k : Int} (hp : Pr p) {r s : Rat} (hr : Dv p k r) (hs : Dv p k s) : Dv p k (r - s) := by
  rw [Rat.sub_eq_add_neg]; exact dv_add hp hr (dv_neg hs)
theorem dv_comm {p k : Int} {r s : Rat} (h : Dv p k (r - s)) : Dv p k (s - r) := by
  have := dv_neg h
  rw [show -(r - s) = s - r by grind] at this
  exact this
theorem dv_trans {p k : Int} (hp : Pr p) {r s t : Rat} (h : Dv p k (r - s)) (h' : Dv p k (s - t)) : Dv p k (r - t) := by
  have := dv_add hp h h'
  rw [show r - s + (s - t) = r - t by grind] at this
  exact this
theorem rat_split (r : Rat) : r * (r.den : Rat) = (r.num : Rat) := by
  have h := Rat.num_divInt_den r
  rw [Rat.divInt_eq_div] at h
  have d0 : ((r.den : Int) : Rat) ≠ 0 := by
    intro z
    have : (r.den : Int) = 0 := by exact_mod_cast z
    exact den_ne r this
  conv => lhs; lhs; rw [← h]
  exact Rat.div_mul_cancel d0
theorem vq_dv {p k : Int} (hp : Pr p) (r : Rat) : Dv p k r ↔ (match vq p r with | none => True | some v => k ≤ v) := by
  by_cases h0 : r.num = 0
  · have z : r = 0 := Rat.num_eq_zero.mp h0
    have e : vq p r = none := by unfold vq; rw [if_pos h0]
    rw [e, z]
    exact ⟨fun _ => trivial, fun _ => dv_zero p k hp⟩
  · have e : vq p r = some ((vp p r.num : Int) - (vp p r.den : Int)) := by unfold vq; rw [if_neg h0]
    rw [e]
    obtain ⟨n, hn, np⟩ := vp_ex hp h0
    obtain ⟨d, hd, dp⟩ := vp_ex hp (den_ne r)
    generalize vp p r.num = a at *
    generalize vp p r.den = b at *
    have s := rat_split r
    have hn' : (r.num : Rat) = ppw p (a : Int) * (n : Rat) := by rw [ppw_nat, hn]; push_cast; rfl
    have hd' : (r.den : Rat) = ppw p (b : Int) * (d : Rat) := by
      rw [ppw_nat]
      have : ((r.den : Int) : Rat) = ((p ^ b * d : Int) : Rat) := by rw [← hd]
      push_cast at this ⊢
      exact this
    rw [hn', hd'] at s
    have pb := ppw_ne hp (b : Int)
    have key : r * (d : Rat) = (n : Rat) * ppw p ((a : Int) - (b : Int)) := by
      have e2 : ppw p (a : Int) = ppw p ((a : Int) - (b : Int)) * ppw p (b : Int) := by rw [← ppw_add hp]; congr 1; omega
      rw [e2] at s
      grind
    constructor
    · rintro ⟨u, w, hw, h⟩
      show k ≤ (a : Int) - (b : Int)
      by_cases z : k ≤ (a : Int) - (b : Int)
      · exact z
      · exfalso
        have e3 : ppw p k = ppw p (k - ((a : Int) - (b : Int))) * ppw p ((a : Int) - (b : Int)) := by rw [← ppw_add hp]; congr 1; omega
        have pk := ppw_ne hp ((a : Int) - (b : Int))
        obtain ⟨m, hm⟩ : ∃ m : Nat, k - ((a : Int) - (b : Int)) = ((m + 1 : Nat) : Int) := ⟨(k - ((a : Int) - (b : Int))).toNat - 1, by omega⟩
        have e4 : (n : Rat) * (w : Rat) = (u : Rat) * (d : Rat) * ppw p (k - ((a : Int) - (b : Int))) := by
          rw [e3] at h
          grind
        rw [hm, ppw_nat] at e4
        have e5 : n * w = u * d * p ^ (m + 1) := by exact_mod_cast e4
        have : n * w % p = 0 := Int.emod_eq_zero_of_dvd (by rw [e5, Int.pow_succ', Int.mul_left_comm]; exact Int.dvd_mul_right _ _)
        exact pr_mul hp np hw this
    · intro h
      have h : k ≤ (a : Int) - (b : Int) := h
      obtain ⟨m, hm⟩ : ∃ m : Nat, (a : Int) - (b : Int) - k = (m : Int) := ⟨((a : Int) - (b : Int) - k).toNat, by omega⟩
      refine ⟨n * p ^ m, d, dp, ?_⟩
      rw [key]
      have e3 : ppw p ((a : Int) - (b : Int)) = ppw p (m : Int) * ppw p k := by rw [← ppw_add hp]; congr 1; omega
      rw [e3, ppw_nat]
      push_cast
      grind

theorem dv_mono {p j k : Int} (hp : Pr p) (h : j ≤ k) {r : Rat} (hr : Dv p k r) : Dv p j r := by
  obtain ⟨u, w, hw, e⟩ := hr
  obtain ⟨m, hm⟩ : ∃ m : Nat, k - j = (m : Int) := ⟨(k - j).toNat, by omega⟩
  refine ⟨u * p ^ m, w, hw, ?_⟩
  rw [e, show k = (m : Int) + j by omega, ppw_add hp, ppw_nat]
  push_cast
  grind
/-- the bottom is a power of p -/
def PDen (p : Int) (r : Rat) : Prop := ∃ n : Nat, (r.den : Int) = p ^ n
theorem pden_scale {p : Int} (hp : Pr p) {r : Rat} (h : PDen p r) : ∃ (n : Nat) (m : Int), r * ppw p (n : Int) = (m : Rat) := by
  obtain ⟨n, hn⟩ := h
  refine ⟨n, r.num, ?_⟩
  rw [ppw_nat, ← hn, ← rat_split r]
  first | rfl | norm_cast
theorem scale_more {p : Int} (hp : Pr p) {r : Rat} {n : Nat} {m : Int} (h : r * ppw p (n : Int) = (m : Rat)) {l : Nat} (hl : n ≤ l) : ∃ m' : Int, r * ppw p (l : Int) = (m' : Rat) := by
  refine ⟨m * p ^ (l - n), ?_⟩
  have e : ppw p (l : Int) = ppw p (n : Int) * ppw p ((l - n : Nat) : Int) := by rw [← ppw_add hp]; congr 1; omega
  rw [e, ← Rat.mul_assoc, h, ppw_nat]
  push_cast
  rfl
/-- a divisor of a power of p is one -/
theorem dvd_pw {p : Int} (hp : Pr p) : ∀ (n : Nat) (d : Int), 0 < d → d ∣ p ^ n → ∃ m : Nat, d = p ^ m
  | 0, d, h0, h => ⟨0, by
    rw [Int.pow_zero] at h ⊢
    have := Int.le_of_dvd (by decide) h
    omega⟩
  | n + 1, d, h0, h => by
    have p2 := hp.two_le
    by_cases z : d % p = 0
    · obtain ⟨q, rfl⟩ := Int.dvd_of_emod_eq_zero z
      rw [Int.pow_succ'] at h
      have q0 : 0 < q := by
        by_cases hq : 0 < q
        · exact hq
        · have := Int.mul_nonneg (show 0 ≤ p by omega) (show 0 ≤ -q by omega)
          rw [Int.mul_neg] at this
          omega
      obtain ⟨m, rfl⟩ := dvd_pw hp n q q0 (Int.dvd_of_mul_dvd_mul_left (by omega) h)
      exact ⟨m + 1, by rw [Int.pow_succ']⟩
    · obtain ⟨c, hc⟩ := h
      have h1 : p ^ (n + 1) ∣ c * d := ⟨1, by rw [Int.mul_one, Int.mul_comm]; exact hc.symm⟩
      have h2 := pw_gauss hp z (n + 1) c h1
      obtain ⟨e, rfl⟩ := h2
      have pp := pw_pos hp (n + 1)
      have : d * e = 1 := by
        have h3 : p ^ (n + 1) * (d * e) = p ^ (n + 1) * 1 := by rw [Int.mul_one]; grind
        exact Int.eq_of_mul_eq_mul_left (by omega) h3
      have : d ∣ 1 := ⟨e, this.symm⟩
      have := Int.le_of_dvd (by decide) this
      exact ⟨0, by rw [Int.pow_zero]; omega⟩
theorem pden_of {p : Int} (hp : Pr p) {r : Rat} {n : Nat} {m : Int} (h : r * ppw p (n : Int) = (m : Rat)) : PDen p r := by
  have e : r.num * p ^ n = m * (r.den : Int) := by
    have s := rat_split r
    rw [ppw_nat] at h
    have q : (r.num : Rat) * ((p ^ n : Int) : Rat) = (m : Rat) * ((r.den : Int) : Rat) := by
      rw [← s, ← h]
      push_cast
      grind
    exact_mod_cast q
  have hc : Int.gcd (r.den : Int) r.num = 1 := by
    rw [Int.gcd_comm, Int.gcd_eq_natAbs_gcd_natAbs, Int.natAbs_natCast]; exact r.reduced
  have d : (r.den : Int) ∣ r.num * p ^ n := ⟨m, by rw [e, Int.mul_comm]⟩
  have d2 : (r.den : Int) ∣ p ^ n := by
    have g := Int.gcd_mul_right_right_of_gcd_eq_one (k := p ^ n) hc
    have : (Int.gcd (r.den : Int) (r.num * p ^ n) : Int) = (r.den : Int) := by
      rw [Int.gcd_eq_left (by omega) d]
    rw [g] at this
    have h3 := Int.gcd_dvd_right (r.den : Int) (p ^ n)
    rw [this] at h3
    exact h3
  obtain ⟨k, hk⟩ := dvd_pw hp n _ (den_pos r) d2
  exact ⟨k, hk⟩
structure IsRest (p k : Int) (a r : Rat) : Prop where
  den : PDen p r
  nn : 0 ≤ r
  lt : r < ppw p k
  dv : Dv p k (a - r)
theorem rat_lt_int {a b : Int} : (a : Rat) < (b : Rat) ↔ a < b := by
  rw [Rat.lt_iff]; simp
theorem rat_le_int {a b : Int} : (a : Rat) ≤ (b : Rat) ↔ a ≤ b := by
  rw [Rat.le_iff]; simp
theorem mul_lt {a b c : Rat} (h : a < b) (hc : 0 < c) : a * c < b * c := (Rat.mul_lt_mul_right hc).mpr h
theorem rest_uniq {p k : Int} (hp : Pr p) {a b r s : Rat} (hr : IsRest p k a r) (hs : IsRest p k b s) (h : Dv p k (a - b)) : r = s := by
  have d : Dv p k (r - s) := dv_trans hp (dv_comm hr.dv) (dv_trans hp h hs.dv)
  obtain ⟨n1, m1, e1⟩ := pden_scale hp hr.den
  obtain ⟨n2, m2, e2⟩ := pden_scale hp hs.den
  obtain ⟨L, hL⟩ : ∃ L : Nat, n1 ≤ L ∧ n2 ≤ L ∧ -k ≤ (L : Int) := ⟨n1 + n2 + (-k).toNat, by omega, by omega, by omega⟩
  obtain ⟨x, hx⟩ := scale_more hp e1 hL.1
  obtain ⟨y, hy⟩ := scale_more hp e2 hL.2.1
  obtain ⟨K, hK⟩ : ∃ K : Nat, k + (L : Int) = (K : Int) := ⟨(k + L).toNat, by omega⟩
  have pL := ppw_pos hp (L : Int)
  have eK : ppw p k * ppw p (L : Int) = ((p ^ K : Int) : Rat) := by rw [← ppw_add hp, hK, ppw_nat]
  have bd : ∀ {t : Rat} {z : Int}, 0 ≤ t → t < ppw p k → t * ppw p (L : Int) = (z : Rat) → 0 ≤ z ∧ z < p ^ K := fun {t z} h0 h1 hz => by
    constructor
    · have : (0 : Rat) ≤ (z : Rat) := by rw [← hz]; exact Rat.mul_nonneg h0 (Rat.le_of_lt pL)
      exact rat_le_int.mp (by simpa using this)
    · have := mul_lt h1 pL
      rw [hz, eK] at this
      exact rat_lt_int.mp this
  have bx := bd hr.nn hr.lt hx
  have by' := bd hs.nn hs.lt hy
  obtain ⟨u, w, hw, hd⟩ := d
  have e : (x - y) * w = u * p ^ K := by
    have q : ((x : Rat) - (y : Rat)) * (w : Rat) = (u : Rat) * ((p ^ K : Int) : Rat) := by
      rw [← hx, ← hy, ← eK]
      grind
    exact_mod_cast q
  have dd := pw_gauss hp hw K (x - y) ⟨u, by rw [e, Int.mul_comm]⟩
  have : x - y = 0 := by
    rcases Int.lt_trichotomy (x - y) 0 with h | h | h
    · have := Int.le_of_dvd (show 0 < -(x - y) by omega) (Int.dvd_neg.mpr dd); omega
    · exact h
    · have := Int.le_of_dvd h dd; omega
  have exy : x = y := by omega
  rw [exy, ← hy] at hx
  have pn := ppw_ne hp (L : Int)
  grind
noncomputable def restQ (p k : Int) (a : Rat) : Rat := if k + (vp p a.den : Int) ≤ 0 then 0 else
  Rat.divInt (a.num * overBy p ((a.den : Int) / p ^ (vp p a.den)) (k + (vp p a.den : Int)).toNat % p ^ (k + (vp p a.den : Int)).toNat) (p ^ (vp p a.den))
theorem rest_is {p : Int} (hp : Pr p) (k : Int) (a : Rat) : IsRest p k a (restQ p k a) := by
  obtain ⟨d, hd, dp⟩ := vp_ex hp (den_ne a)
  unfold restQ
  have s := rat_split a
  generalize vp p a.den = e at *
  have pe := pw_pos hp e
  have hdiv : (a.den : Int) / p ^ e = d := by rw [hd]; exact Int.mul_ediv_cancel_left d (by omega)
  have hd' : (a.den : Rat) = ppw p (e : Int) * (d : Rat) := by
    rw [ppw_nat]
    have : ((a.den : Int) : Rat) = ((p ^ e * d : Int) : Rat) := by rw [← hd]
    push_cast at this ⊢
    exact this
  rw [hd'] at s
  have pne := ppw_ne hp (e : Int)
  split
  · rename_i h
    refine ⟨⟨0, by simp⟩, Rat.le_refl, ppw_pos hp k, ?_⟩
    obtain ⟨m, hm⟩ : ∃ m : Nat, -(e : Int) - k = (m : Int) := ⟨(-(e : Int) - k).toNat, by omega⟩
    refine ⟨a.num * p ^ m, d, dp, ?_⟩
    have e1 : ppw p (-(e : Int)) * ppw p (e : Int) = 1 := ppw_inv hp _
    have e2 : ppw p (-(e : Int)) = ppw p (m : Int) * ppw p k := by rw [← ppw_add hp]; congr 1; omega
    rw [ppw_nat] at e2
    push_cast at e2 ⊢
    grind
  · rename_i h
    obtain ⟨K, hK⟩ : ∃ K : Nat, k + (e : Int) = (K : Int) := ⟨(k + e).toNat, by omega⟩
    rw [hdiv, hK, Int.toNat_natCast]
    have ov := overBy_is hp dp K
    generalize overBy p d K = x at ov
    have pK := pw_pos hp K
    have w0 := Int.emod_nonneg (a.num * x) (show p ^ K ≠ 0 by omega)
    have w1 := Int.emod_lt_of_pos (a.num * x) pK
    have dw : p ^ K ∣ a.num - (a.num * x % p ^ K) * d := by
      have e1 : a.num - (a.num * x % p ^ K) * d = -(a.num * (d * x - 1)) + p ^ K * (a.num * x / p ^ K * d) := by rw [Int.emod_def]; grind
      rw [e1]
      exact Int.dvd_add (Int.dvd_neg.mpr (Int.dvd_mul_of_dvd_right ov.2.2)) (Int.dvd_mul_right _ _)
    generalize a.num * x % p ^ K = W at *
    have hr : Rat.divInt W (p ^ e) * ppw p (e : Int) = (W : Rat) := by
      rw [Rat.divInt_eq_div, ppw_nat]
      refine Rat.div_mul_cancel ?_
      intro z
      have : p ^ e = 0 := by exact_mod_cast z
      omega
    generalize Rat.divInt W (p ^ e) = r at hr
    have pp := ppw_pos hp (e : Int)
    refine ⟨pden_of hp hr, ?_, ?_, ?_⟩
    · by_cases z : 0 ≤ r
      · exact z
      · exfalso
        have := mul_lt (Rat.not_le.mp z) pp
        rw [hr, Rat.zero_mul] at this
        have := rat_lt_int.mp (by simpa using this : (W : Rat) < ((0 : Int) : Rat))
        omega
    · by_cases z : r < ppw p k
      · exact z
      · exfalso
        have h1 : ppw p k * ppw p (e : Int) ≤ r * ppw p (e : Int) := Rat.mul_le_mul_of_nonneg_right (Rat.not_lt.mp z) (Rat.le_of_lt pp)
        rw [hr, ← ppw_add hp, hK, ppw_nat] at h1
        have := rat_le_int.mp h1
        omega
    · obtain ⟨t, ht⟩ := dw
      refine ⟨t, d, dp, ?_⟩
      have e1 : ppw p (e : Int) * ppw p k = ((p ^ K : Int) : Rat) := by rw [← ppw_add hp, show (e : Int) + k = (K : Int) by omega, ppw_nat]
      have e2 : (a.num : Rat) - (W : Rat) * (d : Rat) = ((p ^ K : Int) : Rat) * (t : Rat) := by exact_mod_cast ht
      grind

theorem vp_le {p : Int} (hp : Pr p) {n : Int} (hn : n ≠ 0) {m : Nat} (h : Bd m n) : vp p n < m := by
  obtain ⟨u, hu, up⟩ := vp_ex hp hn
  have p2 := hp.two_le
  have u0 : u ≠ 0 := fun z => up (by rw [z]; simp)
  unfold Bd at h
  by_cases z : vp p n < m
  · exact z
  · exfalso
    have e : n.natAbs = (p ^ vp p n).natAbs * u.natAbs := by rw [← Int.natAbs_mul, ← hu]
    have h1 : 2 ^ m ≤ (p ^ vp p n).natAbs := by
      rw [Int.natAbs_pow]
      exact Nat.le_trans (Nat.pow_le_pow_right (by decide) (by omega)) (Nat.pow_le_pow_left (by omega) _)
    have h2 : (p ^ vp p n).natAbs * 1 ≤ (p ^ vp p n).natAbs * u.natAbs := Nat.mul_le_mul_left _ (by omega)
    omega
/-- alike by p ^ k -/
def alk (p k : Int) (a b : Rat) : Bool := match vq p (a - b) with
  | none => true
  | some v => decide (k ≤ v)
def R_rest (ds : List D) (d : D) : Prop := ∃ (p k : Int) (a : Rat), ds = [.int p, .int k, frD a] ∧ Pr p ∧ k ≤ 900000 ∧ -900000 ≤ k ∧ Fb 4400 a ∧ d = frD (restQ p k a)
@[ext] structure Tb where
  a : Rat
  b : Rat
  c : Rat
  d : Rat
abbrev tbD (t : Tb) : D := .tup [frD t.a, frD t.b, frD t.c, frD t.d]
def Tb.det (t : Tb) : Rat := t.a * t.d - t.b * t.c
def Tb.mul (s t : Tb) : Tb := ⟨s.a * t.a + s.b * t.c, s.a * t.b + s.b * t.d, s.c * t.a + s.d * t.c, s.c * t.b + s.d * t.d⟩
def Tb.scale (t : Tb) (r : Rat) : Tb := ⟨t.a * r, t.b * r, t.c * r, t.d * r⟩
def Tb.turn (t : Tb) : Tb := ⟨t.d, 0 - t.b, 0 - t.c, t.a⟩
def Tb.one : Tb := ⟨1, 0, 0, 1⟩
def Tb.inv (t : Tb) : Tb := t.turn.scale (t.det⁻¹)
/-- at most n bits in each part -/
structure Tbb (n : Nat) (t : Tb) : Prop where
  a : Fb n t.a
  b : Fb n t.b
  c : Fb n t.c
  d : Fb n t.d
theorem Tbb.mono {m n : Nat} {t : Tb} (h : Tbb m t) (l : m ≤ n) : Tbb n t := ⟨h.a.mono l, h.b.mono l, h.c.mono l, h.d.mono l⟩
theorem Fb.neg {m : Nat} {a : Rat} (h : Fb m a) : Fb m (-a) := ⟨by show Bd m (-a.num); exact h.1.neg, h.2⟩
theorem Fb.inv {m : Nat} {a : Rat} (h : Fb m a) (h0 : a ≠ 0) : Fb m a⁻¹ := by
  have hn : a.num ≠ 0 := fun z => h0 (Rat.num_eq_zero.mp z)
  refine ⟨?_, ?_⟩
  · rw [Rat.num_inv]
    have q := h.2
    unfold Bd at *
    rw [Int.natAbs_mul]
    have : a.num.sign.natAbs ≤ 1 := by
      rcases Int.lt_trichotomy a.num 0 with h | h | h
      · rw [Int.sign_eq_neg_one_of_neg h]; decide
      · exact absurd h hn
      · rw [Int.sign_eq_one_of_pos h]; decide
    calc a.num.sign.natAbs * (a.den : Int).natAbs ≤ 1 * (a.den : Int).natAbs := Nat.mul_le_mul_right _ this
      _ = (a.den : Int).natAbs := Nat.one_mul _
      _ < 2 ^ m := q
  · rw [Rat.den_inv, if_neg hn]
    have q := h.1
    unfold Bd at *
    rw [Int.natAbs_natCast]
    exact q
theorem fb_zero : Fb 1 0 := ⟨by decide +kernel, by decide +kernel⟩
theorem fb_one : Fb 1 1 := ⟨by decide +kernel, by decide +kernel⟩
theorem Fb.zsub {m : Nat} {a : Rat} (h : Fb m a) : Fb m (0 - a) := by rw [Rat.sub_eq_add_neg, Rat.zero_add]; exact h.neg
theorem Tbb.turn {m : Nat} {t : Tb} (h : Tbb m t) : Tbb m t.turn := ⟨h.d, h.b.zsub, h.c.zsub, h.a⟩
theorem Tbb.scale {m n : Nat} {t : Tb} {r : Rat} (h : Tbb m t) (hr : Fb n r) : Tbb (m + n) (t.scale r) := ⟨h.a.mul hr, h.b.mul hr, h.c.mul hr, h.d.mul hr⟩
theorem Tbb.det {m : Nat} {t : Tb} (h : Tbb m t) : Fb (4 * m + 1) t.det := ((h.a.mul h.d).sub (h.b.mul h.c)).mono (by omega)
theorem Tbb.mul {m n : Nat} {s t : Tb} (h : Tbb m s) (h' : Tbb n t) : Tbb (2 * (m + n) + 1) (s.mul t) :=
  ⟨((h.a.mul h'.a).add (h.b.mul h'.c)).mono (by omega), ((h.a.mul h'.b).add (h.b.mul h'.d)).mono (by omega), ((h.c.mul h'.a).add (h.d.mul h'.c)).mono (by omega), ((h.c.mul h'.b).add (h.d.mul h'.d)).mono (by omega)⟩
/-- what the measure of t and the product of s and t reckon on the way is not too long -/
structure MOk (t : Tb) : Prop where
  ht : Tbb 4400 t
  ad : Fb 4400 (t.a * t.d)
  bc : Fb 4400 (t.b * t.c)
structure POk (s t : Tb) : Prop where
  hs : Tbb 4400 s
  ht : Tbb 4400 t
  aa : Fb 4400 (s.a * t.a)
  bc : Fb 4400 (s.b * t.c)
  ab : Fb 4400 (s.a * t.b)
  bd : Fb 4400 (s.b * t.d)
  ca : Fb 4400 (s.c * t.a)
  dc : Fb 4400 (s.d * t.c)
  cb : Fb 4400 (s.c * t.b)
  dd : Fb 4400 (s.d * t.d)
theorem Tbb.mok {m : Nat} {t : Tb} (h : Tbb m t) (l : m + m ≤ 4400) : MOk t := ⟨h.mono (by omega), (h.a.mul h.d).mono l, (h.b.mul h.c).mono l⟩
theorem Tbb.pok {m n : Nat} {s t : Tb} (h : Tbb m s) (h' : Tbb n t) (l : m + n ≤ 4400) : POk s t :=
  ⟨h.mono (by omega), h'.mono (by omega), (h.a.mul h'.a).mono l, (h.b.mul h'.c).mono l, (h.a.mul h'.b).mono l, (h.b.mul h'.d).mono l, (h.c.mul h'.a).mono l, (h.d.mul h'.c).mono l, (h.c.mul h'.b).mono l, (h.d.mul h'.d).mono l⟩
def R_measure (ds : List D) (d : D) : Prop := ∃ t : Tb, ds = [tbD t] ∧ MOk t ∧ d = frD t.det
def R_trace (ds : List D) (d : D) : Prop := ∃ t : Tb, ds = [tbD t] ∧ Tbb 4400 t ∧ d = frD (t.a + t.d)
def R_rowcol (ds : List D) (d : D) : Prop := ∃ a b c e : Rat, ds = [.tup [frD a, frD b], .tup [frD c, frD e]] ∧ Fb 4400 a ∧ Fb 4400 b ∧ Fb 4400 c ∧ Fb 4400 e ∧ Fb 4400 (a * c) ∧ Fb 4400 (b * e) ∧ d = frD (a * c + b * e)
def R_product (ds : List D) (d : D) : Prop := ∃ s t : Tb, ds = [tbD s, tbD t] ∧ POk s t ∧ d = tbD (s.mul t)
def R_turned (ds : List D) (d : D) : Prop := ∃ t : Tb, ds = [tbD t] ∧ MOk t ∧ t.det ≠ 0 ∧ Fb 4400 t.det ∧ d = tbD t.inv
theorem over_eq (a : Rat) {b : Rat} (h0 : b ≠ 0) : Rat.divInt (a.num * (b.den : Int)) ((a.den : Int) * b.num) = a * b⁻¹ := by
  have hn : b.num ≠ 0 := fun z => h0 (Rat.num_eq_zero.mp z)
  have e : b⁻¹ = Rat.divInt (b.den : Int) b.num := by rw [Rat.inv_def]
  have ea : a = Rat.divInt a.num (a.den : Int) := by rw [Rat.divInt_ofNat]; exact (Rat.mkRat_self a).symm
  rw [e]
  conv => rhs; rw [ea]
  rw [Rat.divInt_mul_divInt]
theorem over_one {b : Rat} (h0 : b ≠ 0) : Rat.divInt ((1 : Rat).num * (b.den : Int)) (((1 : Rat).den : Int) * b.num) = b⁻¹ := by rw [over_eq 1 h0, Rat.one_mul]
theorem inv_ne {b : Rat} (h : b ≠ 0) : b⁻¹ ≠ 0 := fun z => by
  have := Rat.mul_inv_cancel _ h
  rw [z, Rat.mul_zero] at this
  exact absurd this (by decide)

theorem eqD_fq (a b : Rat) : eqD (frD a) (frD b) = decide (a = b) := by
  have e : eqD (frD a) (frD b) = ((a.num == b.num) && (((a.den : Int) == (b.den : Int)) && true)) := rfl
  rw [e, Bool.eq_iff_iff]
  simp only [Bool.and_true, Bool.and_eq_true, beq_iff_eq, decide_eq_true_eq]
  constructor
  · intro h; exact Rat.ext h.1 (by omega)
  · rintro rfl; exact ⟨rfl, rfl⟩
def R_stretchedD (ds : List D) (d : D) : Prop := ∃ (t : Tb) (q : Rat), ds = [tbD t, frD q] ∧ Tbb 4400 t ∧ Fb 4400 q ∧ (q ≠ 0 ∧ d = tbD (t.scale q))
theorem inv_i {t : Tb} (h : t.det ≠ 0) : ∃ i : Rat, (t.a * t.d - t.b * t.c) * i = 1 ∧ t.inv = ⟨t.d * i, (0 - t.b) * i, (0 - t.c) * i, t.a * i⟩ := ⟨t.det⁻¹, Rat.mul_inv_cancel _ h, rfl⟩
theorem det_mul (s t : Tb) : (s.mul t).det = s.det * t.det := by
  unfold Tb.mul Tb.det
  simp only []
  grind
theorem det_inv {t : Tb} (h : t.det ≠ 0) : t.inv.det ≠ 0 := by
  obtain ⟨i, e, q⟩ := inv_i h
  rw [q]
  unfold Tb.det
  simp only []
  intro z
  have : (1 : Rat) = 0 := by grind
  exact absurd this (by decide)
theorem inv_mul {t : Tb} (h : t.det ≠ 0) : t.inv.mul t = Tb.one := by
  obtain ⟨i, e, q⟩ := inv_i h
  rw [q]
  unfold Tb.mul Tb.one
  simp only [Tb.mk.injEq]
  refine ⟨?_, ?_, ?_, ?_⟩ <;> grind
theorem mul_inv {t : Tb} (h : t.det ≠ 0) : t.mul t.inv = Tb.one := by
  obtain ⟨i, e, q⟩ := inv_i h
  rw [q]
  unfold Tb.mul Tb.one
  simp only [Tb.mk.injEq]
  refine ⟨?_, ?_, ?_, ?_⟩ <;> grind
theorem inv_inv {t : Tb} (h : t.det ≠ 0) : t.inv.inv = t := by
  obtain ⟨i, e, q⟩ := inv_i h
  obtain ⟨j, f, r⟩ := inv_i (det_inv h)
  rw [r]
  rw [q] at f ⊢
  simp only [] at f
  rcases t with ⟨a, b, c, d⟩
  simp only [] at e f
  simp only [Tb.mk.injEq]
  have k : i * j = 1 := by grind
  refine ⟨?_, ?_, ?_, ?_⟩ <;> grind
theorem mul_inv_rev {s t : Tb} (hs : s.det ≠ 0) (ht : t.det ≠ 0) : (s.mul t).inv = t.inv.mul s.inv := by
  have hst : (s.mul t).det ≠ 0 := by rw [det_mul]; exact fun z => (Rat.mul_eq_zero.mp z).elim hs ht
  obtain ⟨i, e, q⟩ := inv_i hs
  obtain ⟨j, f, r⟩ := inv_i ht
  obtain ⟨k, g, w⟩ := inv_i hst
  rw [q, r, w]
  unfold Tb.mul at g ⊢
  rcases s with ⟨a, b, c, d⟩
  rcases t with ⟨a', b', c', d'⟩
  simp only [] at e f g
  simp only [Tb.mk.injEq]
  have k' : k = i * j := by grind
  subst k'
  refine ⟨?_, ?_, ?_, ?_⟩ <;> grind
theorem mul_assoc' (r s t : Tb) : (r.mul s).mul t = r.mul (s.mul t) := by
  unfold Tb.mul
  simp only [Tb.mk.injEq]
  refine ⟨?_, ?_, ?_, ?_⟩ <;> grind
theorem mul_one' (t : Tb) : t.mul Tb.one = t := by
  rcases t with ⟨a, b, c, d⟩
  unfold Tb.mul Tb.one
  simp only [Tb.mk.injEq]
  refine ⟨?_, ?_, ?_, ?_⟩ <;> grind
theorem one_mul' (t : Tb) : Tb.one.mul t = t := by
  rcases t with ⟨a, b, c, d⟩
  unfold Tb.mul Tb.one
  simp only [Tb.mk.injEq]
  refine ⟨?_, ?_, ?_, ?_⟩ <;> grind
theorem Tbb.inv {m : Nat} {t : Tb} (h : Tbb m t) (h0 : t.det ≠ 0) : Tbb (5 * m + 1) t.inv := (h.turn.scale (h.det.inv h0)).mono (by omega)
theorem scale_scale {t : Tb} {q r : Rat} (h : q * r = 1) : (t.scale q).scale r = t := by
  rcases t with ⟨a, b, c, d⟩
  unfold Tb.scale
  simp only [Tb.mk.injEq]
  refine ⟨?_, ?_, ?_, ?_⟩ <;> grind
theorem det_scale (t : Tb) (q : Rat) : (t.scale q).det = t.det * (q * q) := by
  unfold Tb.scale Tb.det
  simp only []
  grind
theorem scale_mul (s t : Tb) (q : Rat) : (s.scale q).mul t = (s.mul t).scale q := by
  unfold Tb.scale Tb.mul
  simp only [Tb.mk.injEq]
  refine ⟨?_, ?_, ?_, ?_⟩ <;> grind
theorem mul_scale (s t : Tb) (q : Rat) : s.mul (t.scale q) = (s.mul t).scale q := by
  unfold Tb.scale Tb.mul
  simp only [Tb.mk.injEq]
  refine ⟨?_, ?_, ?_, ?_⟩ <;> grind
theorem vq_none {p : Int} {r : Rat} : vq p r = none ↔ r = 0 := by
  unfold vq
  rw [← Rat.num_eq_zero]
  split <;> simp [*]
theorem vq_iff {p : Int} (hp : Pr p) {r : Rat} {v : Int} : vq p r = some v ↔ (r ≠ 0 ∧ ∀ k, Dv p k r ↔ k ≤ v) := by
  constructor
  · intro h
    refine ⟨fun z => ?_, fun k => ?_⟩
    · rw [vq_none.mpr z] at h; cases h
    · rw [vq_dv hp, h]
  · rintro ⟨h0, h⟩
    cases e : vq p r with
    | none => exact absurd (vq_none.mp e) h0
    | some w =>
      have q : ∀ k, Dv p k r ↔ k ≤ w := fun k => by rw [vq_dv hp, e]
      have h1 := (h w).mp ((q w).mpr (Int.le_refl _))
      have h2 := (q v).mp ((h v).mpr (Int.le_refl _))
      congr 1; omega
theorem dv_ppw {p k j : Int} (hp : Pr p) {r : Rat} : Dv p k (r * ppw p j) ↔ Dv p (k - j) r := by
  have hj := ppw_ne hp j
  have e : ppw p k = ppw p (k - j) * ppw p j := by rw [← ppw_add hp]; congr 1; omega
  constructor
  · rintro ⟨u, w, hw, h⟩
    refine ⟨u, w, hw, ?_⟩
    rw [e] at h
    grind
  · rintro ⟨u, w, hw, h⟩
    refine ⟨u, w, hw, ?_⟩
    rw [e]
    grind
theorem vq_mul_ppw {p : Int} (hp : Pr p) (r : Rat) (j : Int) : vq p (r * ppw p j) = (vq p r).map (· + j) := by
  cases e : vq p r with
  | none => rw [vq_none.mp e, Rat.zero_mul]; exact vq_none.mpr rfl
  | some v =>
    obtain ⟨h0, h⟩ := (vq_iff hp).mp e
    refine (vq_iff hp).mpr ⟨fun z => (Rat.mul_eq_zero.mp z).elim h0 (ppw_ne hp j), fun k => ?_⟩
    rw [dv_ppw hp, h]
    show k - j ≤ v ↔ k ≤ v + j
    omega
theorem vq_neg {p : Int} (hp : Pr p) (r : Rat) : vq p (-r) = vq p r := by
  cases e : vq p r with
  | none => rw [vq_none.mp e]; exact vq_none.mpr rfl
  | some v =>
    obtain ⟨h0, h⟩ := (vq_iff hp).mp e
    refine (vq_iff hp).mpr ⟨fun z => h0 (by grind), fun k => ?_⟩
    rw [← h k]
    exact ⟨fun z => by have := dv_neg z; rwa [Rat.neg_neg] at this, dv_neg⟩
theorem vq_one {p : Int} (hp : Pr p) : vq p 1 = some 0 := by have := vq_ppw (k := 0) hp; rwa [ppw_zero] at this
/-- the least power of those that are not nought -/
def leastV (p : Int) (rs : List Rat) : Int := match rs.filterMap (vq p) with
  | [] => 0
  | x :: xs => xs.foldl min x
/-- low: of the spot (k2, q2) in the spot (k1, q1) -/
def lowS (p k1 : Int) (q1 : Rat) (k2 : Int) (q2 : Rat) : Int := match vq p (q2 - q1) with
  | none => min 0 (k2 - k1)
  | some v => min (min 0 (k2 - k1)) (v - k1)
abbrev spotD (k : Int) (q : Rat) : D := .tup [.int k, frD q]
def tabS (p k : Int) (q : Rat) : Tb := ⟨ppw p k, q, 0, 1⟩
theorem tabS_det (p k : Int) (q : Rat) : (tabS p k q).det = ppw p k := by unfold tabS Tb.det; simp only []; grind
theorem inv_ppw {p : Int} (hp : Pr p) (k : Int) : (ppw p k)⁻¹ = ppw p (-k) := by
  have h := ppw_inv hp k
  have h0 := ppw_ne hp k
  have := Rat.mul_inv_cancel _ h0
  grind
theorem tabS_inv {p : Int} (hp : Pr p) (k : Int) (q : Rat) : (tabS p k q).inv = ⟨ppw p (-k), -q * ppw p (-k), 0, 1⟩ := by
  unfold Tb.inv
  rw [tabS_det, inv_ppw hp]
  have h := ppw_inv hp k
  unfold tabS Tb.turn Tb.scale
  simp only [Tb.mk.injEq]
  refine ⟨?_, ?_, ?_, ?_⟩ <;> grind
theorem tabS_mul {p : Int} (hp : Pr p) (k1 k2 : Int) (q1 q2 : Rat) : (tabS p k1 q1).inv.mul (tabS p k2 q2) = ⟨ppw p (k2 - k1), (q2 - q1) * ppw p (-k1), 0, 1⟩ := by
  rw [tabS_inv hp]
  have e : ppw p (k2 - k1) = ppw p (-k1) * ppw p k2 := by rw [← ppw_add hp]; congr 1; omega
  unfold tabS Tb.mul
  simp only [Tb.mk.injEq]
  refine ⟨?_, ?_, ?_, ?_⟩ <;> grind
theorem least_two {p : Int} (hp : Pr p) (k1 k2 : Int) (q1 q2 : Rat) : leastV p [ppw p (k2 - k1), (q2 - q1) * ppw p (-k1), 0, 1] = lowS p k1 q1 k2 q2 := by
  unfold leastV lowS
  have h0 : vq p 0 = none := vq_none.mpr rfl
  cases e : vq p (q2 - q1) with
  | none =>
    have h : [ppw p (k2 - k1), (q2 - q1) * ppw p (-k1), 0, 1].filterMap (vq p) = [k2 - k1, 0] := by
      simp [List.filterMap_cons, vq_ppw hp, vq_mul_ppw hp, e, h0, vq_one hp]
    rw [h]
    show min (k2 - k1) 0 = min 0 (k2 - k1)
    omega
  | some v =>
    have h : [ppw p (k2 - k1), (q2 - q1) * ppw p (-k1), 0, 1].filterMap (vq p) = [k2 - k1, v + -k1, 0] := by
      simp [List.filterMap_cons, vq_ppw hp, vq_mul_ppw hp, e, h0, vq_one hp]
    rw [h]
    show min (min (k2 - k1) (v + -k1)) 0 = min (min 0 (k2 - k1)) (v - k1)
    omega
/-- p ^ M times r is a whole number of at most B bits -/
def Sz (p : Int) (M B : Nat) (r : Rat) : Prop := ∃ m : Int, r * ppw p (M : Int) = (m : Rat) ∧ Bd B m
theorem Sz.fb {p : Int} (hp : Pr p) {M B n : Nat} {r : Rat} (h : Sz p M B r) (h1 : 3 * M + 1 ≤ n) (h2 : B ≤ n) : Fb n r := by
  obtain ⟨m, e, b⟩ := h
  have e2 : r = Rat.divInt m (p ^ M) := by
    have pp := pw_pos hp M
    have hne : ((p ^ M : Int) : Rat) ≠ 0 := by
      have := ppw_ne hp (M : Int)
      rwa [ppw_nat] at this
    rw [ppw_nat] at e
    rw [Rat.divInt_eq_div, ← e, Rat.div_def, Rat.mul_assoc, Rat.mul_inv_cancel _ hne, Rat.mul_one]
  rw [e2]
  exact Fb.divInt (by have := pw_pos hp M; omega) (b.mono h2) ((pw_bd hp M).mono h1)
theorem Sz.mul {p : Int} (hp : Pr p) {M N B C : Nat} {r s : Rat} (h : Sz p M B r) (h' : Sz p N C s) : Sz p (M + N) (B + C) (r * s) := by
  obtain ⟨m, e, b⟩ := h
  obtain ⟨m', e', b'⟩ := h'
  refine ⟨m * m', ?_, b.mul b'⟩
  have : ppw p ((M + N : Nat) : Int) = ppw p (M : Int) * ppw p (N : Int) := by rw [← ppw_add hp]; congr 1
  rw [this]
  push_cast
  grind
theorem Sz.add {p : Int} {M B : Nat} {r s : Rat} (h : Sz p M B r) (h' : Sz p M B s) : Sz p M (B + 1) (r + s) := by
  obtain ⟨m, e, b⟩ := h
  obtain ⟨m', e', b'⟩ := h'
  refine ⟨m + m', ?_, (b.add b').mono (by omega)⟩
  push_cast
  grind
theorem Sz.neg {p : Int} {M B : Nat} {r : Rat} (h : Sz p M B r) : Sz p M B (-r) := by
  obtain ⟨m, e, b⟩ := h
  refine ⟨-m, ?_, b.neg⟩
  push_cast
  grind
theorem Sz.sub {p : Int} {M B : Nat} {r s : Rat} (h : Sz p M B r) (h' : Sz p M B s) : Sz p M (B + 1) (r - s) := by rw [Rat.sub_eq_add_neg]; exact h.add h'.neg
theorem Sz.ppw {p : Int} (hp : Pr p) {k : Int} {M : Nat} (h0 : -(M : Int) ≤ k) {B : Nat} (h1 : 3 * (k + M) + 1 ≤ B) : Sz p M B (ppw p k) := by
  refine ⟨p ^ (k + M).toNat, ?_, (pw_bd hp _).mono (by omega)⟩
  rw [← ppw_add hp, ← ppw_nat]
  congr 1
  omega
/-- a spot of no great size -/
structure Sp (p : Int) (k : Int) (q : Rat) : Prop where
  k0 : -310 ≤ k
  k1 : k ≤ 310
  q : Sz p 310 1862 q
theorem two_det {p : Int} (k1 k2 : Int) (q1 q2 : Rat) : Tb.det ⟨ppw p (k2 - k1), (q2 - q1) * ppw p (-k1), 0, 1⟩ = ppw p (k2 - k1) := by unfold Tb.det; simp only []; grind
def R_least (ds : List D) (d : D) : Prop := ∃ (p : Int) (rs : List Rat), ds = [.int p, .tup (rs.map frD)] ∧ Pr p ∧ rs.length ≤ 10 ∧ (∃ r ∈ rs, r ≠ 0) ∧ d = .int (leastV p rs)
def R_two (ds : List D) (d : D) : Prop := ∃ (p : Int) (t : Tb) (v : Int), ds = [.int p, tbD t] ∧ Pr p ∧ MOk t ∧ vq p t.det = some v ∧ d = .tup [.int (leastV p [t.a, t.b, t.c, t.d]), .int (v - leastV p [t.a, t.b, t.c, t.d])]
def R_tabat (ds : List D) (d : D) : Prop := ∃ (p k : Int) (q : Rat), ds = [.int p, spotD k q] ∧ Pr p ∧ -1000000 ≤ k ∧ k ≤ 1000000 ∧ d = tbD (tabS p k q)
def wayS (p k1 : Int) (q1 : Rat) (k2 : Int) (q2 : Rat) : Int := k2 - k1 - lowS p k1 q1 k2 q2 - lowS p k1 q1 k2 q2
theorem det_of {t : Tb} {p v : Int} (h : vq p t.det = some v) : ∃ r ∈ [t.a, t.b, t.c, t.d], r ≠ 0 := by
  by_cases ha : t.a = 0
  · by_cases hb : t.b = 0
    · exfalso
      have : t.det = 0 := by unfold Tb.det; rw [ha, hb]; grind
      rw [vq_none.mpr this] at h; cases h
    · exact ⟨t.b, by simp, hb⟩
  · exact ⟨t.a, by simp, ha⟩
theorem vq_symm {p : Int} (hp : Pr p) (a b : Rat) : vq p (a - b) = vq p (b - a) := by
  rw [← vq_neg hp]; congr 1; grind
theorem low_self (p k : Int) (q : Rat) : lowS p k q k q = 0 := by
  unfold lowS
  rw [vq_none.mpr (by grind)]
  show min 0 (k - k) = 0
  omega
theorem way_symm {p : Int} (hp : Pr p) (k1 k2 : Int) (q1 q2 : Rat) : wayS p k1 q1 k2 q2 = wayS p k2 q2 k1 q1 := by
  unfold wayS lowS
  rw [vq_symm hp q2 q1]
  cases vq p (q1 - q2) with
  | none => show _ - min _ _ - min _ _ = _ - min _ _ - min _ _; omega
  | some v => show _ - min (min _ _) _ - min (min _ _) _ = _ - min (min _ _) _ - min (min _ _) _; omega
def cellOf (ns : List Int) (k : Int) : Int := if k < (ns.length : Int) then ns.getD k.toNat 0 % 10 ^ 60 else 0
def drawn (ns : List Int) (k : Int) : Int := if 0 < (ns.length : Int) ∧ ns.getD 0 0 % 2 = 1 then cellOf ns k / (1 + if k = 0 then 1 else 0)
  else cellOf ns k * 2147483629 + (cellOf ns k + 7919 * k + 13) * 48271 % 2147483647 * 69621 % 2147483629
theorem cell_at {ns : List Int} {k : Int} (h0 : 0 ≤ k) (h : k < (ns.length : Int)) : atI (ns.map D.int) k = some (.int (ns.getD k.toNat 0)) := by
  have hk : k.toNat < ns.length := by omega
  have ek : k = ((k.toNat : Nat) : Int) := by omega
  have q : atI (ns.map D.int) ((k.toNat : Nat) : Int) = some (.int (ns.getD k.toNat 0)) := atI_nat (by
    rw [List.getElem?_map, List.getElem?_eq_getElem hk]
    simp [hk])
  rw [← ek] at q
  exact q
/-- a spot: its fraction is its own rest, and not too long -/
structure Spt (p K k : Int) (q : Rat) : Prop where
  k0 : -K ≤ k
  k1 : k ≤ K
  nn : 0 ≤ q
  lt : q < ppw p k
  sc : ∃ m : Int, q * ppw p ((310 : Nat) : Int) = (m : Rat)
theorem ppw_fb {p : Int} (hp : Pr p) {k : Int} (n : Nat) (h0 : -(n : Int) ≤ k) (h1 : k ≤ n) : Fb (3 * n + 1) (ppw p k) := by
  by_cases h : 0 ≤ k
  · have q := ppw_nn (p := p) h
    refine ⟨?_, ?_⟩
    · rw [q.1]; exact (pw_bd hp _).mono (by omega)
    · rw [q.2]
      have : 1 < 2 ^ (3 * n + 1) := Nat.one_lt_two_pow (by omega)
      unfold Bd; simpa using this
  · have q := ppw_neg (p := p) (k := k) (by have := hp.two_le; omega) (by omega)
    refine ⟨?_, ?_⟩
    · rw [q.1]
      have : 1 < 2 ^ (3 * n + 1) := Nat.one_lt_two_pow (by omega)
      unfold Bd; simpa using this
    · rw [q.2]; exact (pw_bd hp _).mono (by omega)
/-! spots as the laws draw them -/
/-! the whole part taken off -/
theorem prime_at {i : Int} (h0 : 0 ≤ i) (h1 : i < 4) : ∃ p, Pr p ∧ atI [D.int 2, D.int 3, D.int 5, D.int 7] i = some (.int p) := by
  rcases (show i = 0 ∨ i = 1 ∨ i = 2 ∨ i = 3 by omega) with rfl | rfl | rfl | rfl
  · exact ⟨2, .inl rfl, rfl⟩
  · exact ⟨3, .inr (.inl rfl), rfl⟩
  · exact ⟨5, .inr (.inr (.inl rfl)), rfl⟩
  · exact ⟨7, .inr (.inr (.inr rfl)), rfl⟩
theorem low_iff {p : Int} (hp : Pr p) (k1 k2 n : Int) (q1 q2 : Rat) : n ≤ lowS p k1 q1 k2 q2 + k1 ↔ n ≤ k1 ∧ n ≤ k2 ∧ Dv p n (q2 - q1) := by
  rw [vq_dv hp]
  unfold lowS
  cases vq p (q2 - q1) with
  | none => show n ≤ min 0 (k2 - k1) + k1 ↔ n ≤ k1 ∧ n ≤ k2 ∧ True; rw [and_true]; omega
  | some v => simp only []; omega
theorem low_le {p : Int} (hp : Pr p) (k1 k2 : Int) (q1 q2 : Rat) : lowS p k1 q1 k2 q2 + k1 ≤ k1 ∧ lowS p k1 q1 k2 q2 + k1 ≤ k2 ∧ Dv p (lowS p k1 q1 k2 q2 + k1) (q2 - q1) := (low_iff hp k1 k2 _ q1 q2).mp (Int.le_refl _)
theorem low_symm {p : Int} (hp : Pr p) (k1 k2 : Int) (q1 q2 : Rat) : lowS p k2 q2 k1 q1 + k2 = lowS p k1 q1 k2 q2 + k1 := by
  have a := low_le hp k1 k2 q1 q2
  have b := low_le hp k2 k1 q2 q1
  have c := (low_iff hp k1 k2 (lowS p k2 q2 k1 q1 + k2) q1 q2).mpr ⟨b.2.1, b.1, dv_comm b.2.2⟩
  have d := (low_iff hp k2 k1 (lowS p k1 q1 k2 q2 + k1) q2 q1).mpr ⟨a.2.1, a.1, dv_comm a.2.2⟩
  omega
theorem dv_mul {p j k : Int} (hp : Pr p) {r s : Rat} (h : Dv p j r) (h' : Dv p k s) : Dv p (j + k) (r * s) := by
  obtain ⟨u, w, hw, e⟩ := h
  obtain ⟨u', w', hw', e'⟩ := h'
  refine ⟨u * u', w * w', pr_mul hp hw hw', ?_⟩
  rw [ppw_add hp]
  push_cast
  grind
/-- a unit times a power -/
theorem vq_unit {p k u w : Int} (hp : Pr p) {r : Rat} (hu : ¬ u % p = 0) (hw : ¬ w % p = 0) (h : r * (w : Rat) = (u : Rat) * ppw p k) : vq p r = some k := by
  have w0 : (w : Rat) ≠ 0 := fun z => hw (by have : w = 0 := by exact_mod_cast z
                                             rw [this]; simp)
  have u0 : (u : Rat) ≠ 0 := fun z => hu (by have : u = 0 := by exact_mod_cast z
                                             rw [this]; simp)
  have pk := ppw_ne hp k
  refine (vq_iff hp).mpr ⟨fun z => ?_, fun j => ⟨fun hd => ?_, fun hj => dv_mono hp hj ⟨u, w, hw, h⟩⟩⟩
  · rw [z, Rat.zero_mul] at h
    exact (Rat.mul_eq_zero.mp h.symm).elim u0 pk
  · by_cases z : j ≤ k
    · exact z
    exfalso
    obtain ⟨u', w', hw', e'⟩ := dv_mono hp (show k + 1 ≤ j by omega) hd
    have e1 : ppw p (k + 1) = ppw p k * (p : Rat) := by
      rw [ppw_add hp]
      congr 1
      have := ppw_nat p 1
      simpa using this
    rw [e1] at e'
    have e2 : (u : Rat) * (w' : Rat) = (u' : Rat) * (w : Rat) * (p : Rat) := by grind
    have e3 : u * w' = u' * w * p := by exact_mod_cast e2
    exact pr_mul hp hu hw' (by rw [e3]; exact Int.mul_emod_left _ _)
theorem vq_split {p k : Int} (hp : Pr p) {r : Rat} (h : vq p r = some k) : ∃ u w : Int, ¬ u % p = 0 ∧ ¬ w % p = 0 ∧ r * (w : Rat) = (u : Rat) * ppw p k := by
  obtain ⟨h0, hk⟩ := (vq_iff hp).mp h
  obtain ⟨u, w, hw, e⟩ := (hk k).mpr (Int.le_refl _)
  refine ⟨u, w, fun z => ?_, hw, e⟩
  have e1 : ppw p (k + 1) = ppw p k * (p : Rat) := by
    rw [ppw_add hp]
    congr 1
    have := ppw_nat p 1
    simpa using this
  have p2 := hp.two_le
  have : Dv p (k + 1) r := ⟨u / p, w, hw, by
    have hu : u = u / p * p := by have := Int.emod_add_mul_ediv u p; rw [z, Int.zero_add, Int.mul_comm] at this; exact this.symm
    rw [e, e1]
    have hu' : (u : Rat) = ((u / p : Int) : Rat) * (p : Rat) := by exact_mod_cast hu
    rw [hu']
    grind⟩
  have := (hk (k + 1)).mp this
  omega
theorem vq_mul {p j k : Int} (hp : Pr p) {r s : Rat} (h : vq p r = some j) (h' : vq p s = some k) : vq p (r * s) = some (j + k) := by
  obtain ⟨u, w, hu, hw, e⟩ := vq_split hp h
  obtain ⟨u', w', hu', hw', e'⟩ := vq_split hp h'
  refine vq_unit hp (pr_mul hp hu hu') (pr_mul hp hw hw') ?_
  rw [ppw_add hp]
  push_cast
  grind
theorem vq_inv {p j : Int} (hp : Pr p) {r : Rat} (h : vq p r = some j) : vq p r⁻¹ = some (-j) := by
  obtain ⟨u, w, hu, hw, e⟩ := vq_split hp h
  have h0 := ((vq_iff hp).mp h).1
  have i := Rat.mul_inv_cancel _ h0
  have pi := ppw_inv hp j
  refine vq_unit hp hw hu ?_
  grind
theorem dv_of_vq {p k v : Int} (hp : Pr p) {r : Rat} (h : vq p r = some v) (hk : k ≤ v) : Dv p k r := by rw [vq_dv hp, h]; exact hk
/-- all four parts are whole by p to k -/
structure Dv4 (p k : Int) (t : Tb) : Prop where
  a : Dv p k t.a
  b : Dv p k t.b
  c : Dv p k t.c
  d : Dv p k t.d
/-- whole by p, with a measure of the power 0 -/
structure Glp (p : Int) (t : Tb) : Prop where
  w : Dv4 p 0 t
  d : vq p t.det = some 0
theorem Dv4.mul {p j k : Int} (hp : Pr p) {s t : Tb} (h : Dv4 p j s) (h' : Dv4 p k t) : Dv4 p (j + k) (s.mul t) :=
  ⟨dv_add hp (dv_mul hp h.a h'.a) (dv_mul hp h.b h'.c), dv_add hp (dv_mul hp h.a h'.b) (dv_mul hp h.b h'.d), dv_add hp (dv_mul hp h.c h'.a) (dv_mul hp h.d h'.c), dv_add hp (dv_mul hp h.c h'.b) (dv_mul hp h.d h'.d)⟩
theorem Glp.mul {p : Int} (hp : Pr p) {s t : Tb} (h : Glp p s) (h' : Glp p t) : Glp p (s.mul t) := ⟨h.w.mul hp h'.w, by rw [det_mul]; exact vq_mul hp h.d h'.d⟩
theorem Glp.ne {p : Int} (hp : Pr p) {t : Tb} (h : Glp p t) : t.det ≠ 0 := ((vq_iff hp).mp h.d).1
theorem Glp.inv {p : Int} (hp : Pr p) {t : Tb} (h : Glp p t) : Glp p t.inv := by
  have h0 := h.ne hp
  have i := vq_inv hp h.d
  have di := dv_of_vq hp i (show (0 : Int) ≤ -0 by decide)
  refine ⟨⟨?_, ?_, ?_, ?_⟩, ?_⟩
  · exact dv_mul hp h.w.d di
  · refine dv_mul hp (j := 0) (k := 0) (r := 0 - t.b) (s := t.det⁻¹) ?_ di; rw [Rat.sub_eq_add_neg, Rat.zero_add]; exact dv_neg h.w.b
  · refine dv_mul hp (j := 0) (k := 0) (r := 0 - t.c) (s := t.det⁻¹) ?_ di; rw [Rat.sub_eq_add_neg, Rat.zero_add]; exact dv_neg h.w.c
  · exact dv_mul hp h.w.a di
  · have e : t.inv.det * t.det = 1 := by
      rw [← det_mul, inv_mul h0]
      decide +kernel
    have e2 : t.inv.det = t.det⁻¹ := by
      have := Rat.mul_inv_cancel _ h0
      grind
    rw [e2]
    exact i
theorem least_foldl : ∀ (l : List Int) (x n : Int), n ≤ l.foldl min x ↔ n ≤ x ∧ ∀ y ∈ l, n ≤ y
  | [], x, n => by simp
  | y :: l, x, n => by
    rw [List.foldl_cons, least_foldl l (min x y) n]
    simp only [List.mem_cons, forall_eq_or_imp]
    rw [← and_assoc]
    exact and_congr_left fun _ => by omega
theorem least_iff {p : Int} (hp : Pr p) {rs : List Rat} (hr : ∃ r ∈ rs, r ≠ 0) (n : Int) : n ≤ leastV p rs ↔ ∀ r ∈ rs, Dv p n r := by
  obtain ⟨r0, hm, h0⟩ := hr
  unfold leastV
  cases e : rs.filterMap (vq p) with
  | nil => exact absurd (vq_none.mp (List.filterMap_eq_nil_iff.mp e r0 hm)) h0
  | cons x l =>
    show n ≤ l.foldl min x ↔ _
    rw [least_foldl]
    have key : (n ≤ x ∧ ∀ y ∈ l, n ≤ y) ↔ ∀ y ∈ rs.filterMap (vq p), n ≤ y := by rw [e]; simp
    rw [key]
    constructor
    · intro h r hr
      rw [vq_dv hp]
      cases hv : vq p r with
      | none => trivial
      | some v => exact h v (List.mem_filterMap.mpr ⟨r, hr, hv⟩)
    · intro h y hy
      obtain ⟨r, hr, hv⟩ := List.mem_filterMap.mp hy
      have := h r hr
      rw [vq_dv hp, hv] at this
      exact this
theorem least4 {p : Int} (hp : Pr p) {t : Tb} {v : Int} (h : vq p t.det = some v) (n : Int) : n ≤ leastV p [t.a, t.b, t.c, t.d] ↔ Dv4 p n t := by
  rw [least_iff hp (det_of h)]
  constructor
  · intro q
    exact ⟨q _ (by simp), q _ (by simp), q _ (by simp), q _ (by simp)⟩
  · intro q r hr
    simp at hr
    rcases hr with rfl | rfl | rfl | rfl
    · exact q.a
    · exact q.b
    · exact q.c
    · exact q.d
theorem eq_of_le_iff {a b : Int} (h : ∀ n, n ≤ a ↔ n ≤ b) : a = b := by
  have h1 := (h a).mp (Int.le_refl _)
  have h2 := (h b).mpr (Int.le_refl _)
  omega
/-- the least power stays, whatever firm tables stand on both sides -/
theorem least_firm {p : Int} (hp : Pr p) {u t w : Tb} {v : Int} (hu : Glp p u) (hw : Glp p w) (h : vq p t.det = some v) :
    leastV p [((u.mul t).mul w).a, ((u.mul t).mul w).b, ((u.mul t).mul w).c, ((u.mul t).mul w).d] = leastV p [t.a, t.b, t.c, t.d] ∧ vq p ((u.mul t).mul w).det = some v := by
  have hd : vq p ((u.mul t).mul w).det = some v := by
    rw [det_mul, det_mul]
    have := vq_mul hp (vq_mul hp hu.d h) hw.d
    rwa [Int.zero_add, Int.add_zero] at this
  refine ⟨eq_of_le_iff fun n => ?_, hd⟩
  rw [least4 hp hd, least4 hp h]
  constructor
  · intro q
    have e : (u.inv.mul ((u.mul t).mul w)).mul w.inv = t := by
      rw [mul_assoc' u.inv, mul_assoc' (u.mul t), mul_inv (hw.ne hp), mul_one', ← mul_assoc', inv_mul (hu.ne hp), one_mul']
    have := ((hu.inv hp).w.mul hp q).mul hp (hw.inv hp).w
    rw [e, Int.zero_add, Int.add_zero] at this
    exact this
  · intro q
    have := (hu.w.mul hp q).mul hp hw.w
    rwa [Int.zero_add, Int.add_zero] at this
theorem least_scale {p k v : Int} (hp : Pr p) {t : Tb} {r : Rat} (h : vq p t.det = some v) (hr : vq p r = some k) :
    leastV p [(t.scale r).a, (t.scale r).b, (t.scale r).c, (t.scale r).d] = leastV p [t.a, t.b, t.c, t.d] + k ∧ vq p (t.scale r).det = some (v + (k + k)) := by
  have hd : vq p (t.scale r).det = some (v + (k + k)) := by rw [det_scale]; exact vq_mul hp h (vq_mul hp hr hr)
  have r0 := ((vq_iff hp).mp hr).1
  have i := vq_inv hp hr
  have ic := Rat.mul_inv_cancel _ r0
  have key : ∀ (x : Rat) (n : Int), Dv p n (x * r) ↔ Dv p (n - k) x := fun x n => by
    constructor
    · intro q
      have := dv_mul hp q (dv_of_vq hp i (Int.le_refl _))
      rw [show x * r * r⁻¹ = x by rw [Rat.mul_assoc, ic, Rat.mul_one]] at this
      exact this
    · intro q
      have := dv_mul hp q (dv_of_vq hp hr (Int.le_refl _))
      rwa [show n - k + k = n by omega] at this
  refine ⟨eq_of_le_iff fun n => ?_, hd⟩
  rw [least4 hp hd]
  have e : n ≤ leastV p [t.a, t.b, t.c, t.d] + k ↔ n - k ≤ leastV p [t.a, t.b, t.c, t.d] := by omega
  rw [e, least4 hp h]
  exact ⟨fun q => ⟨(key _ _).mp q.a, (key _ _).mp q.b, (key _ _).mp q.c, (key _ _).mp q.d⟩, fun q => ⟨(key _ _).mpr q.a, (key _ _).mpr q.b, (key _ _).mpr q.c, (key _ _).mpr q.d⟩⟩
def R_spotof (ds : List D) (d : D) : Prop := ∃ (p : Int) (t : Tb) (v : Int), ds = [.int p, tbD t] ∧ Pr p ∧ MOk t ∧ vq p t.det = some v ∧ -900000 ≤ v - 2 * leastV p [t.c, t.d] ∧ v - 2 * leastV p [t.c, t.d] ≤ 900000 ∧
  (vq p t.c = some (leastV p [t.c, t.d]) → Fb 4400 (t.a * t.c⁻¹)) ∧ (¬ vq p t.c = some (leastV p [t.c, t.d]) → t.d ≠ 0 ∧ Fb 4400 (t.b * t.d⁻¹)) ∧
  d = spotD (v - 2 * leastV p [t.c, t.d]) (if vq p t.c = some (leastV p [t.c, t.d]) then restQ p (v - 2 * leastV p [t.c, t.d]) (t.a * t.c⁻¹) else restQ p (v - 2 * leastV p [t.c, t.d]) (t.b * t.d⁻¹))
theorem det_of2 {t : Tb} {p v : Int} (h : vq p t.det = some v) : ∃ r ∈ [t.c, t.d], r ≠ 0 := by
  by_cases ha : t.c = 0
  · by_cases hb : t.d = 0
    · exfalso
      have : t.det = 0 := by unfold Tb.det; rw [ha, hb]; grind
      rw [vq_none.mpr this] at h; cases h
    · exact ⟨t.d, by simp, hb⟩
  · exact ⟨t.c, by simp, ha⟩
/-! a table that is a spot's, times a firm one, times a fraction -/
theorem eqD_spot2 (k1 k2 : Int) (q1 q2 : Rat) : eqD (spotD k1 q1) (spotD k2 q2) = decide (k1 = k2 ∧ q1 = q2) := by
  have e : eqD (spotD k1 q1) (spotD k2 q2) = ((k1 == k2) && (eqD (frD q1) (frD q2) && true)) := rfl
  rw [e, eqD_fq, Bool.eq_iff_iff]
  simp
/-! the level at which two spots part -/
def lvS (p k1 : Int) (q1 : Rat) (k2 : Int) (q2 : Rat) : Int := lowS p k1 q1 k2 q2 + k1
theorem way_lv (p k1 : Int) (q1 : Rat) (k2 : Int) (q2 : Rat) : k1 + k2 - 2 * lvS p k1 q1 k2 q2 = wayS p k1 q1 k2 q2 := by
  unfold wayS lvS
  omega
/-! drawn spots -/
/-! near spots: some ways up, some ways down -/
theorem lv_iff {p : Int} (hp : Pr p) (k1 k2 n : Int) (q1 q2 : Rat) : n ≤ lvS p k1 q1 k2 q2 ↔ n ≤ k1 ∧ n ≤ k2 ∧ Dv p n (q2 - q1) := low_iff hp k1 k2 n q1 q2
theorem lv_symm {p : Int} (hp : Pr p) (k1 k2 : Int) (q1 q2 : Rat) : lvS p k2 q2 k1 q1 = lvS p k1 q1 k2 q2 := low_symm hp k1 k2 q1 q2
theorem lv_um {p : Int} (hp : Pr p) (k1 k2 k3 : Int) (q1 q2 q3 : Rat) : min (lvS p k1 q1 k2 q2) (lvS p k2 q2 k3 q3) ≤ lvS p k1 q1 k3 q3 := by
  have a := (lv_iff hp k1 k2 (min (lvS p k1 q1 k2 q2) (lvS p k2 q2 k3 q3)) q1 q2).mp (by omega)
  have b := (lv_iff hp k2 k3 (min (lvS p k1 q1 k2 q2) (lvS p k2 q2 k3 q3)) q2 q3).mp (by omega)
  exact (lv_iff hp k1 k3 _ q1 q3).mpr ⟨a.1, b.2.1, by
    have := dv_add hp a.2.2 b.2.2
    have e : q2 - q1 + (q3 - q2) = q3 - q1 := by grind
    rwa [e] at this⟩
def wy (p : Int) (a b : Int × Rat) : Int := wayS p a.1 a.2 b.1 b.2
theorem four_pt {p : Int} (hp : Pr p) (a b c d : Int × Rat) :
    wy p a b + wy p c d ≤ max (wy p a c + wy p b d) (wy p a d + wy p b c) ∧ wy p a c + wy p b d ≤ max (wy p a b + wy p c d) (wy p a d + wy p b c) ∧ wy p a d + wy p b c ≤ max (wy p a b + wy p c d) (wy p a c + wy p b d) := by
  have w : ∀ x y : Int × Rat, wy p x y = x.1 + y.1 - 2 * lvS p x.1 x.2 y.1 y.2 := fun x y => (way_lv p x.1 x.2 y.1 y.2).symm
  have u : ∀ x y z : Int × Rat, min (lvS p x.1 x.2 y.1 y.2) (lvS p y.1 y.2 z.1 z.2) ≤ lvS p x.1 x.2 z.1 z.2 := fun x y z => lv_um hp _ _ _ _ _ _
  have s : ∀ x y : Int × Rat, lvS p x.1 x.2 y.1 y.2 = lvS p y.1 y.2 x.1 x.2 := fun x y => lv_symm hp _ _ _ _
  rw [w a b, w c d, w a c, w b d, w a d, w b c]
  have abc := u a b c; have bca := u b c a; have cab := u c a b
  have abd := u a b d; have bda := u b d a; have dab := u d a b
  have acd := u a c d; have cda := u c d a; have dac := u d a c
  have bcd := u b c d; have cdb := u c d b; have dbc := u d b c
  rw [s c a] at bca cab; rw [s b a] at bca; rw [s c b] at cab
  rw [s d a] at bda dab; rw [s b a] at bda; rw [s d b] at dab
  rw [s d a] at cda dac; rw [s c a] at cda; rw [s d c] at dac
  rw [s d b] at cdb dbc; rw [s c b] at cdb; rw [s d c] at dbc
  generalize lvS p a.1 a.2 b.1 b.2 = m1 at *
  generalize lvS p c.1 c.2 d.1 d.2 = m2 at *
  generalize lvS p a.1 a.2 c.1 c.2 = m3 at *
  generalize lvS p b.1 b.2 d.1 d.2 = m4 at *
  generalize lvS p a.1 a.2 d.1 d.2 = m5 at *
  generalize lvS p b.1 b.2 c.1 c.2 = m6 at *
  clear u s w
  refine ⟨?_, ?_, ?_⟩ <;> omega

abbrev stD (s : Int × Rat) : D := spotD s.1 s.2
theorem wy_symm {p : Int} (hp : Pr p) (a b : Int × Rat) : wy p a b = wy p b a := way_symm hp _ _ _ _
def R_above (ds : List D) (d : D) : Prop := ∃ (p j : Int) (q : Rat) (k : Int), ds = [.int p, spotD j q, .int k] ∧ Pr p ∧ Fb 4400 q ∧ -900000 ≤ k ∧ k ≤ 900000 ∧ d = spotD k (restQ p k q)
theorem lv_rest {p : Int} (hp : Pr p) (k1 k2 n : Int) (q1 q2 : Rat) (hn : n ≤ k1) : lvS p n (restQ p n q1) k2 q2 = min n (lvS p k1 q1 k2 q2) := by
  have rd := (rest_is hp n q1).dv
  have key : ∀ j, j ≤ lvS p n (restQ p n q1) k2 q2 ↔ j ≤ min n (lvS p k1 q1 k2 q2) := by
    intro j
    rw [lv_iff hp]
    constructor
    · rintro ⟨a, b, c⟩
      have : j ≤ lvS p k1 q1 k2 q2 := (lv_iff hp k1 k2 j q1 q2).mpr ⟨by omega, b, by
        have d := dv_sub hp c (dv_mono hp a rd)
        have e : q2 - restQ p n q1 - (q1 - restQ p n q1) = q2 - q1 := by grind
        rwa [e] at d⟩
      omega
    · intro h
      have h1 := (lv_iff hp k1 k2 j q1 q2).mp (by omega)
      refine ⟨by omega, h1.2.1, ?_⟩
      have d := dv_add hp h1.2.2 (dv_mono hp (show j ≤ n by omega) rd)
      have e : q2 - q1 + (q1 - restQ p n q1) = q2 - restQ p n q1 := by grind
      rwa [e] at d
  have a := (key (lvS p n (restQ p n q1) k2 q2)).mp (Int.le_refl _)
  have b := (key (min n (lvS p k1 q1 k2 q2))).mpr (Int.le_refl _)
  omega
theorem lv_self {p : Int} (hp : Pr p) (k : Int) (q : Rat) : lvS p k q k q = k := by unfold lvS; rw [low_self]; omega
abbrev trS (s : Int × Rat) : Int × Int × Int := (s.1, s.2.num, (s.2.den : Int))
theorem sh_tri : ∀ l : List (Int × Int × Int), PyData.canLayAll0 (toPys (l.map triD)) = true ∧ PyData.depthAll (toPys (l.map triD)) ≤ 3
  | [] => ⟨rfl, Nat.zero_le 3⟩
  | t :: l => by
    have h := sh_tri l
    have e1 : PyData.canLay0 (toPy (triD t)) = true := rfl
    have e2 : PyData.depth (toPy (triD t)) = 2 := rfl
    refine ⟨?_, ?_⟩
    · show (PyData.canLay0 (toPy (triD t)) && PyData.canLayAll0 (toPys (l.map triD))) = true
      rw [e1, h.1]
      rfl
    · show max (PyData.depth (toPy (triD t))) (PyData.depthAll (toPys (l.map triD))) ≤ 3
      rw [e2]
      omega
theorem sh_tris (l : List (Int × Int × Int)) : SeqAt.shaped (toPy (.lst (l.map triD))) = true := by
  have h := sh_tri l
  show (PyData.canLayAll0 (toPys (l.map triD)) && decide (PyData.depthAll (toPys (l.map triD)) + 1 ≤ 64)) = true
  rw [h.1, decide_eq_true (by omega)]
  rfl
theorem eqD_tri (t : Int × Int × Int) : eqD (triD t) (triD t) = true := by
  have e : eqD (triD t) (triD t) = ((t.1 == t.1) && (((t.2.1 == t.2.1) && ((t.2.2 == t.2.2) && true)) && true)) := rfl
  rw [e]
  simp
theorem eq_tri : ∀ l : List (Int × Int × Int), PyData.eqvAll (toPys (l.map triD)) (toPys (l.map triD)) = true
  | [] => rfl
  | t :: l => by
    show (eqD (triD t) (triD t) && PyData.eqvAll (toPys (l.map triD)) (toPys (l.map triD))) = true
    rw [eqD_tri, eq_tri l]
    rfl
theorem eq_tris (l : List (Int × Int × Int)) : eqD (.lst (l.map triD)) (.lst (l.map triD)) = true := eq_tri l
noncomputable def abv (p : Int) (a : Int × Rat) (k : Int) : Int × Rat := (k, restQ p k a.2)
noncomputable def roadL (p : Int) (a b : Int × Rat) : List (Int × Rat) :=
  ((List.range (a.1 - (lvS p a.1 a.2 b.1 b.2 - 1)).toNat).map fun (j : Nat) => abv p a (a.1 + (j : Int) * (-1))) ++ (List.range (b.1 + 1 - (lvS p a.1 a.2 b.1 b.2 + 1)).toNat).map fun (j : Nat) => abv p b (lvS p a.1 a.2 b.1 b.2 + 1 + (j : Int) * 1)
theorem road_len {p : Int} (hp : Pr p) (a b : Int × Rat) : ((roadL p a b).length : Int) = a.1 + b.1 - 2 * lvS p a.1 a.2 b.1 b.2 + 1 := by
  have le := (lv_iff hp a.1 b.1 _ a.2 b.2).mp (Int.le_refl (lvS p a.1 a.2 b.1 b.2))
  unfold roadL
  rw [List.length_append, List.length_map, List.length_map, List.length_range, List.length_range]
  omega
theorem road_D {p : Int} (a b : Int × Rat) (x y : List Nat) (f g : Nat → Int × Rat) : (x.map fun j => stD (f j)) ++ (y.map fun j => stD (g j)) = ((x.map f ++ y.map g).map trS).map triD := by
  simp only [List.map_append, List.map_map]
  rfl
def isW : D → Bool
  | .int _ => true
  | _ => false
def things (k : Int) (q : Rat) : List D := [.lst [.int k, frD q], .tup [.int k, .lst [.int q.num, .int (q.den : Int)]], .tup [.int k, frD q, .int 0], .tup [.int k], .tup [.int k, .tup [.int q.num]], .tup [.int k, .tup [.int q.num, .int (q.den : Int), .int 1]]] ++
  [.tup [.non, frD q], .tup [.str "1", frD q], .tup [.int k, .tup [.str (toString q.num), .int (q.den : Int)]], .tup [.int k, .tup [.int q.num, .non]], .int k, .non] ++
  [.str "0:0", .tup [.bl true, .tup [.int 0, .int 1]], .tup [.int 3, .tup [.bl true, .int 1]], .tup [.int 3, .tup [.int 0, .bl true]], .tup [.int k, .int q.num], .tup [frD q, .int k], .tup [], .lst []]
theorem triS_perm32 {l : List (Int × Int × Int)} (h : l ≠ []) : (triS l).Perm l := by
  have g := DGX.runP_ok (lt := fun i j => triLt (l.getD i (0, 0, 0)) (l.getD j (0, 0, 0))) _ (DGX.ok_sort (n := l.length) (List.length_pos_iff.mpr h))
  have g2 : (DGX.ord l.length fun i j => triLt (l.getD i (0, 0, 0)) (l.getD j (0, 0, 0))).Perm (List.range l.length) := by
    have := g.toList
    simpa [DGX.ord] using this
  have g3 := g2.map fun i => l.getD i (0, 0, 0)
  have e : (List.range l.length).map (fun i => l.getD i (0, 0, 0)) = l := by
    apply List.ext_getElem
    · simp
    · intro i h1 h2
      simp at h1 h2
      simp [h2]
  rw [e] at g3
  exact g3
section
variable {Y : Cy} {T : Tx} {k : Nat} {N G : List Str} {c : List Slot} {a b : Expr} {pos : Pos} {d d' : D} {ds : List D}
end
/-! a walk without turning back is the road -/
structure WI42 (p K : Int) (a : Int × Rat) (n : Nat) (b : Int × Rat) : Prop where
  sb : Spt p (K + (n : Int)) b.1 b.2
  sx : ∀ x ∈ roadL p a b, Spt p (K + (n : Int)) x.1 x.2
  ln : (roadL p a b).length ≤ n + 1
  cs : ∀ (i : Nat) x y, (roadL p a b)[i]? = some x → (roadL p a b)[i + 1]? = some y → wy p x y = 1
theorem at_nat42 {α : Type} {l : List α} {i : Int} (h : 0 ≤ i) (h2 : i < l.length) : atI l i = l[i.toNat]? := by
  unfold atI ixN
  rw [if_pos h, if_pos h2]
  rfl
theorem eq_st42 (s t : Int × Rat) : eqD (stD s) (stD t) = decide (s = t) := by
  rw [show eqD (stD s) (stD t) = _ from eqD_spot2 s.1 t.1 s.2 t.2]
  exact decide_eq_decide.mpr Prod.ext_iff.symm


/-! two spots below a first number, with unlike figures there -/
/-- the next spot towards an end -/
noncomputable def nxt (p k : Int) (q : Rat) : Option Rat → Int × Rat
  | none => (k - 1, restQ p (k - 1) q)
  | some x => if alk p k x q = true then (k + 1, restQ p (k + 1) x) else (k - 1, restQ p (k - 1) q)
def eK (n : Int) : Int := if decide (n / 25 % 8 = 1) = true then n / 200 % 401 - 200 else n % 25 - 12
theorem ppw_fbE {p : Int} (hp : Pr p) {k : Int} (n : Nat) (h0 : -(n : Int) ≤ k) (h1 : k ≤ n) : Fb (3 * n + 1) (ppw p k) := by
  by_cases h : 0 ≤ k
  · have q := ppw_nn (p := p) h
    refine ⟨?_, ?_⟩
    · rw [q.1]; exact (pw_bd hp _).mono (by omega)
    · rw [q.2]
      have : 1 < 2 ^ (3 * n + 1) := Nat.one_lt_two_pow (by omega)
      unfold Bd; simpa using this
  · have q := ppw_neg (p := p) (k := k) (by have := hp.two_le; omega) (by omega)
    refine ⟨?_, ?_⟩
    · rw [q.1]
      have : 1 < 2 ^ (3 * n + 1) := Nat.one_lt_two_pow (by omega)
      unfold Bd; simpa using this
    · rw [q.2]; exact (pw_bd hp _).mono (by omega)
/-- alike but for a firm table behind it and a number -/
def Sim (p : Int) (s t : Tb) : Prop := ∃ (u : Tb) (r : Rat) (j : Int), Glp p u ∧ vq p r = some j ∧ s = (t.mul u).scale r
theorem scale_inv (t : Tb) {r : Rat} (h : r ≠ 0) : (t.scale r).scale r⁻¹ = t := scale_scale (Rat.mul_inv_cancel _ h)
theorem scale2 (t : Tb) (q r : Rat) : (t.scale q).scale r = t.scale (q * r) := by
  unfold Tb.scale
  simp only [Tb.mk.injEq]
  refine ⟨?_, ?_, ?_, ?_⟩ <;> grind
theorem glp_one {p : Int} (hp : Pr p) : Glp p Tb.one := by
  have d1 : Dv p 0 1 := ⟨1, 1, by rcases hp with rfl | rfl | rfl | rfl <;> decide, by rw [ppw_zero]; simp⟩
  have e : Tb.one.det = 1 := by decide +kernel
  exact ⟨⟨d1, dv_zero p 0 hp, dv_zero p 0 hp, d1⟩, by rw [e]; exact vq_one hp⟩
theorem Sim.symm {p : Int} (hp : Pr p) {s t : Tb} (h : Sim p s t) : Sim p t s := by
  obtain ⟨u, r, j, hu, hr, e⟩ := h
  have r0 := ((vq_iff hp).mp hr).1
  refine ⟨u.inv, r⁻¹, -j, hu.inv hp, vq_inv hp hr, ?_⟩
  rw [e, scale_mul, scale_inv _ r0, mul_assoc', mul_inv (hu.ne hp), mul_one']
theorem Sim.trans {p : Int} (hp : Pr p) {s t w : Tb} (h : Sim p s t) (h' : Sim p t w) : Sim p s w := by
  obtain ⟨u, r, j, hu, hr, e⟩ := h
  obtain ⟨u', r', j', hu', hr', e'⟩ := h'
  refine ⟨u'.mul u, r' * r, j' + j, hu'.mul hp hu, vq_mul hp hr' hr, ?_⟩
  rw [e, e', scale_mul, scale2, mul_assoc']
theorem Sim.led {p : Int} {s t : Tb} (a : Tb) (h : Sim p s t) : Sim p (a.mul s) (a.mul t) := by
  obtain ⟨u, r, j, hu, hr, e⟩ := h
  exact ⟨u, r, j, hu, hr, by rw [e, mul_scale, mul_assoc']⟩
theorem dv_unit {p j : Int} (hp : Pr p) {r s : Rat} {v : Int} (hr : vq p r = some v) (h : Dv p j (s * r)) : Dv p (j - v) s := by
  have r0 := ((vq_iff hp).mp hr).1
  have := dv_mul hp h (dv_of_vq hp (vq_inv hp hr) (Int.le_refl _))
  rw [show s * r * r⁻¹ = s by rw [Rat.mul_assoc, Rat.mul_inv_cancel _ r0, Rat.mul_one]] at this
  rw [show j - v = j + -v by omega]
  exact this
/-- two whole numbers whose product has the power 0 -/
theorem unit_two {p : Int} (hp : Pr p) {a d : Rat} (ha : Dv p 0 a) (hd : Dv p 0 d) (h : vq p (a * d) = some 0) : vq p a = some 0 ∧ vq p d = some 0 := by
  have h0 := ((vq_iff hp).mp h).1
  have a0 : a ≠ 0 := fun z => h0 (by rw [z, Rat.zero_mul])
  have d0 : d ≠ 0 := fun z => h0 (by rw [z, Rat.mul_zero])
  cases ea : vq p a with
  | none => exact absurd (vq_none.mp ea) a0
  | some x =>
    cases ed : vq p d with
    | none => exact absurd (vq_none.mp ed) d0
    | some y =>
      have m := vq_mul hp ea ed
      rw [h] at m
      have m : 0 = x + y := Option.some.inj m
      have x0 : 0 ≤ x := by rw [vq_dv hp, ea] at ha; exact ha
      have y0 : 0 ≤ y := by rw [vq_dv hp, ed] at hd; exact hd
      constructor <;> congr 1 <;> omega
/-- a spot's fraction is its own rest -/
def Own (p k : Int) (q : Rat) : Prop := IsRest p k q q
theorem own_rest {p : Int} (hp : Pr p) (k : Int) (a : Rat) : Own p k (restQ p k a) := by
  have r := rest_is hp k a
  refine ⟨r.den, r.nn, r.lt, ?_⟩
  rw [Rat.sub_self]
  exact dv_zero p k hp
theorem sim_spot {p : Int} (hp : Pr p) {k k' : Int} {q q' : Rat} (o : Own p k q) (o' : Own p k' q') (h : Sim p (tabS p k q) (tabS p k' q')) : k = k' ∧ q = q' := by
  obtain ⟨u, r, j, hu, hr, e⟩ := h
  have r0 := ((vq_iff hp).mp hr).1
  have ea : ppw p k = (ppw p k' * u.a + q' * u.c) * r := congrArg Tb.a e
  have eb : q = (ppw p k' * u.b + q' * u.d) * r := congrArg Tb.b e
  have ec : 0 = (0 * u.a + 1 * u.c) * r := congrArg Tb.c e
  have ed : 1 = (0 * u.b + 1 * u.d) * r := congrArg Tb.d e
  have c0 : u.c = 0 := by
    have : u.c * r = 0 := by grind
    exact (Rat.mul_eq_zero.mp this).elim id fun z => absurd z r0
  have dd : u.det = u.a * u.d := by unfold Tb.det; rw [c0]; grind
  have un := unit_two hp hu.w.a hu.w.d (by rw [← dd]; exact hu.d)
  have dr : u.d * r = 1 := by grind
  have jj : j = 0 := by
    have := vq_mul hp un.2 hr
    rw [dr, vq_one hp] at this
    have := Option.some.inj this
    omega
  subst jj
  have ek : ppw p k = ppw p k' * (u.a * r) := by rw [ea, c0]; grind
  have kk : k = k' := by
    have h1 := vq_mul hp (vq_ppw (k := k') hp) (vq_mul hp un.1 hr)
    rw [← ek, vq_ppw hp] at h1
    have := Option.some.inj h1
    omega
  subst kk
  refine ⟨rfl, rest_uniq hp o o' ?_⟩
  have eq : q - q' = ppw p k * (u.b * r) := by grind
  rw [eq]
  have := dv_mul hp (dv_of_vq hp (vq_ppw (k := k) hp) (Int.le_refl k)) (dv_mul hp hu.w.b (dv_of_vq hp hr (Int.le_refl 0)))
  rwa [Int.add_zero, Int.add_zero] at this
/-- the spot of a table -/
noncomputable def spotS (p : Int) (t : Tb) : Int × Rat := ((vq p t.det).getD 0 - 2 * leastV p [t.c, t.d], if vq p t.c = some (leastV p [t.c, t.d]) then restQ p ((vq p t.det).getD 0 - 2 * leastV p [t.c, t.d]) (t.a * t.c⁻¹) else restQ p ((vq p t.det).getD 0 - 2 * leastV p [t.c, t.d]) (t.b * t.d⁻¹))
theorem spotS_own {p : Int} (hp : Pr p) (t : Tb) : Own p (spotS p t).1 (spotS p t).2 := by
  unfold spotS
  split <;> exact own_rest hp _ _
theorem det_cd {t : Tb} (h : t.det ≠ 0) : ∃ r ∈ [t.c, t.d], r ≠ 0 := by
  by_cases ha : t.c = 0
  · by_cases hb : t.d = 0
    · exfalso
      exact h (by unfold Tb.det; rw [ha, hb]; grind)
    · exact ⟨t.d, by simp, hb⟩
  · exact ⟨t.c, by simp, ha⟩
theorem spotS_sim {p : Int} (hp : Pr p) {t : Tb} (h : t.det ≠ 0) : Sim p t (tabS p (spotS p t).1 (spotS p t).2) := by
  have lc := (least_iff hp (det_cd h) (leastV p [t.c, t.d])).mp (Int.le_refl _)
  have dc := lc t.c (by simp)
  have dd := lc t.d (by simp)
  have lw := least_iff hp (det_cd h) (leastV p [t.c, t.d] + 1)
  obtain ⟨v, hv⟩ : ∃ v, vq p t.det = some v := by
    cases e : vq p t.det with
    | none => exact absurd (vq_none.mp e) h
    | some v => exact ⟨v, rfl⟩
  have dt : ∀ n, n ≤ v → Dv p n t.det := fun n hn => dv_of_vq hp hv hn
  unfold spotS
  rw [hv]
  show Sim p t (tabS p (v - 2 * leastV p [t.c, t.d]) (if vq p t.c = some (leastV p [t.c, t.d]) then restQ p (v - 2 * leastV p [t.c, t.d]) (t.a * t.c⁻¹) else restQ p (v - 2 * leastV p [t.c, t.d]) (t.b * t.d⁻¹)))
  -- the fraction, and what is left of both columns
  obtain ⟨q, eq, qa, qb⟩ : ∃ q, (if vq p t.c = some (leastV p [t.c, t.d]) then restQ p (v - 2 * leastV p [t.c, t.d]) (t.a * t.c⁻¹) else restQ p (v - 2 * leastV p [t.c, t.d]) (t.b * t.d⁻¹)) = q ∧ Dv p (v - leastV p [t.c, t.d]) (t.a - q * t.c) ∧ Dv p (v - leastV p [t.c, t.d]) (t.b - q * t.d) := by
    refine ⟨_, rfl, ?_⟩
    generalize leastV p [t.c, t.d] = L at *
    by_cases hc : vq p t.c = some L
    · rw [if_pos hc]
      have c0 := ((vq_iff hp).mp hc).1
      have rd := (rest_is hp (v - 2 * L) (t.a * t.c⁻¹)).dv
      generalize restQ p (v - 2 * L) (t.a * t.c⁻¹) = q at rd
      have e1 : t.a - q * t.c = (t.a * t.c⁻¹ - q) * t.c := by have := Rat.mul_inv_cancel _ c0; grind
      have d1 : Dv p (v - L) (t.a - q * t.c) := by
        rw [e1]
        have := dv_mul hp rd dc
        rwa [show v - 2 * L + L = v - L by omega] at this
      refine ⟨d1, ?_⟩
      have e2 : (t.b - q * t.d) * t.c = t.d * (t.a - q * t.c) - t.det := by unfold Tb.det; grind
      have d2 : Dv p v ((t.b - q * t.d) * t.c) := by
        rw [e2]
        have := dv_mul hp dd d1
        rw [show L + (v - L) = v by omega] at this
        exact dv_sub hp this (dt v (Int.le_refl _))
      exact dv_unit hp hc d2
    · rw [if_neg hc]
      have hd : vq p t.d = some L := by
        cases ed : vq p t.d with
        | none =>
          exfalso
          have d0 := vq_none.mp ed
          cases ec : vq p t.c with
          | none => exact h (by unfold Tb.det; rw [d0, vq_none.mp ec]; grind)
          | some w =>
            have wl : L ≤ w := by rw [vq_dv hp, ec] at dc; exact dc
            have : L + 1 ≤ L := lw.mpr fun r hr => by
              simp at hr
              rcases hr with rfl | rfl
              · exact dv_of_vq hp ec (by rcases Int.lt_or_eq_of_le wl with z | z; omega; exact absurd (by rw [ec, z]) hc)
              · rw [d0]; exact dv_zero p _ hp
            omega
        | some w =>
          have wl : L ≤ w := by rw [vq_dv hp, ed] at dd; exact dd
          by_cases z : w = L
          · rw [z]
          · exfalso
            have : L + 1 ≤ L := lw.mpr fun r hr => by
              simp at hr
              rcases hr with rfl | rfl
              · rw [vq_dv hp]
                cases ec : vq p t.c with
                | none => trivial
                | some x =>
                  have xl : L ≤ x := by rw [vq_dv hp, ec] at dc; exact dc
                  have : x ≠ L := fun y => hc (by rw [ec, y])
                  show L + 1 ≤ x
                  omega
              · exact dv_of_vq hp ed (by omega)
            omega
      have c0 := ((vq_iff hp).mp hd).1
      have rd := (rest_is hp (v - 2 * L) (t.b * t.d⁻¹)).dv
      generalize restQ p (v - 2 * L) (t.b * t.d⁻¹) = q at rd
      have e1 : t.b - q * t.d = (t.b * t.d⁻¹ - q) * t.d := by have := Rat.mul_inv_cancel _ c0; grind
      have d1 : Dv p (v - L) (t.b - q * t.d) := by
        rw [e1]
        have := dv_mul hp rd dd
        rwa [show v - 2 * L + L = v - L by omega] at this
      refine ⟨?_, d1⟩
      have e2 : (t.a - q * t.c) * t.d = t.c * (t.b - q * t.d) + t.det := by unfold Tb.det; grind
      have d2 : Dv p v ((t.a - q * t.c) * t.d) := by
        rw [e2]
        have := dv_mul hp dc d1
        rw [show L + (v - L) = v by omega] at this
        exact dv_add hp this (dt v (Int.le_refl _))
      exact dv_unit hp hd d2
  rw [eq]
  generalize leastV p [t.c, t.d] = L at *
  have p1 := ppw_inv hp L
  have p2 := ppw_inv hp (v - 2 * L)
  have p3 : ppw p (v - L) = ppw p (v - 2 * L) * ppw p L := by rw [← ppw_add hp]; congr 1; omega
  have p4 : ppw p (-(v - L)) = ppw p (-(v - 2 * L)) * ppw p (-L) := by rw [← ppw_add hp]; congr 1; omega
  refine ⟨⟨(t.a - q * t.c) * ppw p (-(v - L)), (t.b - q * t.d) * ppw p (-(v - L)), t.c * ppw p (-L), t.d * ppw p (-L)⟩, ppw p L, L, ⟨⟨?_, ?_, ?_, ?_⟩, ?_⟩, vq_ppw hp, ?_⟩
  · rw [dv_ppw hp]; rwa [show 0 - -(v - L) = v - L by omega]
  · rw [dv_ppw hp]; rwa [show 0 - -(v - L) = v - L by omega]
  · rw [dv_ppw hp]; rwa [show 0 - -L = L by omega]
  · rw [dv_ppw hp]; rwa [show 0 - -L = L by omega]
  · have e : (Tb.mk ((t.a - q * t.c) * ppw p (-(v - L))) ((t.b - q * t.d) * ppw p (-(v - L))) (t.c * ppw p (-L)) (t.d * ppw p (-L))).det = t.det * ppw p (-v) := by
      have p5 : ppw p (-v) = ppw p (-(v - L)) * ppw p (-L) := by rw [← ppw_add hp]; congr 1; omega
      unfold Tb.det
      simp only []
      grind
    rw [e]
    have := vq_mul hp hv (vq_ppw (k := -v) hp)
    rwa [show v + -v = 0 by omega] at this
  · rcases t with ⟨a, b, c, d⟩
    unfold tabS Tb.mul Tb.scale
    simp only [Tb.mk.injEq]
    refine ⟨?_, ?_, ?_, ?_⟩ <;> grind
/-- a spot moved -/
noncomputable def movS (p : Int) (a : Tb) (s : Int × Rat) : Int × Rat := spotS p (a.mul (tabS p s.1 s.2))
theorem tabS_ne {p : Int} (hp : Pr p) (k : Int) (q : Rat) : (tabS p k q).det ≠ 0 := by rw [tabS_det]; exact ppw_ne hp k
theorem mul_ne {a b : Tb} (ha : a.det ≠ 0) (hb : b.det ≠ 0) : (a.mul b).det ≠ 0 := by rw [det_mul]; exact fun z => (Rat.mul_eq_zero.mp z).elim ha hb
noncomputable def road (p : Int) (e : Option Rat) (s : Int × Rat) : Nat → Int × Rat
  | 0 => s
  | n + 1 => nxt p (road p e s n).1 (road p e s n).2 e
theorem vq_bd {p : Int} (hp : Pr p) {m : Nat} {r : Rat} (h : Fb m r) {v : Int} (hv : vq p r = some v) : -(m : Int) ≤ v ∧ v ≤ m := by
  have r0 := ((vq_iff hp).mp hv).1
  have n0 : r.num ≠ 0 := fun z => r0 (Rat.num_eq_zero.mp z)
  have a := vp_le hp n0 h.1
  have b := vp_le hp (den_ne r) h.2
  unfold vq at hv
  rw [if_neg n0] at hv
  have := Option.some.inj hv
  omega
theorem least_bd {p : Int} (hp : Pr p) {m : Nat} {c d : Rat} (hc : Fb m c) (hd : Fb m d) (h : ∃ r ∈ [c, d], r ≠ 0) : -(m : Int) ≤ leastV p [c, d] ∧ leastV p [c, d] ≤ m := by
  have l := least_iff hp h
  constructor
  · rw [l]
    intro r hr
    rw [vq_dv hp]
    cases hv : vq p r with
    | none => trivial
    | some v =>
      simp at hr
      rcases hr with rfl | rfl
      · exact (vq_bd hp hc hv).1
      · exact (vq_bd hp hd hv).1
  · obtain ⟨r, hr, r0⟩ := h
    have q := (l (leastV p [c, d])).mp (Int.le_refl _) r hr
    rw [vq_dv hp] at q
    cases hv : vq p r with
    | none => exact absurd (vq_none.mp hv) r0
    | some v =>
      rw [hv] at q
      have q : leastV p [c, d] ≤ v := q
      simp at hr
      rcases hr with rfl | rfl
      · have := (vq_bd hp hc hv).2; omega
      · have := (vq_bd hp hd hv).2; omega
theorem spotof_R {p : Int} (hp : Pr p) {t : Tb} (h : t.det ≠ 0) {n : Nat} (hb : Tbb n t) (hn : n + n ≤ 4400) : R_spotof [.int p, tbD t] (spotD (spotS p t).1 (spotS p t).2) := by
  obtain ⟨v, hv⟩ : ∃ v, vq p t.det = some v := by
    cases e : vq p t.det with
    | none => exact absurd (vq_none.mp e) h
    | some v => exact ⟨v, rfl⟩
  have vb := vq_bd hp hb.det hv
  have lb := least_bd hp hb.c hb.d (det_cd h)
  refine ⟨p, t, v, rfl, hp, hb.mok hn, hv, by omega, by omega, fun hc => ?_, fun hc => ?_, ?_⟩
  · have c0 := ((vq_iff hp).mp hc).1
    exact (hb.a.mul (hb.c.inv c0)).mono hn
  · have d0 : t.d ≠ 0 := fun z => by
      have c0 : t.c ≠ 0 := fun y => h (by unfold Tb.det; rw [y, z]; grind)
      cases ec : vq p t.c with
      | none => exact c0 (vq_none.mp ec)
      | some w =>
        refine hc ?_
        rw [ec]
        congr 1
        refine eq_of_le_iff fun j => ?_
        rw [least_iff hp (det_cd h)]
        constructor
        · intro hj r hr
          simp at hr
          rcases hr with rfl | rfl
          · exact dv_of_vq hp ec hj
          · rw [z]; exact dv_zero p j hp
        · intro hj
          have := hj t.c (by simp)
          rw [vq_dv hp, ec] at this
          exact this
    exact ⟨d0, (hb.b.mul (hb.d.inv d0)).mono hn⟩
  · unfold spotS
    rw [hv]
    rfl
def R_moved (ds : List D) (d : D) : Prop := ∃ (p : Int) (a : Tb) (k : Int) (q : Rat) (n K m : Nat), ds = [.int p, tbD a, spotD k q] ∧ Pr p ∧ a.det ≠ 0 ∧ Tbb n a ∧ Fb m q ∧ -(K : Int) ≤ k ∧ k ≤ K ∧ 3 * K + 1 ≤ m ∧ 2 * n + m ≤ 2000 ∧ d = spotD (movS p a (k, q)).1 (movS p a (k, q)).2
theorem tabS_bd {p : Int} (hp : Pr p) {k : Int} {q : Rat} {K m : Nat} (hq : Fb m q) (h0 : -(K : Int) ≤ k) (h1 : k ≤ K) (hm : 3 * K + 1 ≤ m) : Tbb m (tabS p k q) := ⟨(ppw_fbE hp K h0 h1).mono hm, hq, fb_zero.mono (by omega), fb_one.mono (by omega)⟩
theorem mulS_bd {p : Int} {k : Int} {q : Rat} {a : Tb} {n m : Nat} (ha : Tbb n a) (hs : Tbb m (tabS p k q)) : Tbb (2 * n + m + 1) (a.mul (tabS p k q)) := by
  have hp := hs.a
  have hq := hs.b
  have hp : Fb m (ppw p k) := hp
  have hq : Fb m q := hq
  refine ⟨?_, ?_, ?_, ?_⟩
  · show Fb _ (a.a * ppw p k + a.b * 0)
    rw [Rat.mul_zero, Rat.add_zero]; exact (ha.a.mul hp).mono (by omega)
  · show Fb _ (a.a * q + a.b * 1)
    rw [Rat.mul_one]; exact ((ha.a.mul hq).add ha.b).mono (by omega)
  · show Fb _ (a.c * ppw p k + a.d * 0)
    rw [Rat.mul_zero, Rat.add_zero]; exact (ha.c.mul hp).mono (by omega)
  · show Fb _ (a.c * q + a.d * 1)
    rw [Rat.mul_one]; exact ((ha.c.mul hq).add ha.d).mono (by omega)
/-! a table with nought below on the left; what it slides along -/
structure Wk (p k1 : Int) (q1 : Rat) (k2 : Int) (q2 : Rat) : Prop where
  tb : MOk (tabS p k1 q1) ∧ (tabS p k1 q1).det ≠ 0 ∧ Fb 4400 (tabS p k1 q1).det
  po : POk (tabS p k1 q1).inv (tabS p k2 q2)
  mo : MOk ⟨ppw p (k2 - k1), (q2 - q1) * ppw p (-k1), 0, 1⟩
  a0 : -1000 ≤ k1
  a1 : k1 ≤ 1000
  b0 : -1000 ≤ k2
  b1 : k2 ≤ 1000
  f1 : Fb 4400 q1
  f2 : Fb 4400 q2
theorem wk78 {p : Int} (hp : Pr p) {k1 k2 : Int} {q1 q2 : Rat} {L M B C K : Nat} (h1 : Sz p L B q1) (h2 : Sz p L B q2) (m0 : -(M : Int) ≤ -k1) (m1 : 3 * (-k1 + M) + 1 ≤ C) (a0 : -1000 ≤ k1) (a1 : k1 ≤ 1000) (b0 : -1000 ≤ k2) (b1 : k2 ≤ 1000) (d0 : -(K : Int) ≤ k2 - k1) (d1 : k2 - k1 ≤ K) (hK : 3 * K + 1 ≤ 4400)
    (hL : 3 * (L + M) + 1 ≤ 4400) (hB : B + 1 + C ≤ 4400) : Wk p k1 q1 k2 q2 := by
  have i1 := Sz.ppw hp (M := M) (k := -k1) m0 (B := C) m1
  have e1 : Fb 4400 (ppw p k1) := (ppw_fb hp 1000 a0 a1).mono (by decide)
  have e2 : Fb 4400 (ppw p k2) := (ppw_fb hp 1000 b0 b1).mono (by decide)
  have e3 : Fb 4400 (ppw p (k2 - k1)) := (ppw_fb hp K d0 d1).mono hK
  have f1 : Fb 4400 q1 := h1.fb hp (by omega) (by omega)
  have f2 : Fb 4400 q2 := h2.fb hp (by omega) (by omega)
  have z : Fb 4400 0 := fb_zero.mono (by decide)
  have o : Fb 4400 1 := fb_one.mono (by decide)
  have fi : Fb 4400 (ppw p (-k1)) := (ppw_fb hp 1000 (k := -k1) (by omega) (by omega)).mono (by decide)
  have g1 : Fb 4400 (-q1 * ppw p (-k1)) := (h1.neg.mul hp i1).fb hp (by omega) (by omega)
  have g2 : Fb 4400 (ppw p (-k1) * q2) := by rw [Rat.mul_comm]; exact (h2.mul hp i1).fb hp (by omega) (by omega)
  refine ⟨⟨⟨⟨e1, f1, z, o⟩, ?_, ?_⟩, ?_, ?_⟩, ?_, ?_, a0, a1, b0, b1, f1, f2⟩
  · show Fb 4400 (ppw p k1 * 1); rw [Rat.mul_one]; exact e1
  · show Fb 4400 (q1 * 0); rw [Rat.mul_zero]; exact z
  · rw [tabS_det]; exact ppw_ne hp k1
  · rw [tabS_det]; exact e1
  · rw [tabS_inv hp]
    refine ⟨⟨fi, g1, z, o⟩, ⟨e2, f2, z, o⟩, ?_, ?_, g2, ?_, ?_, ?_, ?_, ?_⟩
    · show Fb 4400 (ppw p (-k1) * ppw p k2); rw [← ppw_add hp, show -k1 + k2 = k2 - k1 by omega]; exact e3
    · show Fb 4400 (-q1 * ppw p (-k1) * 0); rw [Rat.mul_zero]; exact z
    · show Fb 4400 (-q1 * ppw p (-k1) * 1); rw [Rat.mul_one]; exact g1
    · show Fb 4400 (0 * ppw p k2); rw [Rat.zero_mul]; exact z
    · show Fb 4400 (1 * 0); rw [Rat.mul_zero]; exact z
    · show Fb 4400 (0 * q2); rw [Rat.zero_mul]; exact z
    · show Fb 4400 (1 * 1); rw [Rat.mul_one]; exact o
  · refine ⟨⟨e3, ?_, z, o⟩, ?_, ?_⟩
    · exact ((h2.sub h1).mul hp i1).fb hp (by omega) (by omega)
    · show Fb 4400 (ppw p (k2 - k1) * 1); rw [Rat.mul_one]; exact e3
    · show Fb 4400 ((q2 - q1) * ppw p (-k1) * 0); rw [Rat.mul_zero]; exact z
theorem int_of78 {p : Int} (hp : Pr p) {q : Rat} (h : PDen p q) {L : Nat} (hd : Dv p (-(L : Int)) q) : ∃ m : Int, q * ppw p (L : Int) = (m : Rat) := by
  by_cases q0 : q = 0
  · exact ⟨0, by rw [q0]; simp⟩
  have n0 : q.num ≠ 0 := fun z => q0 (Rat.num_eq_zero.mp z)
  obtain ⟨n, hn⟩ := h
  have p2 := hp.two_le
  have nle : n ≤ L := by
    refine Classical.byContradiction fun hc => ?_
    have np : ¬ q.num % p = 0 := fun z => by
      have d1 : p ∣ q.num := Int.dvd_of_emod_eq_zero z
      have d2 : p ∣ (q.den : Int) := by
        rw [hn]
        obtain ⟨m, rfl⟩ : ∃ m, n = m + 1 := ⟨n - 1, by omega⟩
        exact ⟨p ^ m, by rw [Int.pow_succ, Int.mul_comm]⟩
      have c := q.reduced
      have g1 : p.natAbs ∣ q.num.natAbs := Int.natAbs_dvd_natAbs.mpr d1
      have g2 : p.natAbs ∣ q.den := by have := Int.natAbs_dvd_natAbs.mpr d2; simpa using this
      have g := Nat.dvd_gcd g1 g2
      rw [c] at g
      have := Nat.le_of_dvd (by decide) g
      omega
    have hv : vq p q = some (-(n : Int)) := by
      unfold vq
      rw [if_neg n0, vp_zero np, hn, vp_pow p2.1]
      congr 1
      omega
    rw [vq_dv hp, hv] at hd
    have hd : -(L : Int) ≤ -(n : Int) := hd
    omega
  refine ⟨q.num * p ^ (L - n), ?_⟩
  have e1 : q * (q.den : Rat) = (q.num : Rat) := by
    have := rat_split q
    exact_mod_cast this
  have e2 : (q.den : Rat) = ppw p (n : Int) := by
    rw [ppw_nat]
    have : ((q.den : Int) : Rat) = ((p ^ n : Int) : Rat) := by rw [hn]
    exact_mod_cast this
  have e3 : ppw p (L : Int) = ppw p (n : Int) * ppw p ((L - n : Nat) : Int) := by rw [← ppw_add hp]; congr 1; omega
  rw [e3, ← Rat.mul_assoc, ← e2, e1, ppw_nat]
  push_cast
  rfl
theorem rest_sz78 {p : Int} (hp : Pr p) {z : Rat} {L B : Nat} {k : Int} (h : Dv p (-(L : Int)) z) (hk : -(L : Int) ≤ k) (hB : 3 * (k + L) + 1 ≤ B) : Sz p L B (restQ p k z) := by
  have r := rest_is hp k z
  have d : Dv p (-(L : Int)) (restQ p k z) := by
    have := dv_sub hp h (dv_mono hp hk r.dv)
    rwa [show z - (z - restQ p k z) = restQ p k z by grind] at this
  obtain ⟨m, e⟩ := int_of78 hp r.den d
  refine ⟨m, e, ?_⟩
  have pp := ppw_pos hp (L : Int)
  have m0 : (0 : Int) ≤ m := by
    have := Rat.mul_le_mul_of_nonneg_right r.nn (Rat.le_of_lt pp)
    rw [e, Rat.zero_mul] at this
    exact_mod_cast this
  have m1 : m < p ^ (k + L).toNat := by
    have := mul_lt r.lt pp
    rw [e, ← ppw_add hp, show k + (L : Int) = (((k + L).toNat : Nat) : Int) by omega, ppw_nat] at this
    exact_mod_cast this
  exact Bd.of_le m0 (Int.le_of_lt m1) ((pw_bd hp _).mono (by omega))
theorem rest_zero78 {p : Int} (hp : Pr p) (k : Int) : restQ p k 0 = 0 := by
  have z : Dv p k ((0 : Rat) - 0) := by rw [Rat.sub_self]; exact dv_zero p k hp
  exact rest_uniq hp (rest_is hp k 0) ⟨⟨0, by simp⟩, Rat.le_refl, ppw_pos hp k, z⟩ z
/-- a table that slides: z to y z + s (1 - y) -/
structure Sld (p : Int) (t : Tb) (y s : Rat) (m : Int) : Prop where
  c : t.c = 0
  d : t.d ≠ 0
  ya : t.a = y * t.d
  yb : t.b = s * (1 - y) * t.d
  vy : vq p y = some m
theorem dv_u78 {p j v : Int} (hp : Pr p) {r s : Rat} (hr : vq p r = some v) : Dv p j (s * r) ↔ Dv p (j - v) s := by
  constructor
  · exact dv_unit hp hr
  · intro h
    have := dv_mul hp h (dv_of_vq hp hr (Int.le_refl _))
    rwa [show j - v + v = j by omega] at this
def Ub (p : Int) (t : Tb) (k : Int) (q : Rat) : Prop := POk t (tabS p k q) ∧ MOk (t.mul (tabS p k q))
noncomputable def alongS (p : Int) (a b : Int × Rat) (j : Int) : Int × Rat := if j ≤ a.1 - lvS p a.1 a.2 b.1 b.2 then (a.1 - j, restQ p (a.1 - j) a.2) else (a.1 - 2 * (a.1 - lvS p a.1 a.2 b.1 b.2) + j, restQ p (a.1 - 2 * (a.1 - lvS p a.1 a.2 b.1 b.2) + j) b.2)
def R_lies78 (ds : List D) (d : D) : Prop := ∃ (p k1 : Int) (q1 : Rat) (k2 : Int) (q2 : Rat), ds = [.int p, spotD k1 q1, spotD k2 q2] ∧ Pr p ∧ Wk p k1 q1 k2 q2 ∧ d = .tup [.int (lowS p k1 q1 k2 q2), .int (k2 - k1 - lowS p k1 q1 k2 q2)]
def R_way78 (ds : List D) (d : D) : Prop := ∃ (p k1 : Int) (q1 : Rat) (k2 : Int) (q2 : Rat), ds = [.int p, spotD k1 q1, spotD k2 q2] ∧ Pr p ∧ Wk p k1 q1 k2 q2 ∧ d = .int (wayS p k1 q1 k2 q2)
def R_turn78 (ds : List D) (d : D) : Prop := ∃ (p k1 : Int) (q1 : Rat) (k2 : Int) (q2 : Rat), ds = [.int p, spotD k1 q1, spotD k2 q2] ∧ Pr p ∧ Wk p k1 q1 k2 q2 ∧ -3000 ≤ lvS p k1 q1 k2 q2 ∧ d = spotD (lvS p k1 q1 k2 q2) (restQ p (lvS p k1 q1 k2 q2) q1)
def R_sbO78 (ds l : List D) : Prop := ∃ (p : Int) (a b : Int × Rat), ds = [.int p, stD a, stD b] ∧ Pr p ∧ Wk p a.1 a.2 b.1 b.2 ∧ -3000 ≤ lvS p a.1 a.2 b.1 b.2 ∧ l = ((roadL p a b).map trS).map triD
def R_along78 (ds : List D) (d : D) : Prop := ∃ (p : Int) (a b : Int × Rat) (j : Int), ds = [.int p, stD a, stD b, .int j] ∧ Pr p ∧ Wk p a.1 a.2 b.1 b.2 ∧ -3000 ≤ lvS p a.1 a.2 b.1 b.2 ∧ -3000 ≤ j ∧ j ≤ 3000 ∧ d = stD (alongS p a b j)
structure Kb (p : Int) (t : Tb) (y s : Rat) : Prop where
  tb : Tbb 4400 t
  mo : MOk t
  u0 : Ub p t 0 0
  f0 : Fb 4400 (y * 0 + s * (1 - y))
  u : ∀ k : Int, -270 ≤ k → k ≤ 270 → Ub p t k (restQ p k s)
  f : ∀ k : Int, -270 ≤ k → k ≤ 270 → Fb 4400 (y * restQ p k s + s * (1 - y))
/-! the laws' own parts of k78 -/
def ccell (ns : List Int) (k : Int) : Int := if (ns.length : Int) = 0 then 7 * k + 3 else if ns.getD 0 0 % 2 = 1 then ((ns.getD (k % ns.length).toNat 0).natAbs : Int) * (if decide (k < (ns.length : Int)) = true then 1 else 0)
  else (ns.getD (k % ns.length).toNat 0 + 7 * k * k + 13 * k + 5) * 48271 % 2147483647 * 69621 % 1000000007
theorem ccell_at {ns : List Int} {k : Int} (hl : ¬ (ns.length : Int) = 0) : atI (ns.map D.int) (k % ns.length) = some (.int (ns.getD (k % ns.length).toNat 0)) := by
  have a := Int.emod_nonneg k hl
  have b := Int.emod_lt_of_pos k (show (0 : Int) < ns.length by omega)
  unfold atI ixN
  rw [List.length_map, if_pos a, if_pos b]
  show (ns.map D.int)[(k % ns.length).toNat]? = _
  rw [List.getElem?_map, List.getElem?_eq_getElem (by omega), List.getD_eq_getElem?_getD, List.getElem?_eq_getElem (by omega)]
  rfl
def R_cell78 (ds : List D) (d : D) : Prop := ∃ (ns : List Int) (k : Int), ds = [.lst (ns.map D.int), .int k] ∧ ns.length ≤ 63 ∧ 0 ≤ k ∧ k ≤ 100 ∧ d = .int (ccell ns k)
def R_prime78 (ds : List D) (d : D) : Prop := ∃ (ns : List Int) (p : Int), ds = [.lst (ns.map D.int)] ∧ ns.length ≤ 63 ∧ Pr p ∧ atI [D.int 2, D.int 3, D.int 5, D.int 7] (ccell ns 0 / 2 % 4) = some (.int p) ∧ d = .int p
def R_low78 (ds : List D) (d : D) : Prop := ∃ t b : Int, ds = [.int t, .int b] ∧ 0 < b ∧ Bd 8900 b ∧ d = frD (Rat.divInt t b)
def R_pp78 (ds : List D) (d : D) : Prop := ∃ p n : Int, ds = [.int p, .int n] ∧ Pr p ∧ 0 ≤ n ∧ n ≤ 1000 ∧ d = .tup [.int (p ^ n.toNat), .int 1]
/-- powers by squaring -/
theorem pp_step78 {p : Int} {a b l n : Nat} (h : a + b * l = n) : (if l % 2 = 1 then a + b else a) + (b + b) * (l / 2) = n := by
  have e : l = 2 * (l / 2) + l % 2 := by omega
  have e2 : b * l = (b + b) * (l / 2) + b * (l % 2) := by
    rw [show b * l = b * (2 * (l / 2) + l % 2) by rw [← e], Nat.mul_add, ← Nat.mul_assoc, Nat.mul_comm b 2, Nat.two_mul]
  have h2 : l % 2 = 0 ∨ l % 2 = 1 := by omega
  rcases h2 with h2 | h2
  · rw [h2, Nat.mul_zero] at e2
    rw [if_neg (by omega)]
    omega
  · rw [h2, Nat.mul_one] at e2
    rw [if_pos h2]
    omega
/-- Euclid's way, with what makes the first number -/
structure EI (w M x y f g : Int) : Prop where
  x0 : 0 < x
  y0 : 0 ≤ y
  fx : M ∣ x - f * w
  gy : M ∣ y - g * w
  gc : Int.gcd x y = 1
  sg : f * g ≤ 0
  sz : (f.natAbs : Int) * y + (g.natAbs : Int) * x = M
structure Lng (p n : Int) (X : Rat) : Prop where
  fb : Fb 1570 X
  vx : vq p X = some n
/-! how far a table moves a spot -/
noncomputable def dsT (p : Int) (t : Tb) : Int := (vq p t.det).getD 0 - 2 * leastV p [t.a, t.b, t.c, t.d]
theorem vq_ex79 {p : Int} {r : Rat} (h : r ≠ 0) : ∃ v, vq p r = some v := by
  cases e : vq p r with
  | none => exact absurd (vq_none.mp e) h
  | some v => exact ⟨v, rfl⟩
theorem ds_right79 {p : Int} (hp : Pr p) {w u : Tb} {r : Rat} {k : Int} (hw : w.det ≠ 0) (hu : Glp p u) (hr : vq p r = some k) : dsT p ((w.mul u).scale r) = dsT p w := by
  obtain ⟨v, hv⟩ := vq_ex79 (p := p) hw
  have a := least_firm hp (glp_one hp) hu hv
  rw [one_mul'] at a
  have b := least_scale hp a.2 hr
  unfold dsT
  rw [b.1, b.2, a.1, hv]
  show v + (k + k) - 2 * (_ + k) = v - 2 * _
  omega
theorem det_turn79 (t : Tb) : t.turn.det = t.det := by
  unfold Tb.turn Tb.det
  simp only []
  grind
theorem ds_inv79 {p : Int} (hp : Pr p) {w : Tb} (hw : w.det ≠ 0) : dsT p w.inv = dsT p w := by
  obtain ⟨v, hv⟩ := vq_ex79 (p := p) hw
  have ht : vq p w.turn.det = some v := by rw [det_turn79]; exact hv
  have b := least_scale hp ht (vq_inv hp hv)
  have e : leastV p [w.turn.a, w.turn.b, w.turn.c, w.turn.d] = leastV p [w.a, w.b, w.c, w.d] := eq_of_le_iff fun n => by
    rw [least4 hp ht, least4 hp hv]
    constructor
    · intro q
      have qb : Dv p n (0 - w.b) := q.b
      have qc : Dv p n (0 - w.c) := q.c
      refine ⟨q.d, ?_, ?_, q.a⟩
      · have := dv_neg qb; rwa [show -(0 - w.b) = w.b by grind] at this
      · have := dv_neg qc; rwa [show -(0 - w.c) = w.c by grind] at this
    · intro q
      refine ⟨q.d, ?_, ?_, q.a⟩
      · show Dv p n (0 - w.b); have := dv_neg q.b; rwa [show -w.b = 0 - w.b by grind] at this
      · show Dv p n (0 - w.c); have := dv_neg q.c; rwa [show -w.c = 0 - w.c by grind] at this
  unfold dsT Tb.inv
  rw [b.1, b.2, e, hv]
  show v + (-v + -v) - 2 * (_ + -v) = v - 2 * _
  omega
theorem ds_symm79 {p : Int} (hp : Pr p) {s t : Tb} (hs : s.det ≠ 0) (ht : t.det ≠ 0) : dsT p (s.inv.mul t) = dsT p (t.inv.mul s) := by
  rw [← ds_inv79 hp (mul_ne (det_inv hs) ht), mul_inv_rev (det_inv hs) ht, inv_inv hs]
theorem sim_ne79 {p : Int} (hp : Pr p) {s t : Tb} (h : Sim p s t) (ht : t.det ≠ 0) : s.det ≠ 0 := by
  obtain ⟨u, r, j, hu, hr, rfl⟩ := h
  rw [det_scale]
  have r0 := ((vq_iff hp).mp hr).1
  intro z
  rcases Rat.mul_eq_zero.mp z with z | z
  · exact mul_ne ht (hu.ne hp) z
  · rcases Rat.mul_eq_zero.mp z with z | z <;> exact r0 z
theorem ds_sim79 {p : Int} (hp : Pr p) {s t t' : Tb} (hs : s.det ≠ 0) (ht : t'.det ≠ 0) (h : Sim p t t') : dsT p (s.inv.mul t) = dsT p (s.inv.mul t') := by
  obtain ⟨u, r, j, hu, hr, rfl⟩ := h
  have e : s.inv.mul ((t'.mul u).scale r) = ((s.inv.mul t').mul u).scale r := by
    rw [mul_assoc']
    unfold Tb.mul Tb.scale
    simp only [Tb.mk.injEq]
    refine ⟨?_, ?_, ?_, ?_⟩ <;> grind
  rw [e, ds_right79 hp (mul_ne (det_inv hs) ht) hu hr]
theorem ds_sim2_79 {p : Int} (hp : Pr p) {s s' t t' : Tb} (hs : s'.det ≠ 0) (ht : t'.det ≠ 0) (h : Sim p s s') (h' : Sim p t t') : dsT p (s.inv.mul t) = dsT p (s'.inv.mul t') := by
  have s0 := sim_ne79 hp h hs
  rw [ds_sim79 hp s0 ht h', ds_symm79 hp s0 ht, ds_sim79 hp ht hs h, ds_symm79 hp ht hs]
abbrev tbS (p : Int) (x : Int × Rat) : Tb := tabS p x.1 x.2
theorem wy_ds79 {p : Int} (hp : Pr p) (x y : Int × Rat) : wy p x y = dsT p ((tbS p x).inv.mul (tbS p y)) := by
  unfold dsT
  rw [show (tbS p x).inv.mul (tbS p y) = _ from tabS_mul hp x.1 y.1 x.2 y.2, two_det, least_two hp, vq_ppw hp]
  show y.1 - x.1 - lowS p x.1 x.2 y.1 y.2 - lowS p x.1 x.2 y.1 y.2 = y.1 - x.1 - 2 * lowS p x.1 x.2 y.1 y.2
  omega
theorem mov_sim79 {p : Int} (hp : Pr p) {a : Tb} (ha : a.det ≠ 0) (x : Int × Rat) : Sim p (a.mul (tbS p x)) (tbS p (movS p a x)) := spotS_sim hp (mul_ne ha (tabS_ne hp x.1 x.2))
theorem mov_own79 {p : Int} (hp : Pr p) (a : Tb) (x : Int × Rat) : Own p (movS p a x).1 (movS p a x).2 := spotS_own hp _
/-- ways stay -/
theorem mov_way79 {p : Int} (hp : Pr p) {a : Tb} (ha : a.det ≠ 0) (x y : Int × Rat) : wy p (movS p a x) (movS p a y) = wy p x y := by
  rw [wy_ds79 hp, wy_ds79 hp, ← ds_sim2_79 hp (tabS_ne hp _ _) (tabS_ne hp _ _) (mov_sim79 hp ha x) (mov_sim79 hp ha y)]
  congr 1
  rw [mul_inv_rev ha (tabS_ne hp _ _), mul_assoc', ← mul_assoc' a.inv, inv_mul ha, one_mul']
theorem mov_far79 {p : Int} (hp : Pr p) {a : Tb} (ha : a.det ≠ 0) (x : Int × Rat) : wy p x (movS p a x) = dsT p ((tbS p x).inv.mul (a.mul (tbS p x))) := by
  rw [wy_ds79 hp, ← ds_sim79 hp (tabS_ne hp _ _) (tabS_ne hp _ _) (mov_sim79 hp ha x)]
theorem own_eq79 {p : Int} (hp : Pr p) {x y : Int × Rat} (hx : Own p x.1 x.2) (hy : Own p y.1 y.2) (h : Sim p (tbS p x) (tbS p y)) : x = y := by
  obtain ⟨a, b⟩ := sim_spot hp hx hy h
  exact Prod.ext a b
theorem mov_mul79 {p : Int} (hp : Pr p) {a b : Tb} (ha : a.det ≠ 0) (hb : b.det ≠ 0) (x : Int × Rat) : movS p (a.mul b) x = movS p a (movS p b x) := by
  refine own_eq79 hp (mov_own79 hp _ _) (mov_own79 hp _ _) ?_
  have h1 := (mov_sim79 hp (mul_ne ha hb) x).symm hp
  have h2 := (mov_sim79 hp hb x).led a
  rw [← mul_assoc'] at h2
  exact (h1.trans hp h2).trans hp (mov_sim79 hp ha (movS p b x))
theorem mov_one79 {p : Int} (hp : Pr p) {x : Int × Rat} (hx : Own p x.1 x.2) : movS p Tb.one x = x := by
  refine own_eq79 hp (mov_own79 hp _ _) hx ?_
  have h1 := (mov_sim79 hp ((glp_one hp).ne hp) x).symm hp
  rwa [one_mul'] at h1
theorem mov_scale79 {p : Int} (hp : Pr p) {a : Tb} (ha : a.det ≠ 0) {r : Rat} (hr : r ≠ 0) (x : Int × Rat) : movS p (a.scale r) x = movS p a x := by
  obtain ⟨j, hj⟩ := vq_ex79 (p := p) hr
  have hs : (a.scale r).det ≠ 0 := by
    rw [det_scale]
    intro z
    rcases Rat.mul_eq_zero.mp z with z | z
    · exact ha z
    · rcases Rat.mul_eq_zero.mp z with z | z <;> exact hr z
  refine own_eq79 hp (mov_own79 hp _ _) (mov_own79 hp _ _) ?_
  have h1 := (mov_sim79 hp hs x).symm hp
  have e : (a.scale r).mul (tbS p x) = ((a.mul (tbS p x)).mul Tb.one).scale r := by
    rw [mul_one']
    unfold Tb.mul Tb.scale
    simp only [Tb.mk.injEq]
    refine ⟨?_, ?_, ?_, ?_⟩ <;> grind
  have h2 : Sim p ((a.scale r).mul (tbS p x)) (a.mul (tbS p x)) := ⟨Tb.one, r, j, glp_one hp, hj, e⟩
  exact (h1.trans hp h2).trans hp (mov_sim79 hp ha x)
/-- powers of the square of a table -/
theorem sq_hyp79 {p v v1 : Int} (hp : Pr p) {A : Tb} (hv : vq p A.det = some v) (ht : vq p (A.a + A.d) = some v1) (h : 2 * v1 < v) : leastV p [(A.mul A).a, (A.mul A).b, (A.mul A).c, (A.mul A).d] = v1 + leastV p [A.a, A.b, A.c, A.d] := by
  have hd : vq p (A.mul A).det = some (v + v) := by rw [det_mul]; exact vq_mul hp hv hv
  have mu := (least4 hp hv _).mp (Int.le_refl (leastV p [A.a, A.b, A.c, A.d]))
  have m1 : leastV p [A.a, A.b, A.c, A.d] ≤ v1 := by
    have := dv_add hp mu.a mu.d
    rw [vq_dv hp, ht] at this
    exact this
  have ea : (A.mul A).a = A.a * (A.a + A.d) - A.det := by unfold Tb.mul Tb.det; simp only []; grind
  have eb : (A.mul A).b = A.b * (A.a + A.d) := by unfold Tb.mul; simp only []; grind
  have ec : (A.mul A).c = A.c * (A.a + A.d) := by unfold Tb.mul; simp only []; grind
  have ed : (A.mul A).d = A.d * (A.a + A.d) - A.det := by unfold Tb.mul Tb.det; simp only []; grind
  have up : ∀ n, n ≤ v → Dv4 p n (A.mul A) → n ≤ v1 + leastV p [A.a, A.b, A.c, A.d] := fun n hn q => by
    have dd := dv_of_vq hp hv hn
    have qa := dv_add hp q.a dd
    have qd := dv_add hp q.d dd
    have qb := q.b
    have qc := q.c
    rw [ea, show A.a * (A.a + A.d) - A.det + A.det = A.a * (A.a + A.d) by grind] at qa
    rw [ed, show A.d * (A.a + A.d) - A.det + A.det = A.d * (A.a + A.d) by grind] at qd
    rw [eb] at qb
    rw [ec] at qc
    have := (least4 hp hv (n - v1)).mpr ⟨(dv_u78 hp ht).mp qa, (dv_u78 hp ht).mp qb, (dv_u78 hp ht).mp qc, (dv_u78 hp ht).mp qd⟩
    omega
  refine eq_of_le_iff fun n => ?_
  rw [least4 hp hd]
  constructor
  · intro q
    by_cases hn : n ≤ v
    · exact up n hn q
    · have := up v (Int.le_refl _) ⟨dv_mono hp (by omega) q.a, dv_mono hp (by omega) q.b, dv_mono hp (by omega) q.c, dv_mono hp (by omega) q.d⟩
      omega
  · intro hn
    have q := (least4 hp hv (n - v1)).mp (by omega)
    have dd := dv_of_vq hp hv (show n ≤ v by omega)
    refine ⟨?_, ?_, ?_, ?_⟩
    · rw [ea]; exact dv_sub hp ((dv_u78 hp ht).mpr q.a) dd
    · rw [eb]; exact (dv_u78 hp ht).mpr q.b
    · rw [ec]; exact (dv_u78 hp ht).mpr q.c
    · rw [ed]; exact dv_sub hp ((dv_u78 hp ht).mpr q.d) dd
theorem ds_nn79 {p v : Int} (hp : Pr p) {A : Tb} (hv : vq p A.det = some v) : 2 * leastV p [A.a, A.b, A.c, A.d] ≤ v := by
  have mu := (least4 hp hv _).mp (Int.le_refl (leastV p [A.a, A.b, A.c, A.d]))
  have h : Dv p (leastV p [A.a, A.b, A.c, A.d] + leastV p [A.a, A.b, A.c, A.d]) A.det := dv_sub hp (dv_mul hp mu.a mu.d) (dv_mul hp mu.b mu.c)
  rw [vq_dv hp, hv] at h
  have h : leastV p [A.a, A.b, A.c, A.d] + leastV p [A.a, A.b, A.c, A.d] ≤ v := h
  omega
theorem sq_ell79 {p v : Int} (hp : Pr p) {A : Tb} (hv : vq p A.det = some v) (ht : ∀ v1, vq p (A.a + A.d) = some v1 → v ≤ 2 * v1) : v + 2 * leastV p [A.a, A.b, A.c, A.d] ≤ 2 * leastV p [(A.mul A).a, (A.mul A).b, (A.mul A).c, (A.mul A).d] := by
  have hd : vq p (A.mul A).det = some (v + v) := by rw [det_mul]; exact vq_mul hp hv hv
  have mu := (least4 hp hv _).mp (Int.le_refl (leastV p [A.a, A.b, A.c, A.d]))
  have nn := ds_nn79 hp hv
  have ea : (A.mul A).a = A.a * (A.a + A.d) - A.det := by unfold Tb.mul Tb.det; simp only []; grind
  have eb : (A.mul A).b = A.b * (A.a + A.d) := by unfold Tb.mul; simp only []; grind
  have ec : (A.mul A).c = A.c * (A.a + A.d) := by unfold Tb.mul; simp only []; grind
  have ed : (A.mul A).d = A.d * (A.a + A.d) - A.det := by unfold Tb.mul Tb.det; simp only []; grind
  have key : ∀ n, n ≤ v → (∀ r, Dv p (leastV p [A.a, A.b, A.c, A.d]) r → Dv p n (r * (A.a + A.d))) → n ≤ leastV p [(A.mul A).a, (A.mul A).b, (A.mul A).c, (A.mul A).d] := fun n hn q => by
    have dd := dv_of_vq hp hv hn
    refine (least4 hp hd n).mpr ⟨?_, ?_, ?_, ?_⟩
    · rw [ea]; exact dv_sub hp (q _ mu.a) dd
    · rw [eb]; exact q _ mu.b
    · rw [ec]; exact q _ mu.c
    · rw [ed]; exact dv_sub hp (q _ mu.d) dd
  cases e : vq p (A.a + A.d) with
  | none =>
    have z := vq_none.mp e
    have := key v (Int.le_refl _) fun r _ => by rw [z, Rat.mul_zero]; exact dv_zero p v hp
    omega
  | some v1 =>
    have h1 := ht v1 e
    by_cases hc : v ≤ leastV p [A.a, A.b, A.c, A.d] + v1
    · have := key v (Int.le_refl _) fun r hr => dv_mono hp hc (dv_mul hp hr (dv_of_vq hp e (Int.le_refl _)))
      omega
    · have := key (leastV p [A.a, A.b, A.c, A.d] + v1) (by omega) fun r hr => dv_mul hp hr (dv_of_vq hp e (Int.le_refl _))
      omega
/-! the tree -/
theorem wy_nn79 {p : Int} (hp : Pr p) (x y : Int × Rat) : 0 ≤ wy p x y := by
  have h := (lv_iff hp x.1 y.1 _ x.2 y.2).mp (Int.le_refl (lvS p x.1 x.2 y.1 y.2))
  have w : wy p x y = _ := (way_lv p x.1 x.2 y.1 y.2).symm
  omega
theorem wy_self79 {p : Int} (hp : Pr p) (x : Int × Rat) : wy p x x = 0 := by
  have w : wy p x x = _ := (way_lv p x.1 x.2 x.1 x.2).symm
  rw [lv_self hp] at w
  omega
theorem wy_eq79 {p : Int} (hp : Pr p) {x y : Int × Rat} (hx : Own p x.1 x.2) (hy : Own p y.1 y.2) (h : wy p x y = 0) : x = y := by
  have l := (lv_iff hp x.1 y.1 _ x.2 y.2).mp (Int.le_refl (lvS p x.1 x.2 y.1 y.2))
  have w : wy p x y = _ := (way_lv p x.1 x.2 y.1 y.2).symm
  have e1 : x.1 = y.1 := by omega
  have e2 : lvS p x.1 x.2 y.1 y.2 = x.1 := by omega
  have d := l.2.2
  rw [e2] at d
  refine Prod.ext e1 ?_
  have hy' : IsRest p x.1 y.2 y.2 := by rw [e1]; exact hy
  exact rest_uniq hp hx hy' (dv_comm d)
theorem wy_tri79 {p : Int} (hp : Pr p) (x y z : Int × Rat) : wy p x z ≤ wy p x y + wy p y z := by
  have f := (four_pt hp x z y y).1
  rw [wy_self79 hp, wy_symm hp z y] at f
  omega
/-- between two spots: j from the first -/
structure Btw (p : Int) (a b u : Int × Rat) (j : Int) : Prop where
  own : Own p u.1 u.2
  l : wy p a u = j
  r : wy p u b = wy p a b - j
theorem Btw.uniq {p : Int} (hp : Pr p) {a b u w : Int × Rat} {j : Int} (h : Btw p a b u j) (h' : Btw p a b w j) : u = w := by
  refine wy_eq79 hp h.own h'.own ?_
  have f := (four_pt hp a b u w).1
  have n := wy_nn79 hp u w
  rw [h.l, h'.l, wy_symm hp b w, wy_symm hp b u, h.r, h'.r] at f
  omega
/-- the way from any spot to one between two -/
theorem Btw.way {p : Int} (hp : Pr p) {a b u : Int × Rat} {j : Int} (h : Btw p a b u j) (z : Int × Rat) : wy p u z = max (wy p a z - j) (wy p b z - (wy p a b - j)) := by
  have f := (four_pt hp a b z u).1
  have t1 := wy_tri79 hp a u z
  have t2 := wy_tri79 hp b u z
  rw [h.l] at t1
  rw [wy_symm hp b u, h.r] at t2
  rw [h.l, wy_symm hp b u, h.r, wy_symm hp z u] at f
  omega
theorem along79 {p : Int} (hp : Pr p) {a b : Int × Rat} {j : Int} (j0 : 0 ≤ j) (j1 : j ≤ wy p a b) : Btw p a b (alongS p a b j) j := by
  have w : ∀ x y : Int × Rat, wy p x y = x.1 + y.1 - 2 * lvS p x.1 x.2 y.1 y.2 := fun x y => (way_lv p x.1 x.2 y.1 y.2).symm
  have l := (lv_iff hp a.1 b.1 _ a.2 b.2).mp (Int.le_refl (lvS p a.1 a.2 b.1 b.2))
  have wab := w a b
  unfold alongS
  split
  · rename_i h
    refine ⟨own_rest hp _ _, ?_, ?_⟩
    · rw [w, lv_symm hp, lv_rest hp a.1 a.1 (a.1 - j) a.2 a.2 (by omega), lv_self hp]
      show a.1 + (a.1 - j) - 2 * _ = j
      omega
    · rw [w, lv_rest hp a.1 b.1 (a.1 - j) a.2 b.2 (by omega)]
      show a.1 - j + b.1 - 2 * _ = _
      omega
  · rename_i h
    have ls := lv_symm hp a.1 b.1 a.2 b.2
    have lt : a.1 - 2 * (a.1 - lvS p a.1 a.2 b.1 b.2) + j ≤ b.1 := by omega
    have lg : lvS p a.1 a.2 b.1 b.2 < a.1 - 2 * (a.1 - lvS p a.1 a.2 b.1 b.2) + j := by omega
    have lj : a.1 - 2 * (a.1 - lvS p a.1 a.2 b.1 b.2) + j - 2 * lvS p a.1 a.2 b.1 b.2 + a.1 = j := by omega
    generalize a.1 - 2 * (a.1 - lvS p a.1 a.2 b.1 b.2) + j = t at lt lg lj ⊢
    refine ⟨own_rest hp _ _, ?_, ?_⟩
    · rw [w]
      show a.1 + t - 2 * lvS p a.1 a.2 t (restQ p t b.2) = j
      rw [lv_symm hp t a.1 (restQ p t b.2) a.2, lv_rest hp b.1 a.1 t b.2 a.2 lt, ls]
      omega
    · rw [w]
      show t + b.1 - 2 * lvS p t (restQ p t b.2) b.1 b.2 = _
      rw [lv_rest hp b.1 b.1 t b.2 b.2 lt, lv_self hp]
      omega
theorem Btw.mov {p : Int} (hp : Pr p) {g : Tb} (hg : g.det ≠ 0) {a b u : Int × Rat} {j : Int} (h : Btw p a b u j) : Btw p (movS p g a) (movS p g b) (movS p g u) j :=
  ⟨mov_own79 hp _ _, by rw [mov_way79 hp hg]; exact h.l, by rw [mov_way79 hp hg, mov_way79 hp hg]; exact h.r⟩
theorem mov_along79 {p : Int} (hp : Pr p) {g : Tb} (hg : g.det ≠ 0) {a b : Int × Rat} {j : Int} (j0 : 0 ≤ j) (j1 : j ≤ wy p a b) : movS p g (alongS p a b j) = alongS p (movS p g a) (movS p g b) j :=
  ((along79 hp j0 j1).mov hp hg).uniq hp (along79 hp j0 (by rw [mov_way79 hp hg]; exact j1))
/-- the powers of measure and trace tell how far -/
theorem far_two79 {p v : Int} (hp : Pr p) {g : Tb} (hv : vq p g.det = some v) (x : Int × Rat) :
    (∀ v1, vq p (g.a + g.d) = some v1 → 2 * v1 < v → wy p x (movS p g (movS p g x)) - wy p x (movS p g x) = v - 2 * v1) ∧
    ((∀ v1, vq p (g.a + g.d) = some v1 → v ≤ 2 * v1) → wy p x (movS p g (movS p g x)) ≤ wy p x (movS p g x)) ∧ (wy p x (movS p g x) - v) % 2 = 0 := by
  have hg : g.det ≠ 0 := ((vq_iff hp).mp hv).1
  have X0 := tabS_ne hp x.1 x.2
  have dA : ((tbS p x).inv.mul (g.mul (tbS p x))).det = g.det := by
    rw [det_mul, det_mul]
    have e : (tbS p x).inv.det * (tbS p x).det = 1 := by
      rw [← det_mul, inv_mul X0]
      decide +kernel
    have : (tbS p x).inv.det * (g.det * (tbS p x).det) = ((tbS p x).inv.det * (tbS p x).det) * g.det := by grind
    rw [this, e, Rat.one_mul]
  have tA : ((tbS p x).inv.mul (g.mul (tbS p x))).a + ((tbS p x).inv.mul (g.mul (tbS p x))).d = g.a + g.d := by
    rw [show (tbS p x).inv = _ from tabS_inv hp x.1 x.2]
    have e : ppw p (-x.1) * ppw p x.1 = 1 := by rw [← ppw_add hp, show -x.1 + x.1 = 0 by omega, ppw_zero]
    unfold tbS tabS Tb.mul
    simp only []
    generalize ppw p (-x.1) = i at *
    generalize ppw p x.1 = k at *
    grind
  have hA : vq p ((tbS p x).inv.mul (g.mul (tbS p x))).det = some v := by rw [dA]; exact hv
  have sq : (tbS p x).inv.mul ((g.mul g).mul (tbS p x)) = ((tbS p x).inv.mul (g.mul (tbS p x))).mul ((tbS p x).inv.mul (g.mul (tbS p x))) := by
    rw [mul_assoc' (tbS p x).inv, mul_assoc' g (tbS p x), ← mul_assoc' (tbS p x) (tbS p x).inv, mul_inv X0, one_mul', mul_assoc' g g]
  have d1 := mov_far79 hp hg x
  have d2 := mov_far79 hp (mul_ne hg hg) x
  rw [mov_mul79 hp hg hg, sq] at d2
  generalize (tbS p x).inv.mul (g.mul (tbS p x)) = A at *
  have hA2 : vq p (A.mul A).det = some (v + v) := by rw [det_mul]; exact vq_mul hp hA hA
  have e1 : dsT p A = v - 2 * leastV p [A.a, A.b, A.c, A.d] := by unfold dsT; rw [hA]; rfl
  have e2 : dsT p (A.mul A) = v + v - 2 * leastV p [(A.mul A).a, (A.mul A).b, (A.mul A).c, (A.mul A).d] := by unfold dsT; rw [hA2]; rfl
  rw [e1] at d1
  rw [e2] at d2
  refine ⟨fun v1 h1 h2 => ?_, fun h => ?_, by omega⟩
  · have := sq_hyp79 hp hA (by rw [tA]; exact h1) h2
    omega
  · have := sq_ell79 hp hA (by rw [tA]; exact h)
    omega
/-- the middle of the road from a spot to the moved one -/
theorem mid79 {p : Int} (hp : Pr p) {g : Tb} (hg : g.det ≠ 0) (x : Int × Rat) :
    wy p (alongS p x (movS p g x) (wy p x (movS p g x) / 2)) (movS p g (alongS p x (movS p g x) (wy p x (movS p g x) / 2))) = max (wy p x (movS p g x) % 2) (wy p x (movS p g (movS p g x)) - wy p x (movS p g x)) := by
  have n := wy_nn79 hp x (movS p g x)
  have iso := mov_way79 hp hg x (movS p g x)
  have B := along79 hp (a := x) (b := movS p g x) (j := wy p x (movS p g x) / 2) (by omega) (by omega)
  have B' := B.mov hp hg
  have w1 := B.way hp (movS p g (movS p g x))
  have w2 := B'.way hp (alongS p x (movS p g x) (wy p x (movS p g x) / 2))
  have l1 := B.r
  rw [wy_symm hp] at w2
  rw [w2, wy_symm hp (movS p g x) (alongS p x (movS p g x) (wy p x (movS p g x) / 2)), l1, wy_symm hp (movS p g (movS p g x)) (alongS p x (movS p g x) (wy p x (movS p g x) / 2)), w1, iso]
  omega

/-! the three kinds -/
noncomputable def midS (p : Int) (g : Tb) (x : Int × Rat) : Int × Rat := alongS p x (movS p g x) (wy p x (movS p g x) / 2)
noncomputable def slS (p : Int) (g : Tb) : Int := match vq p (g.a + g.d) with
  | none => 0
  | some v1 => max 0 ((vq p g.det).getD 0 - 2 * v1)
theorem mid_own79 {p : Int} (hp : Pr p) {g : Tb} (x : Int × Rat) : Own p (midS p g x).1 (midS p g x).2 := by
  unfold midS alongS
  split <;> exact own_rest hp _ _
theorem slides79 {p : Int} (hp : Pr p) {g : Tb} (hg : g.det ≠ 0) (h : 0 < slS p g) (x : Int × Rat) : wy p (midS p g x) (movS p g (midS p g x)) = slS p g := by
  obtain ⟨v, hv⟩ := vq_ex79 (p := p) hg
  have f := far_two79 hp hv x
  have m := mid79 hp hg x
  unfold slS at h ⊢
  unfold midS
  rw [m]
  cases e : vq p (g.a + g.d) with
  | none => rw [e] at h; exact absurd (show (0 : Int) < 0 from h) (by decide)
  | some v1 =>
    rw [e, hv] at h
    have h : 0 < max 0 (v - 2 * v1) := h
    rw [hv]
    show _ = max 0 (v - 2 * v1)
    have := f.1 v1 e (by omega)
    have n := wy_nn79 hp x (movS p g x)
    omega
theorem still79 {p : Int} (hp : Pr p) {g : Tb} {v : Int} (hv : vq p g.det = some v) (h : slS p g = 0) : ∀ v1, vq p (g.a + g.d) = some v1 → v ≤ 2 * v1 := fun v1 e => by
  unfold slS at h
  rw [e, hv] at h
  have h : max 0 (v - 2 * v1) = 0 := h
  omega
theorem mid_way79 {p : Int} (hp : Pr p) {g : Tb} {v : Int} (hv : vq p g.det = some v) (h : slS p g = 0) (x : Int × Rat) : wy p (midS p g x) (movS p g (midS p g x)) = v % 2 := by
  have hg : g.det ≠ 0 := ((vq_iff hp).mp hv).1
  have f := far_two79 hp hv x
  have m := mid79 hp hg x
  unfold midS
  rw [m]
  have := f.2.1 (still79 hp hv h)
  have n := wy_nn79 hp x (movS p g x)
  omega
theorem keeps79 {p : Int} (hp : Pr p) {g : Tb} {v : Int} (hv : vq p g.det = some v) (h : slS p g = 0) (h2 : v % 2 = 0) (x : Int × Rat) : movS p g (midS p g x) = midS p g x := by
  have w := mid_way79 hp hv h x
  exact (wy_eq79 hp (mid_own79 hp x) (mov_own79 hp _ _) (by omega)).symm
theorem turns79 {p : Int} (hp : Pr p) {g : Tb} {v : Int} (hv : vq p g.det = some v) (h : slS p g = 0) (h2 : v % 2 = 1) (x : Int × Rat) : wy p (midS p g x) (movS p g (midS p g x)) = 1 ∧ movS p g (movS p g (midS p g x)) = midS p g x := by
  have hg : g.det ≠ 0 := ((vq_iff hp).mp hv).1
  have w := mid_way79 hp hv h x
  have f := far_two79 hp hv (midS p g x)
  have l := f.2.1 (still79 hp hv h)
  have hv2 : vq p (g.mul g).det = some (v + v) := by rw [det_mul]; exact vq_mul hp hv hv
  have f2 := (far_two79 hp hv2 (midS p g x)).2.2
  rw [mov_mul79 hp hg hg] at f2
  have n := wy_nn79 hp (midS p g x) (movS p g (movS p g (midS p g x)))
  exact ⟨by omega, (wy_eq79 hp (mid_own79 hp x) (mov_own79 hp _ _) (by omega)).symm⟩
/-- which of the three hangs on two powers -/
theorem sl_scale79 {p : Int} (hp : Pr p) {g : Tb} (hg : g.det ≠ 0) {r : Rat} (hr : r ≠ 0) : slS p (g.scale r) = slS p g ∧ ∃ v j, vq p g.det = some v ∧ vq p (g.scale r).det = some (v + (j + j)) := by
  obtain ⟨v, hv⟩ := vq_ex79 (p := p) hg
  obtain ⟨j, hj⟩ := vq_ex79 (p := p) hr
  have hd : vq p (g.scale r).det = some (v + (j + j)) := by rw [det_scale]; exact vq_mul hp hv (vq_mul hp hj hj)
  refine ⟨?_, v, j, hv, hd⟩
  have et : (g.scale r).a + (g.scale r).d = (g.a + g.d) * r := by unfold Tb.scale; simp only []; grind
  unfold slS
  rw [et, hd, hv]
  cases e : vq p (g.a + g.d) with
  | none =>
    have z := vq_none.mp e
    rw [z, Rat.zero_mul, vq_none.mpr rfl]
  | some v1 =>
    rw [vq_mul hp e hj]
    show max 0 (v + (j + j) - 2 * (v1 + j)) = max 0 (v - 2 * v1)
    omega
theorem sl_inv79 {p : Int} (hp : Pr p) {g : Tb} (hg : g.det ≠ 0) : slS p g.inv = slS p g ∧ ∃ v, vq p g.det = some v ∧ vq p g.inv.det = some (-v) := by
  obtain ⟨v, hv⟩ := vq_ex79 (p := p) hg
  have ht : g.turn.det ≠ 0 := by rw [det_turn79]; exact hg
  have s := sl_scale79 hp ht (r := g.det⁻¹) (inv_ne hg)
  have e1 : slS p g.turn = slS p g := by
    unfold slS
    rw [det_turn79, show g.turn.a + g.turn.d = g.a + g.d by unfold Tb.turn; simp only []; grind]
  refine ⟨s.1.trans e1, v, hv, ?_⟩
  show vq p (g.turn.scale g.det⁻¹).det = some (-v)
  rw [det_scale, det_turn79]
  have := vq_mul hp hv (vq_mul hp (vq_inv hp hv) (vq_inv hp hv))
  rwa [show v + (-v + -v) = -v by omega] at this
theorem sl_conj79 {p : Int} (hp : Pr p) {g s : Tb} (hs : s.det ≠ 0) : slS p ((s.mul g).mul s.inv) = slS p g ∧ ((s.mul g).mul s.inv).det = g.det := by
  have e : s.det * s.inv.det = 1 := by
    rw [← det_mul, mul_inv hs]
    decide +kernel
  have d : ((s.mul g).mul s.inv).det = g.det := by
    rw [det_mul, det_mul]
    have : s.det * g.det * s.inv.det = (s.det * s.inv.det) * g.det := by grind
    rw [this, e, Rat.one_mul]
  refine ⟨?_, d⟩
  have t : ((s.mul g).mul s.inv).a + ((s.mul g).mul s.inv).d = g.a + g.d := by
    have i := Rat.mul_inv_cancel _ hs
    unfold Tb.inv Tb.turn Tb.scale Tb.mul at *
    unfold Tb.det at i ⊢
    simp only [] at *
    generalize (s.a * s.d - s.b * s.c)⁻¹ = q at *
    grind
  unfold slS
  rw [t, d]
theorem dv_two79 {p : Int} (hp : Pr p) : Dv p 0 (2 : Rat) := ⟨2, 1, by rcases hp with rfl | rfl | rfl | rfl <;> decide, by rw [ppw_zero]; decide +kernel⟩
theorem sl_sq79 {p : Int} (hp : Pr p) {g : Tb} (hg : g.det ≠ 0) : slS p (g.mul g) = 2 * slS p g ∧ ∃ v, vq p g.det = some v ∧ vq p (g.mul g).det = some (v + v) := by
  obtain ⟨v, hv⟩ := vq_ex79 (p := p) hg
  have hd : vq p (g.mul g).det = some (v + v) := by rw [det_mul]; exact vq_mul hp hv hv
  refine ⟨?_, v, hv, hd⟩
  have et : (g.mul g).a + (g.mul g).d = (g.a + g.d) * (g.a + g.d) - 2 * g.det := by unfold Tb.mul Tb.det; simp only []; grind
  have d2 : Dv p v (2 * g.det) := by
    have := dv_mul hp (dv_two79 hp) (dv_of_vq hp hv (Int.le_refl _))
    rwa [Int.zero_add] at this
  by_cases hs : ∃ v1, vq p (g.a + g.d) = some v1 ∧ 2 * v1 < v
  · obtain ⟨v1, h1, h2⟩ := hs
    have sq := vq_mul hp h1 h1
    have key : vq p ((g.mul g).a + (g.mul g).d) = some (v1 + v1) := by
      rw [et]
      have dy := ((vq_iff hp).mp sq).2
      have k : ∀ n, Dv p n ((g.a + g.d) * (g.a + g.d) - 2 * g.det) ↔ n ≤ v1 + v1 := fun n => by
        constructor
        · intro q
          refine Classical.byContradiction fun hc => ?_
          have q1 := dv_mono hp (show v1 + v1 + 1 ≤ n by omega) q
          have q2 := dv_mono hp (show v1 + v1 + 1 ≤ v by omega) d2
          have q3 := dv_add hp q1 q2
          rw [show (g.a + g.d) * (g.a + g.d) - 2 * g.det + 2 * g.det = (g.a + g.d) * (g.a + g.d) by grind] at q3
          have := (dy _).mp q3
          omega
        · intro q
          exact dv_sub hp ((dy n).mpr q) (dv_mono hp (by omega) d2)
      refine (vq_iff hp).mpr ⟨fun z => ?_, k⟩
      have := (k (v1 + v1 + 1)).mp (by rw [z]; exact dv_zero p _ hp)
      omega
    unfold slS
    rw [key, hd, h1, hv]
    show max 0 (v + v - 2 * (v1 + v1)) = 2 * max 0 (v - 2 * v1)
    omega
  · have st : ∀ v1, vq p (g.a + g.d) = some v1 → v ≤ 2 * v1 := fun v1 e => by
      refine Classical.byContradiction fun hc => hs ⟨v1, e, by omega⟩
    have z1 : slS p g = 0 := by
      unfold slS
      cases e : vq p (g.a + g.d) with
      | none => rfl
      | some v1 =>
        have := st v1 e
        rw [hv]
        show max 0 (v - 2 * v1) = 0
        omega
    have dt : Dv p v ((g.a + g.d) * (g.a + g.d)) := by
      cases e : vq p (g.a + g.d) with
      | none => rw [vq_none.mp e, Rat.zero_mul]; exact dv_zero p v hp
      | some v1 =>
        have := st v1 e
        exact dv_mono hp (by omega) (dv_of_vq hp (vq_mul hp e e) (Int.le_refl _))
    rw [z1]
    unfold slS
    cases e : vq p ((g.mul g).a + (g.mul g).d) with
    | none => rfl
    | some w =>
      have dd : Dv p v ((g.mul g).a + (g.mul g).d) := by rw [et]; exact dv_sub hp dt d2
      rw [vq_dv hp, e] at dd
      have dd : v ≤ w := dd
      rw [hd]
      show max 0 (v + v - 2 * w) = 2 * 0
      omega
/-- the road by its steps -/
theorem road_along79 {p : Int} (hp : Pr p) (a b : Int × Rat) : roadL p a b = (List.range (wy p a b + 1).toNat).map fun (i : Nat) => alongS p a b (i : Int) := by
  have l := (lv_iff hp a.1 b.1 _ a.2 b.2).mp (Int.le_refl (lvS p a.1 a.2 b.1 b.2))
  have w : wy p a b = a.1 + b.1 - 2 * lvS p a.1 a.2 b.1 b.2 := (way_lv p a.1 a.2 b.1 b.2).symm
  unfold roadL alongS
  rw [w]
  generalize lvS p a.1 a.2 b.1 b.2 = t at *
  apply List.ext_getElem
  · simp
    omega
  · intro i h1 h2
    simp at h1 h2
    rw [List.getElem_map, List.getElem_range]
    by_cases hi : i < (a.1 - (t - 1)).toNat
    · rw [List.getElem_append_left (by simpa using hi), List.getElem_map, List.getElem_range, if_pos (by omega)]
      unfold abv
      rw [show a.1 + (i : Int) * (-1) = a.1 - (i : Int) by omega]
    · rw [List.getElem_append_right (by simpa using hi), List.getElem_map, List.getElem_range, if_neg (by omega)]
      unfold abv
      simp only [List.length_map, List.length_range]
      rw [show t + 1 + ((i - (a.1 - (t - 1)).toNat : Nat) : Int) * 1 = a.1 - 2 * (a.1 - t) + (i : Int) by omega]
theorem mov_roadL79 {p : Int} (hp : Pr p) {g : Tb} (hg : g.det ≠ 0) (a b : Int × Rat) : (roadL p a b).map (movS p g) = roadL p (movS p g a) (movS p g b) := by
  rw [road_along79 hp, road_along79 hp, mov_way79 hp hg, List.map_map]
  refine List.map_congr_left fun i hi => ?_
  have hi := List.mem_range.mp hi
  have n := wy_nn79 hp a b
  exact mov_along79 hp hg (by omega) (by omega)

/-! how far off a spot lies, and what that makes of its numbers -/
structure Nr (p : Int) (W : Nat) (u : Int × Rat) : Prop where
  own : Own p u.1 u.2
  w : wy p (0, 0) u ≤ W
theorem Nr.mono {p : Int} {W V : Nat} {u : Int × Rat} (h : Nr p W u) (l : W ≤ V) : Nr p V u := ⟨h.own, by have := h.w; omega⟩
theorem Nr.lv {p : Int} (hp : Pr p) {W : Nat} {u : Int × Rat} (h : Nr p W u) : ∃ l : Int, l ≤ 0 ∧ l ≤ u.1 ∧ Dv p l u.2 ∧ u.1 - 2 * l ≤ W := by
  have l := (lv_iff hp 0 u.1 _ 0 u.2).mp (Int.le_refl (lvS p 0 0 u.1 u.2))
  have w : wy p (0, 0) u = 0 + u.1 - 2 * lvS p 0 0 u.1 u.2 := (way_lv p 0 0 u.1 u.2).symm
  have hw := h.w
  refine ⟨lvS p 0 0 u.1 u.2, l.1, l.2.1, ?_, by omega⟩
  have := l.2.2
  rwa [show u.2 - 0 = u.2 by grind] at this
theorem Nr.k {p : Int} (hp : Pr p) {W : Nat} {u : Int × Rat} (h : Nr p W u) : -(W : Int) ≤ u.1 ∧ u.1 ≤ W := by
  obtain ⟨l, a, b, c, d⟩ := h.lv hp
  omega
theorem Nr.rest {p : Int} (hp : Pr p) {W : Nat} {u : Int × Rat} (h : Nr p W u) : restQ p u.1 u.2 = u.2 :=
  rest_uniq hp (rest_is hp u.1 u.2) h.own (by rw [Rat.sub_self]; exact dv_zero p u.1 hp)
theorem Nr.sz {p : Int} (hp : Pr p) {W : Nat} {u : Int × Rat} (h : Nr p W u) {L B : Nat} (hL : W ≤ L) (hB : 3 * (W + L) + 1 ≤ B) : Sz p L B u.2 := by
  obtain ⟨l, a, b, c, d⟩ := h.lv hp
  rw [← h.rest hp]
  exact rest_sz78 hp (dv_mono hp (by omega) c) (by omega) (by omega)
theorem Nr.fb {p : Int} (hp : Pr p) {W : Nat} {u : Int × Rat} (h : Nr p W u) : Fb (3 * W + 1) u.2 := by
  obtain ⟨l, a, b, c, d⟩ := h.lv hp
  have z : Sz p (-l).toNat (3 * W + 1) u.2 := by
    rw [← h.rest hp]
    exact rest_sz78 hp (dv_mono hp (by omega) c) (by omega) (by omega)
  exact z.fb hp (by omega) (Nat.le_refl _)
theorem Nr.wk {p : Int} (hp : Pr p) {W V : Nat} {a b : Int × Rat} (h : Nr p W a) (h' : Nr p V b) (l : W ≤ V) (hV : V ≤ 1000) (hs : 6 * V + 3 * W + 3 ≤ 4400) : Wk p a.1 a.2 b.1 b.2 := by
  have ka := h.k hp
  have kb := h'.k hp
  exact wk78 (L := V) (M := a.1.toNat) (B := 6 * V + 1) (C := 3 * W + 1) (K := W + V) hp (h.sz hp l (by omega)) (h'.sz hp (Nat.le_refl _) (by omega)) (by omega) (by omega) (by omega) (by omega) (by omega) (by omega) (by omega) (by omega) (by omega) (by omega) (by omega)
theorem Nr.lb {p : Int} (hp : Pr p) {W V : Nat} {a b : Int × Rat} (h : Nr p W a) (h' : Nr p V b) : -((W : Int) + V) ≤ lvS p a.1 a.2 b.1 b.2 := by
  have w : wy p a b = a.1 + b.1 - 2 * lvS p a.1 a.2 b.1 b.2 := (way_lv p a.1 a.2 b.1 b.2).symm
  have t := wy_tri79 hp a (0, 0) b
  rw [wy_symm hp a (0, 0)] at t
  have h1 := h.w
  have h2 := h'.w
  have k1 := h.k hp
  have k2 := h'.k hp
  omega
theorem nr_first79 {p : Int} (hp : Pr p) : Nr p 0 (0, 0) := ⟨by have := own_rest hp 0 0; rwa [rest_zero78 hp] at this, by rw [wy_self79 hp]; omega⟩
theorem Nr.to {p : Int} (hp : Pr p) {W V : Nat} {a b : Int × Rat} (h : Nr p W a) (ob : Own p b.1 b.2) {n : Int} (hw : wy p a b ≤ n) (hn : W + n ≤ V) : Nr p V b := ⟨ob, by have := wy_tri79 hp (0, 0) a b; have := h.w; omega⟩
/-- how far the first spot is moved -/
theorem far_first79 {p : Int} (hp : Pr p) {g : Tb} (hg : g.det ≠ 0) : wy p (0, 0) (movS p g (0, 0)) = dsT p g := by
  rw [mov_far79 hp hg]
  have e : tbS p (0, 0) = Tb.one := by
    show tabS p 0 0 = Tb.one
    unfold tabS Tb.one
    rw [ppw_zero]
  have e2 : Tb.one.inv = Tb.one := by
    have := inv_mul (show Tb.one.det ≠ 0 by decide +kernel)
    rwa [mul_one'] at this
  rw [e, e2, one_mul', mul_one']
theorem ds_le79 {p v n : Int} (hp : Pr p) {g : Tb} (hv : vq p g.det = some v) (hd : Dv4 p n g) : dsT p g ≤ v - 2 * n := by
  have := (least4 hp hv n).mpr hd
  unfold dsT
  rw [hv]
  show v - 2 * _ ≤ _
  omega
theorem mov_nr79 {p : Int} (hp : Pr p) {g : Tb} (hg : g.det ≠ 0) {W D : Nat} {u : Int × Rat} (h : Nr p W u) (hD : dsT p g ≤ D) : Nr p (W + D) (movS p g u) := by
  refine ⟨mov_own79 hp _ _, ?_⟩
  have t := wy_tri79 hp (0, 0) (movS p g (0, 0)) (movS p g u)
  rw [mov_way79 hp hg, far_first79 hp hg] at t
  have := h.w
  push_cast
  omega
theorem ds_conj79 {p : Int} (hp : Pr p) {g s : Tb} (hg : g.det ≠ 0) (hs : s.det ≠ 0) : dsT p ((s.mul g).mul s.inv) ≤ dsT p g + 2 * dsT p s := by
  have hi := det_inv hs
  have hf := mul_ne (mul_ne hs hg) hi
  rw [← far_first79 hp hf, ← far_first79 hp hg, ← far_first79 hp hs, mov_mul79 hp (mul_ne hs hg) hi, mov_mul79 hp hs hg]
  have e : movS p s (movS p s.inv (0, 0)) = (0, 0) := by
    rw [← mov_mul79 hp hs hi, mul_inv hs]
    exact mov_one79 hp (nr_first79 hp).own
  have a := wy_tri79 hp (0, 0) (movS p s (0, 0)) (movS p s (movS p g (movS p s.inv (0, 0))))
  rw [mov_way79 hp hs] at a
  have b := wy_tri79 hp (0, 0) (movS p g (0, 0)) (movS p g (movS p s.inv (0, 0)))
  rw [mov_way79 hp hg] at b
  have c : wy p (0, 0) (movS p s.inv (0, 0)) = wy p (0, 0) (movS p s (0, 0)) := by
    rw [← mov_way79 hp hs (0, 0) (movS p s.inv (0, 0)), e, wy_symm hp]
  omega
theorem ds_sq79 {p : Int} (hp : Pr p) {g : Tb} (hg : g.det ≠ 0) : dsT p (g.mul g) ≤ 2 * dsT p g := by
  rw [← far_first79 hp (mul_ne hg hg), ← far_first79 hp hg, mov_mul79 hp hg hg]
  have a := wy_tri79 hp (0, 0) (movS p g (0, 0)) (movS p g (movS p g (0, 0)))
  rw [mov_way79 hp hg] at a
  omega
/-! what is told of a table -/
noncomputable def rdD (p : Int) (a b : Int × Rat) : List D := ((roadL p a b).map trS).map triD
noncomputable def dtP (p : Int) (g : Tb) : Int := (vq p g.det).getD 0 % 2
inductive Told (p : Int) (g : Tb) (W V : Nat) : D → Prop
  | keeps {u : Int × Rat} : Nr p W u → movS p g u = u → slS p g = 0 → dtP p g = 0 → Told p g W V (.tup [.str "keeps", stD u])
  | turns {a b : Int × Rat} : Nr p W a → Nr p W b → a.1 < b.1 → wy p a b = 1 → movS p g a = b → movS p g b = a → slS p g = 0 → dtP p g = 1 → Told p g W V (.tup [.str "turns", stD a, stD b])
  | slides {a b : Int × Rat} {n : Int} : Nr p W a → Nr p V b → wy p a b = n → 0 < n → n ≤ 500 → movS p g a = b → slS p g = n → Told p g W V (.tup [.str "slides", .int n, .lst (rdD p a b)])
noncomputable def kindD (p : Int) (g : Tb) : D :=
  if midS p g (0, 0) = movS p g (midS p g (0, 0)) then .tup [.str "keeps", stD (midS p g (0, 0))]
  else if slS p g = 0 then .tup [.str "turns", if (movS p g (midS p g (0, 0))).1 < (midS p g (0, 0)).1 then stD (movS p g (midS p g (0, 0))) else stD (midS p g (0, 0)), if (midS p g (0, 0)).1 < (movS p g (midS p g (0, 0))).1 then stD (movS p g (midS p g (0, 0))) else stD (midS p g (0, 0))]
  else .tup [.str "slides", .int (slS p g), .lst (rdD p (midS p g (0, 0)) (movS p g (midS p g (0, 0))))]
theorem sl_nn79 {p : Int} (g : Tb) : 0 ≤ slS p g := by
  unfold slS
  split
  · omega
  · omega
theorem mid_nr79 {p : Int} (hp : Pr p) {g : Tb} (hg : g.det ≠ 0) {D : Nat} (hD : dsT p g ≤ D) : Nr p (D / 2) (midS p g (0, 0)) := by
  refine ⟨mid_own79 hp _, ?_⟩
  have n := wy_nn79 hp (0, 0) (movS p g (0, 0))
  have b := (along79 hp (a := (0, 0)) (b := movS p g (0, 0)) (j := wy p (0, 0) (movS p g (0, 0)) / 2) (by omega) (by omega)).l
  have f := far_first79 hp hg
  unfold midS
  rw [b]
  omega
theorem wy_odd79 {p : Int} (a b : Int × Rat) (h : wy p a b = 1) : a.1 ≠ b.1 := by
  have w : wy p a b = a.1 + b.1 - 2 * lvS p a.1 a.2 b.1 b.2 := (way_lv p a.1 a.2 b.1 b.2).symm
  omega
theorem sl_le79 {p : Int} (hp : Pr p) {g : Tb} (hg : g.det ≠ 0) : slS p g ≤ dsT p g := by
  by_cases h : 0 < slS p g
  · have f := mid79 hp hg (0, 0)
    have s := slides79 hp hg h (0, 0)
    unfold midS at s
    rw [s] at f
    have n := wy_nn79 hp (0, 0) (movS p g (0, 0))
    have t := wy_tri79 hp (0, 0) (movS p g (0, 0)) (movS p g (movS p g (0, 0)))
    rw [mov_way79 hp hg] at t
    have e := far_first79 hp hg
    omega
  · have n := wy_nn79 hp (0, 0) (movS p g (0, 0))
    have e := far_first79 hp hg
    omega
theorem kind_told79 {p : Int} (hp : Pr p) {g : Tb} (hg : g.det ≠ 0) {D W V : Nat} (hD : dsT p g ≤ D) (hD5 : D ≤ 500) (hW : D / 2 + 1 ≤ W) (hV : D / 2 + D ≤ V) : Told p g W V (kindD p g) := by
  obtain ⟨v, hv⟩ := vq_ex79 (p := p) hg
  have nm := mid_nr79 hp hg hD
  have ep : dtP p g = v % 2 := by unfold dtP; rw [hv]; rfl
  have sn := sl_nn79 (p := p) g
  unfold kindD
  by_cases hs : slS p g = 0
  · rcases Int.emod_two_eq v with h2 | h2
    · have k := keeps79 hp hv hs h2 (0, 0)
      rw [if_pos k.symm]
      exact .keeps (nm.mono (by omega)) k hs (by omega)
    · have t := turns79 hp hv hs h2 (0, 0)
      have nb : Nr p W (movS p g (midS p g (0, 0))) := nm.to hp (mov_own79 hp _ _) (n := 1) (by rw [t.1]; omega) (by omega)
      have ne : midS p g (0, 0) ≠ movS p g (midS p g (0, 0)) := fun z => by
        have w := t.1
        rw [← z, wy_self79 hp] at w
        omega
      have od := wy_odd79 _ _ t.1
      rw [if_neg ne, if_pos hs]
      generalize hm : midS p g (0, 0) = m at *
      generalize hq : movS p g m = q at *
      by_cases l : m.1 < q.1
      · rw [if_neg (by omega), if_pos l]
        exact .turns (nm.mono (by omega)) nb l t.1 hq t.2 hs (by omega)
      · rw [if_pos (by omega), if_neg l]
        exact .turns nb (nm.mono (by omega)) (by omega) (by rw [wy_symm hp]; exact t.1) t.2 hq hs (by omega)
  · have s := slides79 hp hg (by omega) (0, 0)
    have ne : midS p g (0, 0) ≠ movS p g (midS p g (0, 0)) := fun z => by
      rw [← z, wy_self79 hp] at s
      omega
    rw [if_neg ne, if_neg hs]
    have le := sl_le79 hp hg
    exact .slides (nm.mono (by omega)) (nm.to hp (mov_own79 hp _ _) (n := slS p g) (by rw [s]; exact Int.le_refl _) (by omega)) s (by omega) (by omega) rfl rfl
inductive SameK : D → D → Prop
  | k (x y : D) : SameK (.tup [.str "keeps", x]) (.tup [.str "keeps", y])
  | t (a b x y : D) : SameK (.tup [.str "turns", a, b]) (.tup [.str "turns", x, y])
  | s (n : Int) (x y : D) : SameK (.tup [.str "slides", .int n, x]) (.tup [.str "slides", .int n, y])
theorem told_same79 {p : Int} {g g' : Tb} {W V W' V' : Nat} {d d' : D} (h : Told p g W V d) (h' : Told p g' W' V' d') (e1 : slS p g = slS p g') (e2 : dtP p g = dtP p g') : SameK d d' := by
  cases h with
  | keeps a b c f =>
    cases h' with
    | keeps a' b' c' f' => exact .k _ _
    | turns => omega
    | slides => omega
  | turns =>
    cases h' with
    | keeps => omega
    | turns => exact .t _ _ _ _
    | slides => omega
  | slides _ _ _ _ _ _ x =>
    cases h' with
    | keeps => omega
    | turns => omega
    | slides _ _ _ _ _ _ y =>
      have e := x.symm.trans (e1.trans y)
      subst e
      exact .s _ _ _
theorem dtp_scale79 {p : Int} (hp : Pr p) {g : Tb} (hg : g.det ≠ 0) {r : Rat} (hr : r ≠ 0) : dtP p (g.scale r) = dtP p g := by
  obtain ⟨_, v, j, h1, h2⟩ := sl_scale79 hp hg hr
  unfold dtP
  rw [h1, h2]
  show (v + (j + j)) % 2 = v % 2
  omega
theorem dtp_inv79 {p : Int} (hp : Pr p) {g : Tb} (hg : g.det ≠ 0) : dtP p g.inv = dtP p g := by
  obtain ⟨_, v, h1, h2⟩ := sl_inv79 hp hg
  unfold dtP
  rw [h1, h2]
  show -v % 2 = v % 2
  omega
theorem told_scale79 {p : Int} (hp : Pr p) {g : Tb} (hg : g.det ≠ 0) {r : Rat} (hr : r ≠ 0) {W V : Nat} {d : D} (h : Told p g W V d) : Told p (g.scale r) W V d := by
  have s := (sl_scale79 hp hg hr).1
  have e := dtp_scale79 hp hg hr
  have m := mov_scale79 hp hg hr
  cases h with
  | keeps a b c f => exact .keeps a (by rw [m]; exact b) (by omega) (by omega)
  | turns a b c f x y z w => exact .turns a b c f (by rw [m]; exact x) (by rw [m]; exact y) (by omega) (by omega)
  | slides a b c f x y z => exact .slides a b c f x (by rw [m]; exact y) (by omega)
theorem mov_back79 {p : Int} (hp : Pr p) {g : Tb} (hg : g.det ≠ 0) {a b : Int × Rat} (oa : Own p a.1 a.2) (h : movS p g a = b) : movS p g.inv b = a := by
  rw [← h, ← mov_mul79 hp (det_inv hg) hg, inv_mul hg]
  exact mov_one79 hp oa
theorem told_inv79 {p : Int} (hp : Pr p) {g : Tb} (hg : g.det ≠ 0) {W V : Nat} {d : D} (h : Told p g W V d) (ns : slS p g = 0) : Told p g.inv W V d := by
  have s := (sl_inv79 hp hg).1
  have e := dtp_inv79 hp hg
  cases h with
  | keeps a b c f => exact .keeps a (mov_back79 hp hg a.own b) (by omega) (by omega)
  | turns a b c f x y z w => exact .turns a b c f (mov_back79 hp hg b.own y) (mov_back79 hp hg a.own x) (by omega) (by omega)
  | slides a b c f x y z => omega
theorem dtp_sq79 {p : Int} (hp : Pr p) {g : Tb} (hg : g.det ≠ 0) : dtP p (g.mul g) = 0 := by
  obtain ⟨_, v, h1, h2⟩ := sl_sq79 hp hg
  unfold dtP
  rw [h2]
  show (v + v) % 2 = 0
  omega
theorem dtp_conj79 {p : Int} (hp : Pr p) {g s : Tb} (hs : s.det ≠ 0) : dtP p ((s.mul g).mul s.inv) = dtP p g := by
  unfold dtP
  rw [(sl_conj79 hp hs).2]
theorem mov_conj79 {p : Int} (hp : Pr p) {g s : Tb} (hg : g.det ≠ 0) (hs : s.det ≠ 0) {a b : Int × Rat} (oa : Own p a.1 a.2) (h : movS p g a = b) : movS p ((s.mul g).mul s.inv) (movS p s a) = movS p s b := by
  rw [mov_mul79 hp (mul_ne hs hg) (det_inv hs), mov_back79 hp hs oa rfl, mov_mul79 hp hs hg, h]
theorem mov_lv79 {p : Int} (hp : Pr p) {s : Tb} (hs : s.det ≠ 0) {a b : Int × Rat} (h : wy p a b = 1) : (movS p s a).1 ≠ (movS p s b).1 := wy_odd79 _ _ (by rw [mov_way79 hp hs]; exact h)

/-! what k79 draws -/
def numQ (p c : Int) : Rat := if c / 23 % 9 - 4 < 0 then Rat.divInt (c % 23 - 11) ((1 + c / 207 % 12) * p ^ (c / 23 % 9 - 4).natAbs) else Rat.divInt ((c % 23 - 11) * p ^ (c / 23 % 9 - 4).natAbs) (1 + c / 207 % 12)
theorem pw4_79 {p : Int} (hp : Pr p) {n : Nat} (h : n ≤ 4) : 0 < p ^ n ∧ p ^ n ≤ 2401 := by
  have a : ∀ n : Fin 5, 0 < (2 : Int) ^ n.val ∧ (2 : Int) ^ n.val ≤ 2401 := by decide
  have b : ∀ n : Fin 5, 0 < (3 : Int) ^ n.val ∧ (3 : Int) ^ n.val ≤ 2401 := by decide
  have c : ∀ n : Fin 5, 0 < (5 : Int) ^ n.val ∧ (5 : Int) ^ n.val ≤ 2401 := by decide
  have d : ∀ n : Fin 5, 0 < (7 : Int) ^ n.val ∧ (7 : Int) ^ n.val ≤ 2401 := by decide
  rcases hp with rfl | rfl | rfl | rfl
  · exact a ⟨n, by omega⟩
  · exact b ⟨n, by omega⟩
  · exact c ⟨n, by omega⟩
  · exact d ⟨n, by omega⟩
theorem num_fb79 {p : Int} (hp : Pr p) (c : Int) : Fb 15 (numQ p c) := by
  have a := Int.emod_nonneg (c / 23) (show (9 : Int) ≠ 0 by decide)
  have b := Int.emod_lt_of_pos (c / 23) (show (0 : Int) < 9 by decide)
  obtain ⟨q0, q1⟩ := pw4_79 hp (n := (c / 23 % 9 - 4).natAbs) (by omega)
  unfold numQ
  generalize p ^ (c / 23 % 9 - 4).natAbs = P at *
  have t : -11 ≤ c % 23 - 11 ∧ c % 23 - 11 ≤ 11 := by omega
  have u : 1 ≤ 1 + c / 207 % 12 ∧ 1 + c / 207 % 12 ≤ 12 := by omega
  generalize c % 23 - 11 = T at *
  generalize 1 + c / 207 % 12 = B at *
  split
  · have m0 : 1 * P ≤ B * P := Int.mul_le_mul_of_nonneg_right (by omega) (by omega)
    have m1 : B * P ≤ 12 * P := Int.mul_le_mul_of_nonneg_right (by omega) (by omega)
    exact Fb.divInt (by omega) (Bd.of 12 (by omega) (by omega) (by decide)) (Bd.of 28813 (by omega) (by omega) (by decide))
  · have m0 : -11 * P ≤ T * P := Int.mul_le_mul_of_nonneg_right (by omega) (by omega)
    have m1 : T * P ≤ 11 * P := Int.mul_le_mul_of_nonneg_right (by omega) (by omega)
    exact Fb.divInt (by omega) (Bd.of 26412 (by omega) (by omega) (by decide)) (Bd.of 13 (by omega) (by omega) (by decide))
theorem dv_int79 {p : Int} (hp : Pr p) (n : Int) : Dv p 0 (n : Rat) := ⟨n, 1, by rcases hp with rfl | rfl | rfl | rfl <;> decide, by rw [ppw_zero]; grind⟩
theorem dv_fb79 {p : Int} (hp : Pr p) {m : Nat} {x : Rat} (h : Fb m x) {n : Int} (hn : n ≤ -(m : Int)) : Dv p n x := by
  rw [vq_dv hp]
  cases hv : vq p x with
  | none => trivial
  | some v =>
    have := vq_bd hp h hv
    show n ≤ v
    omega
theorem divmul79 {a b : Int} (hb : b ≠ 0) : Rat.divInt a b * (b : Rat) = (a : Rat) := by
  have b0 : (b : Rat) ≠ 0 := by exact_mod_cast hb
  rw [Rat.divInt_eq_div, Rat.div_def, Rat.mul_assoc, Rat.inv_mul_cancel _ b0, Rat.mul_one]
theorem num_dv79 {p : Int} (hp : Pr p) (c : Int) : Dv p (-8) (numQ p c) := by
  have a := Int.emod_nonneg (c / 23) (show (9 : Int) ≠ 0 by decide)
  have b := Int.emod_lt_of_pos (c / 23) (show (0 : Int) < 9 by decide)
  have u : 1 ≤ 1 + c / 207 % 12 ∧ 1 + c / 207 % 12 ≤ 12 := by omega
  obtain ⟨q0, q1⟩ := pw4_79 hp (n := (c / 23 % 9 - 4).natAbs) (by omega)
  have fi : Fb 4 (Rat.divInt 1 (1 + c / 207 % 12)) := Fb.divInt (by omega) (by decide) (Bd.of 13 (by omega) (by omega) (by decide))
  have d1 := dv_fb79 hp fi (n := -4) (by decide)
  have dt := dv_int79 hp (c % 23 - 11)
  have dm := dv_mul hp dt d1
  have key : ∃ j : Int, -4 ≤ j ∧ numQ p c = ((c % 23 - 11 : Int) : Rat) * Rat.divInt 1 (1 + c / 207 % 12) * ppw p j := by
    refine ⟨c / 23 % 9 - 4, by omega, ?_⟩
    have b0 : ((1 + c / 207 % 12 : Int) : Rat) ≠ 0 := fun z => by
      have : 1 + c / 207 % 12 = 0 := by exact_mod_cast z
      omega
    have e1 := divmul79 (a := 1) (b := 1 + c / 207 % 12) (by omega)
    unfold numQ
    split
    · rename_i h
      have pz : ((p ^ (c / 23 % 9 - 4).natAbs : Int) : Rat) ≠ 0 := fun z => by
        have : p ^ (c / 23 % 9 - 4).natAbs = 0 := by exact_mod_cast z
        omega
      have m0 : 1 * p ^ (c / 23 % 9 - 4).natAbs ≤ (1 + c / 207 % 12) * p ^ (c / 23 % 9 - 4).natAbs := Int.mul_le_mul_of_nonneg_right (by omega) (by omega)
      have e2 := divmul79 (a := c % 23 - 11) (b := (1 + c / 207 % 12) * p ^ (c / 23 % 9 - 4).natAbs) (by omega)
      have e3 : ppw p (c / 23 % 9 - 4) * ((p ^ (c / 23 % 9 - 4).natAbs : Int) : Rat) = 1 := by
        rw [← ppw_nat, ← ppw_add hp, show c / 23 % 9 - 4 + ((c / 23 % 9 - 4).natAbs : Int) = 0 by omega, ppw_zero]
      rw [Rat.intCast_mul] at e2
      have i1 := Rat.mul_inv_cancel _ b0
      have i2 := Rat.mul_inv_cancel _ pz
      generalize Rat.divInt (c % 23 - 11) ((1 + c / 207 % 12) * p ^ (c / 23 % 9 - 4).natAbs) = X at *
      generalize ((p ^ (c / 23 % 9 - 4).natAbs : Int) : Rat) = P at *
      generalize ppw p (c / 23 % 9 - 4) = Q at *
      generalize Rat.divInt 1 (1 + c / 207 % 12) = R at *
      generalize ((1 + c / 207 % 12 : Int) : Rat) = B at *
      generalize ((c % 23 - 11 : Int) : Rat) = T at *
      have : ((1 : Int) : Rat) = 1 := rfl
      rw [this] at e1
      grind
    · rename_i h
      have e2 := divmul79 (a := (c % 23 - 11) * p ^ (c / 23 % 9 - 4).natAbs) (b := 1 + c / 207 % 12) (by omega)
      have e3 : ppw p (c / 23 % 9 - 4) = ((p ^ (c / 23 % 9 - 4).natAbs : Int) : Rat) := by
        rw [← ppw_nat]
        congr 1
        omega
      rw [Rat.intCast_mul] at e2
      rw [e3]
      have i1 := Rat.mul_inv_cancel _ b0
      generalize Rat.divInt ((c % 23 - 11) * p ^ (c / 23 % 9 - 4).natAbs) (1 + c / 207 % 12) = X at *
      generalize ((p ^ (c / 23 % 9 - 4).natAbs : Int) : Rat) = P at *
      generalize Rat.divInt 1 (1 + c / 207 % 12) = R at *
      generalize ((1 + c / 207 % 12 : Int) : Rat) = B at *
      generalize ((c % 23 - 11 : Int) : Rat) = T at *
      have : ((1 : Int) : Rat) = 1 := rfl
      rw [this] at e1
      grind
  obtain ⟨j, j0, e⟩ := key
  rw [e]
  have := dv_mul hp dm (dv_of_vq hp (vq_ppw hp (k := j)) (Int.le_refl _))
  exact dv_mono hp (by omega) this
abbrev mdT (t : Tb) : Tb := ⟨t.a, t.b, t.c, -t.a⟩
/-- a table multiplied out -/
structure Pl (p : Int) (t : Tb) : Prop where
  tb : Tbb 61 t
  nd : t.det ≠ 0
  fd : Fb 30 t.det
  dv : Dv4 p (-24) t
  md : Fb 137 (mdT t).det
def plT (x y z w : Rat) (b : Bool) : Tb := if b then ⟨x * y, x * y * w + z, y, y * w⟩ else ⟨y, y * w, x * y, x * y * w + z⟩
theorem pl79 {p : Int} (hp : Pr p) {x y z w : Rat} (fx : Fb 15 x) (fy : Fb 15 y) (fz : Fb 15 z) (fw : Fb 15 w) (dx : Dv p (-8) x) (dy : Dv p (-8) y) (dz : Dv p (-8) z) (dw : Dv p (-8) w) (y0 : y ≠ 0) (z0 : z ≠ 0) (b : Bool) : Pl p (plT x y z w b) := by
  have fyw := fy.mul fw
  have fxy := fx.mul fy
  have fl := (fxy.mul fw).add fz
  have dyw := dv_mul hp dy dw
  have dxy := dv_mul hp dx dy
  have dl : Dv p (-24) (x * y * w + z) := dv_add hp (dv_mono hp (by omega) (dv_mul hp dxy dw)) (dv_mono hp (by omega) dz)
  have yz : y * z ≠ 0 := fun q => by
    rcases Rat.mul_eq_zero.mp q with q | q
    · exact y0 q
    · exact z0 q
  have e1 : (⟨y, y * w, x * y, x * y * w + z⟩ : Tb).det = y * z := by unfold Tb.det; simp only []; grind
  have e2 : (⟨x * y, x * y * w + z, y, y * w⟩ : Tb).det = -(y * z) := by unfold Tb.det; simp only []; grind
  unfold plT
  cases b with
  | false =>
    rw [if_neg (by decide)]
    refine ⟨⟨fy.mono (by decide), fyw.mono (by decide), fxy.mono (by decide), fl.mono (by decide)⟩, by rw [e1]; exact yz, by rw [e1]; exact fy.mul fz, ⟨dv_mono hp (by omega) dy, dv_mono hp (by omega) dyw, dv_mono hp (by omega) dxy, dl⟩, ?_⟩
    exact ((fy.mul fy.neg).sub (fyw.mul fxy)).mono (by decide)
  | true =>
    rw [if_pos rfl]
    refine ⟨⟨fxy.mono (by decide), fl.mono (by decide), fy.mono (by decide), fyw.mono (by decide)⟩, by rw [e2]; exact fun q => yz (by grind), by rw [e2]; exact (fy.mul fz).neg, ⟨dv_mono hp (by omega) dxy, dl, dv_mono hp (by omega) dy, dv_mono hp (by omega) dyw⟩, ?_⟩
    exact ((fxy.mul fxy.neg).sub (fl.mul fy)).mono (by decide)
theorem Pl.ds {p : Int} (hp : Pr p) {t : Tb} (h : Pl p t) : dsT p t ≤ 78 := by
  obtain ⟨v, hv⟩ := vq_ex79 (p := p) h.nd
  have a := vq_bd hp h.fd hv
  have b := ds_le79 hp hv h.dv
  omega
theorem Pl.inv {p : Int} {t : Tb} (h : Pl p t) : Tbb 91 t.inv := h.tb.turn.scale (h.fd.inv h.nd)
/-- the table that is asked about -/
structure Ak (p : Int) (t : Tb) : Prop where
  tb : Tbb 61 t
  nd : t.det ≠ 0
  ds : dsT p t ≤ 185
theorem Pl.ak {p : Int} (hp : Pr p) {t : Tb} (h : Pl p t) : Ak p t := ⟨h.tb, h.nd, by have := h.ds hp; omega⟩
theorem Pl.made {p : Int} (hp : Pr p) {t : Tb} (h : Pl p t) (h0 : (mdT t).det ≠ 0) : Ak p (mdT t) := by
  refine ⟨⟨h.tb.a, h.tb.b, h.tb.c, h.tb.a.neg⟩, h0, ?_⟩
  obtain ⟨v, hv⟩ := vq_ex79 (p := p) h0
  have a := vq_bd hp h.md hv
  have b := ds_le79 hp hv (n := -24) ⟨h.dv.a, h.dv.b, h.dv.c, dv_neg h.dv.a⟩
  omega

/-! what the law leads on -/
inductive LedB (p : Int) (s : Tb) : D → D → Prop
  | k {u : Int × Rat} : Nr p 100 u → LedB p s (.tup [.str "keeps", stD u]) (.tup [.str "keeps", stD (movS p s u)])
  | t1 {a b : Int × Rat} : Nr p 100 a → Nr p 100 b → (movS p s a).1 < (movS p s b).1 → LedB p s (.tup [.str "turns", stD a, stD b]) (.tup [.str "turns", stD (movS p s a), stD (movS p s b)])
  | t2 {a b : Int × Rat} : Nr p 100 a → Nr p 100 b → (movS p s b).1 < (movS p s a).1 → LedB p s (.tup [.str "turns", stD a, stD b]) (.tup [.str "turns", stD (movS p s b), stD (movS p s a)])
  | sl {a b : Int × Rat} {n : Int} : Nr p 100 a → wy p a b = n → n ≤ 500 → LedB p s (.tup [.str "slides", .int n, .lst (rdD p a b)]) (.tup [.str "slides", .int n, .lst (rdD p (movS p s a) (movS p s b))])
theorem led79 {p : Int} (hp : Pr p) {g s : Tb} (hg : g.det ≠ 0) (hs : s.det ≠ 0) (ds : dsT p s ≤ 78) {d : D} (h : Told p g 100 300 d) : ∃ d', LedB p s d d' ∧ Told p ((s.mul g).mul s.inv) 210 600 d' := by
  have s1 := (sl_conj79 hp (g := g) hs).1
  have e1 := dtp_conj79 hp (g := g) hs
  have mv : ∀ {W : Nat} {u : Int × Rat}, Nr p W u → Nr p (W + 78) (movS p s u) := fun h => mov_nr79 hp hs h ds
  cases h with
  | keeps a b c f => exact ⟨_, .k a, .keeps ((mv a).mono (by decide)) (mov_conj79 hp hg hs a.own b) (by omega) (by omega)⟩
  | @turns u v a b c f x y z w =>
    have ne := mov_lv79 hp hs f
    have f' := f
    rw [← mov_way79 hp hs] at f'
    have x' := mov_conj79 hp hg hs a.own x
    have y' := mov_conj79 hp hg hs b.own y
    by_cases l : (movS p s u).1 < (movS p s v).1
    · exact ⟨_, .t1 a b l, .turns ((mv a).mono (by decide)) ((mv b).mono (by decide)) l f' x' y' (by omega) (by omega)⟩
    · rw [wy_symm hp] at f'
      exact ⟨_, .t2 a b (by omega), .turns ((mv b).mono (by decide)) ((mv a).mono (by decide)) (by omega) f' y' x' (by omega) (by omega)⟩
  | slides a b c f x y z =>
    have c' := c
    rw [← mov_way79 hp hs] at c'
    exact ⟨_, .sl a c x, .slides ((mv a).mono (by decide)) ((mv b).mono (by decide)) c' f x (mov_conj79 hp hg hs a.own y) (by omega)⟩
theorem told_mono79 {p : Int} {g : Tb} {W V W' V' : Nat} {d : D} (h : Told p g W V d) (l : W ≤ W') (l' : V ≤ V') : Told p g W' V' d := by
  cases h with
  | keeps a b c f => exact .keeps (a.mono l) b c f
  | turns a b c f x y z w => exact .turns (a.mono l) (b.mono l) c f x y z w
  | slides a b c f x y z => exact .slides (a.mono l) (b.mono l') c f x y z
theorem ds_scale79 {p : Int} (hp : Pr p) {g : Tb} (hg : g.det ≠ 0) {r : Rat} (hr : r ≠ 0) : dsT p (g.scale r) = dsT p g := by
  have h : (g.scale r).det ≠ 0 := by
    rw [det_scale]
    intro z
    rcases Rat.mul_eq_zero.mp z with z | z
    · exact hg z
    · rcases Rat.mul_eq_zero.mp z with z | z <;> exact hr z
  rw [← far_first79 hp h, ← far_first79 hp hg, mov_scale79 hp hg hr]
theorem scale_ne79 {g : Tb} (hg : g.det ≠ 0) {r : Rat} (hr : r ≠ 0) : (g.scale r).det ≠ 0 := by
  rw [det_scale]
  intro z
  rcases Rat.mul_eq_zero.mp z with z | z
  · exact hg z
  · rcases Rat.mul_eq_zero.mp z with z | z <;> exact hr z
theorem tri2_79 {x y : Int × Int × Int} (h : x.1 < y.1) : triS [x, y] = [x, y] ∧ triS [y, x] = [x, y] := by
  have nd : [x, y].Nodup := by
    rw [List.nodup_cons]
    refine ⟨fun z => ?_, by simp⟩
    have := List.mem_singleton.mp z
    rw [this] at h
    omega
  have nd2 : [y, x].Nodup := by
    rw [List.nodup_cons]
    refine ⟨fun z => ?_, by simp⟩
    have := List.mem_singleton.mp z
    rw [this] at h
    omega
  have lt : triLt y x = false := by
    unfold triLt
    rw [if_neg (by omega)]
    exact decide_eq_false (by omega)
  have so : [x, y].Pairwise (fun a b => triLt b a = false) := by
    rw [List.pairwise_cons]
    refine ⟨fun z hz => ?_, by simp⟩
    have := List.mem_singleton.mp hz
    rw [this]
    exact lt
  exact ⟨tri_uq (triS_perm32 (by simp)) (triS_srt (by simp) nd) so, tri_uq ((triS_perm32 (by simp)).trans (List.Perm.swap x y [])) (triS_srt (by simp) nd2) so⟩
theorem road_nr79 {p : Int} (hp : Pr p) {W : Nat} {a b : Int × Rat} (h : Nr p W a) {n : Int} (hw : wy p a b = n) {V : Nat} (hV : W + n ≤ V) {m : Nat} {u : Int × Rat} (hu : (roadL p a b)[m]? = some u) : Nr p V u := by
  rw [road_along79 hp] at hu
  have hm : m < (wy p a b + 1).toNat := by
    have := (List.getElem?_eq_some_iff.mp hu).1
    simpa using this
  rw [List.getElem?_map, List.getElem?_range hm] at hu
  cases hu
  have nn := wy_nn79 hp a b
  have B := along79 hp (a := a) (b := b) (j := (m : Int)) (by omega) (by omega)
  exact h.to hp B.own (n := (m : Int)) (by rw [B.l]; exact Int.le_refl _) (by omega)
def nz (q r : Rat) : Rat := if q.num = 0 then r else q
theorem nz_d79 (q r : Rat) : (if decide (q.num = 0) = true then frD r else frD q) = frD (nz q r) := by
  unfold nz
  by_cases h : q.num = 0
  · rw [if_pos (decide_eq_true h), if_pos h]
  · rw [if_neg (by simp [h]), if_neg h]
theorem nz_fb79 {m : Nat} {q r : Rat} (h : Fb m q) (h' : Fb m r) : Fb m (nz q r) := by
  unfold nz
  split
  · exact h'
  · exact h
theorem nz_dv79 {p n : Int} {q r : Rat} (h : Dv p n q) (h' : Dv p n r) : Dv p n (nz q r) := by
  unfold nz
  split
  · exact h'
  · exact h
theorem nz_ne79 {q r : Rat} (h : r ≠ 0) : nz q r ≠ 0 := by
  unfold nz
  split
  · exact h
  · rename_i h'
    exact fun z => h' (Rat.num_eq_zero.mpr z)
theorem f32_79 : frD (Rat.divInt (-3) 2) = .tup [.int (-3), .int 2] := by
  have e1 : (Rat.divInt (-3) 2).num = -3 := by decide +kernel
  have e2 : (Rat.divInt (-3) 2).den = 2 := by decide +kernel
  show D.tup [.int (Rat.divInt (-3) 2).num, .int (((Rat.divInt (-3) 2).den : Nat) : Int)] = _
  rw [e1, e2]
  rfl
def plD (p : Int) (ns : List Int) (k : Int) : Tb := plT (numQ p (ccell ns (k + (0 + ((0 : Nat) : Int) * 1)))) (nz (numQ p (ccell ns (k + (0 + ((1 : Nat) : Int) * 1)))) 1) (nz (numQ p (ccell ns (k + (0 + ((2 : Nat) : Int) * 1)))) (-1)) (numQ p (ccell ns (k + (0 + ((3 : Nat) : Int) * 1)))) (decide (ccell ns (k + (0 + ((4 : Nat) : Int) * 1)) % 3 = 1))
theorem plD_is79 {p : Int} (hp : Pr p) (ns : List Int) (k : Int) : Pl p (plD p ns k) := by
  have d1 : Dv p (-8) 1 := dv_mono hp (show (-8 : Int) ≤ 0 by decide) (show Dv p 0 (1 : Rat) from dv_int79 hp 1)
  have f1 : Fb 15 (1 : Rat) := fb_one.mono (by decide)
  exact pl79 hp (num_fb79 hp _) (nz_fb79 (num_fb79 hp _) f1) (nz_fb79 (num_fb79 hp _) f1.neg) (num_fb79 hp _) (num_dv79 hp _) (nz_dv79 (num_dv79 hp _) d1) (nz_dv79 (num_dv79 hp _) (dv_neg d1)) (num_dv79 hp _) (nz_ne79 (by decide +kernel)) (nz_ne79 (by decide +kernel)) _

def R_slide79 (ds : List D) (d : D) : Prop := ∃ (p : Int) (t : Tb), ds = [.int p, tbD t] ∧ Pr p ∧ t.det ≠ 0 ∧ Tbb 673 t ∧ d = .int (slS p t)
def R_tied79 (ds : List D) (d : D) : Prop := ∃ (p k1 : Int) (q1 : Rat) (k2 : Int) (q2 : Rat), ds = [.int p, spotD k1 q1, spotD k2 q2] ∧ Pr p ∧ Wk p k1 q1 k2 q2 ∧ d = .bl (decide (wayS p k1 q1 k2 q2 = 1))
def R_road79 (ds l : List D) : Prop := ∃ (p : Int) (a b : Int × Rat), ds = [.int p, stD a, stD b] ∧ Pr p ∧ Wk p a.1 a.2 b.1 b.2 ∧ -3000 ≤ lvS p a.1 a.2 b.1 b.2 ∧ wy p a b ≤ 500 ∧ l = rdD p a b
def R_kept79 (ds : List D) (d : D) : Prop := ∃ (p : Int) (t : Tb) (u : Int × Rat), ds = [.int p, tbD t, stD u] ∧ Pr p ∧ t.det ≠ 0 ∧ Tbb 673 t ∧ Nr p 210 u ∧ movS p t u = u ∧ d = .bl true
def R_turned79 (ds : List D) (d : D) : Prop := ∃ (p : Int) (t : Tb) (a b : Int × Rat), ds = [.int p, tbD t, stD a, stD b] ∧ Pr p ∧ t.det ≠ 0 ∧ Tbb 673 t ∧ Nr p 210 a ∧ Nr p 210 b ∧ a.1 < b.1 ∧ wy p a b = 1 ∧ movS p t a = b ∧ movS p t b = a ∧ d = .bl true
def R_stretch79 (ds : List D) (d : D) : Prop := ∃ (p : Int) (t : Tb) (a b : Int × Rat) (n : Int), ds = [.int p, tbD t, .int n, .lst (rdD p a b)] ∧ Pr p ∧ t.det ≠ 0 ∧ Tbb 673 t ∧ Nr p 210 a ∧ Nr p 600 b ∧ wy p a b = n ∧ 0 < n ∧ movS p t a = b ∧ slS p t = n ∧ d = .bl true
def R_holds79 (ds : List D) (d : D) : Prop := ∃ (p : Int) (t : Tb) (told : D), ds = [.int p, tbD t, told] ∧ Pr p ∧ t.det ≠ 0 ∧ Tbb 673 t ∧ Told p t 210 600 told ∧ d = .bl true
def R_kind79 (ds : List D) (d : D) : Prop := ∃ (p : Int) (t : Tb), ds = [.int p, tbD t] ∧ Pr p ∧ t.det ≠ 0 ∧ Tbb 673 t ∧ dsT p t ≤ 400 ∧ d = kindD p t
def R_num79 (ds : List D) (d : D) : Prop := ∃ p c : Int, ds = [.int p, .int c, .bl false] ∧ Pr p ∧ d = frD (numQ p c)
def R_plain79 (ds : List D) (d : D) : Prop := ∃ (p : Int) (ns : List Int) (k : Int), ds = [.lst (ns.map D.int), .int p, .int k] ∧ Pr p ∧ ns.length ≤ 63 ∧ 0 ≤ k ∧ k ≤ 90 ∧ d = tbD (plD p ns k)
def R_led79 (ds : List D) (d : D) : Prop := ∃ (p : Int) (s : Tb) (told : D), ds = [.int p, tbD s, told] ∧ Pr p ∧ s.det ≠ 0 ∧ Tbb 61 s ∧ LedB p s told d
theorem ev_neS79 {Y : Cy} {a b : Expr} {c : List Slot} {pos : Pos} {x y : Str} (ha : EvD Y a c (.str x)) (hb : EvD Y b c (.str y)) : EvD Y (.Compare a [.NotEq] [b] pos) c (.bl (!(x == y))) :=
  ev_op2 (t := tC .non) (ta := tC .non) (tb := tC .non) (pe_cmpR op_ne ha hb (nomark _)) fun u v F H Q f rx ry q => by
    rw [inv_str rx, inv_str ry]
    refine ⟨rfl, ?_⟩
    rw [dec_str]
    exact q _ F H (Ext.refl f) (.bl _)
theorem te_to79 {Y : Cy} {t : Expr} {c : List Slot} {v w : Bool} (h : TeD Y t c v) (e : v = w) : TeD Y t c w := e ▸ h
theorem ev_to79 {Y : Cy} {t : Expr} {c : List Slot} {v w : D} (h : EvD Y t c v) (e : v = w) : EvD Y t c w := e ▸ h
theorem ow_to79 {Y : Cy} {t : Expr} {c : List Slot} {v w : List D} (h : OwD Y t c v) (e : v = w) : OwD Y t c w := e ▸ h
theorem den_pos79 (a : Rat) : 0 < (a.den : Int) := by exact_mod_cast a.den_pos
def R_same79 (ds : List D) (d : D) : Prop := ∃ x y : D, ds = [x, y] ∧ SameK x y ∧ d = .bl true
theorem rd_len79 {p : Int} (hp : Pr p) (a b : Int × Rat) : ((rdD p a b).length : Int) = wy p a b + 1 := by
  have := road_len hp a b
  have w : wy p a b = a.1 + b.1 - 2 * lvS p a.1 a.2 b.1 b.2 := (way_lv p a.1 a.2 b.1 b.2).symm
  unfold rdD
  rw [List.length_map, List.length_map]
  omega
theorem rd_at79 {p : Int} (hp : Pr p) {a : Int × Rat} (oa : Own p a.1 a.2) (b : Int × Rat) : atI (rdD p a b) 0 = some (stD a) := by
  have n := wy_nn79 hp a b
  have l := rd_len79 hp a b
  rw [at_nat42 (Int.le_refl 0) (by omega)]
  unfold rdD
  rw [List.getElem?_map, List.getElem?_map, road_along79 hp, List.getElem?_map, List.getElem?_range (by show 0 < _; omega)]
  have e : alongS p a b ((Int.toNat 0 : Nat) : Int) = a := (along79 hp (a := a) (b := b) (j := 0) (Int.le_refl 0) n).uniq hp ⟨oa, wy_self79 hp a, by omega⟩
  show some (stD (alongS p a b ((Int.toNat 0 : Nat) : Int))) = _
  rw [e]
def top (i : Nat) : Stmt := PySem.Challenge.pw_primetree_k79_whole_kinds_led.main.body.getD i (.Pass ⟨0, 0, 0, 0⟩)
structure Mo (T : Tx) : Prop where
  b_abs : T.mg "abs" = none
  b_min : T.mg "min" = none
  b_range : T.mg "range" = none
  b_max : T.mg "max" = none
  b_len : T.mg "len" = none
  b_int : T.mg "int" = none
  b_tuple : T.mg "tuple" = none
  b_sorted : T.mg "sorted" = none
  F_shared : At T "shared" (top 6)
  F_power_of : At T "power_of" (top 7)
  F_raised : At T "raised" (top 8)
  F_over_by : At T "over_by" (top 9)
  F_obp : At T "over_by_prime" (top 10)
  F_fraction : AtV T "fraction" (top 14) 1
  F_plus : At T "plus" (top 15)
  F_minus : At T "minus" (top 16)
  F_times : At T "times" (top 17)
  F_over : At T "over" (top 18)
  F_power_in : At T "power_in" (top 19)
  F_prime_power : At T "prime_power" (top 20)
  F_rest_byN : At T "rest_by" (top 21)
  F_measure : At T "measure" (top 23)
  F_trace : At T "trace" (top 24)
  F_product : At T "product" (top 25)
  F_row_by_column : At T "row_by_column" (top 26)
  F_turned_over : At T "turned_over" (top 27)
  F_stretched : At T "stretched" (top 28)
  F_spot_of : At T "spot_of" (top 31)
  F_table_at : At T "table_at" (top 32)
  F_above : At T "spot_above" (top 33)
  F_least_power : At T "least_power" (top 34)
  F_two_numbers : At T "two_numbers" (top 35)
  F_lies78 : At T "lies_in" (top 36)
  F_way78 : At T "way" (top 37)
  F_moved : At T "moved" (top 39)
  F_road79 : At T "road" (top 42)
  F_sb78 : At T "spots_between" (top 43)
  F_turn78 : At T "turn_between" (top 44)
  F_along78 : At T "spot_along" (top 45)
  F_tied79 : At T "tied" (top 47)
  F_kind79 : At T "kind" (top 52)
  F_slide79 : At T "slide" (top 53)
  F_kept79 : At T "is_kept" (top 54)
  F_holds79 : At T "holds" (top 55)
  F_turned79 : At T "is_turned" (top 56)
  F_stretch79 : At T "is_stretch" (top 57)
  F_cell78 : At T "_law_cell" (top 59)
  F_low78 : At T "_law_low" (top 61)
  F_sum79 : At T "_law_sum" (top 62)
  F_both79 : At T "_law_both" (top 63)
  F_pp78 : At T "_law_prime_power" (top 66)
  F_meas79 : At T "_law_measure" (top 69)
  F_prime78 : At T "_law_prime" (top 70)
  F_num79 : At T "_law_number" (top 72)
  F_plain79 : At T "_law_plain_table" (top 73)
  F_led79 : At T "_law_led_paper" (top 74)
  F_same79 : At T "_law_same" (top 75)
  k_FIRST : CstP T "FIRST" 0 0 1
  k_NOUGHT : CstT T "NOUGHT" [0, 1]
  k_ONE : CstT T "ONE" [1, 1]
  k_FURTHEST_WAY : CstI T "FURTHEST_WAY" 500
  k_KEEPS : CstS T "KEEPS" "keeps"
  k_TURNS : CstS T "TURNS" "turns"
  k_SLIDES : CstS T "SLIDES" "slides"
abbrev s_shared : Stmt := top 6
theorem sc_shared : ScB ["one", "other", "left"] ["one", "other"] ["abs"] (defScope s_shared) := ⟨⟨rfl, rfl, rfl, by decide +kernel, rfl, by decide +kernel, by decide +kernel⟩, by decide +kernel, by decide +kernel⟩
theorem ok_shared {T : Tx} (M : Mo T) : FnD T 1 "shared" R_shared := by
  refine fn_D M.F_shared sc_shared (fun f fd F => F.binds fun _ _ _ _ _ _ us hl => match us, hl with | [_, _], _ => rfl) (by rintro _ _ ⟨a, b, rfl, rfl⟩; rfl) fun Y S Z ds d h => ?_
  have Se := S.toSe
  obtain ⟨a, b, rfl, rfl⟩ := h
  refine ss_while S (fun c => ∃ x y z, c = [.val (.int x), .val (.int y), z] ∧ Int.gcd x y = Int.gcd a b) (fun c => match c with | [_, .val (.int y), _] => y.natAbs | _ => 0) ⟨a, b, _, rfl, rfl⟩ ?_
  rintro _ ⟨x, y, z, rfl, hg⟩
  refine ⟨_, te_neI (ev_var Se 1) ev_int, fun h => ?_, fun h => ?_⟩
  · have h0 : y ≠ 0 := by simpa using h
    refine ss_set S 2 (ev_mod (ev_var Se 0) (ev_var Se 1) h0) ?_
    refine ss_set S 0 (ev_var Se 1) ?_
    refine ss_set S 1 (ev_var Se 2) ?_
    refine ss_nil ⟨⟨y, x.fmod y, _, rfl, ?_⟩, ?_⟩
    · rw [gcd_step]; exact hg
    · exact fmod_small x h0
  · have h0 : y = 0 := by simpa using h
    refine ss_ret (ev_abs Se 0 (ar_cons (ev_var Se 0) ar_nil) M.b_abs) ?_
    subst h0
    rw [Int.gcd_zero_right] at hg
    show D.int _ = D.int _
    rw [hg]
abbrev s_power_of : Stmt := top 7
theorem sc_power_of : ScB ["p", "n", "power"] ["p", "n"] [] (defScope s_power_of) := ⟨⟨rfl, rfl, rfl, by decide +kernel, rfl, by decide +kernel, by decide +kernel⟩, by decide +kernel, by decide +kernel⟩
theorem ok_power_of {T : Tx} (M : Mo T) : FnD T 1 "power_of" R_power_of := by
  refine fn_D M.F_power_of sc_power_of (fun f fd F => F.binds fun _ _ _ _ _ _ us hl => match us, hl with | [_, _], _ => rfl) (by rintro _ _ ⟨a, b, rfl, _, rfl⟩; rfl) fun Y S Z ds d h => ?_
  have Se := S.toSe
  obtain ⟨p, n, rfl, hp, rfl⟩ := h
  have p2 := hp.two_le
  refine ss_if (te_eqI (ev_var Se 1) ev_int) (fun h => ?_) (fun h => ss_nil ?_)
  · refine ss_ret ev_non ?_
    show D.non = _
    rw [if_pos (by simpa using h)]
  have h0 : ¬ n = 0 := by simpa using h
  rw [if_neg h0]
  refine ss_set S 2 ev_int ?_
  refine ss_while S (fun c => ∃ m w : Int, c = [.val (.int p), .val (.int m), .val (.int w)] ∧ m ≠ 0 ∧ (vp p n : Int) = w + (vp p m : Int)) (fun c => match c with | [_, .val (.int m), _] => m.natAbs | _ => 0) ⟨n, 0, rfl, h0, by omega⟩ ?_
  rintro _ ⟨m, w, rfl, hm, hv⟩
  refine ⟨_, te_eqI (ev_modP (ev_var Se 1) (ev_var Se 0) (by omega)) ev_int, fun h => ?_, fun h => ?_⟩
  · have h1 : m % p = 0 := by simpa using h
    have f := div_facts p2.1 hm h1
    have s := vp_step p2.1 hm h1
    refine ss_set S 1 (ev_fdivP (ev_var Se 1) (ev_var Se 0) (by omega) (Bd.of 8 (by omega) (by omega) (by decide +kernel))) ?_
    refine ss_set S 2 (ev_add (ev_var Se 2) ev_int) ?_
    exact ss_nil ⟨⟨m / p, w + 1, rfl, f.2.1, by omega⟩, f.2.2⟩
  · have h1 : ¬ m % p = 0 := by simpa using h
    have s := vp_zero h1
    refine ss_ret (ev_var Se 2) ?_
    show D.int _ = D.int _
    congr 1
    omega
abbrev s_raised : Stmt := top 8
theorem sc_raised : ScB ["p", "k", "product", "square"] ["p", "k"] [] (defScope s_raised) := ⟨⟨rfl, rfl, rfl, by decide +kernel, rfl, by decide +kernel, by decide +kernel⟩, by decide +kernel, by decide +kernel⟩
theorem ok_raised {T : Tx} (M : Mo T) : FnD T 1 "raised" R_raised := by
  refine fn_D M.F_raised sc_raised (fun f fd F => F.binds fun _ _ _ _ _ _ us hl => match us, hl with | [_, _], _ => rfl) (by rintro _ _ ⟨a, b, rfl, _, _, rfl⟩; rfl) fun Y S Z ds d h => ?_
  have Se := S.toSe
  obtain ⟨p, k, rfl, hp, hk, rfl⟩ := h
  have p2 := hp.two_le
  refine ss_set S 2 ev_int ?_
  refine ss_set S 3 (ev_var Se 0) ?_
  refine ss_while S (fun c => ∃ k' x y : Int, c = [.val (.int p), .val (.int k'), .val (.int x), .val (.int y)] ∧ k' ≤ k ∧ 1 ≤ x ∧ 1 ≤ y ∧ x * y ^ k'.toNat = p ^ k.toNat) (fun c => match c with | [_, .val (.int y), _, _] => y.toNat | _ => 0) ⟨_, _, _, rfl, Int.le_refl _, by decide, by omega, by rw [Int.one_mul]⟩ ?_
  rintro _ ⟨k', x, y, rfl, hk', hx, hy, he⟩
  refine ⟨_, te_gt (ev_var Se 1) ev_int, fun h => ?_, fun h => ?_⟩
  · have h0 : 0 < k' := by simpa using h
    have ok := sq_ok hp hx hy (show 1 ≤ k'.toNat by omega) (by omega) he
    have xy := le_mul_pos hx hy
    have yy := le_mul_pos hy hy
    refine ss_ifI S 2 (te_eqI (ev_modP (ev_var Se 1) ev_int (by decide)) ev_int) (fun _ => ev_mul (ev_var Se 2) (ev_var Se 3) ok.1) ?_
    refine ss_set S 3 (ev_mul (ev_var Se 3) (ev_var Se 3) ok.2) ?_
    refine ss_set S 1 (ev_fdivP (ev_var Se 1) ev_int (by decide) (by decide +kernel)) ?_
    refine ss_nil ⟨⟨k' / 2, _, y * y, rfl, by omega, ?_, by omega, ?_⟩, ?_⟩
    · split <;> omega
    · have e := sq_step he
      have e1 : (k' / 2).toNat = k'.toNat / 2 := by omega
      rw [e1, ← e]
      by_cases h2 : k' % 2 = 1
      · rw [if_pos (by simpa using h2), if_pos (show k'.toNat % 2 = 1 by omega)]
      · rw [if_neg (by simpa using h2), if_neg (show ¬ k'.toNat % 2 = 1 by omega)]
    · show (k' / 2).toNat < k'.toNat
      omega
  · have h0 : k'.toNat = 0 := by
      have : ¬ 0 < k' := by simpa using h
      omega
    refine ss_ret (ev_var Se 2) ?_
    rw [h0, Int.pow_zero, Int.mul_one] at he
    show D.int _ = D.int _
    rw [he]
abbrev s_obp : Stmt := top 10
theorem sc_obp : ScB ["p", "n", "answer"] ["p", "n"] [] (defScope s_obp) := ⟨⟨rfl, rfl, rfl, by decide +kernel, rfl, by decide +kernel, by decide +kernel⟩, by decide +kernel, by decide +kernel⟩
theorem ok_obp {T : Tx} (M : Mo T) : FnD T 1 "over_by_prime" R_obp := by
  refine fn_D M.F_obp sc_obp (fun f fd F => F.binds fun _ _ _ _ _ _ us hl => match us, hl with | [_, _], _ => rfl) (by rintro _ _ ⟨a, b, rfl, _, _, _, rfl⟩; rfl) fun Y S Z ds d h => ?_
  have Se := S.toSe
  obtain ⟨p, n, rfl, hp, hn, hb, rfl⟩ := h
  have p2 := hp.two_le
  refine ss_set S 2 ev_int ?_
  refine ss_while S (fun c => ∃ a : Int, c = [.val (.int p), .val (.int n), .val (.int a)] ∧ 1 ≤ a ∧ a ≤ p - 1 ∧ ∀ b, 1 ≤ b → b < a → n * b % p ≠ 1) (fun c => match c with | [_, _, .val (.int y)] => (p - y).toNat | _ => 0) ⟨1, rfl, by omega, by omega, fun b h1 h2 => by omega⟩ ?_
  rintro _ ⟨a, rfl, a1, a2, hs⟩
  refine ⟨_, (te_and (te_lt (ev_var Se 2) (ev_sub (ev_var Se 0) ev_int)) fun _ => te_and1 (te_neI (ev_modP (ev_mul (ev_var Se 1) (ev_var Se 2) (mulOk hb (Bd.of (n := 3) 8 (by omega) (by omega) (by decide)) (by decide))) (ev_var Se 0) (by omega)) ev_int)).pt, fun h => ?_, fun h => ?_⟩
  · have h' : a < p - 1 ∧ ¬ n * a % p = 1 := by simpa using h
    refine ss_set S 2 (ev_add (ev_var Se 2) ev_int) ?_
    refine ss_nil ⟨⟨a + 1, rfl, by omega, by omega, fun b h1 h2 => ?_⟩, ?_⟩
    · by_cases e : b = a
      · rw [e]; exact h'.2
      · exact hs b h1 (by omega)
    · show (p - (a + 1)).toNat < (p - a).toNat
      omega
  · have h' : ¬ a < p - 1 ∨ n * a % p = 1 := by
      by_cases z : a < p - 1
      · right
        simpa [z] using h
      · exact .inl z
    have e := inv_found hp hn a1 a2 hs h'
    refine ss_ret (ev_var Se 2) ?_
    show D.int _ = D.int _
    congr 1
    refine over_uniq (k := 1) ⟨by omega, by rw [Int.pow_one]; omega, ?_⟩ (overBy_is hp hn 1)
    rw [Int.pow_one]
    have := Int.emod_add_mul_ediv (n * a) p
    exact ⟨n * a / p, by omega⟩
abbrev s_over_by : Stmt := top 9
theorem sc_over_by : ScB ["p", "n", "k", "modulus", "answer", "settled"] ["p", "n", "k"] ["raised", "over_by_prime"] (defScope s_over_by) := ⟨⟨rfl, rfl, rfl, by decide +kernel, rfl, by decide +kernel, by decide +kernel⟩, by decide +kernel, by decide +kernel⟩
theorem ok_over_by {T : Tx} (M : Mo T) : FnD T 2 "over_by" R_over_by := by
  refine fn_D M.F_over_by sc_over_by (fun f fd F => F.binds fun _ _ _ _ _ _ us hl => match us, hl with | [_, _, _], _ => rfl) (by rintro _ _ ⟨a, b, c, rfl, _, _, _, _, _, rfl⟩; rfl) fun Y S Z ds d h => ?_
  have Se := S.toSe
  obtain ⟨p, n, k, rfl, hp, hn, k0, k1, hb, rfl⟩ := h
  have p2 := hp.two_le
  refine ss_if (te_eqI (ev_var Se 2) ev_int) (fun h => ?_) (fun h => ss_nil ?_)
  · have h0 : k = 0 := by simpa using h
    refine ss_ret ev_int ?_
    subst h0
    show D.int _ = D.int _
    congr 1
    exact over_uniq (k := 0) ⟨by omega, by rw [Int.pow_zero]; omega, by rw [Int.pow_zero]; exact Int.one_dvd _⟩ (overBy_is hp hn 0)
  have h0 : ¬ k = 0 := by simpa using h
  have pp := pw_pos hp k.toNat
  have pb := pw_bd hp k.toNat
  refine ss_set S 3 (ev_call Se 0 (ok_raised M) (by decide) (ar_cons (ev_var Se 0) (ar_cons (ev_var Se 2) ar_nil)) ⟨p, k, rfl, hp, k1, rfl⟩) ?_
  refine ss_set S 4 (ev_call Se 1 (ok_obp M) (by decide) (ar_cons (ev_var Se 0) (ar_cons (ev_var Se 1) ar_nil)) ⟨p, n, rfl, hp, hn, hb, rfl⟩) ?_
  refine ss_set S 5 ev_int ?_
  have i1 := overBy_is hp hn 1
  refine ss_while S (fun c => ∃ a s : Int, c = [.val (.int p), .val (.int n), .val (.int k), .val (.int (p ^ k.toNat)), .val (.int a), .val (.int s)] ∧ 0 ≤ a ∧ a < p ^ k.toNat ∧ 1 ≤ s ∧ p ^ (min s.toNat k.toNat) ∣ n * a - 1) (fun c => match c with | [_, _, _, _, _, .val (.int s)] => (k - s).toNat | _ => 0) ⟨_, 1, rfl, i1.1, ?_, by omega, ?_⟩ ?_
  · have := i1.2.1
    have q := le_self_pow (show 1 ≤ p by omega) (show 1 ≤ k.toNat by omega)
    rw [Int.pow_one] at this
    omega
  · rw [show min (1 : Int).toNat k.toNat = 1 by omega]
    exact i1.2.2
  rintro _ ⟨a, s, rfl, a0, a1, s1, hd⟩
  refine ⟨_, te_lt (ev_var Se 5) (ev_var Se 2), fun h => ?_, fun h => ?_⟩
  · have h' : s < k := by simpa using h
    have ba : Bd (3 * k.toNat + 1) a := Bd.of_le a0 (by omega) pb
    have bn := hb.mul ba
    have b2 := Bd.sub (n := 1000000 + (3 * k.toNat + 1)) (show Bd 2 2 by decide) bn
    refine ss_set S 4 (ev_modP (ev_mul (ev_var Se 4) (ev_sub ev_int (ev_mul (ev_var Se 1) (ev_var Se 4) (mulOk hb ba (by omega)))) (mulOk ba b2 (by omega))) (ev_var Se 3) pp) ?_
    refine ss_set S 5 (ev_mul ev_int (ev_var Se 5) (.of_left (intBits_le_64 (by decide) (by decide)))) ?_
    refine ss_nil ⟨⟨_, 2 * s, rfl, Int.emod_nonneg _ (by omega), Int.emod_lt_of_pos _ pp, by omega, ?_⟩, ?_⟩
    · have e := newton hd
      rw [show (2 * s).toNat = 2 * s.toNat by omega]
      exact e
    · show (k - 2 * s).toNat < (k - s).toNat
      omega
  · have h' : ¬ s < k := by simpa using h
    refine ss_ret (ev_var Se 4) ?_
    show D.int _ = D.int _
    congr 1
    rw [show min s.toNat k.toNat = k.toNat by omega] at hd
    exact over_uniq ⟨a0, a1, hd⟩ (overBy_is hp hn _)
abbrev s_fraction : Stmt := top 14
theorem sc_fraction : ScB ["top", "bottom", "factor"] ["top", "bottom"] ["shared", "NoFraction"] (defScope s_fraction) := ⟨⟨rfl, rfl, rfl, by decide +kernel, rfl, by decide +kernel, by decide +kernel⟩, by decide +kernel, by decide +kernel⟩
theorem okv_fraction {T : Tx} (M : Mo T) : FnD T 2 "fraction" R_low ∧ FnDd T 2 "fraction" 1 R_low := by
  refine fn_DV M.F_fraction sc_fraction (fun Td kV doc pm an cdv ct tk o n lt hs => ⟨fun s us X hl => match us, (show us.length = 2 by simpa using hl) with | [_, _], _ => PySem.W.binds_K X rfl lt hs rfl rfl, fun s us X hl => match us, (show us.length = 1 by simpa using hl) with | [_], _ => PySem.W.binds_K X rfl lt hs rfl rfl⟩) (by rintro _ _ ⟨a, b, rfl, _⟩; rfl) fun Y S Z ds d h => ?_
  have Se := S.toSe
  obtain ⟨t, b, rfl, h⟩ := h
  obtain ⟨hb, bb, rfl⟩ := h
  refine ss_if (te_eqI (ev_var Se 1) ev_int) (fun h => absurd (by simpa using h) hb) (fun _ => ss_nil ?_)
  refine ss_set S 2 (ev_call Se 0 (ok_shared M) (by decide) (ar_cons (ev_var Se 0) (ar_cons (ev_var Se 1) ar_nil)) ⟨_, _, rfl, rfl⟩) ?_
  refine ss_ifI S 2 (te_lt (ev_var Se 1) ev_int) (fun _ => ev_neg (ev_var Se 2)) ?_
  have q := low_bd (t := t) hb bb
  have l := low_num t hb
  have e : (if decide (b < 0) = true then -(Int.gcd t b : Int) else (Int.gcd t b : Int)) = (if b < 0 then -(Int.gcd t b : Int) else (Int.gcd t b : Int)) := by simp
  rw [e]
  refine ss_ret (ev_tup (ar_cons (ev_fdiv (ev_var Se 0) (ev_var Se 2) q.1 q.2) (ar_cons (ev_fdiv (ev_var Se 1) (ev_var Se 2) q.1 q.2) ar_nil))) ?_
  show D.tup _ = D.tup _
  rw [l.1, l.2]
theorem ok_fraction {T : Tx} (M : Mo T) : FnD T 2 "fraction" R_low := (okv_fraction M).1
abbrev s_plus : Stmt := top 15
theorem sc_plus : ScB ["a", "b"] ["a", "b"] ["fraction"] (defScope s_plus) := ⟨⟨rfl, rfl, rfl, by decide +kernel, rfl, by decide +kernel, by decide +kernel⟩, by decide +kernel, by decide +kernel⟩
theorem ok_plus {T : Tx} (M : Mo T) : FnD T 3 "plus" R_qadd := by
  refine fn_D M.F_plus sc_plus (fun f fd F => F.binds fun _ _ _ _ _ _ us hl => match us, hl with | [_, _], _ => rfl) (by rintro _ _ ⟨a, b, rfl, _, _, rfl⟩; rfl) fun Y S Z ds d h => ?_
  have Se := S.toSe
  obtain ⟨a, b, rfl, ha, hb, rfl⟩ := h
  rw [← rat_add a b]
  exact ss_ret (ev_call Se 0 (ok_fraction M) (by decide) (ar_cons (ev_add (ev_mul (ev_ixT (ev_var Se 0) ev_int rfl) (ev_ixT (ev_var Se 1) ev_int rfl) (mulOk ha.1 hb.2 (by decide))) (ev_mul (ev_ixT (ev_var Se 1) ev_int rfl) (ev_ixT (ev_var Se 0) ev_int rfl) (mulOk hb.1 ha.2 (by decide)))) (ar_cons (ev_mul (ev_ixT (ev_var Se 0) ev_int rfl) (ev_ixT (ev_var Se 1) ev_int rfl) (mulOk ha.2 hb.2 (by decide))) ar_nil)) ⟨_, _, rfl, Int.mul_ne_zero (den_ne a) (den_ne b), (ha.2.mul hb.2).mono (by decide), rfl⟩) rfl
abbrev s_minus : Stmt := top 16
theorem sc_minus : ScB ["a", "b"] ["a", "b"] ["fraction"] (defScope s_minus) := ⟨⟨rfl, rfl, rfl, by decide +kernel, rfl, by decide +kernel, by decide +kernel⟩, by decide +kernel, by decide +kernel⟩
theorem ok_minus {T : Tx} (M : Mo T) : FnD T 3 "minus" R_qsub := by
  refine fn_D M.F_minus sc_minus (fun f fd F => F.binds fun _ _ _ _ _ _ us hl => match us, hl with | [_, _], _ => rfl) (by rintro _ _ ⟨a, b, rfl, _, _, rfl⟩; rfl) fun Y S Z ds d h => ?_
  have Se := S.toSe
  obtain ⟨a, b, rfl, ha, hb, rfl⟩ := h
  rw [← rat_sub a b]
  exact ss_ret (ev_call Se 0 (ok_fraction M) (by decide) (ar_cons (ev_sub (ev_mul (ev_ixT (ev_var Se 0) ev_int rfl) (ev_ixT (ev_var Se 1) ev_int rfl) (mulOk ha.1 hb.2 (by decide))) (ev_mul (ev_ixT (ev_var Se 1) ev_int rfl) (ev_ixT (ev_var Se 0) ev_int rfl) (mulOk hb.1 ha.2 (by decide)))) (ar_cons (ev_mul (ev_ixT (ev_var Se 0) ev_int rfl) (ev_ixT (ev_var Se 1) ev_int rfl) (mulOk ha.2 hb.2 (by decide))) ar_nil)) ⟨_, _, rfl, Int.mul_ne_zero (den_ne a) (den_ne b), (ha.2.mul hb.2).mono (by decide), rfl⟩) rfl
abbrev s_times : Stmt := top 17
theorem sc_times : ScB ["a", "b"] ["a", "b"] ["fraction"] (defScope s_times) := ⟨⟨rfl, rfl, rfl, by decide +kernel, rfl, by decide +kernel, by decide +kernel⟩, by decide +kernel, by decide +kernel⟩
theorem ok_times {T : Tx} (M : Mo T) : FnD T 3 "times" R_qmul := by
  refine fn_D M.F_times sc_times (fun f fd F => F.binds fun _ _ _ _ _ _ us hl => match us, hl with | [_, _], _ => rfl) (by rintro _ _ ⟨a, b, rfl, _, _, rfl⟩; rfl) fun Y S Z ds d h => ?_
  have Se := S.toSe
  obtain ⟨a, b, rfl, ha, hb, rfl⟩ := h
  rw [← rat_mul a b]
  exact ss_ret (ev_call Se 0 (ok_fraction M) (by decide) (ar_cons (ev_mul (ev_ixT (ev_var Se 0) ev_int rfl) (ev_ixT (ev_var Se 1) ev_int rfl) (mulOk ha.1 hb.1 (by decide))) (ar_cons (ev_mul (ev_ixT (ev_var Se 0) ev_int rfl) (ev_ixT (ev_var Se 1) ev_int rfl) (mulOk ha.2 hb.2 (by decide))) ar_nil)) ⟨_, _, rfl, Int.mul_ne_zero (den_ne a) (den_ne b), (ha.2.mul hb.2).mono (by decide), rfl⟩) rfl
abbrev s_over : Stmt := top 18
theorem sc_over : ScB ["a", "b"] ["a", "b"] ["fraction"] (defScope s_over) := ⟨⟨rfl, rfl, rfl, by decide +kernel, rfl, by decide +kernel, by decide +kernel⟩, by decide +kernel, by decide +kernel⟩
theorem ok_over {T : Tx} (M : Mo T) : FnD T 3 "over" R_overD := by
  refine fn_D M.F_over sc_over (fun f fd F => F.binds fun _ _ _ _ _ _ us hl => match us, hl with | [_, _], _ => rfl) (by rintro _ _ ⟨a, b, rfl, _⟩; rfl) fun Y S Z ds d h => ?_
  have Se := S.toSe
  obtain ⟨a, b, rfl, ha, hb, h⟩ := h
  obtain ⟨h0, rfl⟩ := h
  exact ss_ret (ev_call Se 0 (ok_fraction M) (by decide) (ar_cons (ev_mul (ev_ixT (ev_var Se 0) ev_int rfl) (ev_ixT (ev_var Se 1) ev_int rfl) (mulOk ha.1 hb.2 (by decide))) (ar_cons (ev_mul (ev_ixT (ev_var Se 0) ev_int rfl) (ev_ixT (ev_var Se 1) ev_int rfl) (mulOk ha.2 hb.1 (by decide))) ar_nil)) ⟨_, _, rfl, ⟨Int.mul_ne_zero (den_ne a) h0, (ha.2.mul hb.1).mono (by decide), rfl⟩⟩) rfl
abbrev s_power_in : Stmt := top 19
theorem sc_power_in : ScB ["p", "a"] ["p", "a"] ["power_of"] (defScope s_power_in) := ⟨⟨rfl, rfl, rfl, by decide +kernel, rfl, by decide +kernel, by decide +kernel⟩, by decide +kernel, by decide +kernel⟩
theorem ok_power_in {T : Tx} (M : Mo T) : FnD T 2 "power_in" R_power_in := by
  refine fn_D M.F_power_in sc_power_in (fun f fd F => F.binds fun _ _ _ _ _ _ us hl => match us, hl with | [_, _], _ => rfl) (by rintro _ _ ⟨a, b, rfl, _, rfl⟩; rfl) fun Y S Z ds d h => ?_
  have Se := S.toSe
  obtain ⟨p, a, rfl, hp, rfl⟩ := h
  refine ss_if (te_eqI (ev_ixT (ev_var Se 1) ev_int rfl) ev_int) (fun h => ?_) (fun h => ss_nil ?_)
  · refine ss_ret ev_non ?_
    show D.non = _
    unfold vq
    rw [if_pos (by simpa using h)]
    rfl
  have h0 : ¬ a.num = 0 := by simpa using h
  refine ss_ret (ev_sub (ev_call Se 0 (ok_power_of M) (by decide) (ar_cons (ev_var Se 0) (ar_cons (ev_ixT (ev_var Se 1) ev_int rfl) ar_nil)) ⟨p, _, rfl, hp, (if_neg h0).symm⟩) (ev_call Se 0 (ok_power_of M) (by decide) (ar_cons (ev_var Se 0) (ar_cons (ev_ixT (ev_var Se 1) ev_int rfl) ar_nil)) ⟨p, _, rfl, hp, (if_neg (den_ne a)).symm⟩)) ?_
  show D.int _ = _
  unfold vq
  rw [if_neg h0]
  rfl
abbrev s_prime_power : Stmt := top 20
theorem sc_prime_power : ScB ["p", "k"] ["p", "k"] ["raised"] (defScope s_prime_power) := ⟨⟨rfl, rfl, rfl, by decide +kernel, rfl, by decide +kernel, by decide +kernel⟩, by decide +kernel, by decide +kernel⟩
theorem ok_prime_power {T : Tx} (M : Mo T) : FnD T 2 "prime_power" R_ppw := by
  refine fn_D M.F_prime_power sc_prime_power (fun f fd F => F.binds fun _ _ _ _ _ _ us hl => match us, hl with | [_, _], _ => rfl) (by rintro _ _ ⟨a, b, rfl, _, _, _, rfl⟩; rfl) fun Y S Z ds d h => ?_
  have Se := S.toSe
  obtain ⟨p, k, rfl, hp, k0, k1, rfl⟩ := h
  have p2 := hp.two_le
  refine ss_if (te_lt (ev_var Se 1) ev_int) (fun h => ?_) (fun h => ss_nil ?_)
  · have h0 : k < 0 := by simpa using h
    have q := ppw_neg (p := p) (by omega) h0
    refine ss_ret (ev_tup (ar_cons ev_int (ar_cons (ev_call Se 0 (ok_raised M) (by decide) (ar_cons (ev_var Se 0) (ar_cons (ev_neg (ev_var Se 1)) ar_nil)) ⟨p, -k, rfl, hp, by omega, rfl⟩) ar_nil))) ?_
    show D.tup _ = D.tup _
    rw [q.1, q.2]
  · have h0 : ¬ k < 0 := by simpa using h
    have q := ppw_nn (p := p) (k := k) (by omega)
    refine ss_ret (ev_tup (ar_cons (ev_call Se 0 (ok_raised M) (by decide) (ar_cons (ev_var Se 0) (ar_cons (ev_var Se 1) ar_nil)) ⟨p, k, rfl, hp, by omega, rfl⟩) (ar_cons ev_int ar_nil))) ?_
    show D.tup _ = D.tup _
    rw [q.1, q.2]
    rfl
abbrev s_rest_byN : Stmt := top 21
theorem sc_rest_byN : ScB ["p", "k", "a", "sunk", "settled", "scale", "whole"] ["p", "k", "a"] ["power_of", "NOUGHT", "raised", "fraction", "over_by"] (defScope s_rest_byN) := ⟨⟨rfl, rfl, rfl, by decide +kernel, rfl, by decide +kernel, by decide +kernel⟩, by decide +kernel, by decide +kernel⟩
theorem ok_rest_byN {T : Tx} (M : Mo T) : FnD T 3 "rest_by" R_rest := by
  refine fn_D M.F_rest_byN sc_rest_byN (fun f fd F => F.binds fun _ _ _ _ _ _ us hl => match us, hl with | [_, _, _], _ => rfl) (by rintro _ _ ⟨_, _, _, rfl, _, _, _, _, rfl⟩; rfl) fun Y S Z ds d h => ?_
  have Se := S.toSe
  obtain ⟨p, k, a, rfl, hp, k1, k0, ha, rfl⟩ := h
  have p2 := hp.two_le
  have hv := vp_le hp (den_ne a) ha.2
  obtain ⟨u, hu, up⟩ := vp_ex hp (den_ne a)
  refine ss_set S 3 (ev_call Se 0 (ok_power_of M) (by decide) (ar_cons (ev_var Se 0) (ar_cons (ev_ixT (ev_var Se 2) ev_int rfl) ar_nil)) ⟨p, _, rfl, hp, (if_neg (den_ne a)).symm⟩) ?_
  refine ss_set S 4 (ev_add (ev_var Se 1) (ev_var Se 3)) ?_
  unfold restQ
  generalize vp p a.den = e at *
  refine ss_if (te_le (ev_var Se 4) ev_int) (fun h => ?_) (fun h => ss_nil ?_)
  · have h0 : k + (e : Int) ≤ 0 := by simpa using h
    rw [if_pos h0]
    exact ss_ret (ev_cstT Se.toSn 1 M.k_NOUGHT) rfl
  have h0 : ¬ k + (e : Int) ≤ 0 := by simpa using h
  rw [if_neg h0]
  have pe := pw_pos hp e
  have bpe : Bd 4400 (p ^ e) := by
    refine Bd.of_le (by omega) (?_ : p ^ e ≤ (a.den : Int)) ha.2
    have := den_pos a
    exact Int.le_of_dvd this ⟨u, hu⟩
  have hdiv : (a.den : Int) / p ^ e = u := by rw [hu]; exact Int.mul_ediv_cancel_left u (by omega)
  have bu : Bd 4400 u := by
    have q := ha.2
    rw [hu] at q
    unfold Bd at *
    rw [Int.natAbs_mul] at q
    have : 1 * u.natAbs ≤ (p ^ e).natAbs * u.natAbs := Nat.mul_le_mul_right _ (by omega)
    omega
  refine ss_set S 5 (ev_call Se 2 (ok_raised M) (by decide) (ar_cons (ev_var Se 0) (ar_cons (ev_var Se 3) ar_nil)) ⟨p, (e : Int), rfl, hp, by omega, by rw [Int.toNat_natCast]⟩) ?_
  rw [hdiv]
  have ov := overBy_is hp up (k + (e : Int)).toNat
  have pk := pw_pos hp (k + (e : Int)).toNat
  have bk := pw_bd hp (k + (e : Int)).toNat
  refine ss_set S 6 (ev_modP (ev_mul (ev_ixT (ev_var Se 2) ev_int rfl) (ev_call Se 4 (ok_over_by M) (by decide) (ar_cons (ev_var Se 0) (ar_cons (ev_fdivP (ev_ixT (ev_var Se 2) ev_int rfl) (ev_var Se 5) pe (bpe.mono (by decide))) (ar_cons (ev_var Se 4) ar_nil))) ⟨p, u, k + (e : Int), by rw [hdiv], hp, up, by omega, by omega, bu.mono (by decide), rfl⟩) (mulOk ha.1 (Bd.of_le ov.1 (Int.le_of_lt ov.2.1) bk) (by omega))) (ev_call Se 2 (ok_raised M) (by decide) (ar_cons (ev_var Se 0) (ar_cons (ev_var Se 4) ar_nil)) ⟨p, k + (e : Int), rfl, hp, by omega, rfl⟩) pk) ?_
  exact ss_ret (ev_call Se 3 (ok_fraction M) (by decide) (ar_cons (ev_var Se 6) (ar_cons (ev_var Se 5) ar_nil)) ⟨_, _, rfl, by omega, bpe.mono (by decide), rfl⟩) rfl
abbrev s_measure : Stmt := top 23
theorem sc_measure : ScB ["table"] ["table"] ["minus", "times"] (defScope s_measure) := ⟨⟨rfl, rfl, rfl, by decide +kernel, rfl, by decide +kernel, by decide +kernel⟩, by decide +kernel, by decide +kernel⟩
theorem ok_measure {T : Tx} (M : Mo T) : FnD T 4 "measure" R_measure := by
  refine fn_D M.F_measure sc_measure (fun f fd F => F.binds fun _ _ _ _ _ _ us hl => match us, hl with | [_], _ => rfl) (by rintro _ _ ⟨_, rfl, _, rfl⟩; rfl) fun Y S Z ds d h => ?_
  have Se := S.toSe
  obtain ⟨t, rfl, hm, rfl⟩ := h
  exact ss_ret (ev_call Se 0 (ok_minus M) (by decide) (ar_cons (ev_call Se 1 (ok_times M) (by decide) (ar_cons (ev_ixT (ev_var Se 0) ev_int rfl) (ar_cons (ev_ixT (ev_var Se 0) ev_int rfl) ar_nil)) ⟨t.a, t.d, rfl, hm.ht.a, hm.ht.d, rfl⟩) (ar_cons (ev_call Se 1 (ok_times M) (by decide) (ar_cons (ev_ixT (ev_var Se 0) ev_int rfl) (ar_cons (ev_ixT (ev_var Se 0) ev_int rfl) ar_nil)) ⟨t.b, t.c, rfl, hm.ht.b, hm.ht.c, rfl⟩) ar_nil)) ⟨_, _, rfl, hm.ad, hm.bc, rfl⟩) rfl
abbrev s_trace : Stmt := top 24
theorem sc_trace : ScB ["table"] ["table"] ["plus"] (defScope s_trace) := ⟨⟨rfl, rfl, rfl, by decide +kernel, rfl, by decide +kernel, by decide +kernel⟩, by decide +kernel, by decide +kernel⟩
theorem ok_trace {T : Tx} (M : Mo T) : FnD T 4 "trace" R_trace := by
  refine fn_D M.F_trace sc_trace (fun f fd F => F.binds fun _ _ _ _ _ _ us hl => match us, hl with | [_], _ => rfl) (by rintro _ _ ⟨_, rfl, _, rfl⟩; rfl) fun Y S Z ds d h => ?_
  have Se := S.toSe
  obtain ⟨t, rfl, ht, rfl⟩ := h
  exact ss_ret (ev_call Se 0 (ok_plus M) (by decide) (ar_cons (ev_ixT (ev_var Se 0) ev_int rfl) (ar_cons (ev_ixT (ev_var Se 0) ev_int rfl) ar_nil)) ⟨t.a, t.d, rfl, ht.a, ht.d, rfl⟩) rfl
abbrev s_row_by_column : Stmt := top 26
theorem sc_row_by_column : ScB ["row", "column"] ["row", "column"] ["plus", "times"] (defScope s_row_by_column) := ⟨⟨rfl, rfl, rfl, by decide +kernel, rfl, by decide +kernel, by decide +kernel⟩, by decide +kernel, by decide +kernel⟩
theorem ok_row_by_column {T : Tx} (M : Mo T) : FnD T 4 "row_by_column" R_rowcol := by
  refine fn_D M.F_row_by_column sc_row_by_column (fun f fd F => F.binds fun _ _ _ _ _ _ us hl => match us, hl with | [_, _], _ => rfl) (by rintro _ _ ⟨_, _, _, _, rfl, _, _, _, _, _, _, rfl⟩; rfl) fun Y S Z ds d h => ?_
  have Se := S.toSe
  obtain ⟨a, b, c, e, rfl, ha, hb, hc, he, h1, h2, rfl⟩ := h
  exact ss_ret (ev_call Se 0 (ok_plus M) (by decide) (ar_cons (ev_call Se 1 (ok_times M) (by decide) (ar_cons (ev_ixT (ev_var Se 0) ev_int rfl) (ar_cons (ev_ixT (ev_var Se 1) ev_int rfl) ar_nil)) ⟨a, c, rfl, ha, hc, rfl⟩) (ar_cons (ev_call Se 1 (ok_times M) (by decide) (ar_cons (ev_ixT (ev_var Se 0) ev_int rfl) (ar_cons (ev_ixT (ev_var Se 1) ev_int rfl) ar_nil)) ⟨b, e, rfl, hb, he, rfl⟩) ar_nil)) ⟨_, _, rfl, h1, h2, rfl⟩) rfl
abbrev s_product : Stmt := top 25
theorem sc_product : ScB ["one", "other", "left", "right", "upper", "lower"] ["one", "other"] ["row_by_column"] (defScope s_product) := ⟨⟨rfl, rfl, rfl, by decide +kernel, rfl, by decide +kernel, by decide +kernel⟩, by decide +kernel, by decide +kernel⟩
theorem ok_product {T : Tx} (M : Mo T) : FnD T 5 "product" R_product := by
  refine fn_D M.F_product sc_product (fun f fd F => F.binds fun _ _ _ _ _ _ us hl => match us, hl with | [_, _], _ => rfl) (by rintro _ _ ⟨_, _, rfl, _, rfl⟩; rfl) fun Y S Z ds d h => ?_
  have Se := S.toSe
  obtain ⟨s, t, rfl, hp, rfl⟩ := h
  refine ss_set S 2 (ev_tup (ar_cons (ev_ixT (ev_var Se 1) ev_int rfl) (ar_cons (ev_ixT (ev_var Se 1) ev_int rfl) ar_nil))) ?_
  refine ss_set S 3 (ev_tup (ar_cons (ev_ixT (ev_var Se 1) ev_int rfl) (ar_cons (ev_ixT (ev_var Se 1) ev_int rfl) ar_nil))) ?_
  refine ss_set S 4 (ev_tup (ar_cons (ev_ixT (ev_var Se 0) ev_int rfl) (ar_cons (ev_ixT (ev_var Se 0) ev_int rfl) ar_nil))) ?_
  refine ss_set S 5 (ev_tup (ar_cons (ev_ixT (ev_var Se 0) ev_int rfl) (ar_cons (ev_ixT (ev_var Se 0) ev_int rfl) ar_nil))) ?_
  exact ss_ret (ev_tup (ar_cons (ev_call Se 0 (ok_row_by_column M) (by decide) (ar_cons (ev_var Se 4) (ar_cons (ev_var Se 2) ar_nil)) ⟨s.a, s.b, t.a, t.c, rfl, hp.hs.a, hp.hs.b, hp.ht.a, hp.ht.c, hp.aa, hp.bc, rfl⟩) (ar_cons (ev_call Se 0 (ok_row_by_column M) (by decide) (ar_cons (ev_var Se 4) (ar_cons (ev_var Se 3) ar_nil)) ⟨s.a, s.b, t.b, t.d, rfl, hp.hs.a, hp.hs.b, hp.ht.b, hp.ht.d, hp.ab, hp.bd, rfl⟩) (ar_cons (ev_call Se 0 (ok_row_by_column M) (by decide) (ar_cons (ev_var Se 5) (ar_cons (ev_var Se 2) ar_nil)) ⟨s.c, s.d, t.a, t.c, rfl, hp.hs.c, hp.hs.d, hp.ht.a, hp.ht.c, hp.ca, hp.dc, rfl⟩) (ar_cons (ev_call Se 0 (ok_row_by_column M) (by decide) (ar_cons (ev_var Se 5) (ar_cons (ev_var Se 3) ar_nil)) ⟨s.c, s.d, t.b, t.d, rfl, hp.hs.c, hp.hs.d, hp.ht.b, hp.ht.d, hp.cb, hp.dd, rfl⟩) ar_nil))))) rfl
abbrev s_stretched : Stmt := top 28
theorem sc_stretched : ScB ["table", "a"] ["table", "a"] ["NOUGHT", "NoTable", "times"] (defScope s_stretched) := ⟨⟨rfl, rfl, rfl, by decide +kernel, rfl, by decide +kernel, by decide +kernel⟩, by decide +kernel, by decide +kernel⟩
theorem ok_stretched {T : Tx} (M : Mo T) : FnD T 4 "stretched" R_stretchedD := by
  refine fn_D M.F_stretched sc_stretched (fun f fd F => F.binds fun _ _ _ _ _ _ us hl => match us, hl with | [_, _], _ => rfl) (by rintro _ _ ⟨_, _, rfl, _⟩; rfl) fun Y S Z ds d h => ?_
  have Se := S.toSe
  obtain ⟨t, q, rfl, ht, hq, h⟩ := h
  have e0 : eqD (frD q) (.tup ([0, 1].map D.int)) = decide (q = 0) := eqD_fq q 0

  obtain ⟨h0, rfl⟩ := h
  refine ss_if (te_eqD Se (ev_var Se 1) (ev_cstT Se.toSn 0 M.k_NOUGHT)) (fun h => absurd (by rw [e0] at h; simpa using h) h0) (fun _ => ss_nil ?_)
  exact ss_ret (ev_tup (ar_cons (ev_call Se 2 (ok_times M) (by decide) (ar_cons (ev_ixT (ev_var Se 0) ev_int rfl) (ar_cons (ev_var Se 1) ar_nil)) ⟨t.a, q, rfl, ht.a, hq, rfl⟩) (ar_cons (ev_call Se 2 (ok_times M) (by decide) (ar_cons (ev_ixT (ev_var Se 0) ev_int rfl) (ar_cons (ev_var Se 1) ar_nil)) ⟨t.b, q, rfl, ht.b, hq, rfl⟩) (ar_cons (ev_call Se 2 (ok_times M) (by decide) (ar_cons (ev_ixT (ev_var Se 0) ev_int rfl) (ar_cons (ev_var Se 1) ar_nil)) ⟨t.c, q, rfl, ht.c, hq, rfl⟩) (ar_cons (ev_call Se 2 (ok_times M) (by decide) (ar_cons (ev_ixT (ev_var Se 0) ev_int rfl) (ar_cons (ev_var Se 1) ar_nil)) ⟨t.d, q, rfl, ht.d, hq, rfl⟩) ar_nil))))) rfl
abbrev s_turned_over : Stmt := top 27
theorem sc_turned_over : ScB ["table", "swapped"] ["table"] ["stretched", "minus", "NOUGHT", "over", "ONE", "measure"] (defScope s_turned_over) := ⟨⟨rfl, rfl, rfl, by decide +kernel, rfl, by decide +kernel, by decide +kernel⟩, by decide +kernel, by decide +kernel⟩
theorem ok_turned_over {T : Tx} (M : Mo T) : FnD T 5 "turned_over" R_turned := by
  refine fn_D M.F_turned_over sc_turned_over (fun f fd F => F.binds fun _ _ _ _ _ _ us hl => match us, hl with | [_], _ => rfl) (by rintro _ _ ⟨_, rfl, _, _, _, rfl⟩; rfl) fun Y S Z ds d h => ?_
  have Se := S.toSe
  obtain ⟨t, rfl, hm, h0, hd, rfl⟩ := h
  have z4 : Fb 4400 0 := fb_zero.mono (by decide)
  have o4 : Fb 4400 1 := fb_one.mono (by decide)
  have n0 : t.det.num ≠ 0 := fun z => h0 (Rat.num_eq_zero.mp z)
  refine ss_set S 1 (ev_tup (ar_cons (ev_ixT (ev_var Se 0) ev_int rfl) (ar_cons (ev_call Se 1 (ok_minus M) (by decide) (ar_cons (ev_cstT Se.toSn 2 M.k_NOUGHT) (ar_cons (ev_ixT (ev_var Se 0) ev_int rfl) ar_nil)) ⟨0, t.b, rfl, z4, hm.ht.b, rfl⟩) (ar_cons (ev_call Se 1 (ok_minus M) (by decide) (ar_cons (ev_cstT Se.toSn 2 M.k_NOUGHT) (ar_cons (ev_ixT (ev_var Se 0) ev_int rfl) ar_nil)) ⟨0, t.c, rfl, z4, hm.ht.c, rfl⟩) (ar_cons (ev_ixT (ev_var Se 0) ev_int rfl) ar_nil))))) ?_
  refine ss_ret (ev_call Se 0 (ok_stretched M) (by decide) (ar_cons (ev_var Se 1) (ar_cons (ev_call Se 3 (ok_over M) (by decide) (ar_cons (ev_cstT Se.toSn 4 M.k_ONE) (ar_cons (ev_call Se 5 (ok_measure M) (by decide) (ar_cons (ev_var Se 0) ar_nil) ⟨t, rfl, hm, rfl⟩) ar_nil)) ⟨1, t.det, rfl, o4, hd, ⟨n0, rfl⟩⟩) ar_nil)) ⟨t.turn, t.det⁻¹, ?e, hm.ht.turn, hd.inv h0, ⟨inv_ne h0, rfl⟩⟩) rfl
  case e => rw [over_one h0]; rfl
abbrev s_least_power : Stmt := top 34
theorem sc_least_power : ScB ["p", "numbers"] ["p", "numbers"] ["min"] (defScope s_least_power) := ⟨⟨rfl, rfl, rfl, by decide +kernel, rfl, by decide +kernel, by decide +kernel⟩, by decide +kernel, by decide +kernel⟩
theorem ok_least_power {T : Tx} (M : Mo T) : FnD T 3 "least_power" R_least := by
  refine fn_D M.F_least_power sc_least_power (fun f fd F => F.binds fun _ _ _ _ _ _ us hl => match us, hl with | [_, _], _ => rfl) (by rintro _ _ ⟨_, _, rfl, _, _, _, rfl⟩; rfl) fun Y S Z ds d h => ?_
  have Se := S.toSe
  obtain ⟨p, rs, rfl, hp, hl10, ⟨r0, hr0, hn0⟩, rfl⟩ := h
  have e : (rs.map fun r => (vq p r).map D.int).filterMap id = (rs.filterMap (vq p)).map D.int := by
    rw [List.filterMap_map, List.map_filterMap]
    rfl
  obtain ⟨i, l, hil⟩ : ∃ i l, rs.filterMap (vq p) = i :: l := by
    cases h : rs.filterMap (vq p) with
    | nil => exact absurd (vq_none.mp (List.filterMap_eq_nil_iff.mp h r0 hr0)) hn0
    | cons i l => exact ⟨i, l, rfl⟩
  have hd0 : leastV p rs = l.foldl min i := by unfold leastV; rw [hil]
  rw [hd0]
  rw [hil] at e
  refine ss_ret (ev_minL Se 0 (ar_cons (ev_lto (ev_comp (tn := ["a"]) (fs := ["p"]) (ix := [0]) (G' := ["power_in", "NOUGHT"]) Se Z.sc ?B (it_tup (ev_var Se 1)) (rs.map fun r => (vq p r).map D.int) (by simp) (by rw [List.length_map]; omega) ?T) e) ar_nil) M.b_min) rfl
  case B => exact ⟨rfl, rfl, by decide +kernel, by decide +kernel, by decide +kernel, by decide +kernel, by decide +kernel, by decide +kernel, rfl, by decide +kernel⟩
  case T =>
    intro Y' S' hl m d r hd hr ts hts
    obtain ⟨t1, rfl⟩ : ∃ t1, ts = [t1] := List.length_eq_one_iff.mp hts
    rw [List.getElem?_map] at hd hr
    cases hq : rs[m]? with
    | none => rw [hq] at hd; cases hd
    | some q =>
      rw [hq] at hd hr
      cases hd
      have hr2 : (vq p q).map D.int = r := by simpa using hr
      have e0 : eqD (frD q) (.tup ([0, 1].map D.int)) = decide (q = 0) := eqD_fq q 0
      cases hv : vq p q with
      | none =>
        rw [hv] at hr2
        subst hr2
        refine ⟨[.val (frD q)], rfl, rfl, tg_name0 S'.toSn 0 (.inr (hl _ (by simp))), ?_⟩
        have h2 : (!eqD (frD q) (.tup ([0, 1].map D.int))) = false := by rw [e0, vq_none.mp hv]; simp
        show TeD Y' _ _ false
        rw [← h2]
        exact te_neD S' (ev_var S' 0) (ev_cstT S'.toSn 1 M.k_NOUGHT)
      | some v =>
        rw [hv] at hr2
        subst hr2
        refine ⟨[.val (frD q)], rfl, rfl, tg_name0 S'.toSn 0 (.inr (hl _ (by simp))), ?_, ?_⟩
        · have h2 : (!eqD (frD q) (.tup ([0, 1].map D.int))) = true := by
            rw [e0]
            have : q ≠ 0 := fun z => by rw [vq_none.mpr z] at hv; cases hv
            simp [this]
          show TeD Y' _ _ true
          rw [← h2]
          exact te_neD S' (ev_var S' 0) (ev_cstT S'.toSn 1 M.k_NOUGHT)
        · exact ev_call S' 0 (ok_power_in M) (by decide) (ar_cons (ev_var S' 1) (ar_cons (ev_var S' 0) ar_nil)) ⟨p, q, rfl, hp, by rw [hv]; rfl⟩
abbrev s_spot_of : Stmt := top 31
theorem sc_spot_of : ScB ["p", "table", "least", "k"] ["p", "table"] ["least_power", "power_in", "rest_by", "measure", "over"] (defScope s_spot_of) := ⟨⟨rfl, rfl, rfl, by decide +kernel, rfl, by decide +kernel, by decide +kernel⟩, by decide +kernel, by decide +kernel⟩
theorem ok_spot_of {T : Tx} (M : Mo T) : FnD T 5 "spot_of" R_spotof := by
  refine fn_D M.F_spot_of sc_spot_of (fun f fd F => F.binds fun _ _ _ _ _ _ us hl => match us, hl with | [_, _], _ => rfl) (by rintro _ _ ⟨_, _, _, rfl, _⟩; rfl) fun Y S Z ds d h => ?_
  have Se := S.toSe
  obtain ⟨p, t, v, rfl, hp, hm, hv, k0, k1, hc, hd, rfl⟩ := h
  refine ss_set S 2 (ev_call Se 0 (ok_least_power M) (by decide) (ar_cons (ev_var Se 0) (ar_consT (ev_tup (ar_cons (ev_ixT (ev_var Se 1) ev_int rfl) (ar_cons (ev_ixT (ev_var Se 1) ev_int rfl) ar_nil))) ar_nil)) ⟨p, [t.c, t.d], rfl, hp, by simp, det_of2 hv, rfl⟩) ?_
  refine ss_set S 3 (ev_sub (i := v) (ev_call Se 1 (ok_power_in M) (by decide) (ar_cons (ev_var Se 0) (ar_cons (ev_call Se 3 (ok_measure M) (by decide) (ar_cons (ev_var Se 1) ar_nil) ⟨t, rfl, hm, rfl⟩) ar_nil)) ⟨p, t.det, rfl, hp, by rw [hv]; rfl⟩) (ev_mul ev_int (ev_var Se 2) (.of_left (intBits_le_64 (by decide) (by decide))))) ?_
  cases ec : vq p t.c with
  | none =>
    have hn : ¬ (none : Option Int) = some (leastV p [t.c, t.d]) := fun z => nomatch z
    have hd' := hd (by rw [ec]; exact hn)
    have nn : t.d.num ≠ 0 := fun z => hd'.1 (Rat.num_eq_zero.mp z)
    rw [if_neg hn]
    refine ss_if (te_eqD Se (d1 := .non) (ev_call Se 1 (ok_power_in M) (by decide) (ar_cons (ev_var Se 0) (ar_cons (ev_ixT (ev_var Se 1) ev_int rfl) ar_nil)) ⟨p, t.c, rfl, hp, by rw [ec]; rfl⟩) (ev_var Se 2)) (fun h => ?_) (fun _ => ss_nil ?_)
    · exact absurd h (by simp [eqD, toPy, PyData.eqv])
    exact ss_ret (ev_tup (ar_cons (ev_var Se 3) (ar_cons (ev_call Se 2 (ok_rest_byN M) (by decide) (ar_cons (ev_var Se 0) (ar_cons (ev_var Se 3) (ar_cons (ev_call Se 4 (ok_over M) (by decide) (ar_cons (ev_ixT (ev_var Se 1) ev_int rfl) (ar_cons (ev_ixT (ev_var Se 1) ev_int rfl) ar_nil)) ⟨_, _, rfl, hm.ht.b, hm.ht.d, ⟨nn, rfl⟩⟩) ar_nil))) ⟨p, v - 2 * leastV p [t.c, t.d], t.b * t.d⁻¹, by rw [over_eq _ hd'.1], hp, k1, k0, hd'.2, rfl⟩) ar_nil))) rfl
  | some w =>
    have ee : eqD (.int w) (.int (leastV p [t.c, t.d])) = decide (w = leastV p [t.c, t.d]) := by
      show (w == leastV p [t.c, t.d]) = _
      by_cases z : w = leastV p [t.c, t.d] <;> simp [z]
    refine ss_if (te_eqD Se (d1 := .int w) (ev_call Se 1 (ok_power_in M) (by decide) (ar_cons (ev_var Se 0) (ar_cons (ev_ixT (ev_var Se 1) ev_int rfl) ar_nil)) ⟨p, t.c, rfl, hp, by rw [ec]; rfl⟩) (ev_var Se 2)) (fun h => ?_) (fun h => ss_nil ?_)
    · rw [ee] at h
      have hw : w = leastV p [t.c, t.d] := of_decide_eq_true h
      have hc' := hc (by rw [ec, hw])
      have c0 : t.c ≠ 0 := fun z => by rw [vq_none.mpr z] at ec; cases ec
      have nn : t.c.num ≠ 0 := fun z => c0 (Rat.num_eq_zero.mp z)
      rw [if_pos (by rw [hw])]
      exact ss_ret (ev_tup (ar_cons (ev_var Se 3) (ar_cons (ev_call Se 2 (ok_rest_byN M) (by decide) (ar_cons (ev_var Se 0) (ar_cons (ev_var Se 3) (ar_cons (ev_call Se 4 (ok_over M) (by decide) (ar_cons (ev_ixT (ev_var Se 1) ev_int rfl) (ar_cons (ev_ixT (ev_var Se 1) ev_int rfl) ar_nil)) ⟨_, _, rfl, hm.ht.a, hm.ht.c, ⟨nn, rfl⟩⟩) ar_nil))) ⟨p, v - 2 * leastV p [t.c, t.d], t.a * t.c⁻¹, by rw [over_eq _ c0], hp, k1, k0, hc', rfl⟩) ar_nil))) rfl
    · rw [ee] at h
      have hn : ¬ some w = some (leastV p [t.c, t.d]) := fun z => of_decide_eq_false h (by cases z; rfl)
      have hd' := hd (by rw [ec]; exact hn)
      have nn : t.d.num ≠ 0 := fun z => hd'.1 (Rat.num_eq_zero.mp z)
      rw [if_neg hn]
      exact ss_ret (ev_tup (ar_cons (ev_var Se 3) (ar_cons (ev_call Se 2 (ok_rest_byN M) (by decide) (ar_cons (ev_var Se 0) (ar_cons (ev_var Se 3) (ar_cons (ev_call Se 4 (ok_over M) (by decide) (ar_cons (ev_ixT (ev_var Se 1) ev_int rfl) (ar_cons (ev_ixT (ev_var Se 1) ev_int rfl) ar_nil)) ⟨_, _, rfl, hm.ht.b, hm.ht.d, ⟨nn, rfl⟩⟩) ar_nil))) ⟨p, v - 2 * leastV p [t.c, t.d], t.b * t.d⁻¹, by rw [over_eq _ hd'.1], hp, k1, k0, hd'.2, rfl⟩) ar_nil))) rfl
abbrev s_table_at : Stmt := top 32
theorem sc_table_at : ScB ["p", "spot"] ["p", "spot"] ["NOUGHT", "ONE", "prime_power"] (defScope s_table_at) := ⟨⟨rfl, rfl, rfl, by decide +kernel, rfl, by decide +kernel, by decide +kernel⟩, by decide +kernel, by decide +kernel⟩
theorem ok_table_at {T : Tx} (M : Mo T) : FnD T 3 "table_at" R_tabat := by
  refine fn_D M.F_table_at sc_table_at (fun f fd F => F.binds fun _ _ _ _ _ _ us hl => match us, hl with | [_, _], _ => rfl) (by rintro _ _ ⟨_, _, _, rfl, _, _, _, rfl⟩; rfl) fun Y S Z ds d h => ?_
  have Se := S.toSe
  obtain ⟨p, k, q, rfl, hp, k0, k1, rfl⟩ := h
  exact ss_ret (ev_tup (ar_cons (ev_call Se 2 (ok_prime_power M) (by decide) (ar_cons (ev_var Se 0) (ar_cons (ev_ixT (ev_var Se 1) ev_int rfl) ar_nil)) ⟨p, k, rfl, hp, k0, k1, rfl⟩) (ar_cons (ev_ixT (ev_var Se 1) ev_int rfl) (ar_cons (ev_cstT Se.toSn 0 M.k_NOUGHT) (ar_cons (ev_cstT Se.toSn 1 M.k_ONE) ar_nil))))) rfl
abbrev s_above : Stmt := top 33
theorem sc_above : ScB ["p", "spot", "k"] ["p", "spot", "k"] ["rest_by"] (defScope s_above) := ⟨⟨rfl, rfl, rfl, by decide +kernel, rfl, by decide +kernel, by decide +kernel⟩, by decide +kernel, by decide +kernel⟩
theorem ok_above {T : Tx} (M : Mo T) : FnD T 4 "spot_above" R_above := by
  refine fn_D M.F_above sc_above (fun f fd F => F.binds fun _ _ _ _ _ _ us hl => match us, hl with | [_, _, _], _ => rfl) (by rintro _ _ ⟨_, _, _, _, rfl, _, _, _, _, rfl⟩; rfl) fun Y S Z ds d h => ?_
  have Se := S.toSe
  obtain ⟨p, j, q, k, rfl, hp, fb, k0, k1, rfl⟩ := h
  exact ss_ret (ev_tup (ar_cons (ev_var Se 2) (ar_cons (ev_call Se 0 (ok_rest_byN M) (by decide) (ar_cons (ev_var Se 0) (ar_cons (ev_var Se 2) (ar_cons (ev_ixT (ev_var Se 1) ev_int rfl) ar_nil))) ⟨p, k, q, rfl, hp, k1, k0, fb, rfl⟩) ar_nil))) rfl
abbrev s_two_numbers : Stmt := top 35
theorem sc_two_numbers : ScB ["p", "table", "low"] ["p", "table"] ["least_power", "power_in", "measure"] (defScope s_two_numbers) := ⟨⟨rfl, rfl, rfl, by decide +kernel, rfl, by decide +kernel, by decide +kernel⟩, by decide +kernel, by decide +kernel⟩
theorem ok_two_numbers {T : Tx} (M : Mo T) : FnD T 5 "two_numbers" R_two := by
  refine fn_D M.F_two_numbers sc_two_numbers (fun f fd F => F.binds fun _ _ _ _ _ _ us hl => match us, hl with | [_, _], _ => rfl) (by rintro _ _ ⟨_, _, _, rfl, _, _, _, rfl⟩; rfl) fun Y S Z ds d h => ?_
  have Se := S.toSe
  obtain ⟨p, t, v, rfl, hp, hm, hv, rfl⟩ := h
  refine ss_set S 2 (ev_call Se 0 (ok_least_power M) (by decide) (ar_cons (ev_var Se 0) (ar_cons (ev_var Se 1) ar_nil)) ⟨p, [t.a, t.b, t.c, t.d], rfl, hp, by simp, det_of hv, rfl⟩) ?_
  exact ss_ret (ev_tup (ar_cons (ev_var Se 2) (ar_cons (ev_sub (i := v) (ev_call Se 1 (ok_power_in M) (by decide) (ar_cons (ev_var Se 0) (ar_cons (ev_call Se 2 (ok_measure M) (by decide) (ar_cons (ev_var Se 1) ar_nil) ⟨t, rfl, hm, rfl⟩) ar_nil)) ⟨p, t.det, rfl, hp, by rw [hv]; rfl⟩) (ev_var Se 2)) ar_nil))) rfl
abbrev s_lies78 : Stmt := top 36
theorem sc_lies78 : ScB ["p", "one", "other"] ["p", "one", "other"] ["two_numbers", "product", "turned_over", "table_at"] (defScope s_lies78) := ⟨⟨rfl, rfl, rfl, by decide +kernel, rfl, by decide +kernel, by decide +kernel⟩, by decide +kernel, by decide +kernel⟩
theorem ok_lies78 {T : Tx} (M : Mo T) : FnD T 6 "lies_in" R_lies78 := by
  refine fn_D M.F_lies78 sc_lies78 (fun f fd F => F.binds fun _ _ _ _ _ _ us hl => match us, hl with | [_, _, _], _ => rfl) (by rintro _ _ ⟨_, _, _, _, _, rfl, _, _, rfl⟩; rfl) fun Y S Z ds d h => ?_
  have Se := S.toSe
  obtain ⟨p, k1, q1, k2, q2, rfl, hp, hw, rfl⟩ := h
  have et := tabS_mul hp k1 k2 q1 q2
  have ta := hw.tb
  have hm : MOk ((tabS p k1 q1).inv.mul (tabS p k2 q2)) := by rw [et]; exact hw.mo
  have hv : vq p ((tabS p k1 q1).inv.mul (tabS p k2 q2)).det = some (k2 - k1) := by rw [et, two_det]; exact vq_ppw hp
  have a0 := hw.a0; have a1 := hw.a1; have b0 := hw.b0; have b1 := hw.b1
  refine ss_ret (ev_call Se 0 (ok_two_numbers M) (by decide) (ar_cons (ev_var Se 0) (ar_cons (ev_call Se 1 (ok_product M) (by decide) (ar_cons (ev_call Se 2 (ok_turned_over M) (by decide) (ar_cons (ev_call Se 3 (ok_table_at M) (by decide) (ar_cons (ev_var Se 0) (ar_cons (ev_var Se 1) ar_nil)) ⟨p, k1, q1, rfl, hp, by omega, by omega, rfl⟩) ar_nil) ⟨_, rfl, ta.1, ta.2.1, ta.2.2, rfl⟩) (ar_cons (ev_call Se 3 (ok_table_at M) (by decide) (ar_cons (ev_var Se 0) (ar_cons (ev_var Se 2) ar_nil)) ⟨p, k2, q2, rfl, hp, by omega, by omega, rfl⟩) ar_nil)) ⟨_, _, rfl, hw.po, rfl⟩) ar_nil)) ⟨p, _, k2 - k1, rfl, hp, hm, hv, rfl⟩) ?_
  have el : leastV p [((tabS p k1 q1).inv.mul (tabS p k2 q2)).a, ((tabS p k1 q1).inv.mul (tabS p k2 q2)).b, ((tabS p k1 q1).inv.mul (tabS p k2 q2)).c, ((tabS p k1 q1).inv.mul (tabS p k2 q2)).d] = lowS p k1 q1 k2 q2 := by
    rw [et]
    exact least_two hp k1 k2 q1 q2
  show D.tup _ = D.tup _
  rw [el]
abbrev s_way78 : Stmt := top 37
theorem sc_way78 : ScB ["p", "one", "other", "numbers"] ["p", "one", "other"] ["lies_in"] (defScope s_way78) := ⟨⟨rfl, rfl, rfl, by decide +kernel, rfl, by decide +kernel, by decide +kernel⟩, by decide +kernel, by decide +kernel⟩
theorem ok_way78 {T : Tx} (M : Mo T) : FnD T 7 "way" R_way78 := by
  refine fn_D M.F_way78 sc_way78 (fun f fd F => F.binds fun _ _ _ _ _ _ us hl => match us, hl with | [_, _, _], _ => rfl) (by rintro _ _ ⟨_, _, _, _, _, rfl, _, _, rfl⟩; rfl) fun Y S Z ds d h => ?_
  have Se := S.toSe
  obtain ⟨p, k1, q1, k2, q2, rfl, hp, hw, rfl⟩ := h
  refine ss_set S 3 (ev_call Se 0 (ok_lies78 M) (by decide) (ar_cons (ev_var Se 0) (ar_cons (ev_var Se 1) (ar_cons (ev_var Se 2) ar_nil))) ⟨p, k1, q1, k2, q2, rfl, hp, hw, rfl⟩) ?_
  exact ss_ret (ev_sub (ev_ixT (ev_var Se 3) ev_int rfl) (ev_ixT (ev_var Se 3) ev_int rfl)) rfl
abbrev s_moved : Stmt := top 39
theorem sc_moved : ScB ["p", "table", "spot"] ["p", "table", "spot"] ["spot_of", "product", "table_at"] (defScope s_moved) := ⟨⟨rfl, rfl, rfl, by decide +kernel, rfl, by decide +kernel, by decide +kernel⟩, by decide +kernel, by decide +kernel⟩
theorem ok_moved {T : Tx} (M : Mo T) : FnD T 6 "moved" R_moved := by
  refine fn_D M.F_moved sc_moved (fun f fd F => F.binds fun _ _ _ _ _ _ us hl => match us, hl with | [_, _, _], _ => rfl) (by rintro _ _ ⟨_, _, _, _, _, _, _, rfl, _⟩; rfl) fun Y S Z ds d h => ?_
  have Se := S.toSe
  obtain ⟨p, a, k, q, n, K, m, rfl, hp, ha, hb, hq, k0, k1, hm, hnm, rfl⟩ := h
  have ts := tabS_bd hp hq k0 k1 hm
  have mb := mulS_bd hb ts
  exact ss_ret (ev_call Se 0 (ok_spot_of M) (by decide) (ar_cons (ev_var Se 0) (ar_cons (ev_call Se 1 (ok_product M) (by decide) (ar_cons (ev_var Se 1) (ar_cons (ev_call Se 2 (ok_table_at M) (by decide) (ar_cons (ev_var Se 0) (ar_cons (ev_var Se 2) ar_nil)) ⟨p, k, q, rfl, hp, by omega, by omega, rfl⟩) ar_nil)) ⟨a, tabS p k q, rfl, hb.pok ts (by omega), rfl⟩) ar_nil)) (spotof_R hp (mul_ne ha (tabS_ne hp k q)) mb (by omega))) rfl
abbrev s_turn78 : Stmt := top 44
theorem sc_turn78 : ScB ["p", "one", "other"] ["p", "one", "other"] ["spot_above", "lies_in"] (defScope s_turn78) := ⟨⟨rfl, rfl, rfl, by decide +kernel, rfl, by decide +kernel, by decide +kernel⟩, by decide +kernel, by decide +kernel⟩
theorem ok_turn78 {T : Tx} (M : Mo T) : FnD T 7 "turn_between" R_turn78 := by
  refine fn_D M.F_turn78 sc_turn78 (fun f fd F => F.binds fun _ _ _ _ _ _ us hl => match us, hl with | [_, _, _], _ => rfl) (by rintro _ _ ⟨_, _, _, _, _, rfl, _, _, _, rfl⟩; rfl) fun Y S Z ds d h => ?_
  have Se := S.toSe
  obtain ⟨p, k1, q1, k2, q2, rfl, hp, hw, hl, rfl⟩ := h
  have lv0 := (lv_iff hp k1 k2 _ q1 q2).mp (Int.le_refl (lvS p k1 q1 k2 q2))
  have e : k1 + lowS p k1 q1 k2 q2 = lvS p k1 q1 k2 q2 := by unfold lvS; omega
  have a := hw.a1
  have lv1 := lv0.1
  rw [← e] at hl lv1
  rw [← e]
  exact ss_ret (ev_call Se 0 (ok_above M) (by decide) (ar_cons (ev_var Se 0) (ar_cons (ev_var Se 1) (ar_cons (ev_add (ev_ixT (ev_var Se 1) ev_int rfl) (ev_ixT (ev_call Se 1 (ok_lies78 M) (by decide) (ar_cons (ev_var Se 0) (ar_cons (ev_var Se 1) (ar_cons (ev_var Se 2) ar_nil))) ⟨p, k1, q1, k2, q2, rfl, hp, hw, rfl⟩) ev_int rfl)) ar_nil))) ⟨p, k1, q1, k1 + lowS p k1 q1 k2 q2, rfl, hp, hw.f1, by omega, by omega, rfl⟩) rfl
abbrev s_sb78 : Stmt := top 43
theorem sc_sb78 : ScB ["p", "one", "other", "turn", "up", "down"] ["p", "one", "other"] ["turn_between", "range"] (defScope s_sb78) := ⟨⟨rfl, rfl, rfl, by decide +kernel, rfl, by decide +kernel, by decide +kernel⟩, by decide +kernel, by decide +kernel⟩
theorem ok_sb78 {T : Tx} (M : Mo T) : FnO T 8 "spots_between" R_sbO78 := by
  refine fn_O M.F_sb78 sc_sb78 (fun f fd F => F.binds fun _ _ _ _ _ _ us hl => match us, hl with | [_, _, _], _ => rfl) (by rintro _ _ ⟨_, _, _, rfl, _⟩; rfl) fun Y S Z ds l h => ?_
  have Se := S.toSe
  obtain ⟨p, a, b, rfl, hp, hw, hl, rfl⟩ := h
  have lv0 := (lv_iff hp a.1 b.1 _ a.2 b.2).mp (Int.le_refl (lvS p a.1 a.2 b.1 b.2))
  have lb : -3000 ≤ lvS p a.1 a.2 b.1 b.2 ∧ lvS p a.1 a.2 b.1 b.2 ≤ a.1 ∧ lvS p a.1 a.2 b.1 b.2 ≤ b.1 := ⟨hl, lv0.1, lv0.2.1⟩
  have a0 := hw.a0; have a1 := hw.a1; have b0 := hw.b0; have b1 := hw.b1
  have fa := hw.f1; have fb := hw.f2
  refine ss_set S 3 (ev_ixT (ev_call Se 0 (ok_turn78 M) (by decide) (ar_cons (ev_var Se 0) (ar_cons (ev_var Se 1) (ar_cons (ev_var Se 2) ar_nil))) ⟨p, a.1, a.2, b.1, b.2, rfl, hp, hw, hl, rfl⟩) ev_int rfl) ?_
  unfold roadL
  clear hl lv0 hw
  generalize lvS p a.1 a.2 b.1 b.2 = t at *
  refine ss_setCM S 4 (ds := (List.range (a.1 - (t - 1)).toNat).map fun (j : Nat) => stD (abv p a (a.1 + (j : Int) * (-1)))) (tn := ["k"]) (fs := ["p", "one"]) (ix := [0, 1]) (G' := ["spot_above"]) (items := rangeD a.1 (-1) (a.1 - (t - 1)).toNat) Z.sc ?B1 (it_rangeD Se 1 (ar_cons (ev_ixT (ev_var Se 1) ev_int rfl) (ar_cons (ev_sub (ev_var Se 3) ev_int) (ar_cons (ev_neg ev_int) ar_nil))) ⟨by omega, by omega, by omega, by omega⟩ M.b_range) (by simp [rangeD]) (by rw [List.length_map, List.length_range]; omega) ?T1 (swapC_at Z.sc fun _ => rfl) ?_
  case B1 => exact ⟨rfl, rfl, by decide +kernel, by decide +kernel, by decide +kernel, by decide +kernel, by decide +kernel, by decide +kernel, rfl, by decide +kernel⟩
  case T1 =>
    intro Y' S' hl m d r hd hr ts hts
    obtain ⟨hm, rfl⟩ := rangeD_of hd
    obtain ⟨t1, rfl⟩ : ∃ t1, ts = [t1] := List.length_eq_one_iff.mp hts
    rw [List.getElem?_map, List.getElem?_range hm] at hr
    cases hr
    exact ⟨[_], rfl, rfl, tg_name0 S'.toSn 0 (.inr (hl _ (by simp))), ev_call S' 0 (ok_above M) (by decide) (ar_cons (ev_var S' 1) (ar_cons (ev_var S' 2) (ar_cons (ev_var S' 0) ar_nil))) ⟨p, a.1, a.2, a.1 + (m : Int) * (-1), rfl, hp, fa, by omega, by omega, rfl⟩⟩
  refine ss_setCM S 5 (ds := (List.range (b.1 + 1 - (t + 1)).toNat).map fun (j : Nat) => stD (abv p b (t + 1 + (j : Int) * 1))) (tn := ["k"]) (fs := ["p", "other"]) (ix := [0, 2]) (G' := ["spot_above"]) (items := rangeD (t + 1) 1 (b.1 + 1 - (t + 1)).toNat) Z.sc ?B2 (it_range2 Se 1 (ar_cons (ev_add (ev_var Se 3) ev_int) (ar_cons (ev_add (ev_ixT (ev_var Se 2) ev_int rfl) ev_int) ar_nil)) ⟨by omega, by omega, by omega, by omega⟩ M.b_range) (by simp [rangeD]) (by rw [List.length_map, List.length_range]; omega) ?T2 (swapC_at Z.sc fun _ => rfl) ?_
  case B2 => exact ⟨rfl, rfl, by decide +kernel, by decide +kernel, by decide +kernel, by decide +kernel, by decide +kernel, by decide +kernel, rfl, by decide +kernel⟩
  case T2 =>
    intro Y' S' hl m d r hd hr ts hts
    obtain ⟨hm, rfl⟩ := rangeD_of hd
    obtain ⟨t1, rfl⟩ : ∃ t1, ts = [t1] := List.length_eq_one_iff.mp hts
    rw [List.getElem?_map, List.getElem?_range hm] at hr
    cases hr
    exact ⟨[_], rfl, rfl, tg_name0 S'.toSn 0 (.inr (hl _ (by simp))), ev_call S' 0 (ok_above M) (by decide) (ar_cons (ev_var S' 1) (ar_cons (ev_var S' 2) (ar_cons (ev_var S' 0) ar_nil))) ⟨p, b.1, b.2, t + 1 + (m : Int) * 1, rfl, hp, fb, by omega, by omega, rfl⟩⟩

  refine ss_retO (ow_catL (ev_var Se 4) (ev_var Se 5) (by rw [List.length_map, List.length_map, List.length_range, List.length_range]; omega)) ?_
  exact road_D (p := p) a b _ _ _ _
abbrev s_road79 : Stmt := top 42
theorem sc_road79 : ScB ["p", "one", "other", "far"] ["p", "one", "other"] ["way", "FURTHEST_WAY", "spots_between", "TooFar"] (defScope s_road79) := ⟨⟨rfl, rfl, rfl, by decide +kernel, rfl, by decide +kernel, by decide +kernel⟩, by decide +kernel, by decide +kernel⟩
theorem ok_road79 {T : Tx} (M : Mo T) : FnO T 9 "road" R_road79 := by
  refine fn_O M.F_road79 sc_road79 (fun f fd F => F.binds fun _ _ _ _ _ _ us hl => match us, hl with | [_, _, _], _ => rfl) (by rintro _ _ ⟨_, _, _, rfl, _⟩; rfl) fun Y S Z ds l h => ?_
  have Se := S.toSe
  obtain ⟨p, a, b, rfl, hp, hw, hl, h5, rfl⟩ := h
  refine ss_set S 3 (d := .int (wy p a b)) (ev_call Se 0 (ok_way78 M) (by decide) (ar_cons (ev_var Se 0) (ar_cons (ev_var Se 1) (ar_cons (ev_var Se 2) ar_nil))) ⟨p, a.1, a.2, b.1, b.2, rfl, hp, hw, rfl⟩) ?_
  refine ss_if (te_gt (ev_var Se 3) (ev_cstI Se.toSn 1 M.k_FURTHEST_WAY)) (fun h => absurd (of_decide_eq_true h) (by omega)) (fun _ => ss_nil ?_)
  exact ss_retO (ow_call Se 2 (ok_sb78 M) (by decide) (ar_cons (ev_var Se 0) (ar_cons (ev_var Se 1) (ar_cons (ev_var Se 2) ar_nil))) ⟨p, a, b, rfl, hp, hw, hl, rfl⟩) rfl
abbrev s_along78 : Stmt := top 45
theorem sc_along78 : ScB ["p", "one", "other", "steps", "up"] ["p", "one", "other", "steps"] ["spot_above", "turn_between"] (defScope s_along78) := ⟨⟨rfl, rfl, rfl, by decide +kernel, rfl, by decide +kernel, by decide +kernel⟩, by decide +kernel, by decide +kernel⟩
theorem ok_along78 {T : Tx} (M : Mo T) : FnD T 8 "spot_along" R_along78 := by
  refine fn_D M.F_along78 sc_along78 (fun f fd F => F.binds fun _ _ _ _ _ _ us hl => match us, hl with | [_, _, _, _], _ => rfl) (by rintro _ _ ⟨_, _, _, _, rfl, _⟩; rfl) fun Y S Z ds d h => ?_
  have Se := S.toSe
  obtain ⟨p, a, b, j, rfl, hp, hw, hl, j0, j1, rfl⟩ := h
  have lv0 := (lv_iff hp a.1 b.1 _ a.2 b.2).mp (Int.le_refl (lvS p a.1 a.2 b.1 b.2))
  have a0 := hw.a0; have a1 := hw.a1; have b0 := hw.b0; have b1 := hw.b1
  have lv1 := lv0.1
  refine ss_set S 4 (d := .int (a.1 - lvS p a.1 a.2 b.1 b.2)) (ev_sub (ev_ixT (ev_var Se 1) ev_int rfl) (ev_ixT (ev_call Se 1 (ok_turn78 M) (by decide) (ar_cons (ev_var Se 0) (ar_cons (ev_var Se 1) (ar_cons (ev_var Se 2) ar_nil))) ⟨p, a.1, a.2, b.1, b.2, rfl, hp, hw, hl, rfl⟩) ev_int rfl)) ?_
  unfold alongS
  generalize lvS p a.1 a.2 b.1 b.2 = t at *
  refine ss_if (te_le (ev_var Se 3) (ev_var Se 4)) (fun h => ?_) (fun h => ss_nil ?_)
  · rw [if_pos (of_decide_eq_true h)]
    exact ss_ret (ev_call Se 0 (ok_above M) (by decide) (ar_cons (ev_var Se 0) (ar_cons (ev_var Se 1) (ar_cons (ev_sub (ev_ixT (ev_var Se 1) ev_int rfl) (ev_var Se 3)) ar_nil))) ⟨p, a.1, a.2, a.1 - j, rfl, hp, hw.f1, by omega, by omega, rfl⟩) rfl
  · rw [if_neg (of_decide_eq_false h)]
    exact ss_ret (ev_call Se 0 (ok_above M) (by decide) (ar_cons (ev_var Se 0) (ar_cons (ev_var Se 2) (ar_cons (ev_add (ev_sub (ev_ixT (ev_var Se 1) ev_int rfl) (ev_mul ev_int (ev_var Se 4) (.of_left (intBits_le_64 (by decide) (by decide))))) (ev_var Se 3)) ar_nil))) ⟨p, b.1, b.2, a.1 - 2 * (a.1 - t) + j, rfl, hp, hw.f2, by omega, by omega, rfl⟩) rfl
abbrev s_tied79 : Stmt := top 47
theorem sc_tied79 : ScB ["p", "one", "other"] ["p", "one", "other"] ["way"] (defScope s_tied79) := ⟨⟨rfl, rfl, rfl, by decide +kernel, rfl, by decide +kernel, by decide +kernel⟩, by decide +kernel, by decide +kernel⟩
theorem ok_tied79 {T : Tx} (M : Mo T) : FnD T 8 "tied" R_tied79 := by
  refine fn_D M.F_tied79 sc_tied79 (fun f fd F => F.binds fun _ _ _ _ _ _ us hl => match us, hl with | [_, _, _], _ => rfl) (by rintro _ _ ⟨_, _, _, _, _, rfl, _, _, rfl⟩; rfl) fun Y S Z ds d h => ?_
  have Se := S.toSe
  obtain ⟨p, k1, q1, k2, q2, rfl, hp, hw, rfl⟩ := h
  exact ss_ret (ev_eqI (ev_call Se 0 (ok_way78 M) (by decide) (ar_cons (ev_var Se 0) (ar_cons (ev_var Se 1) (ar_cons (ev_var Se 2) ar_nil))) ⟨p, k1, q1, k2, q2, rfl, hp, hw, rfl⟩) ev_int) rfl
abbrev s_slide79 : Stmt := top 53
theorem sc_slide79 : ScB ["p", "table", "power"] ["p", "table"] ["power_in", "max", "trace", "measure"] (defScope s_slide79) := ⟨⟨rfl, rfl, rfl, by decide +kernel, rfl, by decide +kernel, by decide +kernel⟩, by decide +kernel, by decide +kernel⟩
theorem ok_slide79 {T : Tx} (M : Mo T) : FnD T 5 "slide" R_slide79 := by
  refine fn_D M.F_slide79 sc_slide79 (fun f fd F => F.binds fun _ _ _ _ _ _ us hl => match us, hl with | [_, _], _ => rfl) (by rintro _ _ ⟨_, _, rfl, _⟩; rfl) fun Y S Z ds d h => ?_
  have Se := S.toSe
  obtain ⟨p, t, rfl, hp, hd, ht, rfl⟩ := h
  obtain ⟨v2, h2⟩ := vq_ex79 (p := p) hd
  have tb : Tbb 4400 t := ht.mono (by decide)
  have mo : MOk t := ht.mok (by decide)
  unfold slS
  rw [h2]
  cases h1 : vq p (t.a + t.d) with
  | none =>
    refine ss_set S 2 (d := .non) (ev_call Se 0 (ok_power_in M) (by decide) (ar_cons (ev_var Se 0) (ar_cons (ev_call Se 2 (ok_trace M) (by decide) (ar_cons (ev_var Se 1) ar_nil) ⟨t, rfl, tb, rfl⟩) ar_nil)) ⟨p, t.a + t.d, rfl, hp, by rw [h1]; rfl⟩) ?_
    exact ss_if (te_isN (d := .non) (ev_var Se 2)) (fun _ => ss_ret ev_int rfl) (fun h => nomatch h)
  | some v1 =>
    refine ss_set S 2 (d := .int v1) (ev_call Se 0 (ok_power_in M) (by decide) (ar_cons (ev_var Se 0) (ar_cons (ev_call Se 2 (ok_trace M) (by decide) (ar_cons (ev_var Se 1) ar_nil) ⟨t, rfl, tb, rfl⟩) ar_nil)) ⟨p, t.a + t.d, rfl, hp, by rw [h1]; rfl⟩) ?_
    refine ss_if (te_isN (d := .int v1) (ev_var Se 2)) (fun h => nomatch h) (fun _ => ss_nil ?_)
    exact ss_ret (ev_max Se 1 (ar_cons ev_int (ar_cons (ev_sub (i := v2) (ev_call Se 0 (ok_power_in M) (by decide) (ar_cons (ev_var Se 0) (ar_cons (ev_call Se 3 (ok_measure M) (by decide) (ar_cons (ev_var Se 1) ar_nil) ⟨t, rfl, mo, rfl⟩) ar_nil)) ⟨p, t.det, rfl, hp, by rw [h2]; rfl⟩) (ev_mul ev_int (ev_var Se 2) (.of_left (intBits_le_64 (by decide) (by decide))))) ar_nil)) M.b_max) rfl
abbrev s_kind79 : Stmt := top 52
theorem sc_kind79 : ScB ["p", "table", "there", "one", "other", "steps"] ["p", "table"] ["moved", "FIRST", "spot_along", "slide", "SLIDES", "KEEPS", "TURNS", "road", "way", "min", "max"] (defScope s_kind79) := ⟨⟨rfl, rfl, rfl, by decide +kernel, rfl, by decide +kernel, by decide +kernel⟩, by decide +kernel, by decide +kernel⟩
theorem ok_kind79 {T : Tx} (M : Mo T) : FnD T 10 "kind" R_kind79 := by
  refine fn_D M.F_kind79 sc_kind79 (fun f fd F => F.binds fun _ _ _ _ _ _ us hl => match us, hl with | [_, _], _ => rfl) (by rintro _ _ ⟨_, _, rfl, _⟩; rfl) fun Y S Z ds d h => ?_
  have Se := S.toSe
  obtain ⟨p, t, rfl, hp, hd, ht, hD, rfl⟩ := h
  have n0 := nr_first79 hp
  have e0 := far_first79 hp hd
  have nn := wy_nn79 hp (0, 0) (movS p t (0, 0))
  have nt : Nr p 400 (movS p t (0, 0)) := ⟨mov_own79 hp _ _, by omega⟩
  have wt := n0.wk hp nt (by decide) (by decide) (by decide)
  have lt := n0.lb hp nt
  refine ss_set S 2 (d := stD (movS p t (0, 0))) (ev_call Se 0 (ok_moved M) (by decide) (ar_cons (ev_var Se 0) (ar_cons (ev_var Se 1) (ar_cons (ev_cstP Se.toSn 1 M.k_FIRST) ar_nil))) ⟨p, t, 0, 0, 673, 0, 1, rfl, hp, hd, ht, fb_zero, by decide, by decide, by decide, by decide, rfl⟩) ?_
  refine ss_set S 3 (d := stD (midS p t (0, 0))) (ev_call Se 2 (ok_along78 M) (by decide) (ar_cons (ev_var Se 0) (ar_cons (ev_cstP Se.toSn 1 M.k_FIRST) (ar_cons (ev_var Se 2) (ar_cons (ev_fdivP (ev_call Se 8 (ok_way78 M) (by decide) (ar_cons (ev_var Se 0) (ar_cons (ev_cstP Se.toSn 1 M.k_FIRST) (ar_cons (ev_var Se 2) ar_nil))) ⟨p, 0, 0, (movS p t (0, 0)).1, (movS p t (0, 0)).2, rfl, hp, wt, rfl⟩) ev_int (by decide) (by decide +kernel)) ar_nil)))) ⟨p, (0, 0), movS p t (0, 0), wy p (0, 0) (movS p t (0, 0)) / 2, rfl, hp, wt, by omega, by omega, by omega, rfl⟩) ?_
  have nm := mid_nr79 hp hd (D := 400) (by omega)
  have hm : slS p t = 0 → midS p t (0, 0) ≠ movS p t (midS p t (0, 0)) → (midS p t (0, 0)).1 ≠ (movS p t (midS p t (0, 0))).1 := fun hs ne => by
    obtain ⟨v, hv⟩ := vq_ex79 (p := p) hd
    rcases Int.emod_two_eq v with h2 | h2
    · exact absurd (keeps79 hp hv hs h2 (0, 0)).symm ne
    · exact wy_odd79 _ _ (turns79 hp hv hs h2 (0, 0)).1
  have hs : slS p t ≠ 0 → wy p (midS p t (0, 0)) (movS p t (midS p t (0, 0))) = slS p t := fun h => slides79 hp hd (by have := sl_nn79 (p := p) t; omega) (0, 0)
  have sle := sl_le79 hp hd
  have oq := mov_own79 hp t (midS p t (0, 0))
  unfold kindD
  generalize midS p t (0, 0) = m at *
  have nm : Nr p 200 m := nm
  refine ss_set S 4 (d := stD (movS p t m)) (ev_call Se 0 (ok_moved M) (by decide) (ar_cons (ev_var Se 0) (ar_cons (ev_var Se 1) (ar_cons (ev_var Se 3) ar_nil))) ⟨p, t, m.1, m.2, 673, 200, 601, rfl, hp, hd, ht, nm.fb hp, (nm.k hp).1, (nm.k hp).2, by decide, by decide, rfl⟩) ?_
  generalize movS p t m = q at *
  refine ss_if (te_eqD Se (d1 := stD m) (d2 := stD q) (ev_var Se 3) (ev_var Se 4) rfl rfl) (fun h => ?_) (fun h => ss_nil ?_)
  · rw [eq_st42] at h
    rw [if_pos (of_decide_eq_true h)]
    exact ss_ret (ev_tup (ar_cons (ev_cstS Se.toSn 5 M.k_KEEPS) (ar_cons (ev_var Se 3) ar_nil))) rfl
  rw [eq_st42] at h
  have ne : ¬ m = q := of_decide_eq_false h
  rw [if_neg ne]
  refine ss_set S 5 (d := .int (slS p t)) (ev_call Se 3 (ok_slide79 M) (by decide) (ar_cons (ev_var Se 0) (ar_cons (ev_var Se 1) ar_nil)) ⟨p, t, rfl, hp, hd, ht, rfl⟩) ?_
  refine ss_if (te_eqI (ev_var Se 5) ev_int) (fun h => ?_) (fun h => ss_nil ?_)
  · have z : slS p t = 0 := of_decide_eq_true h
    rw [if_pos z]
    have hne := hm z ne
    refine ss_ret (ev_tup (ar_cons (ev_cstS Se.toSn 6 M.k_TURNS) (ar_cons (d := if q.1 < m.1 then stD q else stD m) ?MI (ar_cons (d := if m.1 < q.1 then stD q else stD m) ?MA ar_nil)))) rfl
    case MI => exact ev_min2T Se 9 (s := (m.1, frD m.2)) (t := (q.1, frD q.2)) (ar_cons (ev_var Se 3) (ar_cons (ev_var Se 4) ar_nil)) hne M.b_min
    case MA => exact ev_max2T Se 10 (s := (m.1, frD m.2)) (t := (q.1, frD q.2)) (ar_cons (ev_var Se 3) (ar_cons (ev_var Se 4) ar_nil)) hne M.b_max
  have z : ¬ slS p t = 0 := of_decide_eq_false h
  rw [if_neg z]
  have hw := hs z
  have nq : Nr p 600 q := nm.to hp oq (n := slS p t) (by omega) (by omega)
  have wk := nm.wk hp nq (by decide) (by decide) (by decide)
  have lb := nm.lb hp nq
  exact ss_ret (ev_tup (ar_cons (ev_cstS Se.toSn 4 M.k_SLIDES) (ar_cons (ev_var Se 5) (ar_cons (ev_ow (ow_call Se 7 (ok_road79 M) (by decide) (ar_cons (ev_var Se 0) (ar_cons (ev_var Se 3) (ar_cons (ev_var Se 4) ar_nil))) ⟨p, m, q, rfl, hp, wk, by omega, by omega, rfl⟩)) ar_nil)))) rfl
abbrev s_kept79 : Stmt := top 54
theorem sc_kept79 : ScB ["p", "table", "spot"] ["p", "table", "spot"] ["moved"] (defScope s_kept79) := ⟨⟨rfl, rfl, rfl, by decide +kernel, rfl, by decide +kernel, by decide +kernel⟩, by decide +kernel, by decide +kernel⟩
theorem ok_kept79 {T : Tx} (M : Mo T) : FnD T 7 "is_kept" R_kept79 := by
  refine fn_D M.F_kept79 sc_kept79 (fun f fd F => F.binds fun _ _ _ _ _ _ us hl => match us, hl with | [_, _, _], _ => rfl) (by rintro _ _ ⟨_, _, _, rfl, _⟩; rfl) fun Y S Z ds d h => ?_
  have Se := S.toSe
  obtain ⟨p, t, u, rfl, hp, hd, ht, nu, hm, rfl⟩ := h
  refine ss_ret (ev_eqD Se (d1 := stD (movS p t u)) (d2 := stD u) (ev_call Se 0 (ok_moved M) (by decide) (ar_cons (ev_var Se 0) (ar_cons (ev_var Se 1) (ar_cons (ev_var Se 2) ar_nil))) ⟨p, t, u.1, u.2, 673, 210, 631, rfl, hp, hd, ht, nu.fb hp, (nu.k hp).1, (nu.k hp).2, by decide, by decide, rfl⟩) (ev_var Se 2) rfl rfl) ?_
  rw [eq_st42, hm]
  exact congrArg D.bl (decide_eq_true rfl)
abbrev s_stretch79 : Stmt := top 57
theorem sc_stretch79 : ScB ["p", "table", "steps", "stretch", "last"] ["p", "table", "steps", "stretch"] ["moved", "slide", "len", "way", "spots_between"] (defScope s_stretch79) := ⟨⟨rfl, rfl, rfl, by decide +kernel, rfl, by decide +kernel, by decide +kernel⟩, by decide +kernel, by decide +kernel⟩
theorem ok_stretch79 {T : Tx} (M : Mo T) : FnD T 9 "is_stretch" R_stretch79 := by
  refine fn_D M.F_stretch79 sc_stretch79 (fun f fd F => F.binds fun _ _ _ _ _ _ us hl => match us, hl with | [_, _, _, _], _ => rfl) (by rintro _ _ ⟨_, _, _, _, _, rfl, _⟩; rfl) fun Y S Z ds d h => ?_
  have Se := S.toSe
  obtain ⟨p, t, a, b, n, rfl, hp, hd, ht, na, nb, w1, n0, ma, sl, rfl⟩ := h
  have wk := na.wk hp nb (by decide) (by decide) (by decide)
  have lb := na.lb hp nb
  have ln := rd_len79 hp a b
  have at0 := rd_at79 hp na.own b
  refine ss_if (te_or (te_eqI (ev_var Se 2) ev_int) fun _ => te_or (te_neI (i := n) (j := n) (ev_var Se 2) ?SL) fun _ => te_or1 (te_neI (i := n + 1) (j := n + 1) ?LN (ev_add (ev_var Se 2) ev_int))).pt (fun h => ?_) (fun _ => ss_nil ?_)
  case SL =>
    have e : D.int n = .int (slS p t) := by rw [sl]
    rw [e]
    exact (ev_call Se 1 (ok_slide79 M) (by decide) (ar_cons (ev_var Se 0) (ar_cons (ev_var Se 1) ar_nil)) ⟨p, t, rfl, hp, hd, ht, rfl⟩)
  case LN =>
    have e : n + 1 = ((rdD p a b).length : Int) := by omega
    rw [e]
    exact ev_len Se 2 (ar_cons (ev_var Se 3) ar_nil) rfl M.b_len
  · exfalso
    have q : ¬ n = 0 := by omega
    simp [q] at h
  refine ss_set S 4 (d := stD b) ?M ?_
  case M =>
    rw [show stD b = stD (movS p t a) by rw [ma]]
    exact (ev_call Se 0 (ok_moved M) (by decide) (ar_cons (ev_var Se 0) (ar_cons (ev_var Se 1) (ar_cons (ev_ixL (ev_var Se 3) ev_int at0) ar_nil))) ⟨p, t, a.1, a.2, 673, 210, 631, rfl, hp, hd, ht, na.fb hp, (na.k hp).1, (na.k hp).2, by decide, by decide, rfl⟩)
  refine ss_ret (ev_and (ev_eqI (i := n) (j := n) ?W (ev_var Se 2)) fun _ => ev_one (ev_eqD Se (d1 := .lst (rdD p a b)) (d2 := .lst (rdD p a b)) (ev_var Se 3) (ev_ow ?R) (sh_tris _) (sh_tris _))) ?_
  case W =>
    have e : D.int n = .int (wayS p a.1 a.2 b.1 b.2) := congrArg D.int w1.symm
    rw [e]
    exact (ev_call Se 3 (ok_way78 M) (by decide) (ar_cons (ev_var Se 0) (ar_cons (ev_ixL (ev_var Se 3) ev_int at0) (ar_cons (ev_var Se 4) ar_nil))) ⟨p, a.1, a.2, b.1, b.2, rfl, hp, wk, rfl⟩)
  case R => exact (ow_call Se 4 (ok_sb78 M) (by decide) (ar_cons (ev_var Se 0) (ar_cons (ev_ixL (ev_var Se 3) ev_int at0) (ar_cons (ev_var Se 4) ar_nil))) ⟨p, a, b, rfl, hp, wk, by omega, rfl⟩)
  have e : eqD (.lst (rdD p a b)) (.lst (rdD p a b)) = true := eq_tris _
  rw [e, decide_eq_true rfl]
  rfl
abbrev s_turned79 : Stmt := top 56
theorem sc_turned79 : ScB ["p", "table", "one", "other"] ["p", "table", "one", "other"] ["tied", "moved"] (defScope s_turned79) := ⟨⟨rfl, rfl, rfl, by decide +kernel, rfl, by decide +kernel, by decide +kernel⟩, by decide +kernel, by decide +kernel⟩
theorem ok_turned79 {T : Tx} (M : Mo T) : FnD T 9 "is_turned" R_turned79 := by
  refine fn_D M.F_turned79 sc_turned79 (fun f fd F => F.binds fun _ _ _ _ _ _ us hl => match us, hl with | [_, _, _, _], _ => rfl) (by rintro _ _ ⟨_, _, _, _, rfl, _⟩; rfl) fun Y S Z ds d h => ?_
  have Se := S.toSe
  obtain ⟨p, t, a, b, rfl, hp, hd, ht, na, nb, lt, w1, ma, mb, rfl⟩ := h
  have wk := na.wk hp nb (by decide) (by decide) (by decide)
  refine ss_if (te_or (te_not (te_ltP Se (s := (a.1, frD a.2)) (t := (b.1, frD b.2)) (ev_var Se 2) (ev_var Se 3) (Int.ne_of_lt lt))) fun _ => te_or1 (te_not (te_val (ev_call Se 0 (ok_tied79 M) (by decide) (ar_cons (ev_var Se 0) (ar_cons (ev_var Se 2) (ar_cons (ev_var Se 3) ar_nil))) ⟨p, a.1, a.2, b.1, b.2, rfl, hp, wk, rfl⟩)))).pt (fun h => ?_) (fun _ => ss_nil ?_)
  · exfalso
    have l' : a.1 < b.1 := lt
    have w' : wayS p a.1 a.2 b.1 b.2 = 1 := w1
    simp [l', w'] at h
  refine ss_ret (ev_and (ev_eqD Se (d1 := stD (movS p t a)) (d2 := stD b) (ev_call Se 1 (ok_moved M) (by decide) (ar_cons (ev_var Se 0) (ar_cons (ev_var Se 1) (ar_cons (ev_var Se 2) ar_nil))) ⟨p, t, a.1, a.2, 673, 210, 631, rfl, hp, hd, ht, na.fb hp, (na.k hp).1, (na.k hp).2, by decide, by decide, rfl⟩) (ev_var Se 3) rfl rfl) fun _ => ev_one (ev_eqD Se (d1 := stD (movS p t b)) (d2 := stD a) (ev_call Se 1 (ok_moved M) (by decide) (ar_cons (ev_var Se 0) (ar_cons (ev_var Se 1) (ar_cons (ev_var Se 3) ar_nil))) ⟨p, t, b.1, b.2, 673, 210, 631, rfl, hp, hd, ht, nb.fb hp, (nb.k hp).1, (nb.k hp).2, by decide, by decide, rfl⟩) (ev_var Se 2) rfl rfl)) ?_
  rw [eq_st42, eq_st42, ma, mb]
  show (if decide (b = b) = true then D.bl (decide (a = a)) else .bl false) = .bl true
  rw [decide_eq_true rfl, decide_eq_true rfl]
  rfl
abbrev s_holds79 : Stmt := top 55
theorem sc_holds79 : ScB ["p", "table", "told"] ["p", "table", "told"] ["KEEPS", "TURNS", "is_stretch", "is_kept", "is_turned"] (defScope s_holds79) := ⟨⟨rfl, rfl, rfl, by decide +kernel, rfl, by decide +kernel, by decide +kernel⟩, by decide +kernel, by decide +kernel⟩
theorem ok_holds79 {T : Tx} (M : Mo T) : FnD T 10 "holds" R_holds79 := by
  refine fn_D M.F_holds79 sc_holds79 (fun f fd F => F.binds fun _ _ _ _ _ _ us hl => match us, hl with | [_, _, _], _ => rfl) (by rintro _ _ ⟨_, _, _, rfl, _⟩; rfl) fun Y S Z ds d h => ?_
  have Se := S.toSe
  obtain ⟨p, t, told, rfl, hp, hd, ht, hT, rfl⟩ := h
  cases hT with
  | @keeps u nu mu su pu =>
    refine ss_if (te_eqS (x := "keeps") (y := "keeps") (ev_ixT (d := .str "keeps") (ev_var Se 2) ev_int rfl) (ev_cstS Se.toSn 0 M.k_KEEPS)) (fun _ => ?_) (fun h => absurd h (by decide +kernel))
    exact ss_ret (ev_call Se 3 (ok_kept79 M) (by decide) (ar_cons (ev_var Se 0) (ar_cons (ev_var Se 1) (ar_cons (ev_ixT (d := stD u) (ev_var Se 2) ev_int rfl) ar_nil))) ⟨p, t, u, rfl, hp, hd, ht, nu, mu, rfl⟩) rfl
  | @turns a b na nb lt w1 ma mb su pu =>
    refine ss_if (te_eqS (x := "turns") (y := "keeps") (ev_ixT (d := .str "turns") (ev_var Se 2) ev_int rfl) (ev_cstS Se.toSn 0 M.k_KEEPS)) (fun h => absurd h (by decide +kernel)) (fun _ => ss_nil ?_)
    refine ss_if (te_eqS (x := "turns") (y := "turns") (ev_ixT (d := .str "turns") (ev_var Se 2) ev_int rfl) (ev_cstS Se.toSn 1 M.k_TURNS)) (fun _ => ?_) (fun h => absurd h (by decide +kernel))
    exact ss_ret (ev_call Se 4 (ok_turned79 M) (by decide) (ar_cons (ev_var Se 0) (ar_cons (ev_var Se 1) (ar_cons (ev_ixT (d := stD a) (ev_var Se 2) ev_int rfl) (ar_cons (ev_ixT (d := stD b) (ev_var Se 2) ev_int rfl) ar_nil)))) ⟨p, t, a, b, rfl, hp, hd, ht, na, nb, lt, w1, ma, mb, rfl⟩) rfl
  | @slides a b n na nb w1 n0 n5 ma su =>
    refine ss_if (te_eqS (x := "slides") (y := "keeps") (ev_ixT (d := .str "slides") (ev_var Se 2) ev_int rfl) (ev_cstS Se.toSn 0 M.k_KEEPS)) (fun h => absurd h (by decide +kernel)) (fun _ => ss_nil ?_)
    refine ss_if (te_eqS (x := "slides") (y := "turns") (ev_ixT (d := .str "slides") (ev_var Se 2) ev_int rfl) (ev_cstS Se.toSn 1 M.k_TURNS)) (fun h => absurd h (by decide +kernel)) (fun _ => ss_nil ?_)
    exact ss_ret (ev_call Se 2 (ok_stretch79 M) (by decide) (ar_cons (ev_var Se 0) (ar_cons (ev_var Se 1) (ar_cons (ev_ixT (d := .int n) (ev_var Se 2) ev_int rfl) (ar_cons (ev_ixT (d := .lst (rdD p a b)) (ev_var Se 2) ev_int rfl) ar_nil)))) ⟨p, t, a, b, n, rfl, hp, hd, ht, na, nb, w1, n0, ma, su, rfl⟩) rfl
abbrev s_cell78 : Stmt := top 59
theorem sc_cell78 : ScB ["_law_script", "_law_k", "_law_cell_here"] ["_law_script", "_law_k"] ["len", "abs", "int"] (defScope s_cell78) := ⟨⟨rfl, rfl, rfl, by decide +kernel, rfl, by decide +kernel, by decide +kernel⟩, by decide +kernel, by decide +kernel⟩
theorem ok_cell78 {T : Tx} (M : Mo T) : FnD T 1 "_law_cell" R_cell78 := by
  refine fn_D M.F_cell78 sc_cell78 (fun f fd F => F.binds fun _ _ _ _ _ _ us hl => match us, hl with | [_, _], _ => rfl) (by rintro _ _ ⟨_, _, rfl, _⟩; rfl) fun Y S Z ds d h => ?_
  have Se := S.toSe
  obtain ⟨ns, k, rfl, h63, k0, k1, rfl⟩ := h
  unfold ccell
  refine ss_if (te_eqI (ev_len Se 0 (n := ns.length) (ar_cons (ev_var Se 0) ar_nil) (by show some _ = some _; rw [List.length_map]) M.b_len) ev_int) (fun h => ?_) (fun h => ss_nil ?_)
  · rw [if_pos (of_decide_eq_true h)]
    exact ss_ret (ev_add (ev_mul ev_int (ev_var Se 1) (.of_left (intBits_le_64 (by decide) (by decide)))) ev_int) rfl
  · have h0 := of_decide_eq_false h
    rw [if_neg h0]
    refine ss_set S 2 (ev_ixL (ev_var Se 0) (ev_modP (ev_var Se 1) (ev_len Se 0 (n := ns.length) (ar_cons (ev_var Se 0) ar_nil) (by show some _ = some _; rw [List.length_map]) M.b_len) (by omega)) (ccell_at h0)) ?_
    generalize ns.getD (k % (ns.length : Int)).toNat 0 = cc
    refine ss_if (te_eqI (ev_modP (ev_ixL (ev_var Se 0) ev_int (cell_at (by decide) (by omega))) ev_int (by decide)) ev_int) (fun h2 => ?_) (fun h2 => ss_nil ?_)
    · rw [if_pos (show ns.getD 0 0 % 2 = 1 from of_decide_eq_true h2)]
      exact ss_ret (ev_mul (ev_abs Se 1 (ar_cons (ev_var Se 2) ar_nil) M.b_abs) (ev_intOf Se 2 (ar_cons (ev_lt (ev_var Se 1) (ev_len Se 0 (n := ns.length) (ar_cons (ev_var Se 0) ar_nil) (by show some _ = some _; rw [List.length_map]) M.b_len)) ar_nil) M.b_int) (.of_right (intBits_le_64 (by split <;> decide) (by split <;> decide)))) rfl
    · rw [if_neg (show ¬ ns.getD 0 0 % 2 = 1 from of_decide_eq_false h2)]
      exact ss_ret (ev_modP (ev_mul (ev_modP (ev_mul (ev_add (ev_add (ev_add (ev_var Se 2) (ev_mul (ev_mul ev_int (ev_var Se 1) (.of_left (intBits_le_64 (by decide) (by decide)))) (ev_var Se 1) (.of_right (intBits_le_64 (by omega) (by omega))))) (ev_mul ev_int (ev_var Se 1) (.of_left (intBits_le_64 (by decide) (by decide))))) ev_int) ev_int (.of_right (intBits_le_64 (by decide) (by decide)))) ev_int (by decide)) ev_int (.of_right (intBits_le_64 (by decide) (by decide)))) ev_int (by decide)) rfl
abbrev s_low78 : Stmt := top 61
theorem sc_low78 : ScB ["_law_top", "_law_bottom", "_law_one", "_law_other"] ["_law_top", "_law_bottom"] ["abs"] (defScope s_low78) := ⟨⟨rfl, rfl, rfl, by decide +kernel, rfl, by decide +kernel, by decide +kernel⟩, by decide +kernel, by decide +kernel⟩
theorem ok_low78 {T : Tx} (M : Mo T) : FnD T 1 "_law_low" R_low78 := by
  refine fn_D M.F_low78 sc_low78 (fun f fd F => F.binds fun _ _ _ _ _ _ us hl => match us, hl with | [_, _], _ => rfl) (by rintro _ _ ⟨a, b, rfl, _, _, rfl⟩; rfl) fun Y S Z ds d h => ?_
  have Se := S.toSe
  obtain ⟨t, b, rfl, hb0, bb, rfl⟩ := h
  have hb : b ≠ 0 := by omega
  have hx : Y.X.env.scope.names.lookup ("_law_one" : Str) = some NameKind.local := by rw [Z.sc]; decide +kernel
  have hy : Y.X.env.scope.names.lookup ("_law_other" : Str) = some NameKind.local := by rw [Z.sc]; decide +kernel
  refine ss_par S 2 3 (ar_cons (ev_abs Se 0 (ar_cons (ev_var Se 0) ar_nil) M.b_abs) (ar_cons (ev_abs Se 0 (ar_cons (ev_var Se 1) ar_nil) M.b_abs) ar_nil)) hx hy (swap_at Z.sc fun _ => rfl) ?_
  refine ss_while S (fun c => ∃ x y : Int, c = [.val (.int t), .val (.int b), .val (.int x), .val (.int y)] ∧ 0 ≤ x ∧ 0 ≤ y ∧ Int.gcd x y = Int.gcd t b) (fun c => match c with | [_, _, _, .val (.int y)] => y.natAbs | _ => 0) ⟨_, _, rfl, by omega, by omega, by simp [Int.gcd]⟩ ?_
  rintro _ ⟨x, y, rfl, hx0, hy0, hg⟩
  refine ⟨_, te_neI (ev_var Se 3) ev_int, fun h => ?_, fun h => ?_⟩
  · have h0 : y ≠ 0 := by simpa using h
    refine ss_par S 2 3 (ar_cons (ev_var Se 3) (ar_cons (ev_mod (ev_var Se 2) (ev_var Se 3) h0) ar_nil)) hx hy (swap_at Z.sc fun _ => rfl) ?_
    refine ss_nil ⟨⟨y, x.fmod y, rfl, hy0, Int.fmod_nonneg_of_pos x (by omega), ?_⟩, ?_⟩
    · rw [gcd_step]; exact hg
    · exact fmod_small x h0
  · have h0 : y = 0 := by simpa using h
    subst h0
    have hx1 : x = (Int.gcd t b : Int) := by rw [Int.gcd_zero_right] at hg; omega
    subst hx1
    have q := low_bd (t := t) hb bb
    have l := low_num t hb
    rw [if_neg (by omega)] at q l
    refine ss_if (te_lt (ev_var Se 1) ev_int) (fun h => absurd (of_decide_eq_true h) (by omega)) (fun _ => ss_nil ?_)
    refine ss_ret (ev_tup (ar_cons (ev_fdiv (ev_var Se 0) (ev_var Se 2) q.1 q.2) (ar_cons (ev_fdiv (ev_var Se 1) (ev_var Se 2) q.1 q.2) ar_nil))) ?_
    show D.tup _ = D.tup _
    rw [l.1, l.2]
abbrev s_sum79 : Stmt := top 62
theorem sc_sum79 : ScB ["_law_a", "_law_b"] ["_law_a", "_law_b"] ["_law_low"] (defScope s_sum79) := ⟨⟨rfl, rfl, rfl, by decide +kernel, rfl, by decide +kernel, by decide +kernel⟩, by decide +kernel, by decide +kernel⟩
theorem ok_sum79 {T : Tx} (M : Mo T) : FnD T 2 "_law_sum" R_qadd := by
  refine fn_D M.F_sum79 sc_sum79 (fun f fd F => F.binds fun _ _ _ _ _ _ us hl => match us, hl with | [_, _], _ => rfl) (by rintro _ _ ⟨a, b, rfl, _, _, rfl⟩; rfl) fun Y S Z ds d h => ?_
  have Se := S.toSe
  obtain ⟨a, b, rfl, ha, hb, rfl⟩ := h
  rw [← rat_add a b]
  exact ss_ret (ev_call Se 0 (ok_low78 M) (by decide) (ar_cons (ev_add (ev_mul (ev_ixT (ev_var Se 0) ev_int rfl) (ev_ixT (ev_var Se 1) ev_int rfl) (mulOk ha.1 hb.2 (by decide))) (ev_mul (ev_ixT (ev_var Se 1) ev_int rfl) (ev_ixT (ev_var Se 0) ev_int rfl) (mulOk hb.1 ha.2 (by decide)))) (ar_cons (ev_mul (ev_ixT (ev_var Se 0) ev_int rfl) (ev_ixT (ev_var Se 1) ev_int rfl) (mulOk ha.2 hb.2 (by decide))) ar_nil)) ⟨_, _, rfl, Int.mul_pos (den_pos79 a) (den_pos79 b), (ha.2.mul hb.2).mono (by decide), rfl⟩) rfl
abbrev s_both79 : Stmt := top 63
theorem sc_both79 : ScB ["_law_a", "_law_b"] ["_law_a", "_law_b"] ["_law_low"] (defScope s_both79) := ⟨⟨rfl, rfl, rfl, by decide +kernel, rfl, by decide +kernel, by decide +kernel⟩, by decide +kernel, by decide +kernel⟩
theorem ok_both79 {T : Tx} (M : Mo T) : FnD T 2 "_law_both" R_qmul := by
  refine fn_D M.F_both79 sc_both79 (fun f fd F => F.binds fun _ _ _ _ _ _ us hl => match us, hl with | [_, _], _ => rfl) (by rintro _ _ ⟨a, b, rfl, _, _, rfl⟩; rfl) fun Y S Z ds d h => ?_
  have Se := S.toSe
  obtain ⟨a, b, rfl, ha, hb, rfl⟩ := h
  rw [← rat_mul a b]
  exact ss_ret (ev_call Se 0 (ok_low78 M) (by decide) (ar_cons (ev_mul (ev_ixT (ev_var Se 0) ev_int rfl) (ev_ixT (ev_var Se 1) ev_int rfl) (mulOk ha.1 hb.1 (by decide))) (ar_cons (ev_mul (ev_ixT (ev_var Se 0) ev_int rfl) (ev_ixT (ev_var Se 1) ev_int rfl) (mulOk ha.2 hb.2 (by decide))) ar_nil)) ⟨_, _, rfl, Int.mul_pos (den_pos79 a) (den_pos79 b), (ha.2.mul hb.2).mono (by decide), rfl⟩) rfl
abbrev s_pp78 : Stmt := top 66
theorem sc_pp78 : ScB ["_law_p", "_law_n", "_law_made", "_law_left", "_law_base"] ["_law_p", "_law_n"] ["abs"] (defScope s_pp78) := ⟨⟨rfl, rfl, rfl, by decide +kernel, rfl, by decide +kernel, by decide +kernel⟩, by decide +kernel, by decide +kernel⟩
theorem ok_pp78 {T : Tx} (M : Mo T) : FnD T 1 "_law_prime_power" R_pp78 := by
  refine fn_D M.F_pp78 sc_pp78 (fun f fd F => F.binds fun _ _ _ _ _ _ us hl => match us, hl with | [_, _], _ => rfl) (by rintro _ _ ⟨_, _, rfl, _⟩; rfl) fun Y S Z ds d h => ?_
  have Se := S.toSe
  obtain ⟨p, n, rfl, hp, n0, n1, rfl⟩ := h
  refine ss_set S 2 ev_int ?_
  refine ss_set S 3 (ev_abs Se 0 (ar_cons (ev_var Se 1) ar_nil) M.b_abs) ?_
  refine ss_set S 4 (ev_var Se 0) ?_
  refine ss_while S (fun c => ∃ a b l : Nat, c = [.val (.int p), .val (.int n), .val (.int (p ^ a)), .val (.int (l : Int)), .val (.int (p ^ b))] ∧ a + b * l = n.toNat) (fun c => match c with | [_, _, _, .val (.int l), _] => l.toNat | _ => 0) ⟨0, 1, n.natAbs, by rw [Int.pow_zero, Int.pow_succ, Int.pow_zero, Int.one_mul]; rfl, by omega⟩ ?_
  rintro _ ⟨a, b, l, rfl, hab⟩
  refine ⟨_, te_gt (ev_var Se 3) ev_int, fun h => ?_, fun h => ?_⟩
  · have l0 : 0 < l := by have := of_decide_eq_true h; omega
    have hb : b ≤ n.toNat := by
      have := Nat.le_mul_of_pos_right b l0
      omega
    refine ss_ifD S 2 (d1 := .int (p ^ a * p ^ b)) (d2 := .int (p ^ a)) (te_eqI (ev_modP (ev_var Se 3) ev_int (by decide)) ev_int) (fun _ => ev_mul (ev_var Se 2) (ev_var Se 4) (mulOk (pw_bd hp a) (pw_bd hp b) (by omega))) ?_
    have e : (if decide ((l : Int) % 2 = 1) = true then D.int (p ^ a * p ^ b) else .int (p ^ a)) = .int (p ^ (if l % 2 = 1 then a + b else a)) := by
      by_cases h2 : l % 2 = 1
      · rw [if_pos h2, if_pos (decide_eq_true (by omega)), Int.pow_add]
      · rw [if_neg h2, if_neg (by rw [decide_eq_false (by omega)]; exact Bool.false_ne_true)]
    rw [e]
    refine ss_set S 4 (d := .int (p ^ (b + b))) (by rw [Int.pow_add]; exact ev_mul (ev_var Se 4) (ev_var Se 4) (mulOk (pw_bd hp b) (pw_bd hp b) (by omega))) ?_
    refine ss_set S 3 (d := .int ((l / 2 : Nat) : Int)) (by rw [show ((l / 2 : Nat) : Int) = (l : Int) / 2 by omega]; exact ev_fdivP (ev_var Se 3) ev_int (by decide) (by decide +kernel)) ?_
    refine ss_nil ⟨⟨_, _, _, rfl, pp_step78 (p := p) hab⟩, ?_⟩
    show ((l / 2 : Nat) : Int).toNat < (l : Int).toNat
    omega
  · have l0 : l = 0 := by have := of_decide_eq_false h; omega
    subst l0
    rw [Nat.mul_zero, Nat.add_zero] at hab
    subst hab
    refine ss_if (te_lt (ev_var Se 1) ev_int) (fun h => absurd (of_decide_eq_true h) (by omega)) (fun _ => ss_nil ?_)
    exact ss_ret (ev_tup (ar_cons (ev_var Se 2) (ar_cons ev_int ar_nil))) rfl
abbrev s_meas79 : Stmt := top 69
theorem sc_meas79 : ScB ["_law_table", "_law_a", "_law_b", "_law_c", "_law_d", "_law_back"] ["_law_table"] ["_law_both", "_law_sum"] (defScope s_meas79) := ⟨⟨rfl, rfl, rfl, by decide +kernel, rfl, by decide +kernel, by decide +kernel⟩, by decide +kernel, by decide +kernel⟩
theorem ok_meas79 {T : Tx} (M : Mo T) : FnD T 3 "_law_measure" R_measure := by
  refine fn_D M.F_meas79 sc_meas79 (fun f fd F => F.binds fun _ _ _ _ _ _ us hl => match us, hl with | [_], _ => rfl) (by rintro _ _ ⟨_, rfl, _, rfl⟩; rfl) fun Y S Z ds d h => ?_
  have Se := S.toSe
  obtain ⟨t, rfl, hm, rfl⟩ := h
  refine ss_asg (d := tbD t) (ev_var Se 0) (tg_tupN Se.calm (tgs_cons (tg_name S 1) (tgs_cons (tg_name S 2) (tgs_cons (tg_name S 3) (tgs_cons (tg_name S 4) tgs_nil))))) ?_
  refine ss_set S 5 (d := frD (t.b * t.c)) (ev_call Se 0 (ok_both79 M) (by decide) (ar_cons (ev_var Se 2) (ar_cons (ev_var Se 3) ar_nil)) ⟨t.b, t.c, rfl, hm.ht.b, hm.ht.c, rfl⟩) ?_
  have e : t.det = t.a * t.d + -(t.b * t.c) := by unfold Tb.det; grind
  rw [e]
  have bc := hm.bc
  generalize t.b * t.c = bc' at bc ⊢
  exact ss_ret (ev_call Se 1 (ok_sum79 M) (by decide) (ar_cons (ev_call Se 0 (ok_both79 M) (by decide) (ar_cons (ev_var Se 1) (ar_cons (ev_var Se 4) ar_nil)) ⟨t.a, t.d, rfl, hm.ht.a, hm.ht.d, rfl⟩) (ar_consT (ev_tup (ar_cons (ev_neg (ev_ixT (d := .int bc'.num) (ev_var Se 5) ev_int rfl)) (ar_cons (ev_ixT (d := .int bc'.den) (ev_var Se 5) ev_int rfl) ar_nil))) ar_nil)) ⟨t.a * t.d, -bc', rfl, hm.ad, bc.neg, rfl⟩) rfl
abbrev s_prime78 : Stmt := top 70
theorem sc_prime78 : ScB ["_law_script"] ["_law_script"] ["_law_cell"] (defScope s_prime78) := ⟨⟨rfl, rfl, rfl, by decide +kernel, rfl, by decide +kernel, by decide +kernel⟩, by decide +kernel, by decide +kernel⟩
theorem ok_prime78 {T : Tx} (M : Mo T) : FnD T 2 "_law_prime" R_prime78 := by
  refine fn_D M.F_prime78 sc_prime78 (fun f fd F => F.binds fun _ _ _ _ _ _ us hl => match us, hl with | [_], _ => rfl) (by rintro _ _ ⟨_, _, rfl, _⟩; rfl) fun Y S Z ds d h => ?_
  have Se := S.toSe
  obtain ⟨ns, p, rfl, h63, hp, hpa, rfl⟩ := h
  exact ss_ret (ev_ixT (ev_tup (ar_cons ev_int (ar_cons ev_int (ar_cons ev_int (ar_cons ev_int ar_nil))))) (ev_modP (ev_fdivP (ev_call Se 0 (ok_cell78 M) (by decide) (ar_cons (ev_var Se 0) (ar_cons ev_int ar_nil)) ⟨ns, 0, rfl, h63, by decide, by decide, rfl⟩) ev_int (by decide) (by decide +kernel)) ev_int (by decide)) hpa) rfl
abbrev s_num79 : Stmt := top 72
theorem sc_num79 : ScB ["_law_p", "_law_cell_here", "_law_great", "_law_top", "_law_n", "_law_most"] ["_law_p", "_law_cell_here", "_law_great"] ["_law_low", "_law_prime_power", "abs"] (defScope s_num79) := ⟨⟨rfl, rfl, rfl, by decide +kernel, rfl, by decide +kernel, by decide +kernel⟩, by decide +kernel, by decide +kernel⟩
theorem ok_num79 {T : Tx} (M : Mo T) : FnD T 2 "_law_number" R_num79 := by
  refine fn_D M.F_num79 sc_num79 (fun f fd F => F.binds fun _ _ _ _ _ _ us hl => match us, hl with | [_, _, _], _ => rfl) (by rintro _ _ ⟨_, _, rfl, _⟩; rfl) fun Y S Z ds d h => ?_
  have Se := S.toSe
  obtain ⟨p, c, rfl, hp, rfl⟩ := h
  refine ss_set S 3 (ev_sub (ev_modP (ev_var Se 1) ev_int (by decide)) ev_int) ?_
  refine ss_if (te_val (v := false) (ev_var Se 2)) (fun h => nomatch h) (fun _ => ss_nil ?_)
  refine ss_set S 4 (ev_sub (ev_modP (ev_fdivP (ev_var Se 1) ev_int (by decide) (by decide +kernel)) ev_int (by decide)) ev_int) ?_
  have t : -11 ≤ c % 23 - 11 ∧ c % 23 - 11 ≤ 11 := by omega
  have u : 1 ≤ 1 + c / 207 % 12 ∧ 1 + c / 207 % 12 ≤ 12 := by omega
  have nb : -4 ≤ c / 23 % 9 - 4 ∧ c / 23 % 9 - 4 ≤ 4 := by omega
  unfold numQ
  generalize c / 23 % 9 - 4 = n at nb ⊢
  generalize c % 23 - 11 = tp at t ⊢
  obtain ⟨q0, q1⟩ := pw4_79 hp (n := n.natAbs) (by omega)
  refine ss_set S 5 (d := .int (p ^ n.natAbs)) (ev_ixT (ds := [.int (p ^ n.natAbs), .int 1]) (ev_call Se 1 (ok_pp78 M) (by decide) (ar_cons (ev_var Se 0) (ar_cons (ev_abs Se 2 (ar_cons (ev_var Se 4) ar_nil) M.b_abs) ar_nil)) ⟨p, (n.natAbs : Int), rfl, hp, by omega, by omega, rfl⟩) ev_int rfl) ?_
  generalize p ^ n.natAbs = P at q0 q1 ⊢
  have m0 : 1 * P ≤ (1 + c / 207 % 12) * P := Int.mul_le_mul_of_nonneg_right (by omega) (by omega)
  have m1 : (1 + c / 207 % 12) * P ≤ 12 * P := Int.mul_le_mul_of_nonneg_right (by omega) (by omega)
  refine ss_if (te_lt (ev_var Se 4) ev_int) (fun h => ?_) (fun h => ss_nil ?_)
  · rw [if_pos (of_decide_eq_true h)]
    exact ss_ret (ev_call Se 0 (ok_low78 M) (by decide) (ar_cons (ev_var Se 3) (ar_cons (ev_mul (ev_add ev_int (ev_modP (ev_fdivP (ev_var Se 1) ev_int (by decide) (by decide +kernel)) ev_int (by decide))) (ev_var Se 5) (.of_left (intBits_le_64 (by omega) (by omega)))) ar_nil)) ⟨_, _, rfl, by omega, (Bd.of 28813 (by omega) (by omega) (show (28813 : Int) ≤ 2 ^ 15 by decide)).mono (by decide), rfl⟩) rfl
  · rw [if_neg (of_decide_eq_false h)]
    exact ss_ret (ev_call Se 0 (ok_low78 M) (by decide) (ar_cons (ev_mul (ev_var Se 3) (ev_var Se 5) (.of_left (intBits_le_64 (by omega) (by omega)))) (ar_cons (ev_add ev_int (ev_modP (ev_fdivP (ev_var Se 1) ev_int (by decide) (by decide +kernel)) ev_int (by decide))) ar_nil)) ⟨_, _, rfl, by omega, (Bd.of 13 (by omega) (by omega) (show (13 : Int) ≤ 2 ^ 4 by decide)).mono (by decide), rfl⟩) rfl
abbrev s_plain79 : Stmt := top 73
theorem sc_plain79 : ScB ["_law_script", "_law_p", "_law_at", "_law_cells", "_law_x", "_law_y", "_law_z", "_law_w", "_law_upper", "_law_lower"] ["_law_script", "_law_p", "_law_at"] ["_law_both", "_law_sum", "range"] (defScope s_plain79) := ⟨⟨rfl, rfl, rfl, by decide +kernel, rfl, by decide +kernel, by decide +kernel⟩, by decide +kernel, by decide +kernel⟩
theorem ok_plain79 {T : Tx} (M : Mo T) : FnD T 3 "_law_plain_table" R_plain79 := by
  refine fn_D M.F_plain79 sc_plain79 (fun f fd F => F.binds fun _ _ _ _ _ _ us hl => match us, hl with | [_, _, _], _ => rfl) (by rintro _ _ ⟨_, _, _, rfl, _⟩; rfl) fun Y S Z ds d h => ?_
  have Se := S.toSe
  obtain ⟨p, ns, k, rfl, hp, h63, k0, k1, rfl⟩ := h
  refine ss_set S 3 (d := .lst ((List.range 5).map fun (m : Nat) => D.int (ccell ns (k + (0 + (m : Int) * 1))))) ?E ?_ rfl (of_decide_eq_true rfl) (swapC_at Z.sc fun _ => rfl)
  case E =>
    refine ev_compM (ds := (List.range 5).map fun (m : Nat) => D.int (ccell ns (k + (0 + (m : Int) * 1)))) (tn := ["_law_k"]) (fs := ["_law_script", "_law_at"]) (ix := [0, 2]) (G' := ["_law_cell"]) Se Z.sc ?B (it_range1 Se 2 (ar_cons ev_int ar_nil) (by decide) (by decide) M.b_range) (by simp [rangeD]) (by simp) ?T
    case B => exact ⟨rfl, rfl, by decide +kernel, by decide +kernel, by decide +kernel, by decide +kernel, by decide +kernel, by decide +kernel, rfl, by decide +kernel⟩
    case T =>
      intro Y' S' hl m d r hd hr ts hts
      obtain ⟨hm, rfl⟩ := rangeD_of hd
      obtain ⟨t1, rfl⟩ : ∃ t1, ts = [t1] := List.length_eq_one_iff.mp hts
      have hm5 : m < 5 := by simpa using hm
      rw [List.getElem?_map, List.getElem?_range hm5] at hr
      cases hr
      exact ⟨[_], rfl, rfl, tg_name0 S'.toSn 0 (.inr (hl _ (by simp))), ev_call S' 0 (ok_cell78 M) (by decide) (ar_cons (ev_var S' 1) (ar_cons (ev_add (ev_var S' 2) (ev_var S' 0)) ar_nil)) ⟨ns, _, rfl, h63, by omega, by omega, rfl⟩⟩
  refine ss_asg (d := .lst [frD (numQ p (ccell ns (k + (0 + ((0 : Nat) : Int) * 1)))), frD (numQ p (ccell ns (k + (0 + ((1 : Nat) : Int) * 1)))), frD (numQ p (ccell ns (k + (0 + ((2 : Nat) : Int) * 1)))), frD (numQ p (ccell ns (k + (0 + ((3 : Nat) : Int) * 1))))]) ?C (tg_lstN Se.calm (tgs_cons (tg_name S 4) (tgs_cons (tg_name S 5) (tgs_cons (tg_name S 6) (tgs_cons (tg_name S 7) tgs_nil))))) ?_
  case C =>
    refine ev_lto (ev_compM (ds := (List.range 4).map fun (m : Nat) => frD (numQ p (ccell ns (k + (0 + (m : Int) * 1))))) (tn := ["_law_k"]) (fs := ["_law_p", "_law_cells"]) (ix := [1, 3]) (G' := ["_law_number"]) Se Z.sc ?B2 (it_range1 Se 2 (ar_cons ev_int ar_nil) (by decide) (by decide) M.b_range) (by simp [rangeD]) (by simp) ?T2) rfl
    case B2 => exact ⟨rfl, rfl, by decide +kernel, by decide +kernel, by decide +kernel, by decide +kernel, by decide +kernel, by decide +kernel, rfl, by decide +kernel⟩
    case T2 =>
      intro Y' S' hl m d r hd hr ts hts
      obtain ⟨hm, rfl⟩ := rangeD_of hd
      obtain ⟨t1, rfl⟩ : ∃ t1, ts = [t1] := List.length_eq_one_iff.mp hts
      have hm4 : m < 4 := by simpa using hm
      rw [List.getElem?_map, List.getElem?_range hm4] at hr
      cases hr
      have at4 : atI ((List.range 5).map fun (m : Nat) => D.int (ccell ns (k + (0 + (m : Int) * 1)))) (0 + (m : Int) * 1) = some (.int (ccell ns (k + (0 + (m : Int) * 1)))) := by
        rw [at_nat42 (by omega) (by rw [List.length_map, List.length_range]; omega), List.getElem?_map, List.getElem?_range (by omega)]
        show some (D.int (ccell ns (k + (0 + (((0 + (m : Int) * 1).toNat : Nat) : Int) * 1)))) = _
        rw [show (((0 + (m : Int) * 1).toNat : Nat) : Int) = (m : Int) by omega]
      exact ⟨[_], rfl, rfl, tg_name0 S'.toSn 0 (.inr (hl _ (by simp))), ev_call S' 0 (ok_num79 M) (by decide) (ar_cons (ev_var S' 1) (ar_cons (ev_ixL (ev_var S' 2) (ev_var S' 0) at4) (ar_cons ev_bl ar_nil))) ⟨p, _, rfl, hp, rfl⟩⟩
  unfold plD
  have at5 : atI ((List.range 5).map fun (m : Nat) => D.int (ccell ns (k + (0 + (m : Int) * 1)))) 4 = some (.int (ccell ns (k + (0 + ((4 : Nat) : Int) * 1)))) := rfl
  generalize (List.range 5).map (fun (m : Nat) => D.int (ccell ns (k + (0 + (m : Int) * 1)))) = cl at at5 ⊢
  have f0 := num_fb79 hp (ccell ns (k + (0 + ((0 : Nat) : Int) * 1)))
  have f1 := num_fb79 hp (ccell ns (k + (0 + ((1 : Nat) : Int) * 1)))
  have f2 := num_fb79 hp (ccell ns (k + (0 + ((2 : Nat) : Int) * 1)))
  have f3 := num_fb79 hp (ccell ns (k + (0 + ((3 : Nat) : Int) * 1)))
  show SsD Y _ [.val (.lst (ns.map D.int)), .val (.int p), .val (.int k), .val (.lst cl), .val (frD (numQ p (ccell ns (k + (0 + ((0 : Nat) : Int) * 1))))), .val (frD (numQ p (ccell ns (k + (0 + ((1 : Nat) : Int) * 1))))), .val (frD (numQ p (ccell ns (k + (0 + ((2 : Nat) : Int) * 1))))), .val (frD (numQ p (ccell ns (k + (0 + ((3 : Nat) : Int) * 1))))), .un, .un] _
  generalize numQ p (ccell ns (k + (0 + ((0 : Nat) : Int) * 1))) = x at *
  generalize numQ p (ccell ns (k + (0 + ((1 : Nat) : Int) * 1))) = y0 at *
  generalize numQ p (ccell ns (k + (0 + ((2 : Nat) : Int) * 1))) = z0 at *
  generalize numQ p (ccell ns (k + (0 + ((3 : Nat) : Int) * 1))) = w at *
  generalize ccell ns (k + (0 + ((4 : Nat) : Int) * 1)) = c4 at at5 ⊢
  refine ss_ifD S 5 (d1 := frD 1) (d2 := frD y0) (te_eqI (ev_ixT (d := .int y0.num) (ev_var Se 5) ev_int rfl) ev_int) (fun _ => ev_tup (ar_cons ev_int (ar_cons ev_int ar_nil))) ?_
  refine ss_ifD S 6 (d1 := frD (-1)) (d2 := frD z0) (te_eqI (ev_ixT (d := .int z0.num) (ev_var Se 6) ev_int rfl) ev_int) (fun _ => ev_tup (ar_cons (ev_neg ev_int) (ar_cons ev_int ar_nil))) ?_
  rw [nz_d79, nz_d79]
  have g1 : Fb 15 (1 : Rat) := fb_one.mono (by decide)
  have fy := nz_fb79 f1 g1
  have fz := nz_fb79 f2 g1.neg
  show SsD Y _ [.val (.lst (ns.map D.int)), .val (.int p), .val (.int k), .val (.lst cl), .val (frD x), .val (frD (nz y0 1)), .val (frD (nz z0 (-1))), .val (frD w), .un, .un] _
  generalize nz y0 1 = y at fy ⊢
  generalize nz z0 (-1) = z at fz ⊢
  have xy := (f0.mul fy).mono (show 15 + 15 ≤ 4400 by decide)
  have xyw := ((f0.mul fy).mul f3).mono (show 15 + 15 + 15 ≤ 4400 by decide)
  have x4 := f0.mono (show 15 ≤ 4400 by decide)
  have y4 := fy.mono (show 15 ≤ 4400 by decide)
  have z4 := fz.mono (show 15 ≤ 4400 by decide)
  have w4 := f3.mono (show 15 ≤ 4400 by decide)
  refine ss_set S 8 (d := .tup [frD y, frD (y * w)]) (ev_tup (ar_cons (ev_var Se 5) (ar_cons (ev_call Se 0 (ok_both79 M) (by decide) (ar_cons (ev_var Se 5) (ar_cons (ev_var Se 7) ar_nil)) ⟨y, w, rfl, y4, w4, rfl⟩) ar_nil))) ?_
  refine ss_set S 9 (d := .tup [frD (x * y), frD (x * y * w + z)]) (ev_tup (ar_cons (ev_call Se 0 (ok_both79 M) (by decide) (ar_cons (ev_var Se 4) (ar_cons (ev_var Se 5) ar_nil)) ⟨x, y, rfl, x4, y4, rfl⟩) (ar_cons (ev_call Se 1 (ok_sum79 M) (by decide) (ar_cons (ev_call Se 0 (ok_both79 M) (by decide) (ar_cons (ev_call Se 0 (ok_both79 M) (by decide) (ar_cons (ev_var Se 4) (ar_cons (ev_var Se 5) ar_nil)) ⟨x, y, rfl, x4, y4, rfl⟩) (ar_cons (ev_var Se 7) ar_nil)) ⟨x * y, w, rfl, xy, w4, rfl⟩) (ar_cons (ev_var Se 6) ar_nil)) ⟨x * y * w, z, rfl, xyw, z4, rfl⟩) ar_nil))) ?_
  unfold plT
  refine ss_if (te_eqI (ev_modP (ev_ixL (ev_var Se 3) ev_int at5) ev_int (by decide)) ev_int) (fun h => ?_) (fun h => ss_nil ?_)
  · rw [h]
    exact ss_ret (ev_catT (xs := [frD (x * y), frD (x * y * w + z)]) (ys := [frD y, frD (y * w)]) (ev_var Se 9) (ev_var Se 8) (by simp) (by simp) (by simp)) rfl
  · rw [h]
    exact ss_ret (ev_catT (ys := [frD (x * y), frD (x * y * w + z)]) (xs := [frD y, frD (y * w)]) (ev_var Se 8) (ev_var Se 9) (by simp) (by simp) (by simp)) rfl
abbrev s_led79 : Stmt := top 74
theorem sc_led79 : ScB ["_law_p", "_law_one", "_law_told", "_law_spots"] ["_law_p", "_law_one", "_law_told"] ["tuple", "sorted"] (defScope s_led79) := ⟨⟨rfl, rfl, rfl, by decide +kernel, rfl, by decide +kernel, by decide +kernel⟩, by decide +kernel, by decide +kernel⟩
theorem ok_led79 {T : Tx} (M : Mo T) : FnD T 7 "_law_led_paper" R_led79 := by
  refine fn_D M.F_led79 sc_led79 (fun f fd F => F.binds fun _ _ _ _ _ _ us hl => match us, hl with | [_, _, _], _ => rfl) (by rintro _ _ ⟨_, _, _, rfl, _⟩; rfl) fun Y S Z ds d h => ?_
  have Se := S.toSe
  obtain ⟨p, s, told, rfl, hp, hs, hb, hL⟩ := h
  cases hL with
  | @k u nu =>
    refine ss_if (te_eqS (x := "keeps") (y := "slides") (ev_ixT (d := .str "keeps") (ev_var Se 2) ev_int rfl) ev_str) (fun h => absurd h (by decide +kernel)) (fun _ => ss_nil ?_)
    refine ss_setCM S 3 (ds := [stD (movS p s u)]) (tn := ["_law_spot"]) (fs := ["_law_p", "_law_one"]) (ix := [0, 1]) (G' := ["moved"]) (items := [stD u]) Z.sc ?B (it_tup (ev_slT1 (ev_var Se 2) ev_int)) (by simp) (by simp) ?T (swapC_at Z.sc fun _ => rfl) ?_
    case B => exact ⟨rfl, rfl, by decide +kernel, by decide +kernel, by decide +kernel, by decide +kernel, by decide +kernel, by decide +kernel, rfl, by decide +kernel⟩
    case T =>
      intro Y' S' hl m d r hd hr ts hts
      obtain ⟨t1, rfl⟩ : ∃ t1, ts = [t1] := List.length_eq_one_iff.mp hts
      rcases m with _ | m
      · cases hd; cases hr; exact ⟨[_], rfl, rfl, tg_name0 S'.toSn 0 (.inr (hl _ (by simp))), ev_call S' 0 (ok_moved M) (by decide) (ar_cons (ev_var S' 1) (ar_cons (ev_var S' 2) (ar_cons (ev_var S' 0) ar_nil))) ⟨p, s, u.1, u.2, 61, 100, 301, rfl, hp, hs, hb, nu.fb hp, (nu.k hp).1, (nu.k hp).2, by decide, by decide, rfl⟩⟩
      · simp at hr
    exact ss_ret (ev_catT (xs := [.str "keeps"]) (ys := [stD (movS p s u)]) (ev_tup (ar_cons (ev_ixT (d := .str "keeps") (ev_var Se 2) ev_int rfl) ar_nil)) (ev_tupleL Se 0 (ar_cons (ev_ow (ow_sort1 Se 1 (ar_cons (ev_var Se 3) ar_nil) M.b_sorted)) ar_nil) M.b_tuple) (by simp) (by simp) (by simp)) rfl
  | @t1 a b na nb lt =>
    refine ss_if (te_eqS (x := "turns") (y := "slides") (ev_ixT (d := .str "turns") (ev_var Se 2) ev_int rfl) ev_str) (fun h => absurd h (by decide +kernel)) (fun _ => ss_nil ?_)
    refine ss_setCM S 3 (ds := [stD (movS p s a), stD (movS p s b)]) (tn := ["_law_spot"]) (fs := ["_law_p", "_law_one"]) (ix := [0, 1]) (G' := ["moved"]) (items := [stD a, stD b]) Z.sc ?B (it_tup (ev_slT1 (ev_var Se 2) ev_int)) (by simp) (by simp) ?T (swapC_at Z.sc fun _ => rfl) ?_
    case B => exact ⟨rfl, rfl, by decide +kernel, by decide +kernel, by decide +kernel, by decide +kernel, by decide +kernel, by decide +kernel, rfl, by decide +kernel⟩
    case T =>
      intro Y' S' hl m d r hd hr ts hts
      obtain ⟨t1, rfl⟩ : ∃ t1, ts = [t1] := List.length_eq_one_iff.mp hts
      rcases m with _ | _ | m
      · cases hd; cases hr; exact ⟨[_], rfl, rfl, tg_name0 S'.toSn 0 (.inr (hl _ (by simp))), ev_call S' 0 (ok_moved M) (by decide) (ar_cons (ev_var S' 1) (ar_cons (ev_var S' 2) (ar_cons (ev_var S' 0) ar_nil))) ⟨p, s, a.1, a.2, 61, 100, 301, rfl, hp, hs, hb, na.fb hp, (na.k hp).1, (na.k hp).2, by decide, by decide, rfl⟩⟩
      · cases hd; cases hr; exact ⟨[_], rfl, rfl, tg_name0 S'.toSn 0 (.inr (hl _ (by simp))), ev_call S' 0 (ok_moved M) (by decide) (ar_cons (ev_var S' 1) (ar_cons (ev_var S' 2) (ar_cons (ev_var S' 0) ar_nil))) ⟨p, s, b.1, b.2, 61, 100, 301, rfl, hp, hs, hb, nb.fb hp, (nb.k hp).1, (nb.k hp).2, by decide, by decide, rfl⟩⟩
      · simp at hr
    refine ss_ret (ev_catT (xs := [.str "turns"]) (ys := [stD (movS p s a), stD (movS p s b)]) (ev_tup (ar_cons (ev_ixT (d := .str "turns") (ev_var Se 2) ev_int rfl) ar_nil)) ?TP (by simp) (by simp) (by simp)) rfl
    case TP =>
      refine ev_tupleL Se 0 (ar_cons (ev_ow ?SO) ar_nil) M.b_tuple
      case SO =>
        have e : [stD (movS p s a), stD (movS p s b)] = (triS [trS (movS p s a), trS (movS p s b)]).map triD := by rw [(tri2_79 (x := trS (movS p s a)) (y := trS (movS p s b)) lt).1]; rfl
        exact ow_to79 (ow_sortT Se 1 (l := [trS (movS p s a), trS (movS p s b)]) (ar_cons (ev_var Se 3) ar_nil) (by simp) (by simp) M.b_sorted) e.symm
  | @t2 a b na nb lt =>
    refine ss_if (te_eqS (x := "turns") (y := "slides") (ev_ixT (d := .str "turns") (ev_var Se 2) ev_int rfl) ev_str) (fun h => absurd h (by decide +kernel)) (fun _ => ss_nil ?_)
    refine ss_setCM S 3 (ds := [stD (movS p s a), stD (movS p s b)]) (tn := ["_law_spot"]) (fs := ["_law_p", "_law_one"]) (ix := [0, 1]) (G' := ["moved"]) (items := [stD a, stD b]) Z.sc ?B (it_tup (ev_slT1 (ev_var Se 2) ev_int)) (by simp) (by simp) ?T (swapC_at Z.sc fun _ => rfl) ?_
    case B => exact ⟨rfl, rfl, by decide +kernel, by decide +kernel, by decide +kernel, by decide +kernel, by decide +kernel, by decide +kernel, rfl, by decide +kernel⟩
    case T =>
      intro Y' S' hl m d r hd hr ts hts
      obtain ⟨t1, rfl⟩ : ∃ t1, ts = [t1] := List.length_eq_one_iff.mp hts
      rcases m with _ | _ | m
      · cases hd; cases hr; exact ⟨[_], rfl, rfl, tg_name0 S'.toSn 0 (.inr (hl _ (by simp))), ev_call S' 0 (ok_moved M) (by decide) (ar_cons (ev_var S' 1) (ar_cons (ev_var S' 2) (ar_cons (ev_var S' 0) ar_nil))) ⟨p, s, a.1, a.2, 61, 100, 301, rfl, hp, hs, hb, na.fb hp, (na.k hp).1, (na.k hp).2, by decide, by decide, rfl⟩⟩
      · cases hd; cases hr; exact ⟨[_], rfl, rfl, tg_name0 S'.toSn 0 (.inr (hl _ (by simp))), ev_call S' 0 (ok_moved M) (by decide) (ar_cons (ev_var S' 1) (ar_cons (ev_var S' 2) (ar_cons (ev_var S' 0) ar_nil))) ⟨p, s, b.1, b.2, 61, 100, 301, rfl, hp, hs, hb, nb.fb hp, (nb.k hp).1, (nb.k hp).2, by decide, by decide, rfl⟩⟩
      · simp at hr
    refine ss_ret (ev_catT (xs := [.str "turns"]) (ys := [stD (movS p s b), stD (movS p s a)]) (ev_tup (ar_cons (ev_ixT (d := .str "turns") (ev_var Se 2) ev_int rfl) ar_nil)) ?TP (by simp) (by simp) (by simp)) rfl
    case TP =>
      refine ev_tupleL Se 0 (ar_cons (ev_ow ?SO) ar_nil) M.b_tuple
      case SO =>
        have e : [stD (movS p s b), stD (movS p s a)] = (triS [trS (movS p s a), trS (movS p s b)]).map triD := by rw [(tri2_79 (x := trS (movS p s b)) (y := trS (movS p s a)) lt).2]; rfl
        exact ow_to79 (ow_sortT Se 1 (l := [trS (movS p s a), trS (movS p s b)]) (ar_cons (ev_var Se 3) ar_nil) (by simp) (by simp) M.b_sorted) e.symm
  | @sl a b n na w1 n5 =>
    refine ss_if (te_eqS (x := "slides") (y := "slides") (ev_ixT (d := .str "slides") (ev_var Se 2) ev_int rfl) ev_str) (fun _ => ?_) (fun h => absurd h (by decide +kernel))
    refine ss_ret (ev_tup (ar_cons ev_str (ar_cons (ev_ixT (d := .int n) (ev_var Se 2) ev_int rfl) (ar_cons (d := .lst (rdD p (movS p s a) (movS p s b))) ?CM ar_nil)))) rfl
    case CM =>
      have e : rdD p (movS p s a) (movS p s b) = (roadL p a b).map fun u => stD (movS p s u) := by
        unfold rdD
        rw [← mov_roadL79 hp hs, List.map_map, List.map_map]
        rfl
      have ln := rd_len79 hp a b
      have l2 : (rdD p a b).length = (roadL p a b).length := by unfold rdD; rw [List.length_map, List.length_map]
      rw [e]
      refine ev_compM (items := rdD p a b) (tn := ["_law_spot"]) (fs := ["_law_p", "_law_one"]) (ix := [0, 1]) (G' := ["moved"]) Se Z.sc ?B (it_list (ev_ixT (d := .lst (rdD p a b)) (ev_var Se 2) ev_int rfl)) (by rw [List.length_map, l2]) (by rw [List.length_map]; omega) ?T
      case B => exact ⟨rfl, rfl, by decide +kernel, by decide +kernel, by decide +kernel, by decide +kernel, by decide +kernel, by decide +kernel, rfl, by decide +kernel⟩
      case T =>
        intro Y' S' hl m d r hd hr ts hts
        obtain ⟨t1, rfl⟩ : ∃ t1, ts = [t1] := List.length_eq_one_iff.mp hts
        unfold rdD at hd
        rw [List.getElem?_map, List.getElem?_map] at hd
        rw [List.getElem?_map] at hr
        cases hx : (roadL p a b)[m]? with
        | none => rw [hx] at hr; cases hr
        | some u =>
          rw [hx] at hd hr
          cases hd
          cases hr
          have nu := road_nr79 hp na w1 (V := 600) (by omega) hx
          exact ⟨[_], rfl, rfl, tg_name0 S'.toSn 0 (.inr (hl _ (by simp))), ev_call S' 0 (ok_moved M) (by decide) (ar_cons (ev_var S' 1) (ar_cons (ev_var S' 2) (ar_cons (ev_var S' 0) ar_nil))) ⟨p, s, u.1, u.2, 61, 600, 1801, rfl, hp, hs, hb, nu.fb hp, (nu.k hp).1, (nu.k hp).2, by decide, by decide, rfl⟩⟩
abbrev s_same79 : Stmt := top 75
theorem sc_same79 : ScB ["_law_one", "_law_other"] ["_law_one", "_law_other"] [] (defScope s_same79) := ⟨⟨rfl, rfl, rfl, by decide +kernel, rfl, by decide +kernel, by decide +kernel⟩, by decide +kernel, by decide +kernel⟩
theorem ok_same79 {T : Tx} (M : Mo T) : FnD T 1 "_law_same" R_same79 := by
  refine fn_D M.F_same79 sc_same79 (fun f fd F => F.binds fun _ _ _ _ _ _ us hl => match us, hl with | [_, _], _ => rfl) (by rintro _ _ ⟨_, _, rfl, _⟩; rfl) fun Y S Z ds d h => ?_
  have Se := S.toSe
  obtain ⟨x, y, rfl, hS, rfl⟩ := h
  cases hS with
  | k x y =>
    refine ss_ret (ev_to79 (w := .bl true) (ev_and (ev_eqS (x := "keeps") (y := "keeps") (ev_ixT (d := .str "keeps") (ev_var Se 0) ev_int rfl) (ev_ixT (d := .str "keeps") (ev_var Se 1) ev_int rfl)) fun _ => ev_one (ev_or (d := .bl true) (ev_neS79 (x := "keeps") (y := "slides") (ev_ixT (d := .str "keeps") (ev_var Se 0) ev_int rfl) ev_str) fun h => absurd h (by decide +kernel))) ?_) rfl
    rw [show (("keeps" : Str) == "keeps") = true by decide +kernel, show (!(("keeps" : Str) == "slides")) = true by decide +kernel]
    rfl
  | t a b x y =>
    refine ss_ret (ev_to79 (w := .bl true) (ev_and (ev_eqS (x := "turns") (y := "turns") (ev_ixT (d := .str "turns") (ev_var Se 0) ev_int rfl) (ev_ixT (d := .str "turns") (ev_var Se 1) ev_int rfl)) fun _ => ev_one (ev_or (d := .bl true) (ev_neS79 (x := "turns") (y := "slides") (ev_ixT (d := .str "turns") (ev_var Se 0) ev_int rfl) ev_str) fun h => absurd h (by decide +kernel))) ?_) rfl
    rw [show (("turns" : Str) == "turns") = true by decide +kernel, show (!(("turns" : Str) == "slides")) = true by decide +kernel]
    rfl
  | s n x y =>
    refine ss_ret (ev_to79 (w := .bl true) (ev_and (ev_eqS (x := "slides") (y := "slides") (ev_ixT (d := .str "slides") (ev_var Se 0) ev_int rfl) (ev_ixT (d := .str "slides") (ev_var Se 1) ev_int rfl)) fun _ => ev_one (ev_or (ev_neS79 (x := "slides") (y := "slides") (ev_ixT (d := .str "slides") (ev_var Se 0) ev_int rfl) ev_str) fun h => ev_one (ev_eqI (i := n) (j := n) (ev_ixT (d := .int n) (ev_var Se 0) ev_int rfl) (ev_ixT (d := .int n) (ev_var Se 1) ev_int rfl)))) ?_) rfl
    rw [show (("slides" : Str) == "slides") = true by decide +kernel, decide_eq_true rfl]
    rfl
abbrev s_law : Stmt := top 76
theorem sc_law : ScB ["_law_script", "_law_p", "_law_table", "_law_made", "_law_told", "_law_factor", "_law_wide", "_law_back", "_law_other", "_law_twice", "_law_k", "_law_one", "_law_far_one"] ["_law_script"] ["_law_prime", "_law_plain_table", "kind", "_law_number", "stretched", "turned_over", "range", "_law_cell", "product", "max", "_law_same", "holds", "min", "_law_measure", "_law_led_paper", "len"] (defScope s_law) := ⟨⟨rfl, rfl, rfl, by decide +kernel, rfl, by decide +kernel, by decide +kernel⟩, by decide +kernel, by decide +kernel⟩
theorem okk_law {T : Tx} (M : Mo T) {f : Addr} {fd : FuncData} (F : Fun T.K "law" "law" s_law f fd) : FnOk T.prog T.w T.K T.mg T.base CX0 11 f fd ["_law_script"] (spD T.K R_law) := by
  refine fn_Dk F sc_law (by rintro _ _ ⟨_, rfl, _, rfl⟩; rfl) fun Y S Z ds d h => ?_
  have Se := S.toSe
  obtain ⟨ns, rfl, h63, rfl⟩ := h
  obtain ⟨p, hp, hpa⟩ := prime_at (i := ccell ns 0 / 2 % 4) (by omega) (by omega)
  refine ss_set S 1 (d := .int p) (ev_call Se 0 (ok_prime78 M) (by decide) (ar_cons (ev_var Se 0) ar_nil) ⟨ns, p, rfl, h63, hp, hpa, rfl⟩) ?_
  refine ss_set S 2 (d := tbD (plD p ns 1)) (ev_call Se 1 (ok_plain79 M) (by decide) (ar_cons (ev_var Se 0) (ar_cons (ev_var Se 1) (ar_cons ev_int ar_nil))) ⟨p, ns, 1, rfl, hp, h63, by decide, by decide, rfl⟩) ?_
  have hP := plD_is79 hp ns 1
  generalize plD p ns 1 = t0 at hP ⊢
  refine ss_ifJ (fun c => ∃ (A : Tb) (s3 : Slot), c = [.val (.lst (ns.map D.int)), .val (.int p), .val (tbD A), s3, .un, .un, .un, .un, .un, .un, .un, .un, .un] ∧ Ak p A) (te_eqI (ev_modP (ev_call Se 7 (ok_cell78 M) (by decide) (ar_cons (ev_var Se 0) (ar_cons ev_int ar_nil)) ⟨ns, 6, rfl, h63, by decide, by decide, rfl⟩) ev_int (by decide)) ev_int) (fun _ => ?A) (fun _ => ⟨t0, _, rfl, hP.ak hp⟩) ?_
  case A =>
    have hm : Tbb 61 (mdT t0) := ⟨hP.tb.a, hP.tb.b, hP.tb.c, hP.tb.a.neg⟩
    refine ss_set S 3 (d := tbD (mdT t0)) ?MD ?_
    case MD => exact ev_catT (xs := [frD t0.a, frD t0.b, frD t0.c]) (ys := [.tup [.int (-t0.a.num), .int t0.a.den]]) (ev_slT3 (ev_var Se 2) ev_int) (ev_tup (ar_cons (ev_tup (ar_cons (ev_neg (ev_ixT (d := .int t0.a.num) (ev_ixT (d := frD t0.a) (ev_var Se 2) ev_int rfl) ev_int rfl)) (ar_cons (ev_ixT (d := .int t0.a.den) (ev_ixT (d := frD t0.a) (ev_var Se 2) ev_int rfl) ev_int rfl) ar_nil))) ar_nil)) (by simp) (by simp) (by simp)
    refine ss_if (te_neI (ev_ixT (d := .int (mdT t0).det.num) (ev_call Se 13 (ok_meas79 M) (by decide) (ar_cons (ev_var Se 3) ar_nil) ⟨mdT t0, rfl, hm.mok (by decide), rfl⟩) ev_int rfl) ev_int) (fun h => ?_) (fun h => ss_nil (ss_nil ⟨t0, _, rfl, hP.ak hp⟩))
    have h0 : (mdT t0).det ≠ 0 := fun z => by
      rw [z] at h
      exact absurd h (by decide)
    exact ss_set S 2 (ev_var Se 3) (ss_nil (ss_nil ⟨mdT t0, _, rfl, hP.made hp h0⟩))
  rintro _ ⟨A, s3, rfl, hA⟩
  have aD := hA.ds
  refine ss_set S 4 (d := kindD p A) (ev_call Se 2 (ok_kind79 M) (by decide) (ar_cons (ev_var Se 1) (ar_cons (ev_var Se 2) ar_nil)) ⟨p, A, rfl, hp, hA.nd, hA.tb.mono (by decide), by omega, rfl⟩) ?_
  have hT := kind_told79 hp hA.nd (D := 185) (W := 100) (V := 300) (by omega) (by decide) (by decide) (by decide)
  generalize kindD p A = told at hT ⊢
  refine ss_set S 5 (d := frD (numQ p (ccell ns 7))) (ev_call Se 3 (ok_num79 M) (by decide) (ar_cons (ev_var Se 1) (ar_cons (ev_call Se 7 (ok_cell78 M) (by decide) (ar_cons (ev_var Se 0) (ar_cons ev_int ar_nil)) ⟨ns, 7, rfl, h63, by decide, by decide, rfl⟩) (ar_cons ev_bl ar_nil))) ⟨p, _, rfl, hp, rfl⟩) ?_
  have f3 : Fb 15 (Rat.divInt (-3) 2) := Fb.divInt (by decide) (by decide) (by decide)
  have fr := nz_fb79 (num_fb79 hp (ccell ns 7)) f3
  have r0 : nz (numQ p (ccell ns 7)) (Rat.divInt (-3) 2) ≠ 0 := nz_ne79 (by decide +kernel)
  clear f3
  generalize numQ p (ccell ns 7) = q at fr r0 ⊢
  refine ss_ifD S 5 (d1 := frD (Rat.divInt (-3) 2)) (d2 := frD q) (te_eqI (ev_ixT (d := .int q.num) (ev_var Se 5) ev_int rfl) ev_int) (fun _ => ?F3) ?_
  case F3 =>
    rw [f32_79]
    exact ev_tup (ar_cons (ev_neg ev_int) (ar_cons ev_int ar_nil))
  rw [nz_d79]
  generalize nz q (Rat.divInt (-3) 2) = r at fr r0 ⊢
  show SsD Y _ [.val (.lst (ns.map D.int)), .val (.int p), .val (tbD A), s3, .val told, .val (frD r), .un, .un, .un, .un, .un, .un, .un] _
  refine ss_set S 6 (d := tbD (A.scale r)) (ev_call Se 4 (ok_stretched M) (by decide) (ar_cons (ev_var Se 2) (ar_cons (ev_var Se 5) ar_nil)) ⟨A, r, rfl, hA.tb.mono (by decide), fr.mono (by decide), r0, rfl⟩) ?_
  have wn := scale_ne79 hA.nd r0
  have wb : Tbb 673 (A.scale r) := (hA.tb.scale fr).mono (by decide)
  have wd : dsT p (A.scale r) ≤ 400 := by rw [ds_scale79 hp hA.nd r0]; omega
  have sW := told_same79 (kind_told79 hp wn (D := 400) (W := 201) (V := 600) (by omega) (by decide) (by decide) (by decide)) hT (sl_scale79 hp hA.nd r0).1 (dtp_scale79 hp hA.nd r0)
  have hW := told_mono79 (told_scale79 hp hA.nd r0 hT) (show 100 ≤ 210 by decide) (show 300 ≤ 600 by decide)
  refine ss_if (te_or (te_not (te_val (v := true) (ev_call Se 10 (ok_same79 M) (by decide) (ar_cons (ev_call Se 2 (ok_kind79 M) (by decide) (ar_cons (ev_var Se 1) (ar_cons (ev_var Se 6) ar_nil)) ⟨p, A.scale r, rfl, hp, wn, wb, wd, rfl⟩) (ar_cons (ev_var Se 4) ar_nil)) ⟨kindD p (A.scale r), told, rfl, sW, rfl⟩))) fun _ => te_or1 (te_not (te_val (v := true) (ev_call Se 11 (ok_holds79 M) (by decide) (ar_cons (ev_var Se 1) (ar_cons (ev_var Se 6) (ar_cons (ev_var Se 4) ar_nil))) ⟨p, A.scale r, told, rfl, hp, wn, wb, hW, rfl⟩)))).pt (fun h => absurd h (by decide)) (fun _ => ss_nil ?_)
  clear sW hW wn wb wd
  have bI : Tbb 673 A.inv := (hA.tb.inv hA.nd).mono (by decide)
  have dI : dsT p A.inv ≤ 400 := by rw [ds_inv79 hp hA.nd]; omega
  refine ss_set S 7 (d := tbD A.inv) (ev_call Se 5 (ok_turned_over M) (by decide) (ar_cons (ev_var Se 2) ar_nil) ⟨A, rfl, hA.tb.mok (by decide), hA.nd, hA.tb.det.mono (by decide), rfl⟩) ?_
  refine ss_set S 8 (d := kindD p A.inv) (ev_call Se 2 (ok_kind79 M) (by decide) (ar_cons (ev_var Se 1) (ar_cons (ev_var Se 7) ar_nil)) ⟨p, A.inv, rfl, hp, det_inv hA.nd, bI, dI, rfl⟩) ?_
  have sI := told_same79 (kind_told79 hp (det_inv hA.nd) (D := 400) (W := 201) (V := 600) (by omega) (by decide) (by decide) (by decide)) hT (sl_inv79 hp hA.nd).1 (dtp_inv79 hp hA.nd)
  have hI2 : slS p A = 0 → Told p A.inv 210 600 told := fun z => told_mono79 (told_inv79 hp hA.nd hT z) (by decide) (by decide)
  generalize kindD p A.inv = oth at sI ⊢
  refine ss_if (v := false) ?T2 (fun h => nomatch h) (fun _ => ss_nil ?_)
  case T2 =>
    cases hT with
    | @keeps u nu mu su pu => exact te_to79 (te_or (te_not (te_val (v := true) (ev_call Se 10 (ok_same79 M) (by decide) (ar_cons (ev_var Se 8) (ar_cons (ev_var Se 4) ar_nil)) ⟨oth, _, rfl, sI, rfl⟩))) fun _ => te_or1 (te_and (te_neS (x := "keeps") (y := "slides") (ev_ixT (d := .str "keeps") (ev_var Se 4) ev_int rfl) ev_str) (fun _ => te_and1 (te_not (te_val (v := true) (ev_call Se 11 (ok_holds79 M) (by decide) (ar_cons (ev_var Se 1) (ar_cons (ev_var Se 7) (ar_cons (ev_var Se 4) ar_nil))) ⟨p, A.inv, _, rfl, hp, det_inv hA.nd, bI, hI2 su, rfl⟩))))).pt).pt (by decide +kernel)
    | @turns a b na nb lt w1 ma mb su pu => exact te_to79 (te_or (te_not (te_val (v := true) (ev_call Se 10 (ok_same79 M) (by decide) (ar_cons (ev_var Se 8) (ar_cons (ev_var Se 4) ar_nil)) ⟨oth, _, rfl, sI, rfl⟩))) fun _ => te_or1 (te_and (te_neS (x := "turns") (y := "slides") (ev_ixT (d := .str "turns") (ev_var Se 4) ev_int rfl) ev_str) (fun _ => te_and1 (te_not (te_val (v := true) (ev_call Se 11 (ok_holds79 M) (by decide) (ar_cons (ev_var Se 1) (ar_cons (ev_var Se 7) (ar_cons (ev_var Se 4) ar_nil))) ⟨p, A.inv, _, rfl, hp, det_inv hA.nd, bI, hI2 su, rfl⟩))))).pt).pt (by decide +kernel)
    | @slides a b n na nb w1 n0 n5 ma su => exact te_to79 (te_or (te_not (te_val (v := true) (ev_call Se 10 (ok_same79 M) (by decide) (ar_cons (ev_var Se 8) (ar_cons (ev_var Se 4) ar_nil)) ⟨oth, _, rfl, sI, rfl⟩))) fun _ => te_or1 (te_and (te_neS (x := "slides") (y := "slides") (ev_ixT (d := .str "slides") (ev_var Se 4) ev_int rfl) ev_str) (w := false) (fun h => absurd h (by decide +kernel))).pt).pt (by decide +kernel)
  have sD := ds_sq79 hp hA.nd
  refine ss_set S 9 (d := kindD p (A.mul A)) (ev_call Se 2 (ok_kind79 M) (by decide) (ar_cons (ev_var Se 1) (ar_cons (ev_call Se 8 (ok_product M) (by decide) (ar_cons (ev_var Se 2) (ar_cons (ev_var Se 2) ar_nil)) ⟨A, A, rfl, hA.tb.pok hA.tb (by decide), rfl⟩) ar_nil)) ⟨p, A.mul A, rfl, hp, mul_ne hA.nd hA.nd, (hA.tb.mul hA.tb).mono (by decide), by omega, rfl⟩) ?_
  have hS := kind_told79 hp (mul_ne hA.nd hA.nd) (D := 400) (W := 201) (V := 600) (by omega) (by decide) (by decide) (by decide)
  have s2 := (sl_sq79 hp hA.nd).1
  have e2 := dtp_sq79 hp hA.nd
  generalize kindD p (A.mul A) = tw at hS ⊢
  refine ss_if (v := false) ?T3 (fun h => nomatch h) (fun _ => ss_nil ?_)
  case T3 =>
    cases hT with
    | @keeps u nu mu su pu =>
      cases hS with
      | keeps => exact te_to79 (te_neS (x := "keeps") (y := "keeps") (ev_ixT (d := .str "keeps") (ev_var Se 9) ev_int rfl) (ev_dlit3S Se pe_str pe_str pe_str pe_str pe_str pe_str (ev_ixT (d := .str "keeps") (ev_var Se 4) ev_int rfl) (by decide +kernel) (by intro _ _; rfl))) (by decide +kernel)
      | turns => omega
      | slides => omega
    | @turns a b na nb lt w1 ma mb su pu =>
      cases hS with
      | keeps => exact te_to79 (te_neS (x := "keeps") (y := "keeps") (ev_ixT (d := .str "keeps") (ev_var Se 9) ev_int rfl) (ev_dlit3S Se pe_str pe_str pe_str pe_str pe_str pe_str (ev_ixT (d := .str "turns") (ev_var Se 4) ev_int rfl) (by decide +kernel) (by intro _ _; rfl))) (by decide +kernel)
      | turns => omega
      | slides => omega
    | @slides a b n na nb w1 n0 n5 ma su =>
      cases hS with
      | keeps => omega
      | turns => omega
      | slides => exact te_to79 (te_neS (x := "slides") (y := "slides") (ev_ixT (d := .str "slides") (ev_var Se 9) ev_int rfl) (ev_dlit3S Se pe_str pe_str pe_str pe_str pe_str pe_str (ev_ixT (d := .str "slides") (ev_var Se 4) ev_int rfl) (by decide +kernel) (by intro _ _; rfl))) (by decide +kernel)
  refine ss_if (v := false) ?T4 (fun h => nomatch h) (fun _ => ss_nil ?_)
  case T4 =>
    cases hT with
    | @keeps u nu mu su pu => exact te_to79 (te_and (w := false) (te_eqS (x := "keeps") (y := "slides") (ev_ixT (d := .str "keeps") (ev_var Se 4) ev_int rfl) ev_str) fun h => absurd h (by decide +kernel)).pt (by decide +kernel)
    | @turns a b na nb lt w1 ma mb su pu => exact te_to79 (te_and (w := false) (te_eqS (x := "turns") (y := "slides") (ev_ixT (d := .str "turns") (ev_var Se 4) ev_int rfl) ev_str) fun h => absurd h (by decide +kernel)).pt (by decide +kernel)
    | @slides a b n na nb w1 n0 n5 ma su =>
      cases hS with
      | keeps => omega
      | turns => omega
      | @slides a2 b2 n2 na2 nb2 w12 n02 n52 ma2 su2 =>
        have e : n2 = 2 * n := by omega
        refine te_to79 (te_and (te_eqS (x := "slides") (y := "slides") (ev_ixT (d := .str "slides") (ev_var Se 4) ev_int rfl) ev_str) fun _ => te_and1 (te_neI (i := n2) (j := 2 * n) (ev_ixT (d := .int n2) (ev_var Se 9) ev_int rfl) (ev_mul ev_int (ev_ixT (d := .int n) (ev_var Se 4) ev_int rfl) (.of_left (intBits_le_64 (by omega) (by omega)))))).pt ?_
        rw [decide_eq_true e]
        decide +kernel
  clear hS s2 e2 sD sI hI2 bI dI r0 fr
  have ml : (ns.map D.int).length = ns.length := List.length_map ..
  refine ss_for S (it_range1 Se 6 (ar_cons (ev_max Se 9 (ar_cons ev_int (ar_cons (ev_min Se 12 (ar_cons ev_int (ar_cons (ev_fdivP (ev_sub (ev_len Se 15 (n := ns.length) (d := .lst (ns.map D.int)) (ar_cons (ev_var Se 0) ar_nil) (congrArg some ml) M.b_len) ev_int) ev_int (by decide) (by decide +kernel)) ar_nil)) M.b_min) ar_nil)) M.b_max) ar_nil) (by omega) (by omega) M.b_range)
    (fun _ c => ∃ s10 s11 s12 : Slot, c = [.val (.lst (ns.map D.int)), .val (.int p), .val (tbD A), s3, .val told, .val (frD r), .val (tbD (A.scale r)), .val (tbD A.inv), .val oth, .val tw, s10, s11, s12]) ⟨_, _, _, rfl⟩ ?_ ?_
  · rintro m d _ hd ⟨s10, s11, s12, rfl⟩
    obtain ⟨hm, rfl⟩ := rangeD_of hd
    have hm6 : m < 6 := by omega
    refine ⟨_, tg_name S 10, ?_⟩
    rw [show (0 : Int) + (m : Int) * 1 = (m : Int) by omega]
    refine ss_set S 11 (d := tbD (plD p ns (8 + 6 * (m : Int)))) (ev_call Se 1 (ok_plain79 M) (by decide) (ar_cons (ev_var Se 0) (ar_cons (ev_var Se 1) (ar_cons (ev_add ev_int (ev_mul ev_int (ev_var Se 10) (.of_left (intBits_le_64 (by omega) (by omega))))) ar_nil))) ⟨p, ns, 8 + 6 * (m : Int), rfl, hp, h63, by omega, by omega, rfl⟩) ?_
    have hO := plD_is79 hp ns (8 + 6 * (m : Int))
    generalize plD p ns (8 + 6 * (m : Int)) = s at hO ⊢
    have oD := hO.ds hp
    have fb : Tbb 673 ((s.mul A).mul s.inv) := ((hO.tb.mul hA.tb).mul hO.inv).mono (by decide)
    have fn := mul_ne (mul_ne hO.nd hA.nd) (det_inv hO.nd)
    have fD : dsT p ((s.mul A).mul s.inv) ≤ 400 := by
      have := ds_conj79 hp hA.nd hO.nd
      omega
    obtain ⟨d', hL, hF⟩ := led79 hp hA.nd hO.nd oD hT
    have sF := told_same79 (kind_told79 hp fn (D := 400) (W := 201) (V := 600) (by omega) (by decide) (by decide) (by decide)) hT (sl_conj79 hp hO.nd).1 (dtp_conj79 hp hO.nd)
    refine ss_set S 12 (d := tbD ((s.mul A).mul s.inv)) (ev_call Se 8 (ok_product M) (by decide) (ar_cons (ev_call Se 8 (ok_product M) (by decide) (ar_cons (ev_var Se 11) (ar_cons (ev_var Se 2) ar_nil)) ⟨s, A, rfl, hO.tb.pok hA.tb (by decide), rfl⟩) (ar_cons (ev_call Se 5 (ok_turned_over M) (by decide) (ar_cons (ev_var Se 11) ar_nil) ⟨s, rfl, hO.tb.mok (by decide), hO.nd, hO.fd.mono (by decide), rfl⟩) ar_nil)) ⟨s.mul A, s.inv, rfl, (hO.tb.mul hA.tb).pok hO.inv (by decide), rfl⟩) ?_
    refine ss_if (te_or (te_not (te_val (v := true) (ev_call Se 10 (ok_same79 M) (by decide) (ar_cons (ev_call Se 2 (ok_kind79 M) (by decide) (ar_cons (ev_var Se 1) (ar_cons (ev_var Se 12) ar_nil)) ⟨p, _, rfl, hp, fn, fb, fD, rfl⟩) (ar_cons (ev_var Se 4) ar_nil)) ⟨_, told, rfl, sF, rfl⟩))) fun _ => te_or1 (te_not (te_val (v := true) (ev_call Se 11 (ok_holds79 M) (by decide) (ar_cons (ev_var Se 1) (ar_cons (ev_var Se 12) (ar_cons (ev_call Se 14 (ok_led79 M) (by decide) (ar_cons (ev_var Se 1) (ar_cons (ev_var Se 11) (ar_cons (ev_var Se 4) ar_nil))) ⟨p, s, told, rfl, hp, hO.nd, hO.tb, hL⟩) ar_nil))) ⟨p, _, d', rfl, hp, fn, fb, hF, rfl⟩)))).pt (fun h => absurd h (by decide)) (fun _ => ss_nil (ss_nil ⟨_, _, _, rfl⟩))
  · rintro _ ⟨s10, s11, s12, rfl⟩
    exact ss_ret ev_bl rfl
theorem all_mk {l : PySem.W.OpenLaw} {w : World} {K : PySem.W.Frag} {h : Heap} {mg : Str → Option Value} {fa f0 f1 f2 f3 f4 f5 f6 f7 f8 f9 f10 f11 f12 f13 f14 f15 f16 f17 f18 f19 f20 f21 f22 f23 f24 f25 f26 f27 f28 f29 f30 f31 f32 f33 f34 f35 f36 f37 f38 f39 f40 f41 f42 f43 f44 f45 f46 f47 f48 f49 c_NOUGHT c_ONE : Addr} (X : K.In h) (G : h.Ns mainGlobals mg) (hfa : mg "law" = some (.ref fa))
    {od0 an0 od1 an1 od2 an2 od3 an3 od4 an4 od5 an5 od6 an6 od7 an7 od8 an8 od9 an9 od10 an10 od11 an11 od12 an12 od13 an13 od14 an14 od15 an15 od16 an16 od17 an17 od18 an18 od19 an19 od20 an20 od21 an21 od22 an22 od23 an23 od24 an24 od25 an25 od26 an26 od27 an27 od28 an28 od29 an29 od30 an30 od31 an31 od32 an32 od33 an33 od34 an34 od35 an35 od36 an36 od37 an37 od38 an38 od39 an39 od40 an40 od41 an41 od42 an42 od43 an43 od44 an44 od45 an45 od46 an46 od47 an47 od48 an48 od49 an49 : Option Addr} {sl0 sl1 sl2 sl3 sl4 sl5 sl6 sl7 sl8 sl9 sl10 sl11 sl12 sl13 sl14 sl15 sl16 sl17 sl18 sl19 sl20 sl21 sl22 sl23 sl24 sl25 sl26 sl27 sl28 sl29 sl30 sl31 sl32 sl33 sl34 sl35 sl36 sl37 sl38 sl39 sl40 sl41 sl42 sl43 sl44 sl45 sl46 sl47 sl48 sl49 : Array (Option Value)} {oc0 kV0 dc0 pm0 cd0 ct0 oc1 kV1 dc1 pm1 cd1 ct1 oc2 kV2 dc2 pm2 cd2 ct2 oc3 kV3 dc3 pm3 cd3 ct3 oc4 kV4 dc4 pm4 cd4 ct4 oc5 toc5 kV5 dc5 pm5 cd5 ct5 oc6 kV6 dc6 pm6 cd6 ct6 oc7 kV7 dc7 pm7 cd7 ct7 oc8 kV8 dc8 pm8 cd8 ct8 oc9 kV9 dc9 pm9 cd9 ct9 oc10 kV10 dc10 pm10 cd10 ct10 oc11 kV11 dc11 pm11 cd11 ct11 oc12 kV12 dc12 pm12 cd12 ct12 oc13 kV13 dc13 pm13 cd13 ct13 oc14 kV14 dc14 pm14 cd14 ct14 oc15 kV15 dc15 pm15 cd15 ct15 oc16 kV16 dc16 pm16 cd16 ct16 oc17 kV17 dc17 pm17 cd17 ct17 oc18 kV18 dc18 pm18 cd18 ct18 oc19 kV19 dc19 pm19 cd19 ct19 oc20 kV20 dc20 pm20 cd20 ct20 oc21 kV21 dc21 pm21 cd21 ct21 oc22 kV22 dc22 pm22 cd22 ct22 oc23 kV23 dc23 pm23 cd23 ct23 oc24 kV24 dc24 pm24 cd24 ct24 oc25 kV25 dc25 pm25 cd25 ct25 oc26 kV26 dc26 pm26 cd26 ct26 oc27 kV27 dc27 pm27 cd27 ct27 oc28 kV28 dc28 pm28 cd28 ct28 oc29 kV29 dc29 pm29 cd29 ct29 oc30 kV30 dc30 pm30 cd30 ct30 oc31 kV31 dc31 pm31 cd31 ct31 oc32 kV32 dc32 pm32 cd32 ct32 oc33 kV33 dc33 pm33 cd33 ct33 oc34 kV34 dc34 pm34 cd34 ct34 oc35 kV35 dc35 pm35 cd35 ct35 oc36 kV36 dc36 pm36 cd36 ct36 oc37 kV37 dc37 pm37 cd37 ct37 oc38 kV38 dc38 pm38 cd38 ct38 oc39 kV39 dc39 pm39 cd39 ct39 oc40 kV40 dc40 pm40 cd40 ct40 oc41 kV41 dc41 pm41 cd41 ct41 oc42 kV42 dc42 pm42 cd42 ct42 oc43 kV43 dc43 pm43 cd43 ct43 oc44 kV44 dc44 pm44 cd44 ct44 oc45 kV45 dc45 pm45 cd45 ct45 oc46 kV46 dc46 pm46 cd46 ct46 oc47 kV47 dc47 pm47 cd47 ct47 oc48 kV48 dc48 pm48 cd48 ct48 oc49 kV49 dc49 pm49 cd49 ct49 : Value}
    {Td5 : Addr} {ttk5 : Tok} {tn5 : Nat} {tod5 : Option Addr} {tsl5 : Array (Option Value)}
    (a0 : PySem.W.nsIn K mainGlobals "shared" = some (some (.ref f0))) (l0 : K.lookup f0 = some ⟨oc0, od0, .func (PySem.W.fnOf "shared" "shared" (defArgs s_shared) (defBody s_shared) (defScope s_shared) .none kV0 dc0 pm0 an0 cd0 ct0), sl0⟩) (c0 : PySem.W.codeIn K cd0 "shared" = true) (k0 : PySem.W.keepIn K (.ref f0) = true)
    (a1 : PySem.W.nsIn K mainGlobals "power_of" = some (some (.ref f1))) (l1 : K.lookup f1 = some ⟨oc1, od1, .func (PySem.W.fnOf "power_of" "power_of" (defArgs s_power_of) (defBody s_power_of) (defScope s_power_of) .none kV1 dc1 pm1 an1 cd1 ct1), sl1⟩) (c1 : PySem.W.codeIn K cd1 "power_of" = true) (k1 : PySem.W.keepIn K (.ref f1) = true)
    (a2 : PySem.W.nsIn K mainGlobals "raised" = some (some (.ref f2))) (l2 : K.lookup f2 = some ⟨oc2, od2, .func (PySem.W.fnOf "raised" "raised" (defArgs s_raised) (defBody s_raised) (defScope s_raised) .none kV2 dc2 pm2 an2 cd2 ct2), sl2⟩) (c2 : PySem.W.codeIn K cd2 "raised" = true) (k2 : PySem.W.keepIn K (.ref f2) = true)
    (a3 : PySem.W.nsIn K mainGlobals "over_by" = some (some (.ref f3))) (l3 : K.lookup f3 = some ⟨oc3, od3, .func (PySem.W.fnOf "over_by" "over_by" (defArgs s_over_by) (defBody s_over_by) (defScope s_over_by) .none kV3 dc3 pm3 an3 cd3 ct3), sl3⟩) (c3 : PySem.W.codeIn K cd3 "over_by" = true) (k3 : PySem.W.keepIn K (.ref f3) = true)
    (a4 : PySem.W.nsIn K mainGlobals "over_by_prime" = some (some (.ref f4))) (l4 : K.lookup f4 = some ⟨oc4, od4, .func (PySem.W.fnOf "over_by_prime" "over_by_prime" (defArgs s_obp) (defBody s_obp) (defScope s_obp) .none kV4 dc4 pm4 an4 cd4 ct4), sl4⟩) (c4 : PySem.W.codeIn K cd4 "over_by_prime" = true) (k4 : PySem.W.keepIn K (.ref f4) = true)
    (a5 : PySem.W.nsIn K mainGlobals "fraction" = some (some (.ref f5))) (l5 : K.lookup f5 = some ⟨oc5, od5, .func (PySem.W.fnOf "fraction" "fraction" (defArgs s_fraction) (defBody s_fraction) (defScope s_fraction) (.ref Td5) kV5 dc5 pm5 an5 cd5 ct5), sl5⟩) (c5 : PySem.W.codeIn K cd5 "fraction" = true) (k5 : PySem.W.keepIn K (.ref f5) = true)
    (a6 : PySem.W.nsIn K mainGlobals "plus" = some (some (.ref f6))) (l6 : K.lookup f6 = some ⟨oc6, od6, .func (PySem.W.fnOf "plus" "plus" (defArgs s_plus) (defBody s_plus) (defScope s_plus) .none kV6 dc6 pm6 an6 cd6 ct6), sl6⟩) (c6 : PySem.W.codeIn K cd6 "plus" = true) (k6 : PySem.W.keepIn K (.ref f6) = true)
    (a7 : PySem.W.nsIn K mainGlobals "minus" = some (some (.ref f7))) (l7 : K.lookup f7 = some ⟨oc7, od7, .func (PySem.W.fnOf "minus" "minus" (defArgs s_minus) (defBody s_minus) (defScope s_minus) .none kV7 dc7 pm7 an7 cd7 ct7), sl7⟩) (c7 : PySem.W.codeIn K cd7 "minus" = true) (k7 : PySem.W.keepIn K (.ref f7) = true)
    (a8 : PySem.W.nsIn K mainGlobals "times" = some (some (.ref f8))) (l8 : K.lookup f8 = some ⟨oc8, od8, .func (PySem.W.fnOf "times" "times" (defArgs s_times) (defBody s_times) (defScope s_times) .none kV8 dc8 pm8 an8 cd8 ct8), sl8⟩) (c8 : PySem.W.codeIn K cd8 "times" = true) (k8 : PySem.W.keepIn K (.ref f8) = true)
    (a9 : PySem.W.nsIn K mainGlobals "over" = some (some (.ref f9))) (l9 : K.lookup f9 = some ⟨oc9, od9, .func (PySem.W.fnOf "over" "over" (defArgs s_over) (defBody s_over) (defScope s_over) .none kV9 dc9 pm9 an9 cd9 ct9), sl9⟩) (c9 : PySem.W.codeIn K cd9 "over" = true) (k9 : PySem.W.keepIn K (.ref f9) = true)
    (a10 : PySem.W.nsIn K mainGlobals "power_in" = some (some (.ref f10))) (l10 : K.lookup f10 = some ⟨oc10, od10, .func (PySem.W.fnOf "power_in" "power_in" (defArgs s_power_in) (defBody s_power_in) (defScope s_power_in) .none kV10 dc10 pm10 an10 cd10 ct10), sl10⟩) (c10 : PySem.W.codeIn K cd10 "power_in" = true) (k10 : PySem.W.keepIn K (.ref f10) = true)
    (a11 : PySem.W.nsIn K mainGlobals "prime_power" = some (some (.ref f11))) (l11 : K.lookup f11 = some ⟨oc11, od11, .func (PySem.W.fnOf "prime_power" "prime_power" (defArgs s_prime_power) (defBody s_prime_power) (defScope s_prime_power) .none kV11 dc11 pm11 an11 cd11 ct11), sl11⟩) (c11 : PySem.W.codeIn K cd11 "prime_power" = true) (k11 : PySem.W.keepIn K (.ref f11) = true)
    (a12 : PySem.W.nsIn K mainGlobals "rest_by" = some (some (.ref f12))) (l12 : K.lookup f12 = some ⟨oc12, od12, .func (PySem.W.fnOf "rest_by" "rest_by" (defArgs s_rest_byN) (defBody s_rest_byN) (defScope s_rest_byN) .none kV12 dc12 pm12 an12 cd12 ct12), sl12⟩) (c12 : PySem.W.codeIn K cd12 "rest_by" = true) (k12 : PySem.W.keepIn K (.ref f12) = true)
    (a13 : PySem.W.nsIn K mainGlobals "measure" = some (some (.ref f13))) (l13 : K.lookup f13 = some ⟨oc13, od13, .func (PySem.W.fnOf "measure" "measure" (defArgs s_measure) (defBody s_measure) (defScope s_measure) .none kV13 dc13 pm13 an13 cd13 ct13), sl13⟩) (c13 : PySem.W.codeIn K cd13 "measure" = true) (k13 : PySem.W.keepIn K (.ref f13) = true)
    (a14 : PySem.W.nsIn K mainGlobals "trace" = some (some (.ref f14))) (l14 : K.lookup f14 = some ⟨oc14, od14, .func (PySem.W.fnOf "trace" "trace" (defArgs s_trace) (defBody s_trace) (defScope s_trace) .none kV14 dc14 pm14 an14 cd14 ct14), sl14⟩) (c14 : PySem.W.codeIn K cd14 "trace" = true) (k14 : PySem.W.keepIn K (.ref f14) = true)
    (a15 : PySem.W.nsIn K mainGlobals "product" = some (some (.ref f15))) (l15 : K.lookup f15 = some ⟨oc15, od15, .func (PySem.W.fnOf "product" "product" (defArgs s_product) (defBody s_product) (defScope s_product) .none kV15 dc15 pm15 an15 cd15 ct15), sl15⟩) (c15 : PySem.W.codeIn K cd15 "product" = true) (k15 : PySem.W.keepIn K (.ref f15) = true)
    (a16 : PySem.W.nsIn K mainGlobals "row_by_column" = some (some (.ref f16))) (l16 : K.lookup f16 = some ⟨oc16, od16, .func (PySem.W.fnOf "row_by_column" "row_by_column" (defArgs s_row_by_column) (defBody s_row_by_column) (defScope s_row_by_column) .none kV16 dc16 pm16 an16 cd16 ct16), sl16⟩) (c16 : PySem.W.codeIn K cd16 "row_by_column" = true) (k16 : PySem.W.keepIn K (.ref f16) = true)
    (a17 : PySem.W.nsIn K mainGlobals "turned_over" = some (some (.ref f17))) (l17 : K.lookup f17 = some ⟨oc17, od17, .func (PySem.W.fnOf "turned_over" "turned_over" (defArgs s_turned_over) (defBody s_turned_over) (defScope s_turned_over) .none kV17 dc17 pm17 an17 cd17 ct17), sl17⟩) (c17 : PySem.W.codeIn K cd17 "turned_over" = true) (k17 : PySem.W.keepIn K (.ref f17) = true)
    (a18 : PySem.W.nsIn K mainGlobals "stretched" = some (some (.ref f18))) (l18 : K.lookup f18 = some ⟨oc18, od18, .func (PySem.W.fnOf "stretched" "stretched" (defArgs s_stretched) (defBody s_stretched) (defScope s_stretched) .none kV18 dc18 pm18 an18 cd18 ct18), sl18⟩) (c18 : PySem.W.codeIn K cd18 "stretched" = true) (k18 : PySem.W.keepIn K (.ref f18) = true)
    (a19 : PySem.W.nsIn K mainGlobals "spot_of" = some (some (.ref f19))) (l19 : K.lookup f19 = some ⟨oc19, od19, .func (PySem.W.fnOf "spot_of" "spot_of" (defArgs s_spot_of) (defBody s_spot_of) (defScope s_spot_of) .none kV19 dc19 pm19 an19 cd19 ct19), sl19⟩) (c19 : PySem.W.codeIn K cd19 "spot_of" = true) (k19 : PySem.W.keepIn K (.ref f19) = true)
    (a20 : PySem.W.nsIn K mainGlobals "table_at" = some (some (.ref f20))) (l20 : K.lookup f20 = some ⟨oc20, od20, .func (PySem.W.fnOf "table_at" "table_at" (defArgs s_table_at) (defBody s_table_at) (defScope s_table_at) .none kV20 dc20 pm20 an20 cd20 ct20), sl20⟩) (c20 : PySem.W.codeIn K cd20 "table_at" = true) (k20 : PySem.W.keepIn K (.ref f20) = true)
    (a21 : PySem.W.nsIn K mainGlobals "spot_above" = some (some (.ref f21))) (l21 : K.lookup f21 = some ⟨oc21, od21, .func (PySem.W.fnOf "spot_above" "spot_above" (defArgs s_above) (defBody s_above) (defScope s_above) .none kV21 dc21 pm21 an21 cd21 ct21), sl21⟩) (c21 : PySem.W.codeIn K cd21 "spot_above" = true) (k21 : PySem.W.keepIn K (.ref f21) = true)
    (a22 : PySem.W.nsIn K mainGlobals "least_power" = some (some (.ref f22))) (l22 : K.lookup f22 = some ⟨oc22, od22, .func (PySem.W.fnOf "least_power" "least_power" (defArgs s_least_power) (defBody s_least_power) (defScope s_least_power) .none kV22 dc22 pm22 an22 cd22 ct22), sl22⟩) (c22 : PySem.W.codeIn K cd22 "least_power" = true) (k22 : PySem.W.keepIn K (.ref f22) = true)
    (a23 : PySem.W.nsIn K mainGlobals "two_numbers" = some (some (.ref f23))) (l23 : K.lookup f23 = some ⟨oc23, od23, .func (PySem.W.fnOf "two_numbers" "two_numbers" (defArgs s_two_numbers) (defBody s_two_numbers) (defScope s_two_numbers) .none kV23 dc23 pm23 an23 cd23 ct23), sl23⟩) (c23 : PySem.W.codeIn K cd23 "two_numbers" = true) (k23 : PySem.W.keepIn K (.ref f23) = true)
    (a24 : PySem.W.nsIn K mainGlobals "lies_in" = some (some (.ref f24))) (l24 : K.lookup f24 = some ⟨oc24, od24, .func (PySem.W.fnOf "lies_in" "lies_in" (defArgs s_lies78) (defBody s_lies78) (defScope s_lies78) .none kV24 dc24 pm24 an24 cd24 ct24), sl24⟩) (c24 : PySem.W.codeIn K cd24 "lies_in" = true) (k24 : PySem.W.keepIn K (.ref f24) = true)
    (a25 : PySem.W.nsIn K mainGlobals "way" = some (some (.ref f25))) (l25 : K.lookup f25 = some ⟨oc25, od25, .func (PySem.W.fnOf "way" "way" (defArgs s_way78) (defBody s_way78) (defScope s_way78) .none kV25 dc25 pm25 an25 cd25 ct25), sl25⟩) (c25 : PySem.W.codeIn K cd25 "way" = true) (k25 : PySem.W.keepIn K (.ref f25) = true)
    (a26 : PySem.W.nsIn K mainGlobals "moved" = some (some (.ref f26))) (l26 : K.lookup f26 = some ⟨oc26, od26, .func (PySem.W.fnOf "moved" "moved" (defArgs s_moved) (defBody s_moved) (defScope s_moved) .none kV26 dc26 pm26 an26 cd26 ct26), sl26⟩) (c26 : PySem.W.codeIn K cd26 "moved" = true) (k26 : PySem.W.keepIn K (.ref f26) = true)
    (a27 : PySem.W.nsIn K mainGlobals "road" = some (some (.ref f27))) (l27 : K.lookup f27 = some ⟨oc27, od27, .func (PySem.W.fnOf "road" "road" (defArgs s_road79) (defBody s_road79) (defScope s_road79) .none kV27 dc27 pm27 an27 cd27 ct27), sl27⟩) (c27 : PySem.W.codeIn K cd27 "road" = true) (k27 : PySem.W.keepIn K (.ref f27) = true)
    (a28 : PySem.W.nsIn K mainGlobals "spots_between" = some (some (.ref f28))) (l28 : K.lookup f28 = some ⟨oc28, od28, .func (PySem.W.fnOf "spots_between" "spots_between" (defArgs s_sb78) (defBody s_sb78) (defScope s_sb78) .none kV28 dc28 pm28 an28 cd28 ct28), sl28⟩) (c28 : PySem.W.codeIn K cd28 "spots_between" = true) (k28 : PySem.W.keepIn K (.ref f28) = true)
    (a29 : PySem.W.nsIn K mainGlobals "turn_between" = some (some (.ref f29))) (l29 : K.lookup f29 = some ⟨oc29, od29, .func (PySem.W.fnOf "turn_between" "turn_between" (defArgs s_turn78) (defBody s_turn78) (defScope s_turn78) .none kV29 dc29 pm29 an29 cd29 ct29), sl29⟩) (c29 : PySem.W.codeIn K cd29 "turn_between" = true) (k29 : PySem.W.keepIn K (.ref f29) = true)
    (a30 : PySem.W.nsIn K mainGlobals "spot_along" = some (some (.ref f30))) (l30 : K.lookup f30 = some ⟨oc30, od30, .func (PySem.W.fnOf "spot_along" "spot_along" (defArgs s_along78) (defBody s_along78) (defScope s_along78) .none kV30 dc30 pm30 an30 cd30 ct30), sl30⟩) (c30 : PySem.W.codeIn K cd30 "spot_along" = true) (k30 : PySem.W.keepIn K (.ref f30) = true)
    (a31 : PySem.W.nsIn K mainGlobals "tied" = some (some (.ref f31))) (l31 : K.lookup f31 = some ⟨oc31, od31, .func (PySem.W.fnOf "tied" "tied" (defArgs s_tied79) (defBody s_tied79) (defScope s_tied79) .none kV31 dc31 pm31 an31 cd31 ct31), sl31⟩) (c31 : PySem.W.codeIn K cd31 "tied" = true) (k31 : PySem.W.keepIn K (.ref f31) = true)
    (a32 : PySem.W.nsIn K mainGlobals "kind" = some (some (.ref f32))) (l32 : K.lookup f32 = some ⟨oc32, od32, .func (PySem.W.fnOf "kind" "kind" (defArgs s_kind79) (defBody s_kind79) (defScope s_kind79) .none kV32 dc32 pm32 an32 cd32 ct32), sl32⟩) (c32 : PySem.W.codeIn K cd32 "kind" = true) (k32 : PySem.W.keepIn K (.ref f32) = true)
    (a33 : PySem.W.nsIn K mainGlobals "slide" = some (some (.ref f33))) (l33 : K.lookup f33 = some ⟨oc33, od33, .func (PySem.W.fnOf "slide" "slide" (defArgs s_slide79) (defBody s_slide79) (defScope s_slide79) .none kV33 dc33 pm33 an33 cd33 ct33), sl33⟩) (c33 : PySem.W.codeIn K cd33 "slide" = true) (k33 : PySem.W.keepIn K (.ref f33) = true)
    (a34 : PySem.W.nsIn K mainGlobals "is_kept" = some (some (.ref f34))) (l34 : K.lookup f34 = some ⟨oc34, od34, .func (PySem.W.fnOf "is_kept" "is_kept" (defArgs s_kept79) (defBody s_kept79) (defScope s_kept79) .none kV34 dc34 pm34 an34 cd34 ct34), sl34⟩) (c34 : PySem.W.codeIn K cd34 "is_kept" = true) (k34 : PySem.W.keepIn K (.ref f34) = true)
    (a35 : PySem.W.nsIn K mainGlobals "holds" = some (some (.ref f35))) (l35 : K.lookup f35 = some ⟨oc35, od35, .func (PySem.W.fnOf "holds" "holds" (defArgs s_holds79) (defBody s_holds79) (defScope s_holds79) .none kV35 dc35 pm35 an35 cd35 ct35), sl35⟩) (c35 : PySem.W.codeIn K cd35 "holds" = true) (k35 : PySem.W.keepIn K (.ref f35) = true)
    (a36 : PySem.W.nsIn K mainGlobals "is_turned" = some (some (.ref f36))) (l36 : K.lookup f36 = some ⟨oc36, od36, .func (PySem.W.fnOf "is_turned" "is_turned" (defArgs s_turned79) (defBody s_turned79) (defScope s_turned79) .none kV36 dc36 pm36 an36 cd36 ct36), sl36⟩) (c36 : PySem.W.codeIn K cd36 "is_turned" = true) (k36 : PySem.W.keepIn K (.ref f36) = true)
    (a37 : PySem.W.nsIn K mainGlobals "is_stretch" = some (some (.ref f37))) (l37 : K.lookup f37 = some ⟨oc37, od37, .func (PySem.W.fnOf "is_stretch" "is_stretch" (defArgs s_stretch79) (defBody s_stretch79) (defScope s_stretch79) .none kV37 dc37 pm37 an37 cd37 ct37), sl37⟩) (c37 : PySem.W.codeIn K cd37 "is_stretch" = true) (k37 : PySem.W.keepIn K (.ref f37) = true)
    (a38 : PySem.W.nsIn K mainGlobals "_law_cell" = some (some (.ref f38))) (l38 : K.lookup f38 = some ⟨oc38, od38, .func (PySem.W.fnOf "_law_cell" "_law_cell" (defArgs s_cell78) (defBody s_cell78) (defScope s_cell78) .none kV38 dc38 pm38 an38 cd38 ct38), sl38⟩) (c38 : PySem.W.codeIn K cd38 "_law_cell" = true) (k38 : PySem.W.keepIn K (.ref f38) = true)
    (a39 : PySem.W.nsIn K mainGlobals "_law_low" = some (some (.ref f39))) (l39 : K.lookup f39 = some ⟨oc39, od39, .func (PySem.W.fnOf "_law_low" "_law_low" (defArgs s_low78) (defBody s_low78) (defScope s_low78) .none kV39 dc39 pm39 an39 cd39 ct39), sl39⟩) (c39 : PySem.W.codeIn K cd39 "_law_low" = true) (k39 : PySem.W.keepIn K (.ref f39) = true)
    (a40 : PySem.W.nsIn K mainGlobals "_law_sum" = some (some (.ref f40))) (l40 : K.lookup f40 = some ⟨oc40, od40, .func (PySem.W.fnOf "_law_sum" "_law_sum" (defArgs s_sum79) (defBody s_sum79) (defScope s_sum79) .none kV40 dc40 pm40 an40 cd40 ct40), sl40⟩) (c40 : PySem.W.codeIn K cd40 "_law_sum" = true) (k40 : PySem.W.keepIn K (.ref f40) = true)
    (a41 : PySem.W.nsIn K mainGlobals "_law_both" = some (some (.ref f41))) (l41 : K.lookup f41 = some ⟨oc41, od41, .func (PySem.W.fnOf "_law_both" "_law_both" (defArgs s_both79) (defBody s_both79) (defScope s_both79) .none kV41 dc41 pm41 an41 cd41 ct41), sl41⟩) (c41 : PySem.W.codeIn K cd41 "_law_both" = true) (k41 : PySem.W.keepIn K (.ref f41) = true)
    (a42 : PySem.W.nsIn K mainGlobals "_law_prime_power" = some (some (.ref f42))) (l42 : K.lookup f42 = some ⟨oc42, od42, .func (PySem.W.fnOf "_law_prime_power" "_law_prime_power" (defArgs s_pp78) (defBody s_pp78) (defScope s_pp78) .none kV42 dc42 pm42 an42 cd42 ct42), sl42⟩) (c42 : PySem.W.codeIn K cd42 "_law_prime_power" = true) (k42 : PySem.W.keepIn K (.ref f42) = true)
    (a43 : PySem.W.nsIn K mainGlobals "_law_measure" = some (some (.ref f43))) (l43 : K.lookup f43 = some ⟨oc43, od43, .func (PySem.W.fnOf "_law_measure" "_law_measure" (defArgs s_meas79) (defBody s_meas79) (defScope s_meas79) .none kV43 dc43 pm43 an43 cd43 ct43), sl43⟩) (c43 : PySem.W.codeIn K cd43 "_law_measure" = true) (k43 : PySem.W.keepIn K (.ref f43) = true)
    (a44 : PySem.W.nsIn K mainGlobals "_law_prime" = some (some (.ref f44))) (l44 : K.lookup f44 = some ⟨oc44, od44, .func (PySem.W.fnOf "_law_prime" "_law_prime" (defArgs s_prime78) (defBody s_prime78) (defScope s_prime78) .none kV44 dc44 pm44 an44 cd44 ct44), sl44⟩) (c44 : PySem.W.codeIn K cd44 "_law_prime" = true) (k44 : PySem.W.keepIn K (.ref f44) = true)
    (a45 : PySem.W.nsIn K mainGlobals "_law_number" = some (some (.ref f45))) (l45 : K.lookup f45 = some ⟨oc45, od45, .func (PySem.W.fnOf "_law_number" "_law_number" (defArgs s_num79) (defBody s_num79) (defScope s_num79) .none kV45 dc45 pm45 an45 cd45 ct45), sl45⟩) (c45 : PySem.W.codeIn K cd45 "_law_number" = true) (k45 : PySem.W.keepIn K (.ref f45) = true)
    (a46 : PySem.W.nsIn K mainGlobals "_law_plain_table" = some (some (.ref f46))) (l46 : K.lookup f46 = some ⟨oc46, od46, .func (PySem.W.fnOf "_law_plain_table" "_law_plain_table" (defArgs s_plain79) (defBody s_plain79) (defScope s_plain79) .none kV46 dc46 pm46 an46 cd46 ct46), sl46⟩) (c46 : PySem.W.codeIn K cd46 "_law_plain_table" = true) (k46 : PySem.W.keepIn K (.ref f46) = true)
    (a47 : PySem.W.nsIn K mainGlobals "_law_led_paper" = some (some (.ref f47))) (l47 : K.lookup f47 = some ⟨oc47, od47, .func (PySem.W.fnOf "_law_led_paper" "_law_led_paper" (defArgs s_led79) (defBody s_led79) (defScope s_led79) .none kV47 dc47 pm47 an47 cd47 ct47), sl47⟩) (c47 : PySem.W.codeIn K cd47 "_law_led_paper" = true) (k47 : PySem.W.keepIn K (.ref f47) = true)
    (a48 : PySem.W.nsIn K mainGlobals "_law_same" = some (some (.ref f48))) (l48 : K.lookup f48 = some ⟨oc48, od48, .func (PySem.W.fnOf "_law_same" "_law_same" (defArgs s_same79) (defBody s_same79) (defScope s_same79) .none kV48 dc48 pm48 an48 cd48 ct48), sl48⟩) (c48 : PySem.W.codeIn K cd48 "_law_same" = true) (k48 : PySem.W.keepIn K (.ref f48) = true)
    (a49 : PySem.W.nsIn K mainGlobals "law" = some (some (.ref f49))) (l49 : K.lookup f49 = some ⟨oc49, od49, .func (PySem.W.fnOf "law" "law" (defArgs s_law) (defBody s_law) (defScope s_law) .none kV49 dc49 pm49 an49 cd49 ct49), sl49⟩) (c49 : PySem.W.codeIn K cd49 "law" = true) (k49 : PySem.W.keepIn K (.ref f49) = true)
    (d5 : K.lookup Td5 = some ⟨toc5, tod5, .seq #[.int 1 ttk5] tn5, tsl5⟩)
    (z_abs : PySem.W.nsIn K mainGlobals "abs" = some none)
    (z_min : PySem.W.nsIn K mainGlobals "min" = some none)
    (z_range : PySem.W.nsIn K mainGlobals "range" = some none)
    (z_max : PySem.W.nsIn K mainGlobals "max" = some none)
    (z_len : PySem.W.nsIn K mainGlobals "len" = some none)
    (z_int : PySem.W.nsIn K mainGlobals "int" = some none)
    (z_tuple : PySem.W.nsIn K mainGlobals "tuple" = some none)
    (z_sorted : PySem.W.nsIn K mainGlobals "sorted" = some none)
    {ko_NOUGHT : Option Addr} {kn_NOUGHT : Nat} {ks_NOUGHT : Array (Option Value)} {kt_NOUGHT_0 kt_NOUGHT_1 : Tok}
    {ko_ONE : Option Addr} {kn_ONE : Nat} {ks_ONE : Array (Option Value)} {kt_ONE_0 kt_ONE_1 : Tok}
    {c_FIRST c2_FIRST : Addr} {ko_FIRST kp_FIRST : Option Addr} {kn_FIRST kq_FIRST : Nat} {ks_FIRST kr_FIRST : Array (Option Value)} {kt_FIRST_0 kt_FIRST_1 kt_FIRST_2 : Tok}
    {kt_FURTHEST_WAY : Tok}
    {kt_KEEPS : Tok}
    {kt_TURNS : Tok}
    {kt_SLIDES : Tok}
    (ka_NOUGHT : PySem.W.nsIn K mainGlobals "NOUGHT" = some (some (.ref c_NOUGHT)))
    (kl_NOUGHT : K.lookup c_NOUGHT = some ⟨.type "tuple", ko_NOUGHT, .seq #[.int 0 kt_NOUGHT_0, .int 1 kt_NOUGHT_1] kn_NOUGHT, ks_NOUGHT⟩)
    (ka_ONE : PySem.W.nsIn K mainGlobals "ONE" = some (some (.ref c_ONE)))
    (kl_ONE : K.lookup c_ONE = some ⟨.type "tuple", ko_ONE, .seq #[.int 1 kt_ONE_0, .int 1 kt_ONE_1] kn_ONE, ks_ONE⟩)
    (ka_FIRST : PySem.W.nsIn K mainGlobals "FIRST" = some (some (.ref c_FIRST)))
    (kl_FIRST : K.lookup c_FIRST = some ⟨.type "tuple", ko_FIRST, .seq #[.int 0 kt_FIRST_0, .ref c2_FIRST] kn_FIRST, ks_FIRST⟩)
    (km_FIRST : K.lookup c2_FIRST = some ⟨.type "tuple", kp_FIRST, .seq #[.int 0 kt_FIRST_1, .int 1 kt_FIRST_2] kq_FIRST, kr_FIRST⟩)
    (ka_FURTHEST_WAY : PySem.W.nsIn K mainGlobals "FURTHEST_WAY" = some (some (.int 500 kt_FURTHEST_WAY)))
    (ka_KEEPS : PySem.W.nsIn K mainGlobals "KEEPS" = some (some (.str "keeps" kt_KEEPS)))
    (ka_TURNS : PySem.W.nsIn K mainGlobals "TURNS" = some (some (.str "turns" kt_TURNS)))
    (ka_SLIDES : PySem.W.nsIn K mainGlobals "SLIDES" = some (some (.str "slides" kt_SLIDES)))
    : ∃ fd : FuncData, (∀ (s : Shared) (v : Value), BindsTo s fd ⟨[v], []⟩ [("_law_script", v)]) ∧ ∀ base : Heap, K.In base → base.Ns mainGlobals mg → FnOk l.prog w K mg base CX0 11 fa fd ["_law_script"] (spD K R_law) := by
  have e := hfa.symm.trans (PySem.W.mg_of X G a49)
  cases e
  have FL := fun_mk (st := s_law) l49 c49 k49
  refine ⟨PySem.W.fnOf "law" "law" (defArgs s_law) (defBody s_law) (defScope s_law) .none kV49 dc49 pm49 an49 cd49 ct49, fun s v => .of_eq rfl, fun base _ _ => ?_⟩
  have M : Mo ⟨l.prog, w, K, mg, base⟩ := {
    b_abs := PySem.W.mg_none_of X G z_abs
    b_min := PySem.W.mg_none_of X G z_min
    b_range := PySem.W.mg_none_of X G z_range
    b_max := PySem.W.mg_none_of X G z_max
    b_len := PySem.W.mg_none_of X G z_len
    b_int := PySem.W.mg_none_of X G z_int
    b_tuple := PySem.W.mg_none_of X G z_tuple
    b_sorted := PySem.W.mg_none_of X G z_sorted
    F_shared := ⟨_, _, fun_mk (st := s_shared) l0 c0 k0, PySem.W.mg_of X G a0⟩
    F_power_of := ⟨_, _, fun_mk (st := s_power_of) l1 c1 k1, PySem.W.mg_of X G a1⟩
    F_raised := ⟨_, _, fun_mk (st := s_raised) l2 c2 k2, PySem.W.mg_of X G a2⟩
    F_over_by := ⟨_, _, fun_mk (st := s_over_by) l3 c3 k3, PySem.W.mg_of X G a3⟩
    F_obp := ⟨_, _, fun_mk (st := s_obp) l4 c4 k4, PySem.W.mg_of X G a4⟩
    F_fraction := ⟨_, _, _, _, _, _, _, _, _, _, _, _, _, _, l5, d5, rfl, c5, k5, PySem.W.mg_of X G a5⟩
    F_plus := ⟨_, _, fun_mk (st := s_plus) l6 c6 k6, PySem.W.mg_of X G a6⟩
    F_minus := ⟨_, _, fun_mk (st := s_minus) l7 c7 k7, PySem.W.mg_of X G a7⟩
    F_times := ⟨_, _, fun_mk (st := s_times) l8 c8 k8, PySem.W.mg_of X G a8⟩
    F_over := ⟨_, _, fun_mk (st := s_over) l9 c9 k9, PySem.W.mg_of X G a9⟩
    F_power_in := ⟨_, _, fun_mk (st := s_power_in) l10 c10 k10, PySem.W.mg_of X G a10⟩
    F_prime_power := ⟨_, _, fun_mk (st := s_prime_power) l11 c11 k11, PySem.W.mg_of X G a11⟩
    F_rest_byN := ⟨_, _, fun_mk (st := s_rest_byN) l12 c12 k12, PySem.W.mg_of X G a12⟩
    F_measure := ⟨_, _, fun_mk (st := s_measure) l13 c13 k13, PySem.W.mg_of X G a13⟩
    F_trace := ⟨_, _, fun_mk (st := s_trace) l14 c14 k14, PySem.W.mg_of X G a14⟩
    F_product := ⟨_, _, fun_mk (st := s_product) l15 c15 k15, PySem.W.mg_of X G a15⟩
    F_row_by_column := ⟨_, _, fun_mk (st := s_row_by_column) l16 c16 k16, PySem.W.mg_of X G a16⟩
    F_turned_over := ⟨_, _, fun_mk (st := s_turned_over) l17 c17 k17, PySem.W.mg_of X G a17⟩
    F_stretched := ⟨_, _, fun_mk (st := s_stretched) l18 c18 k18, PySem.W.mg_of X G a18⟩
    F_spot_of := ⟨_, _, fun_mk (st := s_spot_of) l19 c19 k19, PySem.W.mg_of X G a19⟩
    F_table_at := ⟨_, _, fun_mk (st := s_table_at) l20 c20 k20, PySem.W.mg_of X G a20⟩
    F_above := ⟨_, _, fun_mk (st := s_above) l21 c21 k21, PySem.W.mg_of X G a21⟩
    F_least_power := ⟨_, _, fun_mk (st := s_least_power) l22 c22 k22, PySem.W.mg_of X G a22⟩
    F_two_numbers := ⟨_, _, fun_mk (st := s_two_numbers) l23 c23 k23, PySem.W.mg_of X G a23⟩
    F_lies78 := ⟨_, _, fun_mk (st := s_lies78) l24 c24 k24, PySem.W.mg_of X G a24⟩
    F_way78 := ⟨_, _, fun_mk (st := s_way78) l25 c25 k25, PySem.W.mg_of X G a25⟩
    F_moved := ⟨_, _, fun_mk (st := s_moved) l26 c26 k26, PySem.W.mg_of X G a26⟩
    F_road79 := ⟨_, _, fun_mk (st := s_road79) l27 c27 k27, PySem.W.mg_of X G a27⟩
    F_sb78 := ⟨_, _, fun_mk (st := s_sb78) l28 c28 k28, PySem.W.mg_of X G a28⟩
    F_turn78 := ⟨_, _, fun_mk (st := s_turn78) l29 c29 k29, PySem.W.mg_of X G a29⟩
    F_along78 := ⟨_, _, fun_mk (st := s_along78) l30 c30 k30, PySem.W.mg_of X G a30⟩
    F_tied79 := ⟨_, _, fun_mk (st := s_tied79) l31 c31 k31, PySem.W.mg_of X G a31⟩
    F_kind79 := ⟨_, _, fun_mk (st := s_kind79) l32 c32 k32, PySem.W.mg_of X G a32⟩
    F_slide79 := ⟨_, _, fun_mk (st := s_slide79) l33 c33 k33, PySem.W.mg_of X G a33⟩
    F_kept79 := ⟨_, _, fun_mk (st := s_kept79) l34 c34 k34, PySem.W.mg_of X G a34⟩
    F_holds79 := ⟨_, _, fun_mk (st := s_holds79) l35 c35 k35, PySem.W.mg_of X G a35⟩
    F_turned79 := ⟨_, _, fun_mk (st := s_turned79) l36 c36 k36, PySem.W.mg_of X G a36⟩
    F_stretch79 := ⟨_, _, fun_mk (st := s_stretch79) l37 c37 k37, PySem.W.mg_of X G a37⟩
    F_cell78 := ⟨_, _, fun_mk (st := s_cell78) l38 c38 k38, PySem.W.mg_of X G a38⟩
    F_low78 := ⟨_, _, fun_mk (st := s_low78) l39 c39 k39, PySem.W.mg_of X G a39⟩
    F_sum79 := ⟨_, _, fun_mk (st := s_sum79) l40 c40 k40, PySem.W.mg_of X G a40⟩
    F_both79 := ⟨_, _, fun_mk (st := s_both79) l41 c41 k41, PySem.W.mg_of X G a41⟩
    F_pp78 := ⟨_, _, fun_mk (st := s_pp78) l42 c42 k42, PySem.W.mg_of X G a42⟩
    F_meas79 := ⟨_, _, fun_mk (st := s_meas79) l43 c43 k43, PySem.W.mg_of X G a43⟩
    F_prime78 := ⟨_, _, fun_mk (st := s_prime78) l44 c44 k44, PySem.W.mg_of X G a44⟩
    F_num79 := ⟨_, _, fun_mk (st := s_num79) l45 c45 k45, PySem.W.mg_of X G a45⟩
    F_plain79 := ⟨_, _, fun_mk (st := s_plain79) l46 c46 k46, PySem.W.mg_of X G a46⟩
    F_led79 := ⟨_, _, fun_mk (st := s_led79) l47 c47 k47, PySem.W.mg_of X G a47⟩
    F_same79 := ⟨_, _, fun_mk (st := s_same79) l48 c48 k48, PySem.W.mg_of X G a48⟩
    k_NOUGHT := ⟨_, PySem.W.mg_of X G ka_NOUGHT, _, _, _, kl_NOUGHT, rfl, rfl, of_decide_eq_true rfl, .cons ⟨_, rfl⟩ (.cons ⟨_, rfl⟩ (.nil))⟩
    k_ONE := ⟨_, PySem.W.mg_of X G ka_ONE, _, _, _, kl_ONE, rfl, rfl, of_decide_eq_true rfl, .cons ⟨_, rfl⟩ (.cons ⟨_, rfl⟩ (.nil))⟩
    k_FIRST := ⟨_, _, PySem.W.mg_of X G ka_FIRST, ⟨_, _, _, kl_FIRST, rfl, rfl, of_decide_eq_true rfl, .cons ⟨_, rfl⟩ (.cons rfl .nil)⟩, ⟨_, _, _, km_FIRST, rfl, rfl, of_decide_eq_true rfl, .cons ⟨_, rfl⟩ (.cons ⟨_, rfl⟩ .nil)⟩⟩
    k_FURTHEST_WAY := ⟨_, PySem.W.mg_of X G ka_FURTHEST_WAY⟩
    k_KEEPS := ⟨_, PySem.W.mg_of X G ka_KEEPS⟩
    k_TURNS := ⟨_, PySem.W.mg_of X G ka_TURNS⟩
    k_SLIDES := ⟨_, PySem.W.mg_of X G ka_SLIDES⟩
    }
  exact okk_law M FL
theorem walk {l : PySem.W.OpenLaw} {q : Program} {loose : List Str} {XP : (Str → Option Value) → Heap → Prop} {YP : World → Heap → Prop} {d : DefRec} {K : Params → PySem.W.Frag} (hn : l.most = some 63) (hdf : d.params.defaults = [])
    (hY : ∀ (w : World) (h : Heap), YP w h → (K w.params).In h)
    (F : ∀ (w : World) (mg : Str → Option Value) (fa : Addr) (h : Heap), (K w.params).In h → h.Ns mainGlobals mg → mg d.name = some (.ref fa) →
      ∃ fd : FuncData, (∀ (s : Shared) (u : Value), BindsTo s fd ⟨[u], []⟩ [("_law_script", u)]) ∧ ∀ base : Heap, (K w.params).In base → base.Ns mainGlobals mg → FnOk l.prog w (K w.params) mg base CX0 11 fa fd ["_law_script"] (spD (K w.params) R_law)) :
    PySem.W.WalkO q loose XP YP l.row.toRowW d [] (fun f vs => PySem.call f vs) :=
  L2.walk_of (n := 63) (k := 11) (x := "_law_script") (CX := fun _ => CX0) (sp := fun w => spD (K w.params) R_law) hn (by decide) hdf ⟨rfl, by decide, by decide⟩ hY F (fun w H a ns hl _ hS => law_sp _ H a ns hl hS) fun _ _ _ _ _ z => z
end R
open PySem PySem.W PyProof.Rows
def PySem.W.Fast.tw9024287060681757340 : Unit := ()
def PySem.W.Fast.tw3066344185217986539 : Unit := ()
def PySem.W.Fast.tw15877142688977626678 : Unit := ()
def PySem.W.Fast.tw9451915486699488567 : Unit := ()
def PySem.W.Fast.tw17293398523721040635 : Unit := ()
def PySem.W.Fast.tw1737737361857097574 : Unit := ()
def PySem.W.Fast.tw14287476703072198311 : Unit := ()
def PySem.W.Fast.tw9419327811444160887 : Unit := ()
def PySem.W.Fast.tw3177558683069676994 : Unit := ()
def PySem.W.Fast.tw13540342352582007392 : Unit := ()
def PySem.W.Fast.tw18434797024314733050 : Unit := ()
def PySem.W.Fast.tw5641095761755446122 : Unit := ()
def PySem.W.Fast.tw8118201327167448911 : Unit := ()
def PySem.W.Fast.tw15794242503942762353 : Unit := ()
set_option maxRecDepth 100000 in
set_option maxHeartbeats 0 in
theorem PySem.Challenge.cw_primetree_k79_whole_kinds_led_holds : PySem.Challenge.rw_primetree_k79_whole_kinds_led.Holds := by
  w_on; o_law; k_head; (case hw => w_witness2)
  k_fill
  refine R.walk (l := PySem.Challenge.rw_primetree_k79_whole_kinds_led) rfl rfl (fun w h Y => PySem.W.kIn_of Y) ?F
  case F =>
    intro w mg fa h KX G hmg
    refine' R.all_mk KX G hmg ?a0 ?l0 ?c0 ?k0 ?a1 ?l1 ?c1 ?k1 ?a2 ?l2 ?c2 ?k2 ?a3 ?l3 ?c3 ?k3 ?a4 ?l4 ?c4 ?k4 ?a5 ?l5 ?c5 ?k5 ?a6 ?l6 ?c6 ?k6 ?a7 ?l7 ?c7 ?k7 ?a8 ?l8 ?c8 ?k8 ?a9 ?l9 ?c9 ?k9 ?a10 ?l10 ?c10 ?k10 ?a11 ?l11 ?c11 ?k11 ?a12 ?l12 ?c12 ?k12 ?a13 ?l13 ?c13 ?k13 ?a14 ?l14 ?c14 ?k14 ?a15 ?l15 ?c15 ?k15 ?a16 ?l16 ?c16 ?k16 ?a17 ?l17 ?c17 ?k17 ?a18 ?l18 ?c18 ?k18 ?a19 ?l19 ?c19 ?k19 ?a20 ?l20 ?c20 ?k20 ?a21 ?l21 ?c21 ?k21 ?a22 ?l22 ?c22 ?k22 ?a23 ?l23 ?c23 ?k23 ?a24 ?l24 ?c24 ?k24 ?a25 ?l25 ?c25 ?k25 ?a26 ?l26 ?c26 ?k26 ?a27 ?l27 ?c27 ?k27 ?a28 ?l28 ?c28 ?k28 ?a29 ?l29 ?c29 ?k29 ?a30 ?l30 ?c30 ?k30 ?a31 ?l31 ?c31 ?k31 ?a32 ?l32 ?c32 ?k32 ?a33 ?l33 ?c33 ?k33 ?a34 ?l34 ?c34 ?k34 ?a35 ?l35 ?c35 ?k35 ?a36 ?l36 ?c36 ?k36 ?a37 ?l37 ?c37 ?k37 ?a38 ?l38 ?c38 ?k38 ?a39 ?l39 ?c39 ?k39 ?a40 ?l40 ?c40 ?k40 ?a41 ?l41 ?c41 ?k41 ?a42 ?l42 ?c42 ?k42 ?a43 ?l43 ?c43 ?k43 ?a44 ?l44 ?c44 ?k44 ?a45 ?l45 ?c45 ?k45 ?a46 ?l46 ?c46 ?k46 ?a47 ?l47 ?c47 ?k47 ?a48 ?l48 ?c48 ?k48 ?a49 ?l49 ?c49 ?k49 ?d5 ?z_abs ?z_min ?z_range ?z_max ?z_len ?z_int ?z_tuple ?z_sorted ?q_ka_NOUGHT ?q_kl_NOUGHT ?q_ka_ONE ?q_kl_ONE ?q_ka_FIRST ?q_kl_FIRST ?q_km_FIRST ?q_ka_FURTHEST_WAY ?q_ka_KEEPS ?q_ka_TURNS ?q_ka_SLIDES
    (case a0 => k_is); (case l0 => k_is); (case c0 => k_is); (case k0 => k_is)
    (case a1 => k_is); (case l1 => k_is); (case c1 => k_is); (case k1 => k_is)
    (case a2 => k_is); (case l2 => k_is); (case c2 => k_is); (case k2 => k_is)
    (case a3 => k_is); (case l3 => k_is); (case c3 => k_is); (case k3 => k_is)
    (case a4 => k_is); (case l4 => k_is); (case c4 => k_is); (case k4 => k_is)
    (case a5 => k_is); (case l5 => k_is); (case c5 => k_is); (case k5 => k_is)
    (case a6 => k_is); (case l6 => k_is); (case c6 => k_is); (case k6 => k_is)
    (case a7 => k_is); (case l7 => k_is); (case c7 => k_is); (case k7 => k_is)
    (case a8 => k_is); (case l8 => k_is); (case c8 => k_is); (case k8 => k_is)
    (case a9 => k_is); (case l9 => k_is); (case c9 => k_is); (case k9 => k_is)
    (case a10 => k_is); (case l10 => k_is); (case c10 => k_is); (case k10 => k_is)
    (case a11 => k_is); (case l11 => k_is); (case c11 => k_is); (case k11 => k_is)
    (case a12 => k_is); (case l12 => k_is); (case c12 => k_is); (case k12 => k_is)
    (case a13 => k_is); (case l13 => k_is); (case c13 => k_is); (case k13 => k_is)
    (case a14 => k_is); (case l14 => k_is); (case c14 => k_is); (case k14 => k_is)
    (case a15 => k_is); (case l15 => k_is); (case c15 => k_is); (case k15 => k_is)
    (case a16 => k_is); (case l16 => k_is); (case c16 => k_is); (case k16 => k_is)
    (case a17 => k_is); (case l17 => k_is); (case c17 => k_is); (case k17 => k_is)
    (case a18 => k_is); (case l18 => k_is); (case c18 => k_is); (case k18 => k_is)
    (case a19 => k_is); (case l19 => k_is); (case c19 => k_is); (case k19 => k_is)
    (case a20 => k_is); (case l20 => k_is); (case c20 => k_is); (case k20 => k_is)
    (case a21 => k_is); (case l21 => k_is); (case c21 => k_is); (case k21 => k_is)
    (case a22 => k_is); (case l22 => k_is); (case c22 => k_is); (case k22 => k_is)
    (case a23 => k_is); (case l23 => k_is); (case c23 => k_is); (case k23 => k_is)
    (case a24 => k_is); (case l24 => k_is); (case c24 => k_is); (case k24 => k_is)
    (case a25 => k_is); (case l25 => k_is); (case c25 => k_is); (case k25 => k_is)
    (case a26 => k_is); (case l26 => k_is); (case c26 => k_is); (case k26 => k_is)
    (case a27 => k_is); (case l27 => k_is); (case c27 => k_is); (case k27 => k_is)
    (case a28 => k_is); (case l28 => k_is); (case c28 => k_is); (case k28 => k_is)
    (case a29 => k_is); (case l29 => k_is); (case c29 => k_is); (case k29 => k_is)
    (case a30 => k_is); (case l30 => k_is); (case c30 => k_is); (case k30 => k_is)
    (case a31 => k_is); (case l31 => k_is); (case c31 => k_is); (case k31 => k_is)
    (case a32 => k_is); (case l32 => k_is); (case c32 => k_is); (case k32 => k_is)
    (case a33 => k_is); (case l33 => k_is); (case c33 => k_is); (case k33 => k_is)
    (case a34 => k_is); (case l34 => k_is); (case c34 => k_is); (case k34 => k_is)
    (case a35 => k_is); (case l35 => k_is); (case c35 => k_is); (case k35 => k_is)
    (case a36 => k_is); (case l36 => k_is); (case c36 => k_is); (case k36 => k_is)
    (case a37 => k_is); (case l37 => k_is); (case c37 => k_is); (case k37 => k_is)
    (case a38 => k_is); (case l38 => k_is); (case c38 => k_is); (case k38 => k_is)
    (case a39 => k_is); (case l39 => k_is); (case c39 => k_is); (case k39 => k_is)
    (case a40 => k_is); (case l40 => k_is); (case c40 => k_is); (case k40 => k_is)
    (case a41 => k_is); (case l41 => k_is); (case c41 => k_is); (case k41 => k_is)
    (case a42 => k_is); (case l42 => k_is); (case c42 => k_is); (case k42 => k_is)
    (case a43 => k_is); (case l43 => k_is); (case c43 => k_is); (case k43 => k_is)
    (case a44 => k_is); (case l44 => k_is); (case c44 => k_is); (case k44 => k_is)
    (case a45 => k_is); (case l45 => k_is); (case c45 => k_is); (case k45 => k_is)
    (case a46 => k_is); (case l46 => k_is); (case c46 => k_is); (case k46 => k_is)
    (case a47 => k_is); (case l47 => k_is); (case c47 => k_is); (case k47 => k_is)
    (case a48 => k_is); (case l48 => k_is); (case c48 => k_is); (case k48 => k_is)
    (case a49 => k_is); (case l49 => k_is); (case c49 => k_is); (case k49 => k_is)
    (case d5 => k_is)
    (case z_abs => k_is)
    (case z_min => k_is)
    (case z_range => k_is)
    (case z_max => k_is)
    (case z_len => k_is)
    (case z_int => k_is)
    (case z_tuple => k_is)
    (case z_sorted => k_is)
    (case q_ka_NOUGHT => k_is)
    (case q_kl_NOUGHT => k_is)
    (case q_ka_ONE => k_is)
    (case q_kl_ONE => k_is)
    (case q_ka_FIRST => k_is)
    (case q_kl_FIRST => k_is)
    (case q_km_FIRST => k_is)
    (case q_ka_FURTHEST_WAY => k_is)
    (case q_ka_KEEPS => k_is)
    (case q_ka_TURNS => k_is)
    (case q_ka_SLIDES => k_is)
#print axioms PySem.Challenge.cw_primetree_k79_whole_kinds_led_holds
