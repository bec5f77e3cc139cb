import PyProof.Rows.All
import Wide.All
import OpenK.AllK
import Wide.FinOn
import Lean
import PyProof.EqAt
import PyProof.EqKinds
import PyProof.TupleCall
import PyProof.ExcArgsOwn
import PyProof.ConsumeWalk
import PyProof.MinMaxWalk
import PyProof.WalkInts
import PyProof.SumWalk
import PyProof.SeqI3
import PyProof.CompUse
import PyProof.Rows.SortWalk
import PySem.Challenge.RW_primetree_k67_lines_looked_at
set_option Elab.async false
set_option linter.all false
set_option maxRecDepth 100000
/-! THE HAND LAYER, for ints, bools, texts, own classes, LISTS and tuples (index, slices, in, append, pop ..), calls, loops. Paste it whole ahead of your own text; what your proof does not reach may be deleted. -/
namespace L2
open PySem PySem.Spec PyProof.Rows

/-- a key: an int or a str -/
abbrev Key := Sum Int Str
def keyIs : Key → Value → Bool
  | .inl k, v => Value.isInt k v
  | .inr x, v => Value.isStrOf x v
def keyH (w : World) : Key → Int
  | .inl k => hashInt k
  | .inr x => hashStr w x
theorem keyIs_shape : ∀ {k : Key} {v : Value}, keyIs k v = true → (∃ i t, k = Sum.inl i ∧ v = Value.int i t) ∨ (∃ x t, k = Sum.inr x ∧ v = Value.str x t)
  | .inl i, v, h => by
    obtain ⟨t, e⟩ := Value.isInt_shape (k := i) (v := v) h
    exact .inl ⟨i, t, rfl, e⟩
  | .inr x, v, h => by
    obtain ⟨t, e⟩ := Value.isStrOf_shape (x := x) (v := v) h
    exact .inr ⟨x, t, rfl, e⟩
theorem key_ll (a b : Int) : decide ((Sum.inl a : Key) = Sum.inl b) = (a == b) := by
  by_cases e : a = b
  · subst e; simp
  · have h : ¬ (Sum.inl a : Key) = Sum.inl b := fun q => e (Sum.inl.inj q)
    rw [decide_eq_false h]
    exact (beq_eq_false_iff_ne.mpr e).symm
theorem key_rr (a b : Str) : decide ((Sum.inr a : Key) = Sum.inr b) = decide (a = b) := by
  by_cases e : a = b
  · subst e; simp
  · have h : ¬ (Sum.inr a : Key) = Sum.inr b := fun q => e (Sum.inr.inj q)
    rw [decide_eq_false h, decide_eq_false e]
theorem key_lr (a : Int) (b : Str) : decide ((Sum.inl a : Key) = Sum.inr b) = false := decide_eq_false (fun q => nomatch q)
theorem key_rl (a : Str) (b : Int) : decide ((Sum.inr a : Key) = Sum.inl b) = false := decide_eq_false (fun q => nomatch q)

def mixKind (prog : Program) (w : World) : PySem.KeyKind prog w Key where
  is := keyIs
  hash := keyH w
  inj := fun v a b ha hb => by
    rcases keyIs_shape ha with ⟨i, t, rfl, rfl⟩ | ⟨x, t, rfl, rfl⟩
    · rcases keyIs_shape hb with ⟨j, u, rfl, e⟩ | ⟨y, u, rfl, e⟩
      · injection e with e1 _; rw [e1]
      · exact nomatch e
    · rcases keyIs_shape hb with ⟨j, u, rfl, e⟩ | ⟨y, u, rfl, e⟩
      · exact nomatch e
      · injection e with e1 _; rw [e1]
  byValue := fun k v h => by
    rcases keyIs_shape h with ⟨i, t, rfl, rfl⟩ | ⟨x, t, rfl, rfl⟩ <;> rfl
  pyHash := fun hv h => by
    rcases keyIs_shape hv with ⟨i, t, rfl, rfl⟩ | ⟨x, t, rfl, rfl⟩
    · exact wpAny_pyHash_int h
    · exact wpAny_pyHash_str h
  eqBool := fun hu hv h => by
    rcases keyIs_shape hu with ⟨i, t, rfl, rfl⟩ | ⟨x, t, rfl, rfl⟩
    · rcases keyIs_shape hv with ⟨j, u, rfl, rfl⟩ | ⟨y, u, rfl, rfl⟩
      · rw [key_ll] at h; exact wpAny_eqBool_int h
      · rw [key_lr] at h; exact SeqAt.EqAt.int_str i t y u _ _ _ _ h
    · rcases keyIs_shape hv with ⟨j, u, rfl, rfl⟩ | ⟨y, u, rfl, rfl⟩
      · rw [key_rl] at h; exact SeqAt.EqAt.str_int x t j u _ _ _ _ h
      · rw [key_rr] at h; exact wpAny_eqBool_str h
  «strs» := fun k x t v h => by
    rcases keyIs_shape h with ⟨i, u, rfl, e⟩ | ⟨y, u, rfl, e⟩
    · exact nomatch e
    · injection e with e1 _
      subst e1
      cases v <;> rfl

end L2

namespace L2
open PySem PySem.Spec PyProof.Rows

/-- a value, without the heap -/
inductive V where
  | non | bl (b : Bool) | int (i : Int) | str (x : Str) | byt (b : Array UInt8) | flt (b : UInt64) | ref (a : Addr) | ty (n : String)
  deriving DecidableEq

def RelV : V → Value → Prop
  | .non, u => u = Value.none
  | .bl b, u => u = Value.bool b
  | .int i, u => ∃ t, u = Value.int i t
  | .str x, u => ∃ t, u = Value.str x t
  | .byt b, u => ∃ t, u = Value.bytes b t
  | .flt b, u => ∃ t, u = Value.float b t
  | .ref a, u => u = Value.ref a
  | .ty n, u => u = Value.type n

abbrev Vals : List V → List Value → Prop := Paired RelV
theorem Vals.length {xs : List V} {us : List Value} (r : Vals xs us) : xs.length = us.length := Paired.length r
theorem Vals.get : ∀ {xs : List V} {us : List Value} {i : Nat} {x : V}, Vals xs us → xs[i]? = some x → ∃ u, us[i]? = some u ∧ RelV x u
  | _, _, _, _, .nil, e => by simp at e
  | _, _, 0, _, .cons r _, e => by simp at e; subst e; exact ⟨_, rfl, r⟩
  | _, _, i + 1, x, .cons _ t, e => by
    obtain ⟨u, h1, h2⟩ := Vals.get (i := i) (x := x) t (by simpa using e)
    exact ⟨u, by simpa using h1, h2⟩
theorem Vals.set {x : V} {u : Value} (r : RelV x u) : ∀ {xs : List V} {us : List Value} (i : Nat), Vals xs us → Vals (xs.set i x) (us.set i u)
  | _, _, _, .nil => .nil
  | _, _, 0, .cons _ t => .cons r t
  | _, _, i + 1, .cons q t => .cons q (Vals.set r i t)
theorem Vals.append : ∀ {xs ys : List V} {us ws : List Value}, Vals xs us → Vals ys ws → Vals (xs ++ ys) (us ++ ws)
  | _, _, _, _, .nil, s => s
  | _, _, _, _, .cons r t, s => .cons r (Vals.append t s)
theorem Vals.take : ∀ {xs : List V} {us : List Value} (n : Nat), Vals xs us → Vals (xs.take n) (us.take n)
  | _, _, 0, _ => .nil
  | _, _, _ + 1, .nil => .nil
  | _, _, n + 1, .cons r t => .cons r (Vals.take n t)
theorem Vals.drop : ∀ {xs : List V} {us : List Value} (n : Nat), Vals xs us → Vals (xs.drop n) (us.drop n)
  | _, _, 0, r => r
  | _, _, _ + 1, .nil => .nil
  | _, _, n + 1, .cons _ t => Vals.drop n t
theorem Vals.none_of : ∀ {xs : List V} {us : List Value} {i : Nat}, Vals xs us → xs[i]? = none → us[i]? = none := fun {xs us i} r e => by
  have h1 := r.length
  have h2 : xs.length ≤ i := List.getElem?_eq_none_iff.mp e
  exact List.getElem?_eq_none_iff.mpr (by omega)

def RelO : Option V → Option Value → Prop
  | some v, some u => RelV v u
  | none, none => True
  | _, _ => False
def KV {κ : Type} : List (κ × V) → List (κ × Value) → Prop := Paired fun (p : κ × V) (q : κ × Value) => p.1 = q.1 ∧ RelV p.2 q.2

/-- a key of a dict (00_mix): an int or a text -/
def kV : Key → V
  | .inl i => .int i
  | .inr x => .str x

/-- what stands at a tracked address -/
inductive HO where
  /-- a list -/
  | lst (xs : List V)
  /-- a tuple (never changes) -/
  | tup (xs : List V)
  /-- a dict whose keys are ints and texts; one whose keys are tuples of ints and texts (the empty one is both) -/
  | dK (kvs : List (Key × V)) | dT (kvs : List (List Key × V))
  /-- a set of ints: its members, its size -/
  | set (S : Int → Bool) (n : Nat)
  /-- an instance of the class at C, its dict at dx, its attributes -/
  | ins (C dx : Addr) (fs : List (Str × V))
  /-- the dict of the instance at x -/
  | own (x : Addr)
  /-- the dict of an exception -/
  | xd (fs : List (Str × V))
  /-- a bound method, f of x -/
  | met (f x : Addr)
  /-- a range object lo, lo + 1, .. below hi -/
  | rng (lo hi : Int)
  /-- a thing that is known to the object (the script; a dict while a loop walks it): read, never written while it is so -/
  | frz (o : Obj) (u : HO)
  /-- a code object's table -/
  | tbl (ps : Array Value)
  /-- any other thing, by what is true of its one object (a def of one's own: SetO a S n := HO.ext fun h => ..) -/
  | ext (φ : Heap → Prop)

abbrev Hp := Addr → Option HO
def upd (H : Hp) (a : Addr) (o : HO) : Hp := fun b => if b = a then some o else H b
theorem upd_same {H : Hp} {a : Addr} {o : HO} : upd H a o a = some o := by unfold upd; rw [if_pos rfl]
theorem upd_ne {H : Hp} {a b : Addr} {o : HO} (h : b ≠ a) : upd H a o b = H b := by unfold upd; rw [if_neg h]
theorem ne_of_none {H : Hp} {a b : Addr} {o : HO} (h : H a = some o) (h' : H b = none) : a ≠ b := by
  intro e; subst e; rw [h] at h'; cases h'

section
variable (P : Program) (w : World)
def ObjOk (H : Hp) (h : Heap) (a : Addr) : HO → Prop
  | .lst xs => xs.length ≤ sizeLine ∧ ∃ (its : List Value) (n : Nat), Vals xs its ∧ h.get? a = some { cls := .type "list", data := .seq its.toArray n }
  | .tup xs => xs.length ≤ sizeLine ∧ ∃ its : List Value, Vals xs its ∧ IsTup h a its.toArray
  | .dK kvs => kvs.length ≤ sizeLine ∧ (a == sysModules) = false ∧ ∃ vs, KV kvs vs ∧ h.DictOf (mixKind P w) a vs
  | .dT kvs => kvs.length ≤ sizeLine ∧ (a == sysModules) = false ∧ ∃ xs : List (List Key × Addr × Value),
      Paired (fun (p : List Key × V) (q : List Key × Addr × Value) => p.1 = q.1 ∧ H q.2.1 = some (.tup (p.1.map kV)) ∧ RelV p.2 q.2.2) kvs xs ∧
      ∃ o es ep, h.get? a = some o ∧ o.ExactDict ∧ o.data = .dict es ep ∧ es.toList = xs.map (entryOfKey (tupleKind (mixKind P w))) ∧ (xs.map (·.1)).Nodup
  | .set S n => h.SetOf (intKind P w) a S n
  | .ins C dx fs => H dx = some (.own a) ∧ fs.length ≤ 1000 ∧ dx ≠ a ∧ h.get? a = some (PySem.W.instObj C dx) ∧
      ∃ mA, h.Ns1 dx mA ∧ (∀ f, RelO (fs.lookup f) (mA f)) ∧ PySem.Within mA (fs.map (·.1))
  | .own _ => ∃ o, h.get? a = some o
  | .xd fs => ∃ mA, h.Ns1 a mA ∧ ∀ f, RelO (fs.lookup f) (mA f)
  | .rng lo hi => ∃ t u v, h.get? a = some { cls := .type "range", data := .fields #[.int lo t, .int hi u, .int 1 v] }
  | .frz o u => h.get? a = some o ∧ ObjOk H h a u
  | .tbl ps => h.get? a = some { cls := .none, data := .fields ps }
  | .met f x => h.get? a = some (PySem.W.methodObj (.ref f) (.ref x))
  | .ext φ => φ h ∧ (∃ o, h.get? a = some o) ∧ ∀ h1 h2 : Heap, φ h1 → (∀ o, h1.get? a = some o → h2.get? a = some o) → φ h2
/-- the abstract heap is held -/
def HOk (H : Hp) (h : Heap) : Prop := ∀ a o, H a = some o → ObjOk P w H h a o
end

section
variable {P : Program} {w : World} {H H' : Hp} {h h' : Heap} {a : Addr} {o : HO}
theorem ObjOk.lt (x : ObjOk P w H h a o) : a < h.objs.size := by
  cases o with
  | lst xs => obtain ⟨_, _, _, _, e⟩ := x; exact Heap.lt_size e
  | tup xs => obtain ⟨_, _, _, p⟩ := x; exact p.lt
  | dK kvs => obtain ⟨_, _, _, _, o, _, _, e, _⟩ := x; exact Heap.lt_size e
  | dT kvs => obtain ⟨_, _, _, _, o, _, _, e, _⟩ := x; exact Heap.lt_size e
  | set S n => obtain ⟨o, _, _, _, e, _⟩ := x; exact Heap.lt_size e
  | ins C dx fs => obtain ⟨_, _, _, e, _⟩ := x; exact Heap.lt_size e
  | own y => obtain ⟨_, e⟩ := x; exact Heap.lt_size e
  | xd fs => obtain ⟨_, ⟨_, _, _, e, _⟩, _⟩ := x; exact Heap.lt_size e
  | rng lo hi => obtain ⟨_, _, _, e⟩ := x; exact Heap.lt_size e
  | frz ob u => obtain ⟨e, _⟩ := x; exact Heap.lt_size e
  | tbl ps => exact Heap.lt_size (show h.get? a = some _ from x)
  | met f y => exact Heap.lt_size (show h.get? a = some _ from x)
  | ext φ => obtain ⟨_, ⟨_, e⟩, _⟩ := x; exact Heap.lt_size e
theorem Paired.mapP {α β : Type} {F G : α → β → Prop} : ∀ {l₁ : List α} {l₂ : List β}, Paired F l₁ l₂ → (∀ a b, F a b → G a b) → Paired G l₁ l₂
  | _, _, .nil, _ => .nil
  | _, _, .cons r t, f => .cons (f _ _ r) (Paired.mapP t f)
/-- what an object's description leans on: its own object, its own dict, the tuples -/
theorem ObjOk.stay (x : ObjOk P w H h a o) (k : ∀ b u, (b = a ∨ H b = some (.own a)) → h.get? b = some u → h'.get? b = some u)
    (ho : ∀ b, H b = some (.own a) → H' b = some (.own a)) (ht : ∀ b xs, H b = some (.tup xs) → H' b = some (.tup xs)) : ObjOk P w H' h' a o := by
  induction o with
  | lst xs => obtain ⟨z, its, n, r, e⟩ := x; exact ⟨z, its, n, r, k _ _ (.inl rfl) e⟩
  | tup xs => obtain ⟨z, its, r, ob, e, c⟩ := x; exact ⟨z, its, r, ob, k _ _ (.inl rfl) e, c⟩
  | dK kvs => obtain ⟨z, y, vs, r, ob, es, ep, e, c⟩ := x; exact ⟨z, y, vs, r, ob, es, ep, k _ _ (.inl rfl) e, c⟩
  | dT kvs =>
    obtain ⟨z, y, xs, r, ob, es, ep, e, c⟩ := x
    exact ⟨z, y, xs, Paired.mapP r fun p q z => ⟨z.1, ht _ _ z.2.1, z.2.2⟩, ob, es, ep, k _ _ (.inl rfl) e, c⟩
  | set S n => obtain ⟨ob, es, ep, t, e, c⟩ := x; exact ⟨ob, es, ep, t, k _ _ (.inl rfl) e, c⟩
  | ins C dx fs =>
    obtain ⟨d, z, ne, e, mA, ⟨od, es, ep, e2, c⟩, r⟩ := x
    exact ⟨ho _ d, z, ne, k _ _ (.inl rfl) e, mA, ⟨od, es, ep, k _ _ (.inr d) e2, c⟩, r⟩
  | own y => obtain ⟨ob, e⟩ := x; exact ⟨ob, k _ _ (.inl rfl) e⟩
  | xd fs => obtain ⟨mA, ⟨od, es, ep, e, c⟩, r⟩ := x; exact ⟨mA, ⟨od, es, ep, k _ _ (.inl rfl) e, c⟩, r⟩
  | rng lo hi => obtain ⟨t, u, v, e⟩ := x; exact ⟨t, u, v, k _ _ (.inl rfl) e⟩
  | frz ob u ih => obtain ⟨e, q⟩ := x; exact ⟨k _ _ (.inl rfl) e, ih q⟩
  | tbl ps =>
    have e : h.get? a = some { cls := .none, data := .fields ps } := x
    show h'.get? a = some { cls := .none, data := .fields ps }
    exact k a _ (.inl rfl) e
  | met f y =>
    have e : h.get? a = some (PySem.W.methodObj (.ref f) (.ref y)) := x
    show h'.get? a = some (PySem.W.methodObj (.ref f) (.ref y))
    exact k a _ (.inl rfl) e
  | ext φ => obtain ⟨p, ⟨o, e⟩, st⟩ := x; exact ⟨st _ _ p fun o q => k _ _ (.inl rfl) q, ⟨o, k _ _ (.inl rfl) e⟩, st⟩
theorem HOk.lt (x : HOk P w H h) (e : H a = some o) : a < h.objs.size := (x a o e).lt
theorem HOk.fresh (x : HOk P w H h) (e : h.objs.size ≤ a) : H a = none := by
  cases q : H a with
  | none => rfl
  | some u => exact absurd (Nat.lt_of_lt_of_le (x.lt q) e) (Nat.lt_irrefl _)
/-- every object of the heap is kept -/
theorem HOk.kept (x : HOk P w H h) (k : ∀ b u, h.get? b = some u → h'.get? b = some u) : HOk P w H h' := fun a o e =>
  (x a o e).stay (fun b u _ q => k b u q) (fun _ q => q) fun _ _ q => q
/-- a new object is laid and tracked -/
theorem HOk.laid (x : HOk P w H h) (k : ∀ b u, h.get? b = some u → h'.get? b = some u) (hp : h.objs.size ≤ a) (new : ObjOk P w (upd H a o) h' a o) : HOk P w (upd H a o) h' := fun b u e => by
  have hn := x.fresh hp
  by_cases hb : b = a
  · subst hb; rw [upd_same] at e; cases e; exact new
  · rw [upd_ne hb] at e
    exact (x b u e).stay (fun c v _ q => k c v q) (fun c q => by rw [upd_ne (ne_of_none q hn)]; exact q) fun c xs q => by rw [upd_ne (ne_of_none q hn)]; exact q
end

/-- what may be read as u: it is u, or a known u -/
def Rd (H : Hp) (a : Addr) (u : HO) : Prop := H a = some u ∨ ∃ o, H a = some (.frz o u)
theorem Rd.of {H : Hp} {a : Addr} {u : HO} (h : H a = some u) : Rd H a u := .inl h
theorem Rd.ok {P : Program} {w : World} {H : Hp} {h : Heap} {a : Addr} {u : HO} (r : Rd H a u) (x : HOk P w H h) : ObjOk P w H h a u := by
  rcases r with r | ⟨o, r⟩
  · exact x a u r
  · obtain ⟨_, q⟩ := x a _ r
    exact q
/-- what may be written -/
def Mut : Option HO → Prop
  | some (.lst _) => True
  | some (.dK _) => True
  | some (.dT _) => True
  | some (.set _ _) => True
  | some (.ins _ _ _) => True
  | some (.ext _) => True
  | _ => False
section
variable {P : Program} {w : World} {H : Hp} {h h' : Heap} {x e : Addr} {o' : HO}
/-- the object at e is changed: x itself, or the dict of the instance x -/
theorem HOk.write (ok : HOk P w H h) (mu : Mut (H x)) (he : e = x ∨ H e = some (.own x)) (k : ∀ b u, b ≠ e → h.get? b = some u → h'.get? b = some u) (heo : ∃ u, h'.get? e = some u)
    (new : ObjOk P w (upd H x o') h' x o') : HOk P w (upd H x o') h' := fun b u q => by
  have nown : ∀ c y, H c = some (.own y) → c ≠ x := fun c y r z => by subst z; rw [r] at mu; exact mu
  have ntup : ∀ c xs, H c = some (.tup xs) → c ≠ x := fun c xs r z => by subst z; rw [r] at mu; exact mu
  by_cases hb : b = x
  · subst hb; rw [upd_same] at q; cases q; exact new
  · rw [upd_ne hb] at q
    by_cases hbe : b = e
    · have q' : H b = some (.own x) := by
        rcases he with z | z
        · exact absurd (hbe.trans z) hb
        · rw [hbe]; exact z
      rw [q] at q'; cases q'
      obtain ⟨v, hv⟩ := heo
      exact ⟨v, by rw [hbe]; exact hv⟩
    · refine (ok b u q).stay (fun c v hc r => k c v ?_ r) (fun c r => by rw [upd_ne (nown c b r)]; exact r) fun c xs r => by rw [upd_ne (ntup c xs r)]; exact r
      rcases hc with rfl | hc
      · exact hbe
      · rintro rfl
        rcases he with z | z
        · exact nown c b hc z
        · rw [hc] at z; cases z; exact hb rfl
end

/-! ### kept unless tracked; of the frames at fs (the callers') the slots may change (an exception that passes writes there); of the records at ex (iterators) nothing is said -/
structure Un (fs ex : List Addr) (H H' : Hp) (h h' : Heap) : Prop where
  keep : ∀ b o, h.get? b = some o → H b = none → b ∉ fs → b ∉ ex → h'.get? b = some o
  slot : ∀ b o, h.get? b = some o → H b = none → b ∈ fs → b ∉ ex → ∃ sl, h'.get? b = some { o with slots := sl }
  free : ∀ b o, h.get? b = some o → H b = none → b ∉ ex → H' b = none
  there : ∀ b o, h.get? b = some o → b ∉ ex → ∃ o', h'.get? b = some o'
  tups : ∀ b xs, H b = some (.tup xs) → H' b = some (.tup xs)
  frzs : ∀ b o u, H b = some (.frz o u) → H' b = some (.frz o u)
  tbls : ∀ b ps, H b = some (.tbl ps) → ∃ more, H' b = some (.tbl (ps ++ more))
section
variable {fs fs' ex ex' : List Addr} {H H1 H2 : Hp} {h h1 h2 h' : Heap} {a x e : Addr} {o : HO}
theorem Un.any (u : Un fs ex H H1 h h1) {b : Addr} {ob : Obj} (q : h.get? b = some ob) (n : H b = none) (hx : b ∉ ex) : ∃ sl, h1.get? b = some { ob with slots := sl } := by
  by_cases hb : b ∈ fs
  · exact u.slot b ob q n hb hx
  · exact ⟨ob.slots, u.keep b ob q n hb hx⟩
theorem Un.trans (a : Un fs ex H H1 h h1) (b : Un fs ex H1 H2 h1 h2) : Un fs ex H H2 h h2 where
  keep := fun c ob q n hc hx => b.keep c ob (a.keep c ob q n hc hx) (a.free c ob q n hx) hc hx
  slot := fun c ob q n hc hx => by
    obtain ⟨sl, e1⟩ := a.slot c ob q n hc hx
    obtain ⟨sl', e2⟩ := b.slot c _ e1 (a.free c ob q n hx) hc hx
    exact ⟨sl', e2⟩
  free := fun c ob q n hx => by
    obtain ⟨o', e1⟩ := a.there c ob q hx
    exact b.free c o' e1 (a.free c ob q n hx) hx
  there := fun c ob q hx => by
    obtain ⟨o', e1⟩ := a.there c ob q hx
    exact b.there c o' e1 hx
  tups := fun c xs q => b.tups c xs (a.tups c xs q)
  frzs := fun c ob xs q => b.frzs c ob xs (a.frzs c ob xs q)
  tbls := fun c ps q => by
    obtain ⟨m1, e1⟩ := a.tbls c ps q
    obtain ⟨m2, e2⟩ := b.tbls c _ e1
    exact ⟨m1 ++ m2, by rw [e2, Array.append_assoc]⟩
theorem Un.kept (k : ∀ b u, h.get? b = some u → h'.get? b = some u) : Un fs ex H H h h' :=
  ⟨fun b ob q _ _ _ => k b ob q, fun b ob q _ _ _ => ⟨ob.slots, k b ob q⟩, fun _ _ _ n _ => n, fun b ob q _ => ⟨ob, k b ob q⟩, fun _ _ q => q, fun _ _ _ q => q, fun _ ps q => ⟨#[], by rw [q]; simp⟩⟩
theorem Un.refl : Un fs ex H H h h := Un.kept fun _ _ q => q
theorem Un.laid (k : ∀ b u, h.get? b = some u → h'.get? b = some u) (hp : h.objs.size ≤ a) (hn : H a = none) : Un fs ex H (upd H a o) h h' where
  keep := fun b u q _ _ _ => k b u q
  slot := fun b u q _ _ _ => ⟨u.slots, k b u q⟩
  free := fun b u q n _ => by rw [upd_ne (Nat.ne_of_lt (Nat.lt_of_lt_of_le (Heap.lt_size q) hp))]; exact n
  there := fun b u q _ => ⟨u, k b u q⟩
  tups := fun b xs q => by rw [upd_ne (ne_of_none q hn)]; exact q
  frzs := fun b u xs q => by rw [upd_ne (ne_of_none q hn)]; exact q
  tbls := fun b ps q => ⟨#[], by rw [upd_ne (ne_of_none q hn), q]; simp⟩
theorem Un.write (mu : Mut (H x)) (he : e = x ∨ H e = some (.own x)) (k : ∀ b u, b ≠ e → h.get? b = some u → h'.get? b = some u) (heo : ∃ u, h'.get? e = some u) : Un fs ex H (upd H x o) h h' := by
  have hx : ∀ b, H b = none → b ≠ x := fun b n z => by subst z; rw [n] at mu; exact mu
  have hb : ∀ b, H b = none → b ≠ e := fun b n z => by
    subst z
    rcases he with r | r
    · exact hx b n r
    · rw [n] at r; cases r
  have hm : ∀ b u, H b = some u → ¬ Mut (some u) → b ≠ x := fun b u q nm z => by subst z; rw [q] at mu; exact nm mu
  refine ⟨fun b u q n _ _ => k b u (hb b n) q, fun b u q n _ _ => ⟨u.slots, k b u (hb b n) q⟩, fun b u q n _ => by rw [upd_ne (hx b n)]; exact n, fun b u q _ => ?_,
    fun b xs q => by rw [upd_ne (hm b _ q fun z => z)]; exact q, fun b u xs q => by rw [upd_ne (hm b _ q fun z => z)]; exact q, fun b ps q => ⟨#[], by rw [upd_ne (hm b _ q fun z => z), q]; simp⟩⟩
  by_cases hbe : b = e
  · subst hbe; exact heo
  · exact ⟨u, k b u hbe q⟩
theorem Un.mono (u : Un fs ex H H1 h h1) (hs : ∀ b ∈ fs, b ∈ fs') (hx : ∀ b ∈ ex, b ∈ ex') : Un fs' ex' H H1 h h1 :=
  ⟨fun b ob q n hb he => u.keep b ob q n (fun z => hb (hs b z)) fun z => he (hx b z), fun _ _ q n _ he => u.any q n fun z => he (hx _ z), fun b ob q n he => u.free b ob q n fun z => he (hx b z), fun b ob q he => u.there b ob q fun z => he (hx b z), u.tups, u.frzs, u.tbls⟩
end

/-! ### the heap without what is tracked -/
def trk (h : Heap) (H : Hp) : List Addr := (List.range h.objs.size).filter fun a => (H a).isSome
def hidT (h : Heap) (H : Hp) : Heap := PySem.W.hideAll h (trk h H)
theorem hidT_size (h : Heap) (H : Hp) : (hidT h H).objs.size = h.objs.size := PySem.W.hideAll_size _ _
theorem hidT_get {h : Heap} {H : Hp} {b : Addr} {o : Obj} (e : h.get? b = some o) (n : H b = none) : (hidT h H).get? b = some o :=
  PySem.W.hideAll_get _ e fun hm => by
    have q : (H b).isSome = true := (List.mem_filter.mp hm).2
    rw [n] at q; simp at q
theorem of_hidT {h : Heap} {H : Hp} {b : Addr} {o : Obj} (e : (hidT h H).get? b = some o) : h.get? b = some o ∧ H b = none := by
  have e' : h.get? b = some o := PySem.W.of_hideAll (trk h H) e
  refine ⟨e', ?_⟩
  cases q : H b with
  | none => rfl
  | some x =>
    have hm : b ∈ trk h H := List.mem_filter.mpr ⟨List.mem_range.mpr (Heap.lt_size e'), by simp [q]⟩
    have z : (hidT h H).get? b = none := PySem.W.hideAll_none (trk h H) hm
    rw [z] at e; cases e

/-! ### OpenK's ledger, filled with every new object but one -/
def allNews (g h : Heap) (L : Addr) : List (Addr × Obj) := (List.range h.objs.size).filterMap fun a => if a = L ∨ (g.get? a).isSome = true then none else (h.get? a).map fun o => (a, o)
def rest (g h : Heap) (L d : Addr) : List (Addr × Obj) := (allNews g h L).filter fun p => decide (p.1 ≠ d)
end L2

namespace L2
open PySem PySem.Spec PyProof.Rows

/-- the module's facts, over the base: the heap at the law's entry without what is tracked there -/
structure Mod (K : PySem.W.Frag) (mg : Str → Option Value) (base : Heap) : Prop where
  kin : K.In base
  glob : base.Ns mainGlobals mg
  blt : ∃ mb, base.Ns builtinsNs mb ∧ ∀ x : Str, x ≠ "__name__" → mb x = bootBuiltins x
  nolimit : base.NoLimit

/-- the context: a def's body (or a comprehension's block) running. base: fixed through the whole law; s₀, H₀: the entry; outer: the frames whose slots others may change (a def's callers); stack: all frames that run;
   ex: iterators that were made ahead of the entry and are walked here (a comprehension's); fn: the names whose cells were made at the entry (a def: all; a comprehension's block: its own); calm: not within an except suite; pn: pins that every state bears; xe: what is wanted of an exception that leaves the code -/
structure Cx where
  prog : Program
  w : World
  K : PySem.W.Frag
  mg : Str → Option Value
  base : Heap
  A : Around
  N : List Str
  s₀ : Shared
  H₀ : Hp
  env : Env
  outer : List Env
  stack : List Env
  ex : List Addr
  fn : Str → Bool
  calm : Bool
  pn : List (Addr × Obj)
  xe : Value → Shared → Prop
/-- the callers' frames -/
def frs (l : List Env) : List Addr := l.filterMap (·.frame)
abbrev Cx.fs (X : Cx) : List Addr := frs X.outer

def Vis (sc : Scope) (x : Str) : Prop := sc.names.lookup x = some .local ∨ sc.names.lookup x = some .cell ∨ sc.names.lookup x = some .free
def Loc (sc : Scope) (x : Str) : Prop := sc.names.lookup x = some .local ∨ sc.names.lookup x = some .cell
def Look (env : Env) (h : Heap) (m : Str → Option Value) (x : Str) (u : Value) : Prop :=
  (env.kindOf x = some .local ∧ m x = some u) ∨ ((env.kindOf x = some .cell ∨ env.kindOf x = some .free) ∧ ∃ c, env.cells.lookup x = some c ∧ h.IsCell c (some u))

structure Cx.Ok (X : Cx) : Prop where
  mod : Mod X.K X.mg X.base
  kind : X.env.scope.kind = .function
  glob : X.env.globals = mainGlobals
  blt : X.env.builtins = builtinsNs
  above : X.s₀.heap.objs.size ≤ X.env.locals
  inj : ∀ x y c, X.env.cells.lookup x = some c → X.env.cells.lookup y = some c → x = y
  has : ∀ x, (X.env.kindOf x = some .cell ∨ X.env.kindOf x = some .free) → ∃ c, X.env.cells.lookup x = some c
  cab : ∀ x c, X.fn x = true → X.env.cells.lookup x = some c → X.s₀.heap.objs.size ≤ c
  hd : X.calm = true → X.A.handled = none
  frames : X.A.frames = some X.stack
  stk : X.stack = X.outer ∨ (X.stack = X.env :: X.outer ∧ X.env.frame = some X.env.locals)
  exf : ∀ b ∈ X.ex, b ≠ X.env.locals ∧ ∀ x c, X.env.cells.lookup x = some c → c ≠ b
  bs : ∀ b o, X.base.get? b = some o → X.s₀.heap.get? b = some o ∧ X.H₀ b = none
  bsz : X.base.objs.size ≤ X.s₀.heap.objs.size
  noex : ∀ b o, X.base.get? b = some o → b ∉ X.ex
  exfs : ∀ b ∈ X.ex, b ∉ X.fs
  funs : X.s₀.heap.FunFrames X.base X.outer
  frf : ∀ b ∈ X.fs, X.H₀ b = none

structure Inv (X : Cx) (pins : List (Addr × Obj)) (σ : List (Option V)) (H : Hp) (s : Shared) : Prop where
  ok : X.Ok
  os : s.os = X.s₀.os
  bare : AllBare s.gens
  base : Un X.fs X.ex X.H₀ H X.s₀.heap s.heap
  loc : ∃ m, s.heap.Ns X.env.locals m ∧ ∀ (i : Nat) (x : Str) (v : V), X.N[i]? = some x → σ[i]? = some (some v) → Vis X.env.scope x → ∃ u, RelV v u ∧ Look X.env s.heap m x u
  cell : ∀ x c, X.env.cells.lookup x = some c → ∃ v, s.heap.IsCell c v
  free : H X.env.locals = none
  freeC : ∀ x c, X.env.cells.lookup x = some c → H c = none
  pin : ∀ p ∈ X.pn ++ pins, s.heap.get? p.1 = some p.2 ∧ H p.1 = none ∧ p.1 ≠ X.env.locals ∧ p.1 ∉ X.fs ∧ ∀ v, p.2.data ≠ .cell v
  hok : HOk X.prog X.w H s.heap
  len : σ.length = X.N.length

section
variable {X : Cx} {pins : List (Addr × Obj)} {σ : List (Option V)} {H H' : Hp} {s : Shared} {h' : Heap}

theorem Cx.Ok.nofr (ok : X.Ok) {b : Addr} {o : Obj} (e : X.base.get? b = some o) : b ∉ X.fs := fun hb => by
  have := (ok.funs.mem hb).1
  rw [e] at this; cases this
theorem Inv.bs (I : Inv X pins σ H s) : ∀ b o, X.base.get? b = some o → s.heap.get? b = some o ∧ H b = none := fun b o e =>
  ⟨I.base.keep b o (I.ok.bs b o e).1 (I.ok.bs b o e).2 (I.ok.nofr e) (I.ok.noex b o e), I.base.free b o (I.ok.bs b o e).1 (I.ok.bs b o e).2 (I.ok.noex b o e)⟩
theorem Inv.bk (I : Inv X pins σ H s) : ∀ b o, X.base.get? b = some o → s.heap.get? b = some o := fun b o e => (I.bs b o e).1
theorem Inv.mod (I : Inv X pins σ H s) : Mod X.K X.mg X.base := I.ok.mod
theorem Inv.kIn (I : Inv X pins σ H s) : X.K.In s.heap := I.ok.mod.kin.keeps I.bk
theorem Inv.nolimit (I : Inv X pins σ H s) : s.heap.NoLimit := I.ok.mod.nolimit.keeps I.bk
/-- the frame over the base: for OpenK's rules (K.In X.base is I.mod.kin) -/
theorem Inv.fr (I : Inv X pins σ H s) : ∃ m, Fr X.base X.env.locals s.heap m :=
  let ⟨m, hn, _⟩ := I.loc
  ⟨m, hn, I.bk, Nat.le_trans I.ok.bsz I.ok.above⟩
theorem Inv.lt (I : Inv X pins σ H s) : X.env.locals < s.heap.objs.size := let ⟨_, hn, _⟩ := I.loc; hn.lt
theorem Inv.sz (I : Inv X pins σ H s) : X.s₀.heap.objs.size ≤ s.heap.objs.size := Nat.le_trans I.ok.above (Nat.le_of_lt I.lt)
theorem Inv.nofs (I : Inv X pins σ H s) {a : Addr} (h : s.heap.objs.size ≤ a) : a ∉ X.fs := fun hb => by
  obtain ⟨_, o, ho, _⟩ := I.ok.funs.mem hb
  exact absurd (Nat.lt_of_lt_of_le (Heap.lt_size ho) (Nat.le_trans I.sz h)) (Nat.lt_irrefl _)
theorem Inv.cne (I : Inv X pins σ H s) : ∀ x c, X.env.cells.lookup x = some c → c ≠ X.env.locals := fun x c e z => by
  obtain ⟨v, o, ho, hd⟩ := I.cell x c e
  obtain ⟨m, ⟨o', es, ep, ho', hd', _⟩, _⟩ := I.loc
  rw [z, ho'] at ho; cases ho; rw [hd'] at hd; cases hd
theorem Inv.funs (I : Inv X pins σ H s) : s.heap.FunFrames X.base X.outer := by
  have all : ∀ (l : List Env), (∀ b ∈ frs l, b ∈ X.fs) → X.s₀.heap.FunFrames X.base l → s.heap.FunFrames X.base l := by
    intro l
    induction l with
    | nil => intro _ _; trivial
    | cons env r ih =>
      intro hs hl
      obtain ⟨hk, ⟨L, o, hf, hn, ho, hd⟩, hr⟩ := hl
      have hL : L ∈ X.fs := hs L (by unfold frs; rw [List.filterMap_cons, hf]; exact List.mem_cons_self)
      obtain ⟨sl, e⟩ := I.base.slot L o ho (I.ok.frf L hL) hL fun z => I.ok.exfs L z hL
      exact ⟨hk, ⟨L, _, hf, hn, e, hd⟩, ih (fun b hb => hs b (by unfold frs; rw [List.filterMap_cons, hf]; exact List.mem_cons_of_mem _ hb)) hr⟩
  exact all X.outer (fun _ hb => hb) I.ok.funs

/-- the frames that run, for a call -/
theorem Inv.stack (I : Inv X pins σ H s) : s.heap.FunFrames X.base X.stack := by
  rcases I.ok.stk with e | ⟨e, hf⟩
  · rw [e]; exact I.funs
  · rw [e]
    obtain ⟨m, hn, _⟩ := I.loc
    refine .cons (by rw [I.ok.kind]; decide) hf hn ?_ I.funs
    exact Heap.get?_none_of_le (Nat.le_trans I.ok.bsz I.ok.above)
theorem Inv.stkSub (I : Inv X pins σ H s) : ∀ b ∈ frs X.stack, b ∈ X.env.locals :: X.fs := fun b hb => by
  rcases I.ok.stk with e | ⟨e, hf⟩
  · rw [e] at hb; exact List.mem_cons_of_mem _ hb
  · rw [e] at hb
    unfold frs at hb
    rw [List.filterMap_cons, hf] at hb
    exact hb
theorem Inv.stkFree (I : Inv X pins σ H s) : ∀ b ∈ frs X.stack, H b = none := fun b hb => by
  rcases List.mem_cons.mp (I.stkSub b hb) with e | hb
  · rw [e]; exact I.free
  · obtain ⟨_, o, ho, _⟩ := I.ok.funs.mem hb
    exact I.base.free b o ho (I.ok.frf b hb) fun z => I.ok.exfs b z hb

/-- THE STEP: the untracked objects but the frame and the records at ch are kept (the callers' frames up to slots), the frame's map is kept, the new abstract heap is held -/
theorem Inv.step {g' : Array GenState} {t' : Nat} {d' : Drawn} {ch : List Addr} (I : Inv X pins σ H s)
    (hch : ∀ b ∈ ch, (b ∈ X.ex ∨ X.s₀.heap.objs.size ≤ b) ∧ b ≠ X.env.locals ∧ (∀ x c, X.env.cells.lookup x = some c → c ≠ b) ∧ ∀ p ∈ X.pn ++ pins, p.1 ≠ b)
    (keep : ∀ b o, b ≠ X.env.locals → b ∉ X.fs → b ∉ ch → s.heap.get? b = some o → H b = none → h'.get? b = some o)
    (slot : ∀ b o, b ≠ X.env.locals → b ∈ X.fs → b ∉ ch → s.heap.get? b = some o → H b = none → ∃ sl, h'.get? b = some { o with slots := sl }) (free : ∀ b o, b ∉ ch → s.heap.get? b = some o → H b = none → H' b = none)
    (there : ∀ b o, b ∉ ch → s.heap.get? b = some o → ∃ o', h'.get? b = some o')
    (tups : ∀ b xs, H b = some (.tup xs) → H' b = some (.tup xs)) (frzs : ∀ b o u, H b = some (.frz o u) → H' b = some (.frz o u)) (tbls : ∀ b ps, H b = some (.tbl ps) → ∃ more, H' b = some (.tbl (ps ++ more)))
    (ns : ∀ m, s.heap.Ns X.env.locals m → h'.Ns X.env.locals m) (hok : HOk X.prog X.w H' h') (hg : AllBare g') :
    Inv X pins σ H' { s with heap := h', gens := g', drawn := d', toks := t' } := by
  have neL : ∀ b o, X.s₀.heap.get? b = some o → b ≠ X.env.locals := fun b o e => Nat.ne_of_lt (Nat.lt_of_lt_of_le (Heap.lt_size e) I.ok.above)
  have neC : ∀ b o, X.s₀.heap.get? b = some o → b ∉ X.ex → b ∉ ch := fun b o e hx hb => by
    rcases (hch b hb).1 with z | z
    · exact hx z
    · exact absurd (Nat.lt_of_lt_of_le (Heap.lt_size e) z) (Nat.lt_irrefl _)
  have cellK : ∀ x c, X.env.cells.lookup x = some c → ∀ v, s.heap.IsCell c v → h'.IsCell c v := fun x c e v ⟨o, ho, hd⟩ => by
    have nch : c ∉ ch := fun z => (hch c z).2.2.1 x c e rfl
    by_cases hc : c ∈ X.fs
    · obtain ⟨sl, q⟩ := slot c o (I.cne x c e) hc nch ho (I.freeC x c e)
      exact ⟨_, q, hd⟩
    · exact ⟨o, keep c o (I.cne x c e) hc nch ho (I.freeC x c e), hd⟩
  refine ⟨I.ok, I.os, hg, ⟨fun b o e n hb hx => ?_, fun b o e n hb hx => ?_, fun b o e n hx => ?_, fun b o e hx => ?_, fun b xs e => tups b xs (I.base.tups b xs e), fun b o xs e => frzs b o xs (I.base.frzs b o xs e), fun b ps e => ?_⟩, ?_, fun x c e => ?_, ?_, fun x c e => ?_, fun p hp => ?_, hok, I.len⟩
  · exact keep b o (neL b o e) hb (neC b o e hx) (I.base.keep b o e n hb hx) (I.base.free b o e n hx)
  · obtain ⟨sl, e1⟩ := I.base.slot b o e n hb hx
    obtain ⟨sl', e2⟩ := slot b _ (neL b o e) hb (neC b o e hx) e1 (I.base.free b o e n hx)
    exact ⟨sl', e2⟩
  · obtain ⟨o', e1⟩ := I.base.there b o e hx
    exact free b o' (neC b o e hx) e1 (I.base.free b o e n hx)
  · obtain ⟨o', e1⟩ := I.base.there b o e hx
    exact there b o' (neC b o e hx) e1
  · obtain ⟨m1, e1⟩ := I.base.tbls b ps e
    obtain ⟨m2, e2⟩ := tbls b _ e1
    exact ⟨m1 ++ m2, by rw [e2, Array.append_assoc]⟩
  · obtain ⟨m, hn, hl⟩ := I.loc
    refine ⟨m, ns m hn, fun i x v e1 e2 e3 => ?_⟩
    obtain ⟨u, r, l⟩ := hl i x v e1 e2 e3
    refine ⟨u, r, ?_⟩
    rcases l with l | ⟨k, c, e, z⟩
    · exact .inl l
    · exact .inr ⟨k, c, e, cellK x c e _ z⟩
  · obtain ⟨v, z⟩ := I.cell x c e
    exact ⟨v, cellK x c e v z⟩
  · obtain ⟨m, ⟨o, _, _, ho, _⟩, _⟩ := I.loc
    exact free _ o (fun z => (hch _ z).2.1 rfl) ho I.free
  · obtain ⟨v, o, ho, hd⟩ := I.cell x c e
    exact free c o (fun z => (hch c z).2.2.1 x c e rfl) ho (I.freeC x c e)
  · obtain ⟨e, n, ne, nf, d⟩ := I.pin p hp
    have nch : p.1 ∉ ch := fun z => (hch p.1 z).2.2.2 p hp rfl
    exact ⟨keep p.1 p.2 ne nf nch e n, free p.1 p.2 nch e n, ne, nf, d⟩
/-- .. where the frame's own object is kept too -/
theorem Inv.un {t' : Nat} (I : Inv X pins σ H s) (u : Un X.fs [] H H' s.heap h') (hok : HOk X.prog X.w H' h') : Inv X pins σ H' { s with heap := h', toks := t' } := by
  obtain ⟨m, ⟨o, es, ep, ho, r⟩, _⟩ := id I.loc
  obtain ⟨sl, hL⟩ := u.any ho I.free (by simp)
  exact I.step (g' := s.gens) (d' := s.drawn) (ch := []) (fun _ z => nomatch z) (fun b o _ hb _ e n => u.keep b o e n hb (by simp)) (fun b o _ hb _ e n => u.slot b o e n hb (by simp)) (fun b o _ e n => u.free b o e n (by simp)) (fun b o _ e => u.there b o e (by simp)) u.tups u.frzs u.tbls (fun m' hm => by
    obtain ⟨o', es', ep', ho', r'⟩ := hm
    rw [ho] at ho'; cases ho'
    exact ⟨_, es', ep', hL, r'⟩) hok I.bare
/-- behind a call (or a comprehension's block): the slots of this frame may have changed too, the records at ch may have turned -/
theorem Inv.call {g' : Array GenState} {t' : Nat} {d' : Drawn} {ch : List Addr} (I : Inv X pins σ H s) (u : Un (frs X.stack) ch H H' s.heap h') (hok : HOk X.prog X.w H' h') (hg : AllBare g')
    (hch : ∀ b ∈ ch, (b ∈ X.ex ∨ X.s₀.heap.objs.size ≤ b) ∧ b ≠ X.env.locals ∧ (∀ x c, X.env.cells.lookup x = some c → c ≠ b) ∧ ∀ p ∈ X.pn ++ pins, p.1 ≠ b) :
    Inv X pins σ H' { s with heap := h', gens := g', drawn := d', toks := t' } := by
  obtain ⟨m, ⟨o, es, ep, ho, r⟩, _⟩ := id I.loc
  obtain ⟨sl, hL⟩ := u.any ho I.free fun z => (hch _ z).2.1 rfl
  exact I.step (ch := ch) hch (fun b o hL hb hc e n => u.keep b o e n (fun z => (List.mem_cons.mp (I.stkSub b z)).elim hL hb) hc) (fun b o _ _ hc e n => u.any e n hc) (fun b o hc e n => u.free b o e n hc) (fun b o hc e => u.there b o e hc) u.tups u.frzs u.tbls (fun m' hm => by
    obtain ⟨o', es', ep', ho', r'⟩ := hm
    rw [ho] at ho'; cases ho'
    exact ⟨_, es', ep', hL, r'⟩) hok hg
/-- an untracked record of ours (an iterator) has turned -/
theorem Inv.turned {t' : Nat} {it : Addr} (I : Inv X pins σ H s) (k : ∀ b o, b ≠ it → s.heap.get? b = some o → h'.get? b = some o) (hn : H it = none) (hL : it ≠ X.env.locals)
    (h1 : it ∈ X.ex ∨ X.s₀.heap.objs.size ≤ it) (h2 : ∀ x c, X.env.cells.lookup x = some c → c ≠ it) (h3 : ∀ p ∈ X.pn ++ pins, p.1 ≠ it) : Inv X pins σ H { s with heap := h', toks := t' } := by
  have nit : ∀ b u, H b = some u → b ≠ it := fun b u e z => by rw [z, hn] at e; cases e
  refine I.step (g' := s.gens) (d' := s.drawn) (ch := [it]) (fun b hb => ?_) (fun b o _ _ hc e _ => k b o (fun z => hc (by simp [z])) e) (fun b o _ _ hc e _ => ⟨o.slots, k b o (fun z => hc (by simp [z])) e⟩) (fun _ _ _ _ n => n)
    (fun b o hc e => ⟨o, k b o (fun z => hc (by simp [z])) e⟩) (fun _ _ e => e) (fun _ _ _ e => e) (fun b ps e => ⟨#[], by rw [e]; simp⟩) (fun m hm => ?_) (fun b u e => ?_) I.bare
  · have e : b = it := by simpa using hb
    subst e
    exact ⟨h1, hL, h2, h3⟩
  · obtain ⟨o, es, ep, ho, r⟩ := hm
    exact ⟨o, es, ep, k _ o (Ne.symm hL) ho, r⟩
  · refine (I.hok b u e).stay (fun c v hc q => k c v ?_ q) (fun _ q => q) fun _ _ q => q
    rcases hc with z | z
    · rw [z]; exact nit b u e
    · exact nit c _ z
theorem Inv.tok (I : Inv X pins σ H s) (t : Nat) : Inv X pins σ H { s with toks := t } := I.un (h' := s.heap) (t' := t) Un.refl I.hok
/-- all objects kept -/
theorem Inv.kept {t' : Nat} (I : Inv X pins σ H s) (k : ∀ b u, s.heap.get? b = some u → h'.get? b = some u) : Inv X pins σ H { s with heap := h', toks := t' } := I.un (Un.kept k) (I.hok.kept k)
/-- a new object laid and tracked -/
theorem Inv.laid {a : Addr} {o : HO} {t' : Nat} (I : Inv X pins σ H s) (k : ∀ b u, s.heap.get? b = some u → h'.get? b = some u) (hp : s.heap.objs.size ≤ a) (new : ObjOk X.prog X.w (upd H a o) h' a o) :
    Inv X pins σ (upd H a o) { s with heap := h', toks := t' } := I.un (Un.laid k hp (I.hok.fresh hp)) (I.hok.laid k hp new)
/-- an object written -/
theorem Inv.write {x e : Addr} {o : HO} {t' : Nat} (I : Inv X pins σ H s) (mu : Mut (H x)) (he : e = x ∨ H e = some (.own x)) (k : ∀ b u, b ≠ e → s.heap.get? b = some u → h'.get? b = some u) (heo : ∃ u, h'.get? e = some u)
    (new : ObjOk X.prog X.w (upd H x o) h' x o) : Inv X pins σ (upd H x o) { s with heap := h', toks := t' } := I.un (Un.write mu he k heo) (I.hok.write mu he k heo new)
theorem Inv.pins_of {pins' : List (Addr × Obj)} (I : Inv X pins σ H s) (h : ∀ p ∈ pins', s.heap.get? p.1 = some p.2 ∧ H p.1 = none ∧ p.1 ≠ X.env.locals ∧ p.1 ∉ X.fs ∧ ∀ v, p.2.data ≠ .cell v) : Inv X pins' σ H s :=
  ⟨I.ok, I.os, I.bare, I.base, I.loc, I.cell, I.free, I.freeC, fun p hp => (List.mem_append.mp hp).elim (fun z => I.pin p (List.mem_append_left _ z)) (h p), I.hok, I.len⟩

theorem nodup_ix {N : List Str} (hN : N.Nodup) {i j : Nat} {x : Str} (a : N[i]? = some x) (b : N[j]? = some x) : i = j := by
  obtain ⟨h1, e1⟩ := List.getElem?_eq_some_iff.mp a
  obtain ⟨h2, e2⟩ := List.getElem?_eq_some_iff.mp b
  exact (List.getElem_inj hN).mp (e1.trans e2.symm)

/-- a name is stored; what changed -/
theorem store_ok2 {M : Model} {A : Around} {E : Value → Shared → Prop} {i : Nat} {x : Str} {v : V} {u : Value} {Q : Unit → Shared → Prop} (I : Inv X pins σ H s) (hN : X.N.Nodup) (hi : X.N[i]? = some x) (hx : Loc X.env.scope x) (r : RelV v u)
    (h : ∀ s', Inv X pins (σ.set i (some v)) H s' → (∃ a, Heap.SameBut a s.heap s'.heap ∧ (a = X.env.locals ∨ X.env.cells.lookup x = some a)) → Q () s') (hf : X.fn x = true ∨ X.env.scope.names.lookup x = some .local := by first | exact .inl rfl | exact .inr rfl | assumption) : wpAny M A (storeName X.env x u) Q E s := by
  obtain ⟨m, hn, hl⟩ := id I.loc
  have hcls : (X.env.scope.kind == .class || (X.env.scope.kind == .module && X.env.locals != X.env.globals)) = false := by rw [I.ok.kind]; rfl
  have hiσ : i < σ.length := by rw [I.len]; exact (List.getElem?_eq_some_iff.mp hi).1
  have cne := I.cne
  have tracked : ∀ {a : Addr} {h' : Heap}, (∃ o, s.heap.get? a = some o ∧ H a = none) → Heap.SameBut a s.heap h' → HOk X.prog X.w H h' := fun {a h'} ha hs b ob e => by
    obtain ⟨_, _, hfree⟩ := ha
    refine (I.hok b ob e).stay (fun c w' hc q => (hs.2 c ?_).trans q) (fun _ q => q) fun _ _ q => q
    rintro rfl
    rcases hc with rfl | hc
    · rw [hfree] at e; cases e
    · rw [hfree] at hc; cases hc
  rcases hx with hk | hk
  · refine wpAny_storeName_local hk hn (fun h' hn' hs => ?_) hcls
    obtain ⟨oL, _, _, hoL, _⟩ := id hn
    refine h _ ⟨I.ok, I.os, I.bare, ⟨fun b o e n hb hx => ?_, fun b o e n hb hx => ?_, I.base.free, fun b o e hx => ?_, I.base.tups, I.base.frzs, I.base.tbls⟩, ⟨_, hn', fun j y v' e1 e2 e3 => ?_⟩, fun y c e => ?_, I.free, I.freeC, fun p hp => ?_, tracked ⟨oL, hoL, I.free⟩ hs, by simpa using I.len⟩ ⟨_, hs, .inl rfl⟩
    · exact (hs.2 b (Nat.ne_of_lt (Nat.lt_of_lt_of_le (Heap.lt_size e) I.ok.above))).trans (I.base.keep b o e n hb hx)
    · obtain ⟨sl, e1⟩ := I.base.slot b o e n hb hx
      exact ⟨sl, (hs.2 b (Nat.ne_of_lt (Nat.lt_of_lt_of_le (Heap.lt_size e) I.ok.above))).trans e1⟩
    · obtain ⟨o', e1⟩ := I.base.there b o e hx
      exact ⟨o', (hs.2 b (Nat.ne_of_lt (Nat.lt_of_lt_of_le (Heap.lt_size e) I.ok.above))).trans e1⟩
    · by_cases hj : j = i
      · subst hj
        rw [hi] at e1; cases e1
        rw [List.getElem?_set_self hiσ] at e2
        cases e2
        exact ⟨u, r, .inl ⟨hk, by simp⟩⟩
      · rw [List.getElem?_set_ne (Ne.symm hj)] at e2
        obtain ⟨u', r', q⟩ := hl j y v' e1 e2 e3
        refine ⟨u', r', ?_⟩
        rcases q with ⟨k, e⟩ | ⟨k, c, e, z⟩
        · refine .inl ⟨k, ?_⟩
          have : y ≠ x := fun e => hj (nodup_ix hN e1 (e ▸ hi))
          simp [this, e]
        · exact .inr ⟨k, c, e, z.sameBut hs (cne y c e)⟩
    · obtain ⟨w', z⟩ := I.cell y c e
      exact ⟨w', z.sameBut hs (cne y c e)⟩
    · obtain ⟨e, n, ne, nf, d⟩ := I.pin p hp
      exact ⟨(hs.2 p.1 ne).trans e, n, ne, nf, d⟩
  · have hfn : X.fn x = true := by
      rcases hf with z | z
      · exact z
      · rw [z] at hk; cases hk
    obtain ⟨c, hc⟩ := I.ok.has x (.inl hk)
    obtain ⟨w', z⟩ := I.cell x c hc
    refine wpAny_storeName_cell I.ok.kind hk hc z (fun h' hc' hs => ?_)
    obtain ⟨oc, hoc, hocd⟩ := id z
    refine h { s with heap := h' } ⟨I.ok, I.os, I.bare, ⟨fun b o e n hb hx => ?_, fun b o e n hb hx => ?_, I.base.free, fun b o e hx => ?_, I.base.tups, I.base.frzs, I.base.tbls⟩, ⟨m, hn.sameBut hs (Ne.symm (cne x c hc)), fun j y v' e1 e2 e3 => ?_⟩, fun y c' e => ?_, I.free, I.freeC, fun p hp => ?_, tracked ⟨oc, hoc, I.freeC x c hc⟩ hs, by simpa using I.len⟩ ⟨c, hs, .inr hc⟩
    · exact (hs.2 b (Nat.ne_of_lt (Nat.lt_of_lt_of_le (Heap.lt_size e) (I.ok.cab x c hfn hc)))).trans (I.base.keep b o e n hb hx)
    · obtain ⟨sl, e1⟩ := I.base.slot b o e n hb hx
      exact ⟨sl, (hs.2 b (Nat.ne_of_lt (Nat.lt_of_lt_of_le (Heap.lt_size e) (I.ok.cab x c hfn hc)))).trans e1⟩
    · obtain ⟨o', e1⟩ := I.base.there b o e hx
      exact ⟨o', (hs.2 b (Nat.ne_of_lt (Nat.lt_of_lt_of_le (Heap.lt_size e) (I.ok.cab x c hfn hc)))).trans e1⟩
    · by_cases hj : j = i
      · subst hj
        rw [hi] at e1; cases e1
        rw [List.getElem?_set_self hiσ] at e2
        cases e2
        exact ⟨u, r, .inr ⟨.inl hk, c, hc, hc'⟩⟩
      · rw [List.getElem?_set_ne (Ne.symm hj)] at e2
        obtain ⟨u', r', q⟩ := hl j y v' e1 e2 e3
        refine ⟨u', r', ?_⟩
        rcases q with q | ⟨k, c', e, z'⟩
        · exact .inl q
        · refine .inr ⟨k, c', e, z'.sameBut hs ?_⟩
          rintro rfl
          exact hj (nodup_ix hN e1 (I.ok.inj _ _ _ e hc ▸ hi))
    · by_cases hcc : c' = c
      · subst hcc; exact ⟨_, hc'⟩
      · obtain ⟨w2, z2⟩ := I.cell y c' e
        exact ⟨w2, z2.sameBut hs hcc⟩
    · obtain ⟨e, n, ne, nf, d⟩ := I.pin p hp
      refine ⟨(hs.2 p.1 ?_).trans e, n, ne, nf, d⟩
      intro q
      rw [q, hoc] at e
      have q' : oc = p.2 := Option.some.inj e
      exact d w' (by rw [← q']; exact hocd)
theorem store_ok {M : Model} {A : Around} {E : Value → Shared → Prop} {i : Nat} {x : Str} {v : V} {u : Value} {Q : Unit → Shared → Prop} (I : Inv X pins σ H s) (hN : X.N.Nodup) (hi : X.N[i]? = some x) (hx : Loc X.env.scope x) (r : RelV v u)
    (h : ∀ s', Inv X pins (σ.set i (some v)) H s' → Q () s') (hf : X.fn x = true ∨ X.env.scope.names.lookup x = some .local := by first | exact .inl rfl | exact .inr rfl | assumption) : wpAny M A (storeName X.env x u) Q E s :=
  store_ok2 I hN hi hx r (fun s' I' _ => h s' I') hf
/-- behind a call or a block, the state as it is -/
theorem Inv.call' {s' : Shared} {ch : List Addr} (I : Inv X pins σ H s) (ho : s'.os = s.os) (u : Un (frs X.stack) ch H H' s.heap s'.heap) (hok : HOk X.prog X.w H' s'.heap) (hg : AllBare s'.gens)
    (hch : ∀ b ∈ ch, (b ∈ X.ex ∨ X.s₀.heap.objs.size ≤ b) ∧ b ≠ X.env.locals ∧ (∀ x c, X.env.cells.lookup x = some c → c ≠ b) ∧ ∀ p ∈ X.pn ++ pins, p.1 ≠ b) : Inv X pins σ H' s' := by
  obtain ⟨h', g', d', t', o'⟩ := s'
  have e : o' = s.os := ho
  subst e
  exact I.call (g' := g') (t' := t') (d' := d') u hok hg hch
end

/-! ### the judgements -/
/-- an exception: its class, its own dict's address (where it has one), the abstract heap behind it -/
abbrev XK := Value → Option Addr → Hp → Prop
abbrev St := List (Option V)
abbrev VK := V → Hp → Prop
/-- an expression's reading; a test's; an argument list's -/
abbrev TE := St → Hp → VK → Prop
abbrev TT := St → Hp → (Bool → Hp → Prop) → Prop
abbrev TA := St → Hp → (List V → Hp → Prop) → Prop
/-- what is wanted behind a statement -/
structure Ends where
  nx : St → Hp → Prop
  rt : VK
  bk : St → Hp → Prop := fun _ _ => False
  ct : St → Hp → Prop := fun _ _ => False
abbrev TS := Ends → St → Hp → Prop

def EP (X : Cx) (pins : List (Addr × Obj)) (σ : St) (Q : VK) (u : Value) (s' : Shared) : Prop := ∃ v H', Inv X pins σ H' s' ∧ RelV v u ∧ Q v H'
def TP (X : Cx) (pins : List (Addr × Obj)) (σ : St) (Q : Bool → Hp → Prop) (b : Bool) (s' : Shared) : Prop := ∃ H', Inv X pins σ H' s' ∧ Q b H'
def AP (X : Cx) (pins : List (Addr × Obj)) (σ : St) (Q : List V → Hp → Prop) (us : List Value) (s' : Shared) : Prop := ∃ vs H', Inv X pins σ H' s' ∧ Vals vs us ∧ Q vs H'
def SP (X : Cx) (pins : List (Addr × Obj)) (D : Ends) (f : Flow) (s' : Shared) : Prop :=
  match f with
  | .next => ∃ σ' H', Inv X pins σ' H' s' ∧ D.nx σ' H'
  | .brk => ∃ σ' H', Inv X pins σ' H' s' ∧ D.bk σ' H'
  | .cont => ∃ σ' H', Inv X pins σ' H' s' ∧ D.ct σ' H'
  | .ret u => ∃ v σ' H', Inv X pins σ' H' s' ∧ RelV v u ∧ D.rt v H'

def PE (X : Cx) (e : Expr) (t : TE) : Prop :=
  ∀ (pins : List (Addr × Obj)) (s : Shared) (σ : St) (H : Hp) (Q : VK), Inv X pins σ H s → t σ H Q → wpAny (model X.prog X.w) X.A (eval e X.env) (EP X pins σ Q) X.xe s
def PT (X : Cx) (e : Expr) (t : TT) : Prop :=
  ∀ (pins : List (Addr × Obj)) (s : Shared) (σ : St) (H : Hp) (Q : Bool → Hp → Prop), Inv X pins σ H s → t σ H Q → wpAny (model X.prog X.w) X.A (isTrue e X.env (eval e X.env)) (TP X pins σ Q) X.xe s
/-- a test whatever its 'whole' is (and, or) -/
def PW (X : Cx) (e : Expr) (t : TT) : Prop :=
  ∀ (whole : Sem Value) (pins : List (Addr × Obj)) (s : Shared) (σ : St) (H : Hp) (Q : Bool → Hp → Prop), Inv X pins σ H s → t σ H Q → wpAny (model X.prog X.w) X.A (isTrue e X.env whole) (TP X pins σ Q) X.xe s
theorem PW.pt {X : Cx} {e : Expr} {t : TT} (h : PW X e t) : PT X e t := h _
/-- an argument list (no star), from the left -/
def PA (X : Cx) (es : List Expr) (t : TA) : Prop :=
  ∀ (pos : Pos) (pins : List (Addr × Obj)) (s : Shared) (σ : St) (H : Hp) (Q : List V → Hp → Prop), Inv X pins σ H s → t σ H Q → wpAny (model X.prog X.w) X.A (spliced (backTo pos (starEach es X.env))) (AP X pins σ Q) X.xe s
def PS (X : Cx) (st : Stmt) (t : TS) : Prop :=
  ∀ (pins : List (Addr × Obj)) (s : Shared) (σ : St) (H : Hp) (D : Ends), Inv X pins σ H s → t D σ H → wpAny (model X.prog X.w) X.A (exec st X.env) (SP X pins D) X.xe s
def PSs (X : Cx) (st : List Stmt) (t : TS) : Prop :=
  ∀ (pins : List (Addr × Obj)) (s : Shared) (σ : St) (H : Hp) (D : Ends), Inv X pins σ H s → t D σ H → wpAny (model X.prog X.w) X.A (execs st X.env) (SP X pins D) X.xe s
/-- weaken the end -/
theorem thn {α : Type} {t : Sem α} {Q Q' : α → Shared → Prop} {M : Model} {A : Around} {E : Value → Shared → Prop} {s : Shared} (h : wpAny M A t Q E s) (hQ : ∀ a s, Q a s → Q' a s) : wpAny M A t Q' E s := wpAny_mono h hQ fun _ _ x => x
end L2

namespace L2
open PySem PySem.Spec PyProof.Rows
section
variable {X : Cx}

/-! ### names and constants -/
def tVar (i : Nat) : TE := fun σ H Q => ∃ v, σ[i]? = some (some v) ∧ Q v H
def tC (v : V) : TE := fun _ H Q => Q v H
theorem pe_var {i : Nat} {x : Str} {pos : Pos} (hN : X.N[i]? = some x) (hv : Vis X.env.scope x) (hd : (x == ("__debug__" : Str)) = false := by decide) (hcd : (x == ("__classdict__" : Str)) = false := by decide) : PE X (.Name x pos) (tVar i) := by
  intro pins s σ H Q I h
  obtain ⟨v, e, h⟩ := h
  obtain ⟨m, hn, hl⟩ := I.loc
  obtain ⟨u, r, l⟩ := hl i x v hN e hv
  have fin : EP X pins σ Q u s := ⟨v, H, I, r, h⟩
  rcases l with ⟨hk, hm⟩ | ⟨hk, c, hc, hcell⟩
  · exact wpAny_Name (wpAny_loadName_local I.ok.kind hk hn hm fin) hd
  · rcases hk with hk | hk
    · exact wpAny_Name (wpAny_loadName_cell I.ok.kind hk hc hcell fin) hd
    · exact wpAny_Name (wpAny_loadName_free I.ok.kind hk hc hcell fin hcd) hd
theorem pe_int {i j pos} : PE X (.Constant (.int i) j pos) (tC (.int i)) := fun _ _ _ H _ I h => wpAny_Constant_int ⟨.int i, H, I.tok _, ⟨_, rfl⟩, h⟩
theorem pe_bl {b j pos} : PE X (.Constant (.bool b) j pos) (tC (.bl b)) := fun _ _ _ H _ I h => Constant_bool ⟨.bl b, H, I, rfl, h⟩
theorem pe_non {j pos} : PE X (.Constant .none j pos) (tC .non) := fun _ _ _ H _ I h => Constant_none ⟨.non, H, I, rfl, h⟩
theorem pe_str {x j pos} : PE X (.Constant (.str x) j pos) (tC (.str x)) := fun _ _ _ H _ I h => Calls.Constant_str ⟨.str x, H, I.tok _, ⟨_, rfl⟩, h⟩

/-- a global name of the def -/
def Gl (X : Cx) (x : Str) : Prop := X.env.kindOf x = some .globalImplicit
theorem ld_glob {E : Value → Shared → Prop} {pins : List (Addr × Obj)} {s : Shared} {σ : St} {H : Hp} {x : Str} {u : Value} {pos : Pos} {Q : Value → Shared → Prop} (I : Inv X pins σ H s) (hg : Gl X x) (hm : X.mg x = some u) (h : Q u s)
    (hd : (x == ("__debug__" : Str)) = false := by decide) : wpAny (model X.prog X.w) X.A (eval (.Name x pos) X.env) Q E s :=
  Calls.Name_function_global I.ok.kind hg (Calls.loadGlobal_global (by rw [I.ok.glob]; exact I.mod.glob.keeps I.bk) hm h) hd
theorem ld_blt {E : Value → Shared → Prop} {pins : List (Addr × Obj)} {s : Shared} {σ : St} {H : Hp} {x : Str} {u : Value} {pos : Pos} {Q : Value → Shared → Prop} (I : Inv X pins σ H s) (hg : Gl X x) (hm : X.mg x = none) (hv : bootBuiltins x = some u) (h : Q u s)
    (hn : x ≠ "__name__" := by decide) (hd : (x == ("__debug__" : Str)) = false := by decide) : wpAny (model X.prog X.w) X.A (eval (.Name x pos) X.env) Q E s := by
  obtain ⟨mb, h1, h2⟩ := I.mod.blt
  exact Calls.Name_function_global I.ok.kind hg (Calls.loadGlobal_builtin (by rw [I.ok.glob]; exact I.mod.glob.keeps I.bk) hm (by rw [I.ok.blt]; exact h1.keeps I.bk) ((h2 x hn).trans hv) h) hd
/-- a module's constant, a class, a function, as a value -/
theorem pe_glob {x : Str} {v : V} {u : Value} {pos : Pos} (hg : Gl X x) (hm : X.mg x = some u) (r : RelV v u) (hd : (x == ("__debug__" : Str)) = false := by decide) : PE X (.Name x pos) (tC v) :=
  fun _ _ _ H _ I h => ld_glob I hg hm ⟨v, H, I, r, h⟩ hd
theorem pe_bltn {x : Str} {v : V} {u : Value} {pos : Pos} (hg : Gl X x) (hm : X.mg x = none) (hv : bootBuiltins x = some u) (r : RelV v u) (hn : x ≠ "__name__" := by decide) (hd : (x == ("__debug__" : Str)) = false := by decide) : PE X (.Name x pos) (tC v) :=
  fun _ _ _ H _ I h => ld_blt I hg hm hv ⟨v, H, I, r, h⟩ hn hd

/-! ### arithmetic -/
/-- two ints -/
def t2I (ta tb : TE) (k : Int → Int → Hp → Prop) : St → Hp → Prop := fun σ H => ta σ H fun x H1 => tb σ H1 fun y H2 => ∃ i j, x = .int i ∧ y = .int j ∧ k i j H2
def tAdd (ta tb : TE) : TE := fun σ H Q => t2I ta tb (fun i j H2 => Q (.int (i + j)) H2) σ H
def tSub (ta tb : TE) : TE := fun σ H Q => t2I ta tb (fun i j H2 => Q (.int (i - j)) H2) σ H
/-- the left factor below 2^64 -/
def tMul (ta tb : TE) : TE := fun σ H Q => t2I ta tb (fun i j H2 => (-(2 ^ 64) < i ∧ i < 2 ^ 64) ∧ Q (.int (i * j)) H2) σ H
variable {a b : Expr} {ta tb : TE} {pos : Pos}
/-! ### comparisons -/
def PC (X : Cx) (op : CmpOp) (a b : Expr) (t : TE) : Prop :=
  ∀ (pins : List (Addr × Obj)) (s : Shared) (σ : St) (H : Hp) (Q : VK), Inv X pins σ H s → t σ H Q →
    wpAny (model X.prog X.w) X.A (eval a X.env) (fun v s₁ => wpAny (model X.prog X.w) X.A (eval b X.env) (fun u s₂ => wpAny (model X.prog X.w) X.A (compareOp op v u) (EP X pins σ Q) X.xe s₂) X.xe s₁) X.xe s
theorem nobehind (b : Expr) {op : CmpOp} (h : op ≠ .In) (h2 : op ≠ .NotIn) : behindInMarks op b = false := by
  have e1 : (op == CmpOp.In) = false := by cases op <;> first | rfl | exact absurd rfl h
  have e2 : (op == CmpOp.NotIn) = false := by cases op <;> first | rfl | exact absurd rfl h2
  cases b <;> simp [behindInMarks, e1, e2]
def tCmp (p : Int → Int → Bool) (ta tb : TE) : TE := fun σ H Q => t2I ta tb (fun i j H2 => Q (.bl (p i j)) H2) σ H
abbrev tLt : TE → TE → TE := tCmp fun i j => decide (i < j)
abbrev tLe : TE → TE → TE := tCmp fun i j => decide (i ≤ j)
abbrev tGt : TE → TE → TE := tCmp fun i j => decide (j < i)
abbrev tGe : TE → TE → TE := tCmp fun i j => decide (j ≤ i)
abbrev tEqI : TE → TE → TE := tCmp fun i j => decide (i = j)
abbrev tNeI : TE → TE → TE := tCmp fun i j => !decide (i = j)
/-- is None -/
def tIsN (ta : TE) : TE := fun σ H Q => ta σ H fun x H1 => Q (.bl (decide (x = .non))) H1
def tNotN (ta : TE) : TE := fun σ H Q => ta σ H fun x H1 => Q (.bl (!decide (x = .non))) H1
theorem RelV.none_iff {x : V} {v : Value} (r : RelV x v) : (v == Value.none) = decide (x = .non) := by
  cases x with
  | non => cases r; rfl
  | bl _ => cases r; rfl
  | int _ => obtain ⟨t, rfl⟩ := r; rfl
  | str _ => obtain ⟨t, rfl⟩ := r; rfl
  | byt _ => obtain ⟨t, rfl⟩ := r; rfl
  | flt _ => obtain ⟨t, rfl⟩ := r; rfl
  | ref _ => cases r; rfl
  | ty _ => cases r; rfl
theorem pc_isN {j pos'} (ha : PE X a ta) : PC X .Is a (.Constant .none j pos') (tIsN ta) := by
  intro pins s σ H Q I h
  refine thn (ha pins s σ H _ I h) fun v s1 ⟨x, H1, I1, r1, q1⟩ => ?_
  exact Constant_none (is_none_gen ⟨.bl _, H1, I1, by rw [r1.none_iff]; rfl, q1⟩)
/-- a comparison as a value, as a test -/
def tB (t : TE) : TT := fun σ H Q => t σ H fun x H1 => ∃ c, x = .bl c ∧ Q c H1
theorem pe_cmp {op : CmpOp} {t : TE} (h : PC X op a b t) (h1 : behindInMarks op b = false := by first | exact nobehind _ (by decide) (by decide) | rfl) : PE X (.Compare a [op] [b] pos) t := fun pins s σ H Q I hw => wpAny_Compare1 (h pins s σ H Q I hw) h1
theorem pt_cmp {op : CmpOp} {t : TE} (h : PC X op a b t) (h1 : behindInMarks op b = false := by first | exact nobehind _ (by decide) (by decide) | rfl) : PT X (.Compare a [op] [b] pos) (tB t) := by
  intro pins s σ H Q I hw
  refine wpAny_isTrue_Compare1 (thn (h pins s σ H _ I hw) fun v s1 h1 => thn h1 fun u s2 h2 => thn h2 fun c s3 ⟨x, H1, I1, r1, q1⟩ => ?_) h1
  obtain ⟨d, rfl, q⟩ := q1
  cases r1
  exact wpAny_truthy_bool ⟨H1, I1, q⟩
/-- an expression whose value is a bool, as a test -/
theorem pt_val {e : Expr} {t : TE} (h : PE X e t) (he : ∀ whole, isTrue e X.env whole = (do let v ← whole; standAt e.pos; holding [v] (truthy v)) := by intro _; rfl) : PT X e (tB t) := by
  intro pins s σ H Q I hw
  refine isTrue_plain (thn (h pins s σ H _ I hw) fun v s1 ⟨x, H1, I1, r1, q1⟩ => ?_) (he _)
  obtain ⟨d, rfl, q⟩ := q1
  cases r1
  exact wpAny_truthy_bool ⟨H1, I1, q⟩

/-! ### and, or, not -/
variable {tA tB' : TT} {rest : List Expr}
def tAnd (t u : TT) : TT := fun σ H Q => t σ H fun c H1 => if c = true then u σ H1 Q else Q false H1
def tOr (t u : TT) : TT := fun σ H Q => t σ H fun c H1 => if c = true then Q true H1 else u σ H1 Q
def tNot (t : TT) : TT := fun σ H Q => t σ H fun c H1 => Q (!c) H1
theorem pw_and1 (ha : PT X a tA) : PW X (.BoolOp .And [a] pos) tA := by
  intro wh pins s σ H Q I h
  refine isTrue_and (thn (ha pins s σ H Q I h) fun c s1 e => ?_)
  cases c with
  | true => exact isTrue_and_nil e
  | false => exact e
theorem pw_or1 (ha : PT X a tA) : PW X (.BoolOp .Or [a] pos) tA := by
  intro wh pins s σ H Q I h
  refine isTrue_or (thn (ha pins s σ H Q I h) fun c s1 e => ?_)
  cases c with
  | false => exact isTrue_or_nil e
  | true => exact e
theorem pw_and (ha : PT X a tA) (hb : PW X (.BoolOp .And (b :: rest) pos) tB') : PW X (.BoolOp .And (a :: b :: rest) pos) (tAnd tA tB') := by
  intro wh pins s σ H Q I h
  refine isTrue_and (thn (ha pins s σ H _ I h) fun c s1 ⟨H1, I1, q1⟩ => ?_)
  cases c with
  | true => exact hb wh pins s1 σ H1 Q I1 q1
  | false => exact ⟨H1, I1, q1⟩
theorem pw_or (ha : PT X a tA) (hb : PW X (.BoolOp .Or (b :: rest) pos) tB') : PW X (.BoolOp .Or (a :: b :: rest) pos) (tOr tA tB') := by
  intro wh pins s σ H Q I h
  refine isTrue_or (thn (ha pins s σ H _ I h) fun c s1 ⟨H1, I1, q1⟩ => ?_)
  cases c with
  | true => exact ⟨H1, I1, q1⟩
  | false => exact hb wh pins s1 σ H1 Q I1 q1
theorem pt_not (ha : PT X a tA) : PT X (.UnaryOp .Not a pos) (tNot tA) := by
  intro pins s σ H Q I h
  exact isTrue_not (ha pins s σ H (fun c H1 => Q (!c) H1) I h)
/-- .. as values (bools) -/
def tAndV (ta tb : TE) : TE := fun σ H Q => ta σ H fun x H1 => ∃ c, x = .bl c ∧ if c = true then tb σ H1 Q else Q (.bl false) H1
def tOrV (ta tb : TE) : TE := fun σ H Q => ta σ H fun x H1 => ∃ c, x = .bl c ∧ if c = true then Q (.bl true) H1 else tb σ H1 Q
def tNotV (ta : TE) : TE := fun σ H Q => ta σ H fun x H1 => ∃ c, x = .bl c ∧ Q (.bl (!c)) H1
theorem pe_one {op} {t : TE} (h : PE X a t) : PE X (.BoolOp op [a] pos) t := fun pins s σ H Q I hw => BoolOp_one (h pins s σ H Q I hw)
theorem pe_and (ha : PE X a ta) (hb : PE X (.BoolOp .And (b :: rest) pos) tb) : PE X (.BoolOp .And (a :: b :: rest) pos) (tAndV ta tb) := by
  intro pins s σ H Q I h
  refine BoolOp_and (thn (ha pins s σ H _ I h) fun v s1 ⟨x, H1, I1, r1, q1⟩ => ?_)
  obtain ⟨c, rfl, q1⟩ := q1
  cases r1
  refine wpAny_truthy_bool ?_
  cases c with
  | true => exact hb pins s1 σ H1 Q I1 q1
  | false => exact ⟨.bl false, H1, I1, rfl, q1⟩
theorem pe_or (ha : PE X a ta) (hb : PE X (.BoolOp .Or (b :: rest) pos) tb) : PE X (.BoolOp .Or (a :: b :: rest) pos) (tOrV ta tb) := by
  intro pins s σ H Q I h
  refine BoolOp_or (thn (ha pins s σ H _ I h) fun v s1 ⟨x, H1, I1, r1, q1⟩ => ?_)
  obtain ⟨c, rfl, q1⟩ := q1
  cases r1
  refine wpAny_truthy_bool ?_
  cases c with
  | false => exact hb pins s1 σ H1 Q I1 q1
  | true => exact ⟨.bl true, H1, I1, rfl, q1⟩
theorem pe_not (ha : PE X a ta) : PE X (.UnaryOp .Not a pos) (tNotV ta) := by
  intro pins s σ H Q I h
  refine UnaryOp_ (thn (ha pins s σ H _ I h) fun v s1 ⟨x, H1, I1, r1, q1⟩ => ?_)
  obtain ⟨c, rfl, q1⟩ := q1
  cases r1
  exact not_of (wpAny_truthy_bool ⟨.bl (!c), H1, I1, rfl, q1⟩)
/-- a if t else b -/
def tIf (t : TT) (ta tb : TE) : TE := fun σ H Q => t σ H fun c H1 => if c = true then ta σ H1 Q else tb σ H1 Q
end
end L2

namespace L2
open PySem PySem.Spec PyProof.Rows

/-! ### a list, a tuple that is read: tracked, frozen, or an object of the module -/
def SqL (K : PySem.W.Frag) (H : Hp) (a : Addr) (xs : List V) : Prop :=
  Rd H a (.lst xs) ∨
    ∃ (o : Obj) (its : Array Value) (n : Nat), K.lookup a = some o ∧ o.cls = .type "list" ∧ o.dict = none ∧ o.data = .seq its n ∧ its.size ≤ sizeLine ∧ Vals xs its.toList
def SqT (K : PySem.W.Frag) (H : Hp) (a : Addr) (xs : List V) : Prop :=
  Rd H a (.tup xs) ∨
    ∃ (o : Obj) (its : Array Value) (n : Nat), K.lookup a = some o ∧ o.cls = .type "tuple" ∧ o.data = .seq its n ∧ its.size ≤ sizeLine ∧ Vals xs its.toList
def absV : Value → Option V
  | .none => some .non
  | .bool b => some (.bl b)
  | .int i _ => some (.int i)
  | .str x _ => some (.str x)
  | .bytes b _ => some (.byt b)
  | .float b _ => some (.flt b)
  | .ref a => some (.ref a)
  | .type n => some (.ty n)
  | _ => none
theorem RelV.abs {x : V} {u : Value} (r : RelV x u) : absV u = some x := by
  cases x with
  | non => cases r; rfl
  | bl _ => cases r; rfl
  | int _ => obtain ⟨t, rfl⟩ := r; rfl
  | str _ => obtain ⟨t, rfl⟩ := r; rfl
  | byt _ => obtain ⟨t, rfl⟩ := r; rfl
  | flt _ => obtain ⟨t, rfl⟩ := r; rfl
  | ref _ => cases r; rfl
  | ty _ => cases r; rfl
theorem RelV.inj {x y : V} {u : Value} (r : RelV x u) (q : RelV y u) : x = y := Option.some.inj (r.abs.symm.trans q.abs)
theorem Vals.inj : ∀ {xs ys : List V} {us : List Value}, Vals xs us → Vals ys us → xs = ys
  | _, _, _, .nil, .nil => rfl
  | _, _, _, .cons r t, .cons r' t' => by rw [r.inj r', Vals.inj t t']
section
variable {X : Cx} {pins : List (Addr × Obj)} {σ : St} {H : Hp} {s : Shared} {a : Addr} {xs ys : List V}
theorem SqL.of {K : PySem.W.Frag} (h : H a = some (.lst xs)) : SqL K H a xs := .inl (.inl h)
theorem SqT.of {K : PySem.W.Frag} (h : H a = some (.tup xs)) : SqT K H a xs := .inl (.inl h)
theorem Inv.list (I : Inv X pins σ H s) (h : SqL X.K H a xs) : ∃ its : List Value, Vals xs its ∧ PlainL s.heap a its.toArray ∧ xs.length ≤ sizeLine := by
  rcases h with h | ⟨o, its, n, hk, hc, hd, hs, hz, r⟩
  · obtain ⟨z, its, n, r, e⟩ := h.ok I.hok
    exact ⟨its, r, ⟨_, n, e, rfl, rfl, rfl⟩, z⟩
  · refine ⟨its.toList, r, ⟨o, n, I.kIn a o hk, hc, hd, by simpa using hs⟩, ?_⟩
    have e := r.length
    simp only [Array.length_toList] at e
    omega
theorem Inv.tuple (I : Inv X pins σ H s) (h : SqT X.K H a xs) : ∃ its : List Value, Vals xs its ∧ IsTup s.heap a its.toArray ∧ xs.length ≤ sizeLine := by
  rcases h with h | ⟨o, its, n, hk, hc, hs, hz, r⟩
  · obtain ⟨z, its, r, p⟩ := h.ok I.hok
    exact ⟨its, r, p, z⟩
  · refine ⟨its.toList, r, ⟨o, I.kIn a o hk, hc, n, by simpa using hs⟩, ?_⟩
    have e := r.length
    simp only [Array.length_toList] at e
    omega
theorem Inv.tuple_inj (I : Inv X pins σ H s) (h : SqT X.K H a xs) (h' : SqT X.K H a ys) : xs = ys := by
  obtain ⟨its, r, ⟨o, e, _, n, d⟩, _⟩ := I.tuple h
  obtain ⟨its', r', ⟨o', e', _, n', d'⟩, _⟩ := I.tuple h'
  rw [e] at e'; cases e'
  rw [d] at d'
  injection d' with d1 _
  have : its = its' := by simpa using congrArg Array.toList d1
  subst this
  exact r.inj r'
end

/-! ### another wish about exceptions -/
abbrev Cx.wish (X : Cx) (E : Value → Shared → Prop) : Cx := { X with xe := E }
/-- no exception leaves -/
abbrev Cx.nox (X : Cx) : Cx := X.wish fun _ _ => False
theorem Cx.Ok.wish {X : Cx} (ok : X.Ok) (E : Value → Shared → Prop) : (X.wish E).Ok :=
  ⟨ok.mod, ok.kind, ok.glob, ok.blt, ok.above, ok.inj, ok.has, ok.cab, ok.hd, ok.frames, ok.stk, ok.exf, ok.bs, ok.bsz, ok.noex, ok.exfs, ok.funs, ok.frf⟩
theorem Cx.Ok.unwish {X : Cx} {E : Value → Shared → Prop} (ok : (X.wish E).Ok) : X.Ok :=
  ⟨ok.mod, ok.kind, ok.glob, ok.blt, ok.above, ok.inj, ok.has, ok.cab, ok.hd, ok.frames, ok.stk, ok.exf, ok.bs, ok.bsz, ok.noex, ok.exfs, ok.funs, ok.frf⟩
section
variable {X : Cx} {pins : List (Addr × Obj)} {σ : St} {H : Hp} {s : Shared} {E : Value → Shared → Prop}
theorem Inv.wish (I : Inv X pins σ H s) (E : Value → Shared → Prop) : Inv (X.wish E) pins σ H s := ⟨I.ok.wish E, I.os, I.bare, I.base, I.loc, I.cell, I.free, I.freeC, I.pin, I.hok, I.len⟩
theorem Inv.unwish (I : Inv (X.wish E) pins σ H s) : Inv X pins σ H s := ⟨I.ok.unwish, I.os, I.bare, I.base, I.loc, I.cell, I.free, I.freeC, I.pin, I.hok, I.len⟩
theorem SP.unwish {D : Ends} {f : Flow} {s' : Shared} (h : SP (X.wish E) pins D f s') : SP X pins D f s' := by
  cases f with
  | next => obtain ⟨σ', H', I, q⟩ := h; exact ⟨σ', H', I.unwish, q⟩
  | brk => obtain ⟨σ', H', I, q⟩ := h; exact ⟨σ', H', I.unwish, q⟩
  | cont => obtain ⟨σ', H', I, q⟩ := h; exact ⟨σ', H', I.unwish, q⟩
  | ret u => obtain ⟨v, σ', H', I, r, q⟩ := h; exact ⟨v, σ', H', I.unwish, r, q⟩
theorem PE.nox {e : Expr} {t : TE} (h : PE X.nox e t) : PE X e t := fun pins s σ H Q I hw =>
  wpAny_mono (h pins s σ H Q (I.wish _) hw) (fun _ _ ⟨v, H', I', r, q⟩ => ⟨v, H', I'.unwish, r, q⟩) fun _ _ z => False.elim z
theorem PT.nox {e : Expr} {t : TT} (h : PT X.nox e t) : PT X e t := fun pins s σ H Q I hw =>
  wpAny_mono (h pins s σ H Q (I.wish _) hw) (fun _ _ ⟨H', I', q⟩ => ⟨H', I'.unwish, q⟩) fun _ _ z => False.elim z
theorem PSs.nox {st : List Stmt} {t : TS} (h : PSs X.nox st t) : PSs X st t := fun pins s σ H D I hw =>
  wpAny_mono (h pins s σ H D (I.wish _) hw) (fun _ _ q => q.unwish) fun _ _ z => False.elim z
end

/-! ### blocks and small statements -/
section
variable {X : Cx} {st : Stmt} {rest : List Stmt} {t u : TS} {e : Expr} {te : TE} {pos : Pos}
def tNext : TS := fun D σ H => D.nx σ H
def tSeq (t u : TS) : TS := fun D σ H => t { D with nx := u D } σ H
theorem pss_nil : PSs X [] tNext := fun _ _ σ H _ I h => wpAny_execs_nil ⟨σ, H, I, h⟩
theorem pss_cons (h1 : PS X st t) (h2 : PSs X rest u) : PSs X (st :: rest) (tSeq t u) := by
  intro pins s σ H D I h
  refine wpAny_execs_cons (thn (h1 pins s σ H { D with nx := u D } I h) fun f s1 q => ?_)
  cases f with
  | next =>
    obtain ⟨σ', H', I', q⟩ := q
    exact h2 pins s1 σ' H' D I' q
  | ret v => exact q
  | brk => exact q
  | cont => exact q
def tBreak : TS := fun D σ H => D.bk σ H
def tCont : TS := fun D σ H => D.ct σ H
/-- in a def's body nothing is shown -/
theorem Inv.quiet {pins : List (Addr × Obj)} {σ : St} {H : Hp} {s : Shared} (I : Inv X pins σ H s) : interactive X.env = false := by simp [interactive, I.ok.kind]
/-- an expression whose value is dropped -/
def tDrop (te : TE) : TS := fun D σ H => te σ H fun _ H1 => D.nx σ H1
theorem ps_expr (he : PE X e te) (hs : swapsWith e none pos.line X.env = pure false := by rfl) : PS X (.Expr e pos) (tDrop te) := by
  intro pins s σ H D I h
  exact wpAny_Expr_any (thn (he pins s σ H _ I h) fun v s1 ⟨x, H1, I1, r1, q1⟩ => ⟨σ, H1, I1, q1⟩) I.quiet hs
def tRet (te : TE) : TS := fun D σ H => te σ H D.rt
theorem ps_ret (he : PE X e te) : PS X (.Return (some e) pos) (tRet te) := by
  intro pins s σ H D I h
  exact wpAny_Return_some (thn (he pins s σ H _ I h) fun v s1 ⟨x, H1, I1, r1, q1⟩ => ⟨x, σ, H1, I1, r1, q1⟩)
def tRetN : TS := fun D _ H => D.rt .non H
def tIfS (c : TT) (t u : TS) : TS := fun D σ H => c σ H fun b H1 => if b = true then t D σ H1 else u D σ H1
theorem ps_if {c : Expr} {a b : List Stmt} {tc : TT} (hc : PT X c tc) (ha : PSs X a t) (hb : PSs X b u) : PS X (.If c a b pos) (tIfS tc t u) := by
  intro pins s σ H D I h
  refine wpAny_If (thn (hc pins s σ H _ I h) fun d s1 ⟨H1, I1, q1⟩ => ?_)
  cases d with
  | true => exact ha pins s1 σ H1 D I1 q1
  | false => exact hb pins s1 σ H1 D I1 q1
/-- code that the proof never comes to -/
def tNever : TS := fun _ _ _ => False
theorem pss_never {sts : List Stmt} : PSs X sts tNever := fun _ _ _ _ _ _ h => h.elim
end

/-! ### targets -/
abbrev TG := V → St → Hp → (St → Hp → Prop) → Prop
abbrev TGs := List V → St → Hp → (St → Hp → Prop) → Prop
def PG (X : Cx) (target : Expr) (t : TG) : Prop :=
  ∀ (pins : List (Addr × Obj)) (s : Shared) (σ : St) (H : Hp) (v : V) (u : Value) (Q : St → Hp → Prop), Inv X pins σ H s → RelV v u → t v σ H Q →
    wpAny (model X.prog X.w) X.A (assign target X.env u) (fun _ s' => ∃ σ' H', Inv X pins σ' H' s' ∧ Q σ' H') X.xe s
/-- several targets, one after another -/
def PGs (X : Cx) (ts : List Expr) (t : TGs) : Prop :=
  ∀ (pins : List (Addr × Obj)) (s : Shared) (σ : St) (H : Hp) (vs : List V) (us : List Value) (Q : St → Hp → Prop), Inv X pins σ H s → Vals vs us → t vs σ H Q →
    wpAny (model X.prog X.w) X.A (assignInOrder ((assignEach ts X.env).map (·.2)) us) (fun _ s' => ∃ σ' H', Inv X pins σ' H' s' ∧ Q σ' H') X.xe s
/-- o[i] = v, by values -/
abbrev TSet := V → V → V → Hp → (Hp → Prop) → Prop
def PSet (X : Cx) (t : TSet) : Prop :=
  ∀ (pins : List (Addr × Obj)) (s : Shared) (σ : St) (H : Hp) (o i v : V) (ov iv u : Value) (Q : Hp → Prop), Inv X pins σ H s → RelV o ov → RelV i iv → RelV v u → t o i v H Q →
    wpAny (model X.prog X.w) X.A (setItem ov iv u) (fun _ s' => ∃ H', Inv X pins σ H' s' ∧ Q H') X.xe s
/-- a op= b, by values -/
abbrev TIp := V → V → Hp → VK → Prop
def PIp (X : Cx) (op : Operator) (t : TIp) : Prop :=
  ∀ (pins : List (Addr × Obj)) (s : Shared) (σ : St) (H : Hp) (x y : V) (v u : Value) (Q : VK), Inv X pins σ H s → RelV x v → RelV y u → t x y H Q →
    wpAny (model X.prog X.w) X.A (inplaceOp op v u) (EP X pins σ Q) X.xe s
section
variable {X : Cx} {pos : Pos}
def gName (i : Nat) : TG := fun v σ H Q => Q (σ.set i (some v)) H
theorem pg_name {i : Nat} {x : Str} (hN : X.N.Nodup) (hi : X.N[i]? = some x) (hx : Loc X.env.scope x) (hf : X.fn x = true ∨ X.env.scope.names.lookup x = some .local := by first | exact .inl rfl | exact .inr rfl | assumption) : PG X (.Name x pos) (gName i) := by
  intro pins s σ H v u Q I r h
  exact wpAny_assign_Name (store_ok I hN hi hx r (fun s' I' => ⟨_, H, I', h⟩) hf)
def gNil : TGs := fun vs σ H Q => vs = [] ∧ Q σ H
def gCons (t : TG) (u : TGs) : TGs := fun vs σ H Q => ∃ v r, vs = v :: r ∧ t v σ H fun σ' H' => u r σ' H' Q
theorem pgs_nil : PGs X [] gNil := by
  intro pins s σ H vs us Q I r h
  obtain ⟨e, h⟩ := h
  subst e
  cases r
  exact assignInOrder_nil ⟨σ, H, I, h⟩
theorem pgs_cons {e : Expr} {es : List Expr} {t : TG} {u : TGs} (h1 : PG X e t) (h2 : PGs X es u)
    (hs : (assignEach (e :: es) X.env).map (·.2) = assign e X.env :: (assignEach es X.env).map (·.2) := by rfl) : PGs X (e :: es) (gCons t u) := by
  intro pins s σ H vs us Q I r h
  obtain ⟨v, vr, e1, h⟩ := h
  subst e1
  cases r with
  | cons r rr =>
    rw [hs]
    refine assignInOrder_cons (thn (h1 pins s σ H _ _ _ I r h) fun _ s1 ⟨σ1, H1, I1, q1⟩ => ?_)
    exact h2 pins s1 σ1 H1 _ _ Q I1 rr q1
/-- (a, b, ..) = a tuple of that length -/
def gTup (K : PySem.W.Frag) (n : Nat) (t : TGs) : TG := fun v σ H Q => ∃ a xs, v = .ref a ∧ SqT K H a xs ∧ xs.length = n ∧ t xs σ H Q
theorem pg_tup {es : List Expr} {k : Nat} {t : TGs} {n : Nat} (hc : X.calm = true) (h : PGs X es t)
    (hn : (assignEach es X.env).length = n := by rfl) (hst : (assignEach es X.env).findIdx? (·.1) = none := by rfl) : PG X (.Tuple es k pos) (gTup X.K n t) := by
  intro pins s σ H v u Q I r hw
  obtain ⟨a, xs, e1, hq, hl, hw⟩ := hw
  subst e1
  cases r
  obtain ⟨its, rv, ht, hz⟩ := I.tuple hq
  refine assign_Tuple_tuple (I.ok.hd hc) ht (by simp [hn, ← hl, rv.length]) hst fun h' hx => ?_
  have I1 : Inv X pins σ H { s with heap := h' } := I.kept (t' := s.toks) fun b o e => hx b o (Nat.ne_of_lt (Heap.lt_size e)) e
  exact h pins _ σ H xs _ Q I1 (by simpa using rv) hw
/-- o[i] = .. -/
def gSub (to ti : TE) (t : TSet) : TG := fun v σ H Q => to σ H fun o H1 => ti σ H1 fun i H2 => t o i v H2 fun H3 => Q σ H3
/-- target = value -/
def tAsg (te : TE) (g : TG) : TS := fun D σ H => te σ H fun x H1 => g x σ H1 D.nx
theorem ps_asg {tg e : Expr} {te : TE} {g : TG} (he : PE X e te) (hg : PG X tg g) (hs : swapsWithSole [tg] e pos.line X.env = pure false := by rfl) (hw : swappedStores [tg] e X.env = pure none := by rfl)
    (h1 : (assignEach [tg] X.env).map (·.2) = [assign tg X.env] := by rfl) : PS X (.Assign [tg] e pos) (tAsg te g) := by
  intro pins s σ H D I h
  refine wpAny_Assign_stores (thn (he pins s σ H _ I h) fun v s1 ⟨x, H1, I1, r1, q1⟩ => ?_) hs hw
  rw [h1]
  exact thn (hg pins s1 σ H1 x v _ I1 r1 q1) fun _ s2 q => q
/-- name = value -/
theorem ps_set {i : Nat} {x : Str} {e : Expr} {te : TE} {pos' : Pos} (hN : X.N.Nodup) (hi : X.N[i]? = some x) (hx : Loc X.env.scope x) (he : PE X e te) (hs : swapsWith e (some (.Name x pos')) pos.line X.env = pure false := by rfl) (hf : X.fn x = true ∨ X.env.scope.names.lookup x = some .local := by first | exact .inl rfl | exact .inr rfl | assumption) :
    PS X (.Assign [.Name x pos'] e pos) (tAsg te (gName i)) := by
  intro pins s σ H D I h
  refine wpAny_Assign_Name (thn (he pins s σ H _ I h) fun v s1 ⟨y, H1, I1, r1, q1⟩ => ?_) hs
  exact store_ok I1 hN hi hx r1 (fun s2 I2 => ⟨_, H1, I2, q1⟩) hf
/-- a, b = x, y with plain local names: stored from the right; the pair itself is not tracked (the opening rows as in PyProof/Rows/TupAssign.lean:23) -/
def tPar (i j : Nat) (ta : TA) : TS := fun D σ H => ta σ H fun vs H1 => ∃ v w, vs = [v, w] ∧ D.nx ((σ.set i (some v)).set j (some w)) H1
/-- name op= e -/
def tAug (i : Nat) (te : TE) (ti : TIp) : TS := fun D σ H => ∃ x, σ[i]? = some (some x) ∧ te σ H fun y H1 => ti x y H1 fun z H2 => D.nx (σ.set i (some z)) H2
/-- o[i] op= e -/
def tAugS (to ti te : TE) (tget : V → V → Hp → VK → Prop) (tip : TIp) (tset : TSet) : TS := fun D σ H => to σ H fun o H1 => ti σ H1 fun i H2 => tget o i H2 fun x H3 => te σ H3 fun y H4 => tip x y H4 fun z H5 => tset o i z H5 fun H6 => D.nx σ H6
/-- o[i], by values -/
def PGet (X : Cx) (t : V → V → Hp → VK → Prop) : Prop :=
  ∀ (pins : List (Addr × Obj)) (s : Shared) (σ : St) (H : Hp) (o i : V) (ov iv : Value) (Q : VK), Inv X pins σ H s → RelV o ov → RelV i iv → t o i H Q →
    wpAny (model X.prog X.w) X.A (getItem ov iv) (EP X pins σ Q) X.xe s
/-- ints -/
def ipI (f : Int → Int → Int) : TIp := fun x y H Q => ∃ i j, x = .int i ∧ y = .int j ∧ Q (.int (f i j)) H
end

/-! ### while -/
section
variable {X : Cx} {pos : Pos}
/-- the invariant W with its measure -/
def tWhile (c : TT) (tb : TS) : TS := fun D σ H => ∃ W : Nat → St → Hp → Prop, (∃ m, W m σ H) ∧ ∀ m σ H, W m σ H →
  c σ H fun b H1 => if b = true then ∃ N : St → Hp → Prop, (∀ σ' H', N σ' H' → ∃ m', m' < m ∧ W m' σ' H') ∧ tb { D with nx := N, ct := N, bk := D.nx } σ H1 else D.nx σ H1
theorem ps_while {c : Expr} {body : List Stmt} {tc : TT} {tb : TS} (hp : PassesOwn (model X.prog X.w) X.A X.env X.xe) (hc : PT X c tc) (hb : PSs X body tb) : PS X (.While c body [] pos) (tWhile tc tb) := by
  intro pins s σ H D I h
  obtain ⟨W, ⟨m0, w0⟩, turn⟩ := h
  refine wpAny_While (codeAny_whileLoop (fun n s' => ∃ σ' H', Inv X pins σ' H' s' ∧ W n σ' H') ?_ m0 ⟨σ, H, I, w0⟩)
  rintro n s1 ⟨σ1, H1, I1, w1⟩
  refine wpAny_passesOwn hp (thn (hc pins s1 σ1 H1 _ I1 (turn n σ1 H1 w1)) fun b s2 ⟨H2, I2, q2⟩ => ?_)
  cases b with
  | true =>
    obtain ⟨N, hN, q2⟩ := q2
    rw [if_pos rfl]
    refine wpAny_passesOwn hp (thn (hb pins s2 σ1 H2 _ I2 q2) fun f s3 q3 => ?_)
    cases f with
    | next =>
      obtain ⟨σ3, H3, I3, n3⟩ := q3
      obtain ⟨m', hm, w3⟩ := hN σ3 H3 n3
      exact ⟨m', hm, σ3, H3, I3, w3⟩
    | cont =>
      obtain ⟨σ3, H3, I3, n3⟩ := q3
      obtain ⟨m', hm, w3⟩ := hN σ3 H3 n3
      exact ⟨m', hm, σ3, H3, I3, w3⟩
    | brk => exact q3
    | ret v => exact q3
  | false =>
    rw [if_neg Bool.false_ne_true]
    exact wpAny_execs_nil ⟨σ1, H2, I2, q2⟩
end

/-! ### what a loop or a comprehension walks -/
/-- at turn i: it yields x (the heap may grow), or it stops -/
structure It where
  go : Nat → Hp → Prop
  yld : Nat → Hp → V → Hp → Prop
  stop : Nat → Hp → Prop
/-- the iterator's own objects may turn: they are not the frame's, not pinned, younger than the entry (or a comprehension's own) -/
def FpOk (X : Cx) (pins : List (Addr × Obj)) (H : Hp) (b : Addr) : Prop :=
  H b = none ∧ b ≠ X.env.locals ∧ b ∉ X.fs ∧ (b ∈ X.ex ∨ X.s₀.heap.objs.size ≤ b) ∧ (∀ x c, X.env.cells.lookup x = some c → c ≠ b) ∧ ∀ p ∈ X.pn ++ pins, p.1 ≠ b
theorem Inv.fpOk {X : Cx} {pins : List (Addr × Obj)} {σ : St} {H H' : Hp} {s : Shared} {b : Addr} (I : Inv X pins σ H s) (hb : s.heap.objs.size ≤ b) (hn : H' b = none) : FpOk X pins H' b := by
  refine ⟨hn, Nat.ne_of_gt (Nat.lt_of_lt_of_le I.lt hb), I.nofs hb, .inr (Nat.le_trans I.sz hb), fun x c e z => ?_, fun p hp z => ?_⟩
  · obtain ⟨v, q⟩ := I.cell x c e
    exact absurd (Nat.lt_of_lt_of_le q.lt (by rw [z]; exact hb)) (Nat.lt_irrefl _)
  · exact absurd (Nat.lt_of_lt_of_le (Heap.lt_size (I.pin p hp).1) (by rw [z]; exact hb)) (Nat.lt_irrefl _)
structure Turn (P : Program) (w : World) (K : PySem.W.Frag) (tg : Expr) (J : It) (fp : List Addr) (it : Addr) (tn : Nat → Heap → Prop) : Prop where
  mem : it ∈ fp
  obj : ∀ i h, tn i h → ∀ b ∈ fp, ∃ o, h.get? b = some o ∧ ∀ v, o.data ≠ .cell v
  keep : ∀ i h h', tn i h → (∀ b ∈ fp, ∀ o, h.get? b = some o → h'.get? b = some o) → tn i h'
  item : ∀ (X : Cx), X.prog = P → X.w = w → X.K = K → X.calm = true → ∀ (i : Nat) (pins : List (Addr × Obj)) (s : Shared) (σ : St) (H : Hp) (E : Value → Shared → Prop), Inv X pins σ H s → (∀ b ∈ fp, FpOk X pins H b) → tn i s.heap → J.go i H →
    wpAny (model P w) X.A (pyNext (.ref it)) (fun r s1 => ∃ u, r = some u ∧
      wpAny (model P w) X.A (letOwnedTupleGo tg (.ref it) u) (fun _ s2 => ∃ x H', Inv X pins σ H' s2 ∧ RelV x u ∧ J.yld i H x H' ∧ tn (i + 1) s2.heap ∧ ∀ b ∈ fp, H' b = none) E s1) E s
  done : ∀ (X : Cx), X.prog = P → X.w = w → X.K = K → X.calm = true → ∀ (i : Nat) (pins : List (Addr × Obj)) (s : Shared) (σ : St) (H : Hp) (E : Value → Shared → Prop), Inv X pins σ H s → (∀ b ∈ fp, FpOk X pins H b) → tn i s.heap → J.stop i H →
    wpAny (model P w) X.A (pyNext (.ref it)) (fun r s1 => r = none ∧ Inv X pins σ H s1) E s
  self : ∀ (A : Around) (i : Nat) (s : Shared) (Q : Value → Shared → Prop) (E : Value → Shared → Prop), tn i s.heap → Q (.ref it) s → wpAny (model P w) A (pyIter (.ref it)) Q E s
abbrev TI := St → Hp → (It → Hp → Prop) → Prop
/-- an iterator has come -/
def PIE (X : Cx) (pins : List (Addr × Obj)) (σ : St) (tg : Expr) (R : It → Hp → Prop) (itv : Value) (s2 : Shared) : Prop :=
  ∃ (it : Addr) (fp : List Addr) (tn : Nat → Heap → Prop) (J : It) (H' : Hp), itv = .ref it ∧ Inv X pins σ H' s2 ∧ Turn X.prog X.w X.K tg J fp it tn ∧ tn 0 s2.heap ∧ (∀ b ∈ fp, FpOk X pins H' b) ∧ R J H'
def PI (X : Cx) (tg iter : Expr) (wi : TI) : Prop :=
  ∀ (pins : List (Addr × Obj)) (s : Shared) (σ : St) (H : Hp) (R : It → Hp → Prop), Inv X pins σ H s → wi σ H R →
    wpAny (model X.prog X.w) X.A (eval iter X.env) (fun v s1 => wpAny (model X.prog X.w) X.A (pyIter v) (PIE X pins σ tg R) X.xe s1) X.xe s

/-- the step ahead of the store is nothing for an iterator that keeps no tuple -/
theorem go_of {M : Model} {A : Around} {E : Value → Shared → Prop} {s : Shared} {tg : Expr} {it : Addr} {u : Value} {o : Obj} {n : String} {vs : Array Value} {Q : Unit → Shared → Prop} (ho : s.heap.get? it = some o) (hc : o.cls = .type n) (hd : o.data = .fields vs)
    (hn : ["enumerate", "zip", "dict_itemiterator", "dict_reverseitemiterator", "odict_iterator", "itertools.zip_longest", "itertools.pairwise"].contains n = false) (hQ : Q () s) : wpAny M A (letOwnedTupleGo tg (.ref it) u) Q E s := by
  unfold letOwnedTupleGo
  cases tg <;> first
    | exact wpAny_pure hQ
    | (cases u <;> first
        | exact wpAny_pure hQ
        | (refine wpAny_bind (wpAny_load ho ?_)
           rw [hc, hd]
           show wpAny M A (if (["enumerate", "zip", "dict_itemiterator", "dict_reverseitemiterator", "odict_iterator", "itertools.zip_longest", "itertools.pairwise"].contains n && vs[0]? == some (rawInt _)) = true then _ else _) Q E s
           rw [if_neg (by intro h; rw [hn, Bool.false_and] at h; cases h)]
           exact wpAny_pure hQ))

/-- the list at a, as it stands at each turn (a loop may append to it) -/
def Itl (K : PySem.W.Frag) (a : Addr) : It :=
  ⟨fun i H => ∃ xs x, SqL K H a xs ∧ xs[i]? = some x, fun i H x H' => H' = H ∧ ∀ xs, SqL K H a xs → xs[i]? = some x, fun i H => ∃ xs, SqL K H a xs ∧ xs.length ≤ i⟩
def Itt (K : PySem.W.Frag) (a : Addr) : It :=
  ⟨fun i H => ∃ xs x, SqT K H a xs ∧ xs[i]? = some x, fun i H x H' => H' = H ∧ ∀ xs, SqT K H a xs → xs[i]? = some x, fun i H => ∃ xs, SqT K H a xs ∧ xs.length ≤ i⟩
/-- lo, lo + 1, .. (n of them) -/
def Itr (lo : Int) (n : Nat) : It := ⟨fun i _ => i < n, fun i H x H' => H' = H ∧ x = .int (lo + i), fun i _ => n ≤ i⟩
theorem turn_tuple {P : Program} {w : World} {K : PySem.W.Frag} {tg : Expr} (a it : Addr) : Turn P w K tg (Itt K a) [it] it (fun i h => h.IsTupleIter it a i) where
  mem := by simp
  obj := fun i h st b hb => by
    have e : b = it := by simpa using hb
    subst e
    obtain ⟨o, e, c, d⟩ := st
    exact ⟨o, e, fun v z => by rw [d] at z; cases z⟩
  keep := fun i h h' st k => st.at fun o e => k it (by simp) o e
  item := by
    intro X hP hw hK hc i pins s σ H E I hf st hg
    subst hP hw hK
    obtain ⟨xs, x, hq, hx⟩ := hg
    obtain ⟨its, rv, p, hz⟩ := I.tuple hq
    obtain ⟨u, hu, ru⟩ := rv.get hx
    obtain ⟨f0, f1, f2, f3, f4, f5⟩ := hf it (by simp)
    refine wpAny_pyNext_tuple_item st (show s.heap.IsTuple a its.toArray from p) (x := u) (by simpa using hu) fun h' st' sb => ?_
    have I1 : Inv X pins σ H { s with heap := h' } := I.turned (t' := s.toks) (fun b o hb e => (sb.2 b hb).trans e) f0 f1 f3 f4 f5
    obtain ⟨o, e, c, d⟩ := id st'
    exact ⟨u, rfl, go_of (s := { s with heap := h' }) e c d (by decide) ⟨x, H, I1, ru, ⟨rfl, fun ys hy => by rw [I.tuple_inj hy hq]; exact hx⟩, st', fun b hb => (hf b hb).1⟩⟩
  done := by
    intro X hP hw hK hc i pins s σ H E I hf st hg
    subst hP hw hK
    obtain ⟨xs, hq, hx⟩ := hg
    obtain ⟨its, rv, p, hz⟩ := I.tuple hq
    obtain ⟨f0, f1, f2, f3, f4, f5⟩ := hf it (by simp)
    have hl := rv.length
    exact wpAny_pyNext_tuple_end (I.ok.hd hc) st (show s.heap.IsTuple a its.toArray from p) (by simp; omega) fun h' eb => ⟨rfl, I.turned (t' := s.toks) (fun b o hb e => eb b o hb e) f0 f1 f3 f4 f5⟩
  self := fun _ _ _ _ _ st h => wpAny_pyIter_tupleiter st h
theorem turn_range {P : Program} {w : World} {K : PySem.W.Frag} {tg : Expr} (it : Addr) (lo : Int) (n : Nat) : Turn P w K tg (Itr lo n) [it] it (fun i h => IsRangeIter h it (lo + (i : Nat) * 1) ((n : Int) - (i : Nat)) 1) where
  mem := by simp
  obj := fun i h st b hb => by
    have e : b = it := by simpa using hb
    subst e
    exact ⟨_, st, fun v z => by
      have z' : Data.fields _ = Data.cell v := z
      cases z'⟩
  keep := fun i h h' st k => k it (by simp) _ st
  item := by
    intro X hP hw hK hc i pins s σ H E I hf st hg
    subst hP hw hK
    obtain ⟨f0, f1, f2, f3, f4, f5⟩ := hf it (by simp)
    have W := Walks.range (prog := X.prog) (w := X.w) (I.ok.hd hc) it lo 1 n
    refine W.item i s _ _ hg st fun v h' tk hv st' kk => ?_
    obtain ⟨t, rfl⟩ := hv
    have I1 : Inv X pins σ H { s with heap := h', toks := tk } := I.turned (fun b o hb e => kk b o (by simpa using hb) e) f0 f1 f3 f4 f5
    refine ⟨_, rfl, go_of (s := { s with heap := h', toks := tk }) (n := "range_iterator") st' rfl rfl (by decide) ⟨.int (lo + i), H, I1, ⟨t, ?_⟩, ⟨rfl, rfl⟩, st', fun b hb => (hf b hb).1⟩⟩
    rw [Int.mul_one]
  done := by
    intro X hP hw hK hc i pins s σ H E I hf st hg
    subst hP hw hK
    obtain ⟨f0, f1, f2, f3, f4, f5⟩ := hf it (by simp)
    exact wpAny_pyNext_range_end (I.ok.hd hc) st (by have : n ≤ i := hg; omega) fun h' eb => ⟨rfl, I.turned (t' := s.toks) (fun b o hb e => eb b o hb e) f0 f1 f3 f4 f5⟩
  self := fun _ _ _ _ _ st h => wpAny_pyIter_rangeiter st h
end L2

namespace L2
open PySem PySem.Spec PyProof.Rows
section
variable {X : Cx} {tg : Expr}
def iList (K : PySem.W.Frag) (tl : TE) : TI := fun σ H R => tl σ H fun x H1 => ∃ a, x = .ref a ∧ (∃ xs, SqL K H1 a xs) ∧ R (Itl K a) H1
def iTup (K : PySem.W.Frag) (tl : TE) : TI := fun σ H R => tl σ H fun x H1 => ∃ a, x = .ref a ∧ (∃ xs, SqT K H1 a xs) ∧ R (Itt K a) H1
theorem pi_tup {l : Expr} {tl : TE} (hl : PE X l tl) : PI X tg l (iTup X.K tl) := by
  intro pins s σ H R I h
  refine thn (hl pins s σ H _ I h) fun v s1 ⟨x, H1, I1, r1, q1⟩ => ?_
  obtain ⟨a, e, ⟨xs, hq⟩, q⟩ := q1
  subst e
  cases r1
  obtain ⟨its, rv, p, hz⟩ := I1.tuple hq
  refine wpAny_pyIter_tuple (show s1.heap.IsTuple a its.toArray from p) ?_
  refine ⟨s1.heap.objs.size, [s1.heap.objs.size], _, _, H1, rfl, I1.kept (t' := s1.toks) fun b o e => Heap.get?_push_of_some _ e, turn_tuple a _, ⟨_, Heap.get?_push_size _ rfl, rfl, rfl⟩, fun b hb => ?_, q⟩
  have e : b = s1.heap.objs.size := by simpa using hb
  subst e
  exact I1.fpOk (Nat.le_refl _) (I1.hok.fresh (Nat.le_refl _))
/-- a range object just made, walked -/
theorem range_it {pins : List (Addr × Obj)} {σ : St} {H : Hp} {s : Shared} {R : It → Hp → Prop} {E : Value → Shared → Prop} {lo hi : Int} {t u v : Tok} {tk : Nat} (I : Inv X pins σ H s) (h1 : -(2 ^ 62) ≤ lo) (h2 : lo < 2 ^ 62) (h3 : -(2 ^ 62) ≤ hi) (h4 : hi < 2 ^ 62)
    (q : R (Itr lo (hi - lo).toNat) H) : wpAny (model X.prog X.w) X.A (pyIter (.ref s.heap.objs.size)) (PIE X pins σ tg R) E { s with heap := s.heap.push { cls := .type "range", data := .fields #[.int lo t, .int hi u, .int 1 v] }, toks := tk } := by
  refine wpAny_pyIter_range (IsRange.new ..) (small_one h1 h2 h3 h4) ?_
  have I1 : Inv X pins σ H { s with heap := s.heap.push { cls := .type "range", data := .fields #[.int lo t, .int hi u, .int 1 v] }, toks := tk } := I.kept fun b o e => Heap.get?_push_of_some _ e
  refine ⟨(s.heap.push { cls := .type "range", data := .fields #[.int lo t, .int hi u, .int 1 v] }).objs.size, [(s.heap.push { cls := .type "range", data := .fields #[.int lo t, .int hi u, .int 1 v] }).objs.size], _, _, H, rfl,
    I1.kept (t' := tk) fun b o e => Heap.get?_push_of_some _ e, turn_range _ lo (hi - lo).toNat, ?_, fun b hb => ?_, q⟩
  · have e1 : lo + ((0 : Nat) : Int) * 1 = lo := by simp
    have e2 : (((hi - lo).toNat : Nat) : Int) - ((0 : Nat) : Int) = Builtin.Range.rangeSize lo hi 1 := by rw [rangeSize_one]; split <;> omega
    show IsRangeIter _ _ (lo + ((0 : Nat) : Int) * 1) ((((hi - lo).toNat : Nat) : Int) - ((0 : Nat) : Int)) 1
    rw [e1, e2]
    exact Heap.get?_push_size _ rfl
  · have e : b = (s.heap.push { cls := .type "range", data := .fields #[.int lo t, .int hi u, .int 1 v] }).objs.size := by simpa using hb
    subst e
    exact I1.fpOk (Nat.le_refl _) (I1.hok.fresh (Nat.le_refl _))
def iRng1 (ta : TA) : TI := fun σ H R => ta σ H fun vs H1 => ∃ j : Int, vs = [.int j] ∧ -(2 ^ 62) ≤ j ∧ j < 2 ^ 62 ∧ R (Itr 0 j.toNat) H1
def iRng2 (ta : TA) : TI := fun σ H R => ta σ H fun vs H1 => ∃ i j : Int, vs = [.int i, .int j] ∧ (-(2 ^ 62) ≤ i ∧ i < 2 ^ 62 ∧ -(2 ^ 62) ≤ j ∧ j < 2 ^ 62) ∧ R (Itr i (j - i).toNat) H1
theorem pi_range1 {a : Expr} {ta : TA} {p pos : Pos} (hg : Gl X "range") (hm : X.mg "range" = none) (ha : PA X [a] ta) (hs : starEach [a] X.env = [(false, eval a X.env)] := by rfl) : PI X tg (.Call (.Name "range" p) [a] [] pos) (iRng1 ta) := by
  intro pins s σ H R I h
  refine Call_ (ld_blt I hg hm boot_range (PyProof.Rows.callWith_type1 (thn (ha pos pins s σ H _ I h) fun us s1 ⟨vs, H1, I1, r1, q1⟩ => ?_) hs rfl))
  obtain ⟨j, e, q1, q2, q⟩ := q1
  subst e
  cases r1 with
  | cons r rr =>
    cases rr
    obtain ⟨t, rfl⟩ := r
    exact call_range_1 (range_it I1 (by omega) (by omega) q1 q2 (by simpa using q))
theorem pi_range2 {a b : Expr} {ta : TA} {p pos : Pos} (hg : Gl X "range") (hm : X.mg "range" = none) (ha : PA X [a, b] ta) (hs : starEach [a, b] X.env = [(false, eval a X.env), (false, eval b X.env)] := by rfl) (hs2 : starEach [b] X.env = [(false, eval b X.env)] := by rfl) :
    PI X tg (.Call (.Name "range" p) [a, b] [] pos) (iRng2 ta) := by
  intro pins s σ H R I h
  refine Call_ (ld_blt I hg hm boot_range (PyProof.Rows.callWith_type1 (thn (ha pos pins s σ H _ I h) fun us s1 ⟨vs, H1, I1, r1, q1⟩ => ?_) (by rw [hs, hs2]) (by rw [hs2]; rfl)))
  obtain ⟨i, j, e, ⟨q1, q2, q3, q4⟩, q⟩ := q1
  subst e
  cases r1 with
  | cons r rr =>
    cases rr with
    | cons r' rr =>
      cases rr
      obtain ⟨t, rfl⟩ := r
      obtain ⟨t', rfl⟩ := r'
      exact call_range_2 (range_it I1 q1 q2 q3 q4 q)

/-! ### for -/
/-- W: the invariant by the turn and a measure; N: what the body is to reach -/
def tFor (wi : TI) (g : TG) (tb : TS) : TS := fun D σ H => wi σ H fun J H1 => ∃ W : Nat → Nat → St → Hp → Prop, (∃ m, W 0 m σ H1) ∧ ∀ i m σ H, W i m σ H →
  (J.stop i H ∧ D.nx σ H) ∨ (J.go i H ∧ ∃ N : St → Hp → Prop, (∀ σ' H', N σ' H' → ∃ m', m' < m ∧ W (i + 1) m' σ' H') ∧ ∀ x H', J.yld i H x H' → g x σ H' fun σ2 H2 => tb { D with nx := N, ct := N, bk := D.nx } σ2 H2)
/-- the records at fp as they stand -/
def pinsAt (fp : List Addr) (h : Heap) : List (Addr × Obj) := fp.filterMap fun b => (h.get? b).map fun o => (b, o)
theorem mem_pinsAt {fp : List Addr} {h : Heap} {b : Addr} {o : Obj} (hb : b ∈ fp) (e : h.get? b = some o) : (b, o) ∈ pinsAt fp h := List.mem_filterMap.mpr ⟨b, hb, by rw [e]; rfl⟩
theorem of_pinsAt {fp : List Addr} {h : Heap} {p : Addr × Obj} (hp : p ∈ pinsAt fp h) : p.1 ∈ fp ∧ h.get? p.1 = some p.2 := by
  obtain ⟨b, hb, e⟩ := List.mem_filterMap.mp hp
  cases q : h.get? b with
  | none => rw [q] at e; cases e
  | some o =>
    rw [q] at e
    have e' : (b, o) = p := Option.some.inj e
    subst e'
    exact ⟨hb, q⟩
theorem Inv.pinned {pins : List (Addr × Obj)} {σ : St} {H : Hp} {s : Shared} {fp : List Addr} (I : Inv X pins σ H s) (hf : ∀ b ∈ fp, FpOk X pins H b) (ho : ∀ b ∈ fp, ∃ o, s.heap.get? b = some o ∧ ∀ v, o.data ≠ .cell v) : Inv X (pins ++ pinsAt fp s.heap) σ H s :=
  I.pins_of fun p hp => (List.mem_append.mp hp).elim (fun z => I.pin p (List.mem_append_right _ z)) fun z => by
    obtain ⟨hb, e⟩ := of_pinsAt z
    obtain ⟨f0, f1, f2, _⟩ := hf p.1 hb
    obtain ⟨o, e', d⟩ := ho p.1 hb
    rw [e] at e'; cases e'
    exact ⟨e, f0, f1, f2, d⟩
theorem Inv.unpinned {pins pl : List (Addr × Obj)} {σ : St} {H : Hp} {s : Shared} (I : Inv X (pins ++ pl) σ H s) : Inv X pins σ H s := I.pins_of fun p hp => I.pin p (List.mem_append_right _ (List.mem_append_left _ hp))
theorem ps_for {iter : Expr} {body : List Stmt} {wi : TI} {g : TG} {tb : TS} {pos : Pos} (hp : PassesOwn (model X.prog X.w) X.A X.env X.xe) (hc : X.calm = true) (hi : PI X tg iter wi) (hg : PG X tg g) (hb : PSs X body tb)
    (hs : ∀ x, foldedSetIterable iter X.env x = pure x := by intro _; rfl) : PS X (.For tg iter body [] pos) (tFor wi g tb) := by
  intro pins s σ H D I h
  refine wpAny_For (thn (hi pins s σ H _ I h) fun v s1 h1 => thn h1 fun itv s2 h2 => ?_) hs
  obtain ⟨it, fp, tn, J, H2, e, I2, T, st2, f2, W, ⟨m0, w0⟩, turn⟩ := h2
  subst e
  -- what stays true of the iterator's objects through the loop
  have stat : ∀ {H' : Hp}, (∀ b ∈ fp, H' b = none) → ∀ b ∈ fp, FpOk X pins H' b := fun hn b hb => ⟨hn b hb, (f2 b hb).2⟩
  refine codeAny_forLoop_any (fun n s' => ∃ i σ' H', Inv X pins σ' H' s' ∧ tn i s'.heap ∧ (∀ b ∈ fp, H' b = none) ∧ W i n σ' H') ?_ m0 ⟨0, σ, H2, I2, st2, fun b hb => (f2 b hb).1, w0⟩
  rintro n s3 ⟨i, σ3, H3, I3, st3, fr3, w3⟩
  rcases turn i n σ3 H3 w3 with ⟨stop, qn⟩ | ⟨go, N, hN, step⟩
  · refine wpAny_passesOwn hp (thn (T.done X rfl rfl rfl hc i pins s3 σ3 H3 X.xe I3 (stat fr3) st3 stop) fun r s4 ⟨hr, I4⟩ => ?_)
    subst hr
    exact wpAny_execs_nil ⟨σ3, H3, I4, qn⟩
  · refine wpAny_passesOwn hp (thn (T.item X rfl rfl rfl hc i pins s3 σ3 H3 X.xe I3 (stat fr3) st3 go) fun r s4 ⟨u, hr, h4⟩ => ?_)
    subst hr
    refine wpAny_passesOwn hp (thn h4 fun _ s5 ⟨x, H5, I5, r5, y5, st5, fr5⟩ => ?_)
    have I5' := I5.pinned (stat fr5) (T.obj _ _ st5)
    refine wpAny_passesOwn hp (thn (hg _ s5 σ3 H5 x u _ I5' r5 (step x H5 y5)) fun _ s6 ⟨σ6, H6, I6, q6⟩ => ?_)
    refine wpAny_passesOwn hp (thn (hb _ s6 σ6 H6 _ I6 q6) fun f s7 q7 => ?_)
    have again : ∀ {σ7 : St} {H7 : Hp}, Inv X (pins ++ pinsAt fp s5.heap) σ7 H7 s7 → N σ7 H7 → ∃ m, m < n ∧ ∃ i σ' H', Inv X pins σ' H' s7 ∧ tn i s7.heap ∧ (∀ b ∈ fp, H' b = none) ∧ W i m σ' H' := fun {σ7 H7} I7 n7 => by
      obtain ⟨m', hm, w7⟩ := hN σ7 H7 n7
      refine ⟨m', hm, i + 1, σ7, H7, I7.unpinned, T.keep _ _ _ st5 fun b hb o e => (I7.pin (b, o) (List.mem_append_right _ (List.mem_append_right _ (mem_pinsAt hb e)))).1, fun b hb => ?_, w7⟩
      obtain ⟨o, e, d⟩ := T.obj _ _ st5 b hb
      exact (I7.pin (b, o) (List.mem_append_right _ (List.mem_append_right _ (mem_pinsAt hb e)))).2.1
    cases f with
    | next => obtain ⟨σ7, H7, I7, n7⟩ := q7; exact again I7 n7
    | cont => obtain ⟨σ7, H7, I7, n7⟩ := q7; exact again I7 n7
    | brk => obtain ⟨σ7, H7, I7, q7⟩ := q7; exact ⟨σ7, H7, I7.unpinned, q7⟩
    | ret v => obtain ⟨x7, σ7, H7, I7, r7, q7⟩ := q7; exact ⟨x7, σ7, H7, I7.unpinned, r7, q7⟩
end

/-! ### the forms one uses -/
end L2

namespace L2
open PySem PySem.Spec PyProof.Rows

abbrev R2 := V → V → Hp → VK → Prop
/-- a two-place operation on values: f is binaryOp op, inplaceOp op or compareOp op -/
def OpR (X : Cx) (f : Value → Value → Sem Value) (r : R2) : Prop :=
  ∀ (pins : List (Addr × Obj)) (s : Shared) (σ : St) (H : Hp) (x y : V) (v u : Value) (Q : VK), Inv X pins σ H s → RelV x v → RelV y u → r x y H Q →
    wpAny (model X.prog X.w) X.A (f v u) (EP X pins σ Q) X.xe s
/-- a one-place operation -/
def UnR (X : Cx) (f : Value → Sem Value) (r : V → Hp → VK → Prop) : Prop :=
  ∀ (pins : List (Addr × Obj)) (s : Shared) (σ : St) (H : Hp) (x : V) (v : Value) (Q : VK), Inv X pins σ H s → RelV x v → r x H Q →
    wpAny (model X.prog X.w) X.A (f v) (EP X pins σ Q) X.xe s
/-- a call of a value that is known (a builtin, a type) with values -/
def CallR (X : Cx) (f : Value) (r : List V → Hp → VK → Prop) : Prop :=
  ∀ (pins : List (Addr × Obj)) (s : Shared) (σ : St) (H : Hp) (xs : List V) (us : List Value) (Q : VK), Inv X pins σ H s → Vals xs us → r xs H Q →
    wpAny (model X.prog X.w) X.A (call f us) (EP X pins σ Q) X.xe s
/-- a value's truth -/
def TruR (X : Cx) (r : V → Hp → (Bool → Hp → Prop) → Prop) : Prop :=
  ∀ (pins : List (Addr × Obj)) (s : Shared) (σ : St) (H : Hp) (x : V) (v : Value) (Q : Bool → Hp → Prop), Inv X pins σ H s → RelV x v → r x H Q →
    wpAny (model X.prog X.w) X.A (truthy v) (TP X pins σ Q) X.xe s

def tOp (r : R2) (ta tb : TE) : TE := fun σ H Q => ta σ H fun x H1 => tb σ H1 fun y H2 => r x y H2 Q
def tUn (r : V → Hp → VK → Prop) (ta : TE) : TE := fun σ H Q => ta σ H fun x H1 => r x H1 Q
/-- ints in, under C, and a value out -/
def rI (C : Int → Int → Prop) (g : Int → Int → V) : R2 := fun x y H Q => ∃ i j, x = .int i ∧ y = .int j ∧ C i j ∧ Q (g i j) H
def rI0 (g : Int → Int → V) : R2 := fun x y H Q => ∃ i j, x = .int i ∧ y = .int j ∧ Q (g i j) H
def rU (g : Int → V) : V → Hp → VK → Prop := fun x H Q => ∃ i, x = .int i ∧ Q (g i) H

section
variable {X : Cx} {a b c : Expr} {ta tb tc : TE} {pos : Pos}

theorem binT (ha : PE X a ta) (hb : PE X b tb) {pins : List (Addr × Obj)} {s : Shared} {σ : St} {H : Hp} {R : V → V → Hp → Prop} (I : Inv X pins σ H s)
    (h : ta σ H fun x H1 => tb σ H1 fun y H2 => R x y H2) {Q : Value → Shared → Prop} {f : Value → Value → Sem Value}
    (hf : ∀ v u s2 x y H2, Inv X pins σ H2 s2 → RelV x v → RelV y u → R x y H2 → wpAny (model X.prog X.w) X.A (f v u) Q X.xe s2) :
    wpAny (model X.prog X.w) X.A (eval a X.env) (fun v s₁ => wpAny (model X.prog X.w) X.A (eval b X.env) (fun u s₂ => wpAny (model X.prog X.w) X.A (f v u) Q X.xe s₂) X.xe s₁) X.xe s := by
  refine thn (ha pins s σ H _ I h) fun v s1 ⟨x, H1, I1, r1, q1⟩ => ?_
  refine thn (hb pins s1 σ H1 _ I1 q1) fun u s2 ⟨y, H2, I2, r2, q2⟩ => ?_
  exact hf v u s2 x y H2 I2 r1 r2 q2

theorem pe_op {op : Operator} {r : R2} (ho : OpR X (binaryOp op) r) (ha : PE X a ta) (hb : PE X b tb) : PE X (.BinOp a op b pos) (tOp r ta tb) := by
  intro pins s σ H Q I h
  exact wpAny_BinOp (binT ha hb I h fun v u s2 x y H2 I2 rx ry q => ho pins s2 σ H2 x y v u Q I2 rx ry q)
theorem pe_un {op : UnaryOp} {r : V → Hp → VK → Prop} (ho : UnR X (unaryOp op) r) (ha : PE X a ta) : PE X (.UnaryOp op a pos) (tUn r ta) := by
  intro pins s σ H Q I h
  exact UnaryOp_ (thn (ha pins s σ H _ I h) fun v s1 ⟨x, H1, I1, r1, q1⟩ => ho pins s1 σ H1 x v Q I1 r1 q1)
/-! ### ints -/
theorem opI {f : Value → Value → Sem Value} {C : Int → Int → Prop} {g : Int → Int → Int}
    (rule : ∀ (i j : Int) (t u : Tok) (s : Shared) (Q : Value → Shared → Prop) (E : Value → Shared → Prop), C i j → Q (.int (g i j) s.toks) { s with toks := s.toks + 1 } → wpAny (model X.prog X.w) X.A (f (.int i t) (.int j u)) Q E s) :
    OpR X f (rI C fun i j => .int (g i j)) := by
  intro pins s σ H x y v u Q I rx ry h
  obtain ⟨i, j, rfl, rfl, hc, q⟩ := h
  obtain ⟨t, rfl⟩ := rx
  obtain ⟨t', rfl⟩ := ry
  exact rule i j t t' s _ _ hc ⟨.int (g i j), H, I.tok _, ⟨_, rfl⟩, q⟩
theorem opI0 {f : Value → Value → Sem Value} {g : Int → Int → Int}
    (rule : ∀ (i j : Int) (t u : Tok) (s : Shared) (Q : Value → Shared → Prop) (E : Value → Shared → Prop), Q (.int (g i j) s.toks) { s with toks := s.toks + 1 } → wpAny (model X.prog X.w) X.A (f (.int i t) (.int j u)) Q E s) :
    OpR X f (rI0 fun i j => .int (g i j)) := by
  intro pins s σ H x y v u Q I rx ry h
  obtain ⟨i, j, rfl, rfl, q⟩ := h
  obtain ⟨t, rfl⟩ := rx
  obtain ⟨t', rfl⟩ := ry
  exact rule i j t t' s _ _ ⟨.int (g i j), H, I.tok _, ⟨_, rfl⟩, q⟩
theorem opB0 {f : Value → Value → Sem Value} {g : Int → Int → Bool}
    (rule : ∀ (i j : Int) (t u : Tok) (s : Shared) (Q : Value → Shared → Prop) (E : Value → Shared → Prop), Q (.bool (g i j)) s → wpAny (model X.prog X.w) X.A (f (.int i t) (.int j u)) Q E s) :
    OpR X f (rI0 fun i j => .bl (g i j)) := by
  intro pins s σ H x y v u Q I rx ry h
  obtain ⟨i, j, rfl, rfl, q⟩ := h
  obtain ⟨t, rfl⟩ := rx
  obtain ⟨t', rfl⟩ := ry
  exact rule i j t t' s _ _ ⟨.bl (g i j), H, I, rfl, q⟩

def CDiv (i j : Int) : Prop := 0 < j ∧ j < 1073741824
def CDivN (i j : Int) : Prop := j ≠ 0 ∧ j.natAbs < 1073741824
def CPow (i j : Int) : Prop := 0 ≤ j ∧ j ≤ 1000000 ∧ i.natAbs < 2 ^ 64
def CMul (i j : Int) : Prop := (-(2 ^ 64) < i ∧ i < 2 ^ 64) ∨ (-(2 ^ 64) < j ∧ j < 2 ^ 64)
theorem CMul.ok {i j : Int} (h : CMul i j) : IntMulOk i j := by
  rcases h with ⟨h1, h2⟩ | ⟨h1, h2⟩
  · exact .of_left (intBits_le_64 h1 h2)
  · exact .of_right (intBits_le_64 h1 h2)
theorem op_add : OpR X (binaryOp .Add) (rI0 fun i j => .int (i + j)) := opI0 fun _ _ _ _ _ _ _ q => add_int q
theorem op_sub : OpR X (binaryOp .Sub) (rI0 fun i j => .int (i - j)) := opI0 fun _ _ _ _ _ _ _ q => sub_int q
/-- % by a positive divisor of any size -/
theorem op_mod : OpR X (binaryOp .Mod) (rI (fun _ j => 0 < j) fun i j => .int (i % j)) := opI fun i j _ _ _ _ _ hc q => by
  have h1 : (0 : Int) < j := hc
  exact mod_int' (by omega) (by rw [Int.fmod_eq_emod_of_nonneg i (by omega)]; exact q)
theorem op_modN : OpR X (binaryOp .Mod) (rI (fun _ j => j ≠ 0) fun i j => .int (i.fmod j)) := opI fun _ _ _ _ _ _ _ hc q => mod_int' hc q
theorem op_pow : OpR X (binaryOp .Pow) (rI CPow fun i j => .int (i ^ j.toNat)) := opI fun _ _ _ _ _ _ _ hc q => pow_int_small hc.1 hc.2.1 hc.2.2 q
theorem unI {f : Value → Sem Value} {g : Int → Int}
    (rule : ∀ (i : Int) (t : Tok) (s : Shared) (Q : Value → Shared → Prop) (E : Value → Shared → Prop), Q (.int (g i) s.toks) { s with toks := s.toks + 1 } → wpAny (model X.prog X.w) X.A (f (.int i t)) Q E s) :
    UnR X f (rU fun i => .int (g i)) := by
  intro pins s σ H x v Q I rx h
  obtain ⟨i, rfl, q⟩ := h
  obtain ⟨t, rfl⟩ := rx
  exact rule i t s _ _ ⟨.int (g i), H, I.tok _, ⟨_, rfl⟩, q⟩
theorem un_neg : UnR X (unaryOp .USub) (rU fun i => .int (-i)) := unI fun _ _ _ _ _ q => neg_int q
/-! ### bools among ints: n += (a < b) -/
end

/-! ### comparisons -/
/-- the scalars that == tells apart as data does -/
def scal : V → V → Bool
  | .non, .non => true | .non, .int _ => true | .int _, .non => true | .non, .bl _ => true | .bl _, .non => true | .non, .str _ => true | .str _, .non => true
  | .int _, .int _ => true | .bl _, .bl _ => true | .str _, .str _ => true | .byt _, .byt _ => true
  | .int _, .str _ => true | .str _, .int _ => true | .bl _, .str _ => true | .str _, .bl _ => true
  | _, _ => false
def rEq : R2 := fun x y H Q => scal x y = true ∧ Q (.bl (decide (x = y))) H
def rNe : R2 := fun x y H Q => scal x y = true ∧ Q (.bl (!decide (x = y))) H

theorem dec_int {i j : Int} : decide (V.int i = V.int j) = (i == j) := by
  rw [Bool.eq_iff_iff]
  simp
theorem dec_bl {i j : Bool} : decide (V.bl i = V.bl j) = (i == j) := by
  rw [Bool.eq_iff_iff]
  simp
theorem dec_str {i j : Str} : decide (V.str i = V.str j) = (i == j) := by
  rw [Bool.eq_iff_iff]
  simp
theorem dec_byt {i j : Array UInt8} : decide (V.byt i = V.byt j) = (i.toList == j.toList) := by
  rw [Bool.eq_iff_iff]
  cases i
  cases j
  simp

section
variable {X : Cx} {a b c : Expr} {ta tb tc : TE} {pos : Pos}
theorem fin_bl {pins : List (Addr × Obj)} {σ : St} {H : Hp} {s : Shared} {Q : VK} {k k' : Bool} (I : Inv X pins σ H s) (q : Q (.bl k) H) (e : k = k') : EP X pins σ Q (.bool k') s := by
  subst e
  exact ⟨.bl k, H, I, rfl, q⟩
theorem op_eq : OpR X (compareOp .Eq) rEq := by
  intro pins s σ H x y v u Q I rx ry h
  obtain ⟨hs, q⟩ := h
  cases x with
  | non =>
    cases rx
    cases y with
    | non => cases ry; exact PySem.EqNone.eq_none_none (fin_bl I q (by simp))
    | bl j => cases ry; exact PySem.EqNone.eq_none_bool (fin_bl I q (by simp))
    | int j => obtain ⟨t', rfl⟩ := ry; exact PySem.EqNone.eq_none_int (fin_bl I q (by simp))
    | str j => obtain ⟨t', rfl⟩ := ry; exact PySem.EqNone.eq_none_str (fin_bl I q (by simp))
    | _ => exact absurd (show false = true from hs) Bool.false_ne_true
  | bl i =>
    cases rx
    cases y with
    | non => cases ry; exact PySem.EqNone.eq_bool_none (fin_bl I q (by simp))
    | bl j => cases ry; exact eq_bool (fin_bl I q dec_bl)
    | str j => obtain ⟨t', rfl⟩ := ry; exact PySem.EqMixed.eq_bool_str (fin_bl I q (by simp))
    | _ => exact absurd (show false = true from hs) Bool.false_ne_true
  | int i =>
    obtain ⟨t, rfl⟩ := rx
    cases y with
    | non => cases ry; exact PySem.EqNone.eq_int_none (fin_bl I q (by simp))
    | int j => obtain ⟨t', rfl⟩ := ry; exact eq_int (fin_bl I q dec_int)
    | str j => obtain ⟨t', rfl⟩ := ry; exact PySem.EqMixed.eq_int_str (fin_bl I q (by simp))
    | _ => exact absurd (show false = true from hs) Bool.false_ne_true
  | str i =>
    obtain ⟨t, rfl⟩ := rx
    cases y with
    | non => cases ry; exact PySem.EqNone.eq_str_none (fin_bl I q (by simp))
    | bl j => cases ry; exact PySem.EqMixed.eq_str_bool (fin_bl I q (by simp))
    | int j => obtain ⟨t', rfl⟩ := ry; exact PySem.EqMixed.eq_str_int (fin_bl I q (by simp))
    | str j => obtain ⟨t', rfl⟩ := ry; exact eq_str (fin_bl I q dec_str)
    | _ => exact absurd (show false = true from hs) Bool.false_ne_true
  | byt i =>
    obtain ⟨t, rfl⟩ := rx
    cases y with
    | byt j => obtain ⟨t', rfl⟩ := ry; exact PySem.W.eq_bytes (fin_bl I q dec_byt)
    | _ => exact absurd (show false = true from hs) Bool.false_ne_true
  | _ => cases y <;> exact absurd (show false = true from hs) Bool.false_ne_true
theorem op_ne : OpR X (compareOp .NotEq) rNe := by
  intro pins s σ H x y v u Q I rx ry h
  obtain ⟨hs, q⟩ := h
  cases x with
  | non =>
    cases rx
    cases y with
    | non => cases ry; exact PySem.EqNone.ne_none_none (fin_bl I q (by simp))
    | bl j => cases ry; exact PySem.EqNone.ne_none_bool (fin_bl I q (by simp))
    | int j => obtain ⟨t', rfl⟩ := ry; exact PySem.EqNone.ne_none_int (fin_bl I q (by simp))
    | str j => obtain ⟨t', rfl⟩ := ry; exact PySem.EqNone.ne_none_str (fin_bl I q (by simp))
    | _ => exact absurd (show false = true from hs) Bool.false_ne_true
  | bl i =>
    cases rx
    cases y with
    | non => cases ry; exact PySem.EqNone.ne_bool_none (fin_bl I q (by simp))
    | bl j => cases ry; exact ne_bool (fin_bl I q (congrArg not dec_bl))
    | str j => obtain ⟨t', rfl⟩ := ry; exact PySem.EqMixed.ne_bool_str (fin_bl I q (by simp))
    | _ => exact absurd (show false = true from hs) Bool.false_ne_true
  | int i =>
    obtain ⟨t, rfl⟩ := rx
    cases y with
    | non => cases ry; exact PySem.EqNone.ne_int_none (fin_bl I q (by simp))
    | int j => obtain ⟨t', rfl⟩ := ry; exact ne_int (fin_bl I q (congrArg not dec_int))
    | str j => obtain ⟨t', rfl⟩ := ry; exact PySem.EqMixed.ne_int_str (fin_bl I q (by simp))
    | _ => exact absurd (show false = true from hs) Bool.false_ne_true
  | str i =>
    obtain ⟨t, rfl⟩ := rx
    cases y with
    | non => cases ry; exact PySem.EqNone.ne_str_none (fin_bl I q (by simp))
    | bl j => cases ry; exact PySem.EqMixed.ne_str_bool (fin_bl I q (by simp))
    | int j => obtain ⟨t', rfl⟩ := ry; exact PySem.EqMixed.ne_str_int (fin_bl I q (by simp))
    | str j => obtain ⟨t', rfl⟩ := ry; exact ne_str (fin_bl I q (congrArg not dec_str))
    | _ => exact absurd (show false = true from hs) Bool.false_ne_true
  | byt i =>
    obtain ⟨t, rfl⟩ := rx
    cases y with
    | byt j => obtain ⟨t', rfl⟩ := ry; exact PySem.W.ne_bytes (fin_bl I q (congrArg not dec_byt))
    | _ => exact absurd (show false = true from hs) Bool.false_ne_true
  | _ => cases y <;> exact absurd (show false = true from hs) Bool.false_ne_true

theorem op_lt : OpR X (compareOp .Lt) (rI0 fun i j => .bl (decide (i < j))) := opB0 fun _ _ _ _ _ _ _ q => lt_int q
theorem op_le : OpR X (compareOp .LtE) (rI0 fun i j => .bl (decide (i ≤ j))) := opB0 fun _ _ _ _ _ _ _ q => le_int q
theorem op_gt : OpR X (compareOp .Gt) (rI0 fun i j => .bl (decide (j < i))) := opB0 fun _ _ _ _ _ _ _ q => gt_int q
theorem op_ge : OpR X (compareOp .GtE) (rI0 fun i j => .bl (decide (j ≤ i))) := opB0 fun _ _ _ _ _ _ _ q => ge_int q
/-- is, is not of two objects that are tracked lists or instances -/
def isObj : HO → Bool
  | .lst _ => true
  | .ins _ _ _ => true
  | _ => false
/-- two rules for one operation: by cases -/
theorem OpR.or {f : Value → Value → Sem Value} {r r' : R2} (h : OpR X f r) (h' : OpR X f r') : OpR X f (fun x y H Q => r x y H Q ∨ r' x y H Q) := by
  intro pins s σ H x y v u Q I rx ry q
  rcases q with q | q
  · exact h pins s σ H x y v u Q I rx ry q
  · exact h' pins s σ H x y v u Q I rx ry q

theorem nomark (b : Expr) {op : CmpOp} (h : op ≠ .In := by decide) (h2 : op ≠ .NotIn := by decide) : behindInMarks op b = false := by
  have e1 : (op == CmpOp.In) = false := by cases op <;> first | rfl | exact absurd rfl h
  have e2 : (op == CmpOp.NotIn) = false := by cases op <;> first | rfl | exact absurd rfl h2
  cases b <;> simp [behindInMarks, e1, e2]
/-- a comparison as a value; hm: nomark b, or (for in, not in) by with_unfolding_all rfl -/
theorem pe_cmpR {op : CmpOp} {r : R2} (ho : OpR X (compareOp op) r) (ha : PE X a ta) (hb : PE X b tb) (hm : behindInMarks op b = false) : PE X (.Compare a [op] [b] pos) (tOp r ta tb) := by
  intro pins s σ H Q I h
  exact wpAny_Compare1 (binT ha hb I h fun v u s2 x y H2 I2 rx ry q => ho pins s2 σ H2 x y v u Q I2 rx ry q) hm
/-- a reading of a value as a test -/
def tTest (t : TE) : TT := fun σ H Q => t σ H fun x H' => ∃ k, x = .bl k ∧ Q k H'
theorem pt_cmpR {op : CmpOp} {r : R2} (ho : OpR X (compareOp op) r) (ha : PE X a ta) (hb : PE X b tb) (hm : behindInMarks op b = false) : PT X (.Compare a [op] [b] pos) (tTest (tOp r ta tb)) := by
  intro pins s σ H Q I h
  refine wpAny_isTrue_Compare1 (thn (ha pins s σ H _ I h) fun v s1 ⟨x, H1, I1, r1, q1⟩ => thn (hb pins s1 σ H1 _ I1 q1) fun u s2 ⟨y, H2, I2, r2, q2⟩ =>
    thn (ho pins s2 σ H2 x y v u _ I2 r1 r2 q2) fun c s3 ⟨z, H3, I3, r3, k, e, q3⟩ => ?_) hm
  subst e
  cases r3
  exact wpAny_truthy_bool ⟨H3, I3, q3⟩
/-- a op1 b op2 c -/
def tChain (r r' : R2) (ta tb tc : TE) : TE := fun σ H Q => ta σ H fun x H1 => tb σ H1 fun y H2 => r x y H2 fun z H3 => ∃ k, z = .bl k ∧
  (if k = true then tc σ H3 fun w' H4 => r' y w' H4 Q else Q (.bl false) H3)
/-! ### truth -/
/-- a value's truth by the abstract heap -/
def TruV (K : PySem.W.Frag) (x : V) (H : Hp) (k : Bool) : Prop :=
  match x with
  | .non => k = false
  | .bl b => k = b
  | .int i => k = (i != 0)
  | .str y => y.length ≤ sizeLine ∧ k = ((y.length : Int) != 0)
  | .byt y => y.size ≤ sizeLine ∧ k = ((y.size : Int) != 0)
  | .ref p => (∃ xs, SqL K H p xs ∧ k = !xs.isEmpty) ∨ (∃ xs, SqT K H p xs ∧ k = !xs.isEmpty) ∨ ∃ kvs, H p = some (.dK kvs) ∧ k = !kvs.isEmpty
  | _ => False
theorem line63 : (sizeLine : Nat) < 2 ^ 63 := by rw [sizeLine_eq]; decide
/-! ### strs and bytes -/
def PlainIxT (b : Expr) : Prop := ∀ o i, subscripted b false o i = operate [o, i] (getItem o i)
/-! ### scalar builtins, by CallR -/
theorem vals1 {x : V} {us : List Value} (r : Vals [x] us) : ∃ u, us = [u] ∧ RelV x u := by
  cases r with
  | cons r1 r2 => cases r2; exact ⟨_, rfl, r1⟩
theorem vals2 {x y : V} {us : List Value} (r : Vals [x, y] us) : ∃ u w', us = [u, w'] ∧ RelV x u ∧ RelV y w' := by
  cases r with
  | cons r1 r2 =>
    cases r2 with
    | cons r3 r4 => cases r4; exact ⟨_, _, rfl, r1, r3⟩
theorem call_abs : CallR X (.builtin "abs") (fun xs H Q => ∃ i, xs = [.int i] ∧ Q (.int (if i < 0 then -i else i)) H) := by
  intro pins s σ H xs us Q I r h
  obtain ⟨i, rfl, q⟩ := h
  obtain ⟨u, rfl, t, rfl⟩ := vals1 r
  exact call_abs_int fun u tk => ⟨.int (if i < 0 then -i else i), H, I.tok _, ⟨_, rfl⟩, q⟩
theorem call_max2 (hc : X.calm = true) : CallR X (.builtin "max") (fun xs H Q => ∃ i j, xs = [.int i, .int j] ∧ Q (.int (if j > i then j else i)) H) := by
  intro pins s σ H xs us Q I r h
  obtain ⟨i, j, rfl, q⟩ := h
  obtain ⟨u, w', rfl, ⟨t, rfl⟩, ⟨t', rfl⟩⟩ := vals2 r
  refine max_two_ints (I.ok.hd hc) fun h' tk k => ⟨_, H, I.kept k, ?_, q⟩
  by_cases hj : j > i
  · rw [if_pos hj, if_pos hj]; exact ⟨_, rfl⟩
  · rw [if_neg hj, if_neg hj]; exact ⟨_, rfl⟩
theorem call_min2 (hc : X.calm = true) : CallR X (.builtin "min") (fun xs H Q => ∃ i j, xs = [.int i, .int j] ∧ Q (.int (if j < i then j else i)) H) := by
  intro pins s σ H xs us Q I r h
  obtain ⟨i, j, rfl, q⟩ := h
  obtain ⟨u, w', rfl, ⟨t, rfl⟩, ⟨t', rfl⟩⟩ := vals2 r
  refine min_two_ints (I.ok.hd hc) fun h' tk k => ⟨_, H, I.kept k, ?_, q⟩
  by_cases hj : j < i
  · rw [if_pos hj, if_pos hj]; exact ⟨_, rfl⟩
  · rw [if_neg hj, if_neg hj]; exact ⟨_, rfl⟩
theorem call_int1 : CallR X (.type "int") (fun xs H Q => (∃ i, xs = [.int i] ∧ Q (.int i) H) ∨ ∃ k, xs = [.bl k] ∧ Q (.int (if k then 1 else 0)) H) := by
  intro pins s σ H xs us Q I r h
  rcases h with ⟨i, rfl, q⟩ | ⟨k, rfl, q⟩
  · obtain ⟨u, rfl, t, rfl⟩ := vals1 r
    exact call_int_int ⟨.int i, H, I, ⟨_, rfl⟩, q⟩
  · obtain ⟨u, rfl, r1⟩ := vals1 r
    cases r1
    exact call_int_bool ⟨.int (if k then 1 else 0), H, I.tok _, ⟨_, rfl⟩, q⟩
/-- len of a str, a bytes, a list, a tuple -/
def LenV (K : PySem.W.Frag) (x : V) (H : Hp) (n : Nat) : Prop :=
  match x with
  | .str y => y.length ≤ sizeLine ∧ n = y.length
  | .byt y => y.size ≤ sizeLine ∧ n = y.size
  | .ref p => (∃ xs, SqL K H p xs ∧ n = xs.length) ∨ ∃ xs, SqT K H p xs ∧ n = xs.length
  | _ => False
theorem call_len : CallR X (.builtin "len") (fun xs H Q => ∃ x n, xs = [x] ∧ LenV X.K x H n ∧ Q (.int n) H) := by
  intro pins s σ H xs us Q I r h
  obtain ⟨x, n, rfl, e, q⟩ := h
  obtain ⟨u, rfl, rx⟩ := vals1 r
  have hl := line63
  have hs : sizeLine = 16777216 := sizeLine_eq
  cases x with
  | str y =>
    obtain ⟨t, rfl⟩ := rx
    obtain ⟨hy, e'⟩ : y.length ≤ sizeLine ∧ n = y.length := e
    subst e'
    exact len_str (by omega) ⟨.int _, H, I.tok _, ⟨_, rfl⟩, q⟩
  | byt y =>
    obtain ⟨t, rfl⟩ := rx
    obtain ⟨hy, e'⟩ : y.size ≤ sizeLine ∧ n = y.size := e
    subst e'
    exact PySem.W.len_bytes (by omega) ⟨.int _, H, I.tok _, ⟨_, rfl⟩, q⟩
  | ref p =>
    cases rx
    have e' : (∃ xs, SqL X.K H p xs ∧ n = xs.length) ∨ ∃ xs, SqT X.K H p xs ∧ n = xs.length := e
    rcases e' with ⟨xs, hx, e'⟩ | ⟨xs, hx, e'⟩
    · subst e'
      obtain ⟨its, r', pl, hz⟩ := I.list hx
      have hlen := r'.length
      exact Calls.call_len_list pl.isList (by simp only [List.size_toArray]; omega) ⟨.int xs.length, H, I.tok _, ⟨_, by simp only [List.size_toArray]; rw [hlen]⟩, q⟩
    · subst e'
      obtain ⟨its, r', pl, hz⟩ := I.tuple hx
      have hlen := r'.length
      exact len_tuple pl (by simp only [List.size_toArray]; omega) ⟨.int xs.length, H, I.tok _, ⟨_, by simp only [List.size_toArray]; rw [hlen]⟩, q⟩
  | _ => exact (show False from e).elim
end
end L2

namespace L2
open PySem PySem.Spec PyProof.Rows

/-! ### an instance, its attributes a map -/
structure ObjM (h : Heap) (x dx C : Addr) (mA : Str → Option Value) : Prop where
  obj : h.get? x = some (PySem.W.instObj C dx)
  ns : h.Ns1 dx mA
  ne : dx ≠ x

theorem lookIn_ns {h : Heap} {dx : Addr} {mA : Str → Option Value} (n : h.Ns1 dx mA) : ∃ od, h.get? dx = some od ∧ ∀ name, PySem.W.lookIn name od = some (mA name) := by
  obtain ⟨o, es, ep, ho, hd, hk, _, hm⟩ := n
  refine ⟨o, ho, fun name => ?_⟩
  have e := hm name
  unfold nsFind findBy at e
  rw [← Array.find?_toList] at e
  unfold PySem.W.lookIn
  rw [hd]
  dsimp only
  split
  · rename_i y q
    rw [q] at e
    exact congrArg some e
  · rename_i q
    rw [q] at e
    have a : es.toList.any (·.refKey) = false := by
      rw [List.any_eq_false]
      intro y hy
      obtain ⟨z, t, hkey⟩ := hk y (Array.mem_toList_iff.mp hy)
      simp [DictEntry.refKey, hkey]
    have a' : ¬ es.toList.any (·.refKey) = true := by rw [a]; exact Bool.false_ne_true
    rw [if_neg a']
    exact congrArg some e

theorem ObjM.look {h : Heap} {x dx C : Addr} {mA : Str → Option Value} (I : ObjM h x dx C mA) : ∃ od, PySem.W.InstAt h x (PySem.W.instObj C dx) C (some od) ∧ ∀ name, PySem.W.lookIn name od = some (mA name) :=
  let ⟨od, ho, hl⟩ := lookIn_ns I.ns
  ⟨od, ⟨I.obj, rfl, rfl, ho⟩, hl⟩

section
variable {prog : Program} {w : World} {A : Around} {E : Value → Shared → Prop} {s : Shared} {K : PySem.W.Frag} {x dx C f : Addr} {mA : Str → Option Value} {name : Str} {v : Value}

end

/-! ### the attributes as a list of pairs -/
def putF (f : Str) (v : V) : List (Str × V) → List (Str × V)
  | [] => [(f, v)]
  | (g, x) :: r => if g = f then (g, v) :: r else (g, x) :: putF f v r
theorem RelO.none_of {o : Option Value} (r : RelO none o) : o = none := by
  cases o with
  | none => rfl
  | some u => exact (show False from r).elim
section
variable {P : Program} {w : World} {H H' : Hp} {h h' : Heap} {a C dx : Addr} {fs fs' : List (Str × V)}
theorem ins_get (hok : HOk P w H h) (e : H a = some (.ins C dx fs)) : ∃ mA, ObjM h a dx C mA ∧ (∀ f, RelO (fs.lookup f) (mA f)) ∧ PySem.Within mA (fs.map (·.1)) ∧ fs.length ≤ 1000 ∧ H dx = some (.own a) := by
  obtain ⟨d, z, ne, ob, mA, n, r, q⟩ := (show ObjOk P w H h a (.ins C dx fs) from hok a _ e)
  exact ⟨mA, ⟨ob, n, ne⟩, r, q, z, d⟩
end

/-! ### what of the text a class must have -/
structure Cls (K : PySem.W.Frag) (C : Addr) : Prop where
  pg : PySem.W.plainGet K C Str.empty = true
  hd : PySem.W.hasDictIn K C = true
  po : PySem.W.plainOver K C = true
  sa : PySem.W.findIn K (.ref C) "__setattr__" = some (some (.builtin "object.__setattr__"))
theorem Cls.get {K : PySem.W.Frag} {C : Addr} (c : Cls K C) (f : Str) : PySem.W.plainGet K C f = true := c.pg
/-- no class of it has the name -/
def NoAttr (K : PySem.W.Frag) (C : Addr) (f : Str) : Prop := PySem.W.findIn K (.ref C) f = some none
/-- a constant of the class -/
structure Con (K : PySem.W.Frag) (C : Addr) (f : Str) (v : V) (u : Value) : Prop where
  at_ : PySem.W.findIn K (.ref C) f = some (some u)
  rel : RelV v u
  get : PySem.W.specialIn K u "__get__" = some none
  cp : PySem.W.copiedNames.contains f = false
/-- a method: a plain def of the class or of one above it -/
structure Meth (K : PySem.W.Frag) (C : Addr) (m : Str) (f : Addr) : Prop where
  at_ : PySem.W.findIn K (.ref C) m = some (some (.ref f))
  fn : PySem.W.isFn K (.ref f) = true
  kp : PySem.W.keepIn K (.ref f) = true

section
variable {X : Cx} {pins : List (Addr × Obj)} {σ : St} {H : Hp} {s : Shared} {a C dx : Addr} {fs : List (Str × V)} {f : Str} {v : V} {A : Around} {E : Value → Shared → Prop}

/-- a new instance, tracked, without attributes -/
theorem Inv.made (I : Inv X pins σ H s) : Inv X pins σ (upd (upd H s.heap.objs.size (.own (s.heap.objs.size + 1))) (s.heap.objs.size + 1) (.ins C s.heap.objs.size []))
    { s with heap := (s.heap.push PySem.W.emptyDict).push (PySem.W.instObj C s.heap.objs.size) } := by
  have e1 : (s.heap.push PySem.W.emptyDict).get? s.heap.objs.size = some PySem.W.emptyDict := Heap.get?_push_size s.heap rfl
  have e2 : ((s.heap.push PySem.W.emptyDict).push (PySem.W.instObj C s.heap.objs.size)).get? (s.heap.objs.size + 1) = some (PySem.W.instObj C s.heap.objs.size) := by
    have := Heap.get?_push_size (s.heap.push PySem.W.emptyDict) (o := PySem.W.instObj C s.heap.objs.size) rfl
    rwa [Heap.size_push] at this
  have e3 : (s.heap.push PySem.W.emptyDict).Ns s.heap.objs.size (fun _ => none) := ⟨PySem.W.emptyDict, #[], _, e1, rfl, (fun e he => absurd he (by simp)), fun _ => rfl⟩
  have I1 := I.laid (a := s.heap.objs.size) (o := .own (s.heap.objs.size + 1)) (h' := s.heap.push PySem.W.emptyDict) (t' := s.toks) (fun b u q => Heap.get?_push_of_some _ q) (Nat.le_refl _) ⟨_, e1⟩
  refine I1.laid (a := s.heap.objs.size + 1) (o := .ins C s.heap.objs.size []) (t' := s.toks) (fun b u q => Heap.get?_push_of_some _ q) (Nat.le_of_eq (Heap.size_push _ _)) ?_
  have ne : s.heap.objs.size ≠ s.heap.objs.size + 1 := Nat.ne_of_lt (Nat.lt_succ_self _)
  refine ⟨by rw [upd_ne ne, upd_same], Nat.zero_le _, ne, e2, fun _ => none, (Heap.Ns1.of_empty e3).at fun o q => Heap.get?_push_of_some _ q, fun _ => True.intro, fun y hy => absurd rfl hy⟩

end

/-! ### readings and rules -/
/-- e.f, an attribute of the instance -/
def tFld (K : PySem.W.Frag) (ta : TE) (f : Str) : TE := fun σ H Q => ta σ H fun x H1 => ∃ a C dx fs v, x = .ref a ∧ H1 a = some (.ins C dx fs) ∧ Cls K C ∧ NoAttr K C f ∧ fs.lookup f = some v ∧ Q v H1
/-- e.f, a constant of the class -/
def tCon (K : PySem.W.Frag) (ta : TE) (f : Str) : TE := fun σ H Q => ta σ H fun x H1 => ∃ a C dx fs v u, x = .ref a ∧ H1 a = some (.ins C dx fs) ∧ Cls K C ∧ Con K C f v u ∧ fs.lookup f = none ∧ Q v H1
/-- e.f = value -/
def sFld (K : PySem.W.Frag) (ta tv : TE) (f : Str) : TS := fun D σ H => tv σ H fun y H1 => ta σ H1 fun x H2 => ∃ a C dx fs, x = .ref a ∧ H2 a = some (.ins C dx fs) ∧ Cls K C ∧ NoAttr K C f ∧ fs.length < 1000 ∧
  D.nx σ (upd H2 a (.ins C dx (putF f y fs)))
/-- an augmented operator on two values -/
def InOp (X : Cx) (op : Operator) (rd : V → V → Hp → VK → Prop) : Prop :=
  ∀ (pins : List (Addr × Obj)) (s : Shared) (σ : St) (H : Hp) (x y : V) (u v : Value) (Q : VK), Inv X pins σ H s → RelV x u → RelV y v → rd x y H Q → wpAny (model X.prog X.w) X.A (inplaceOp op u v) (EP X pins σ Q) X.xe s
/-- e.f op= value -/
def sFldAug (K : PySem.W.Frag) (ta tv : TE) (rd : V → V → Hp → VK → Prop) (f : Str) : TS := fun D σ H => ta σ H fun x H1 => ∃ a C dx fs v, x = .ref a ∧ H1 a = some (.ins C dx fs) ∧ Cls K C ∧ NoAttr K C f ∧ fs.lookup f = some v ∧
  tv σ H1 fun y H2 => rd v y H2 fun z H3 => ∃ dx' fs', H3 a = some (.ins C dx' fs') ∧ fs'.length < 1000 ∧ D.nx σ (upd H3 a (.ins C dx' (putF f z fs')))

section
variable {X : Cx} {o e value : Expr} {f : Str} {pos pos' tpos : Pos} {ta tv : TE}
def rAdd : V → V → Hp → VK → Prop := fun x y H Q => ∃ i j, x = .int i ∧ y = .int j ∧ Q (.int (i + j)) H
def rSub : V → V → Hp → VK → Prop := fun x y H Q => ∃ i j, x = .int i ∧ y = .int j ∧ Q (.int (i - j)) H
end

/-! ### isinstance -/
section
variable {X : Cx} {pins : List (Addr × Obj)} {σ : St} {H : Hp} {s : Shared} {A : Around} {E : Value → Shared → Prop} {Q : Value → Shared → Prop} {c : Value} {b : Bool}
/-- the type of a value, as the fragment's deciders take it; for an instance its class -/
inductive TyOf (K : PySem.W.Frag) (H : Hp) : V → Value → Prop where
  | non : TyOf K H .non (.type "NoneType")
  | bl (x : Bool) : TyOf K H (.bl x) (.type "bool")
  | int (i : Int) : TyOf K H (.int i) (.type "int")
  | str (x : Str) : TyOf K H (.str x) (.type "str")
  | flt (x : UInt64) : TyOf K H (.flt x) (.type "float")
  | lst {a : Addr} {xs : List V} (e : H a = some (.lst xs)) : TyOf K H (.ref a) (.type "list")
  | frz {a : Addr} {o : Obj} {xs : List V} (e : H a = some (.frz o (.lst xs))) : TyOf K H (.ref a) (.type "list")
  | tup {a : Addr} {xs : List V} (e : H a = some (.tup xs)) : TyOf K H (.ref a) (.type "tuple")
  | dK {a : Addr} {kvs : List (Key × V)} (e : H a = some (.dK kvs)) : TyOf K H (.ref a) (.type "dict")
  | dT {a : Addr} {kvs : List (List Key × V)} (e : H a = some (.dT kvs)) : TyOf K H (.ref a) (.type "dict")
  | ins {a C dx : Addr} {fs : List (Str × V)} (e : H a = some (.ins C dx fs)) (cl : Cls K C) (ha : PySem.W.findIn K (.ref C) "__class__" = some (some (.builtin "object.__class__")))
      (hn : PySem.W.specialIn K (.builtin "object.__class__") "__get__" = some (some (.builtin "getset_descriptor.__get__"))) (htk : PySem.W.takesIn K (.builtin "object.__class__") = some true)
      (hm : PySem.W.mroIn K C (.type "object") = some true) : TyOf K H (.ref a) (.ref C)
/-- isinstance(x, c) for one class c, a built-in or an own one: kitOne's answer -/
theorem isinst_ok {x : V} {u t : Value} (I : Inv X pins σ H s) (rx : RelV x u) (ty : TyOf X.K H x t) (e : PySem.W.kitOne X.K t c = some b) (h : ∀ tk, Q (.bool b) { s with toks := tk }) :
    wpAny (model X.prog X.w) A (call (.builtin "isinstance") [u, c]) Q E s := by
  cases ty with
  | non => cases (show u = Value.none from rx); exact PySem.W.kia_one PySem.W.kitx_none I.kIn True.intro e (fun z => nomatch z) h
  | bl y => cases (show u = Value.bool y from rx); exact PySem.W.kia_one PySem.W.kitx_bool I.kIn True.intro e (fun z => nomatch z) h
  | int i => obtain ⟨t, q⟩ := (show ∃ t, u = Value.int i t from rx); cases q; exact PySem.W.kia_one PySem.W.kitx_int I.kIn True.intro e (fun z => nomatch z) h
  | str y => obtain ⟨t, q⟩ := (show ∃ t, u = Value.str y t from rx); cases q; exact PySem.W.kia_one PySem.W.kitx_str I.kIn True.intro e (fun z => nomatch z) h
  | flt y => obtain ⟨t, q⟩ := (show ∃ t, u = Value.float y t from rx); cases q; exact PySem.W.kia_one PySem.W.kitx_float I.kIn True.intro e (fun z => nomatch z) h
  | @lst a xs ea =>
    cases (show u = Value.ref a from rx)
    obtain ⟨_, _, n, _, h1⟩ := (show ObjOk X.prog X.w H s.heap a (.lst xs) from I.hok a _ ea)
    exact PySem.W.kia_one PySem.W.kitx_list I.kIn ⟨_, h1, rfl⟩ e (fun z => nomatch z) h
  | @frz a ob xs ea =>
    cases (show u = Value.ref a from rx)
    obtain ⟨_, _, _, n, _, h1⟩ := (show ObjOk X.prog X.w H s.heap a (.frz ob (.lst xs)) from I.hok a _ ea)
    exact PySem.W.kia_one PySem.W.kitx_list I.kIn ⟨_, h1, rfl⟩ e (fun z => nomatch z) h
  | @tup a xs ea =>
    cases (show u = Value.ref a from rx)
    obtain ⟨_, _, _, p⟩ := (show ObjOk X.prog X.w H s.heap a (.tup xs) from I.hok a _ ea)
    obtain ⟨o, h1, h2, _⟩ := p
    exact PySem.W.kia_one PySem.W.kitx_tuple I.kIn ⟨o, h1, h2⟩ e (fun z => nomatch z) h
  | @dK a kvs ea =>
    cases (show u = Value.ref a from rx)
    obtain ⟨_, _, vs, _, p⟩ := (show ObjOk X.prog X.w H s.heap a (.dK kvs) from I.hok a _ ea)
    obtain ⟨o, es, ep, h1, h2, _⟩ := p
    exact PySem.W.kia_one PySem.W.kitx_dict I.kIn ⟨o, h1, h2.1⟩ e (fun z => nomatch z) h
  | @dT a kvs ea =>
    cases (show u = Value.ref a from rx)
    obtain ⟨_, _, xs, _, o, es, ep, h1, h2, _⟩ := (show ObjOk X.prog X.w H s.heap a (.dT kvs) from I.hok a _ ea)
    exact PySem.W.kia_one PySem.W.kitx_dict I.kIn ⟨o, h1, h2.1⟩ e (fun z => nomatch z) h
  | @ins a C dx fs ea cl ha hn htk hm =>
    cases (show u = Value.ref a from rx)
    obtain ⟨mA, O, _⟩ := ins_get I.hok ea
    obtain ⟨od, J, _⟩ := O.look
    exact PySem.W.kia_one (PySem.W.kitx_own (cl.get _) cl.hd ha hn htk hm) I.kIn J e (fun z => nomatch z) h
end
end L2

namespace L2
open PySem PySem.Spec PyProof.Rows

/-! ### room -/
structure Room (k : Nat) (A : Around) : Prop where
  hd : A.handled = none
  dp : A.depth + 3 * k + 5 < recursionLimit
  un : A.units + 16 * k + 200 < cLine
theorem Room.mono {j k : Nat} {A : Around} (r : Room k A) (h : j ≤ k) : Room j A := ⟨r.hd, by have := r.dp; omega, by have := r.un; omega⟩
theorem Room.deeper {k : Nat} {A : Around} (r : Room (k + 1) A) (env : Env) : Room k (A.deeper env) :=
  ⟨r.hd, by have := r.dp; show A.depth + 1 + 3 * k + 5 < _; omega, by have := r.un; show A.units + 3 + 16 * k + 200 < _; omega⟩
theorem Room.in1 {k : Nat} {A : Around} (r : Room (k + 1) A) : Room k A.in1 :=
  ⟨r.hd, by have := r.dp; show A.depth + 3 * k + 5 < _; omega, by have := r.un; show A.units + 1 + 16 * k + 200 < _; omega⟩
theorem Room.depth {k : Nat} {A : Around} (r : Room k A) : A.depth < recursionLimit := by have := r.dp; omega
theorem Room.units {k : Nat} {A : Around} (r : Room k A) : A.units + 64 < cLine := by have := r.un; omega
/-! ### argument lists and displays -/
def tNil : TA := fun _ H Q => Q [] H
def tCons (ta : TE) (tr : TA) : TA := fun σ H Q => ta σ H fun x H1 => tr σ H1 fun xs H2 => Q (x :: xs) H2
section
variable {X : Cx} {e : Expr} {es : List Expr} {te : TE} {t : TA} {pos : Pos}
theorem pa_nil : PA X [] tNil := fun _ _ _ _ H Q I h => Calls.spliced_nil ⟨[], H, I, .nil, h⟩
theorem pa_cons (ha : PE X e te) (hr : PA X es t) (hs : starEach (e :: es) X.env = (false, eval e X.env) :: starEach es X.env := by rfl) : PA X (e :: es) (tCons te t) := by
  intro pos pins s σ H Q I h
  rw [hs]
  show wpAny _ _ (spliced ((false, eval e X.env) :: backTo pos (starEach es X.env))) _ _ s
  refine Calls.spliced_cons (thn (ha pins s σ H _ I h) fun u s1 ⟨x, H1, I1, r1, q1⟩ => ?_)
  exact thn (hr pos pins s1 σ H1 _ I1 q1) fun us s2 ⟨xs, H2, I2, r2, q2⟩ => ⟨x :: xs, H2, I2, .cons r1 r2, q2⟩

/-- a tuple, a list of written items -/
def tTup (t : TA) : TE := fun σ H Q => t σ H fun xs H1 => xs.length ≤ sizeLine ∧ ∀ p, H1 p = none → Q (.ref p) (upd H1 p (.tup xs))
def tLst (t : TA) : TE := fun σ H Q => t σ H fun xs H1 => xs.length ≤ sizeLine ∧ ∀ p, H1 p = none → Q (.ref p) (upd H1 p (.lst xs))
theorem pe_tup {x1} (h : PA X es t) : PE X (.Tuple es x1 pos) (tTup t) := by
  intro pins s σ H Q I hq
  refine wpAny_Tuple_spliced (thn (h pos pins s σ H _ I hq) fun us s1 ⟨xs, H1, I1, r, z, q⟩ => ⟨by rw [← r.length]; exact z, ?_⟩)
  have hf : H1 s1.heap.objs.size = none := I1.hok.fresh (Nat.le_refl _)
  refine ⟨.ref s1.heap.objs.size, upd H1 s1.heap.objs.size (.tup xs), I1.laid (t' := s1.toks) (fun b u e => Heap.get?_push_of_some _ e) (Nat.le_refl _) ?_, rfl, q _ hf⟩
  exact ⟨z, us, r, ⟨_, Heap.get?_push_size _ rfl, rfl, _, rfl⟩⟩
theorem pe_lst (h : PA X es t) : PE X (.List es pos) (tLst t) := by
  intro pins s σ H Q I hq
  refine wpAny_List_spliced (thn (h pos pins s σ H _ I hq) fun us s1 ⟨xs, H1, I1, r, z, q⟩ => ⟨by rw [← r.length]; exact z, ?_⟩)
  have hf : H1 s1.heap.objs.size = none := I1.hok.fresh (Nat.le_refl _)
  refine ⟨.ref s1.heap.objs.size, upd H1 s1.heap.objs.size (.lst xs), I1.laid (t' := s1.toks) (fun b u e => Heap.get?_push_of_some _ e) (Nat.le_refl _) ?_, rfl, q _ hf⟩
  exact ⟨z, us, 0, r, Heap.get?_push_size _ rfl⟩
end

/-! ### what a def promises -/
/-- a def's promise: the bound arguments in the parameters' order, the heap, the wanted end, the wanted exception -/
abbrev Sp := List V → Hp → VK → XK → Prop
/-- how an exception lies behind a call (file 08 gives it): the callers' frames, abstract heap and state ahead of the call, the wish, the exception, the state -/
abbrev CXT := List Env → Hp → Shared → XK → Value → Shared → Prop

/-- the state at a call -/
structure Env0 (P : Program) (w : World) (K : PySem.W.Frag) (mg : Str → Option Value) (base : Heap) (A : Around) (outer : List Env) (s : Shared) (H : Hp) : Prop where
  frames : A.frames = some outer
  mod : Mod K mg base
  bs : ∀ b o, base.get? b = some o → s.heap.get? b = some o ∧ H b = none
  bsz : base.objs.size ≤ s.heap.objs.size
  funs : s.heap.FunFrames base outer
  frf : ∀ b ∈ frs outer, H b = none
  hok : HOk P w H s.heap
  bare : AllBare s.gens
/-- a call's end -/
def CE (outer : List Env) (P : Program) (w : World) (H : Hp) (s : Shared) (Q : VK) (u : Value) (s' : Shared) : Prop :=
  ∃ v H', s'.os = s.os ∧ AllBare s'.gens ∧ Un (frs outer) [] H H' s.heap s'.heap ∧ HOk P w H' s'.heap ∧ RelV v u ∧ Q v H'
def CR (CX : CXT) (outer : List Env) (P : Program) (w : World) (H : Hp) (s : Shared) (Q : VK) (E : XK) (r : Result) (s' : Shared) : Prop :=
  match r with
  | .ok (.ret u) => CE outer P w H s Q u s'
  | .ok _ => False
  | .error e => CX outer H s E e s'
structure FnOk (P : Program) (w : World) (K : PySem.W.Frag) (mg : Str → Option Value) (base : Heap) (CX : CXT) (k : Nat) (f : Addr) (fd : FuncData) (ps : List Str) (sp : Sp) : Prop where
  len : ∀ vs H Q E, sp vs H Q E → vs.length = ps.length
  run : ∀ (A : Around) (outer : List Env) (s : Shared) (H : Hp) (args : Args) (us : List Value) (vs : List V) (Q : VK) (E : XK), Room k A → Env0 P w K mg base A outer s H → BindsTo s fd args (ps.zip us) → Vals vs us → sp vs H Q E →
    codeAny (model P w) A (.call (.ref f) args) (CR CX outer P w H s Q E) s
theorem FnOk.mono {P : Program} {w : World} {K : PySem.W.Frag} {mg : Str → Option Value} {base : Heap} {CX : CXT} {j k : Nat} {f : Addr} {fd : FuncData} {ps : List Str} {sp : Sp} (F : FnOk P w K mg base CX j f fd ps sp) (h : j ≤ k) :
    FnOk P w K mg base CX k f fd ps sp := ⟨F.len, fun A outer s H args us vs Q E hr => F.run A outer s H args us vs Q E (hr.mono h)⟩
/-- a weaker promise -/
theorem FnOk.imp {P : Program} {w : World} {K : PySem.W.Frag} {mg : Str → Option Value} {base : Heap} {CX : CXT} {k : Nat} {f : Addr} {fd : FuncData} {ps : List Str} {sp sp' : Sp} (F : FnOk P w K mg base CX k f fd ps sp)
    (h : ∀ vs H Q E, sp' vs H Q E → sp vs H Q E) : FnOk P w K mg base CX k f fd ps sp' :=
  ⟨fun vs H Q E q => F.len vs H Q E (h _ _ _ _ q), fun A outer s H args us vs Q E hr he hb hv hs => F.run A outer s H args us vs Q E hr he hb hv (h _ _ _ _ hs)⟩

theorem Env0.in1 {P : Program} {w : World} {K : PySem.W.Frag} {mg : Str → Option Value} {base : Heap} {A : Around} {outer : List Env} {s : Shared} {H : Hp} (e : Env0 P w K mg base A outer s H) :
    Env0 P w K mg base A.in1 outer s H := ⟨e.frames, e.mod, e.bs, e.bsz, e.funs, e.frf, e.hok, e.bare⟩

section
variable {X : Cx} {pins : List (Addr × Obj)} {σ : St} {H : Hp} {s s' : Shared}
/-- from a body: what a callee wants -/
theorem Inv.env0 (I : Inv X pins σ H s) : Env0 X.prog X.w X.K X.mg X.base X.A X.stack s H :=
  ⟨I.ok.frames, I.ok.mod, I.bs, Nat.le_trans I.ok.bsz I.sz, I.stack, I.stkFree, I.hok, I.bare⟩
/-- behind a call -/
theorem Inv.after {Q : VK} {u : Value} (I : Inv X pins σ H s) (h : CE X.stack X.prog X.w H s Q u s') : EP X pins σ Q u s' := by
  obtain ⟨v, H', os, bare, un, hok, r, q⟩ := h
  obtain ⟨hh, g, d, t, os'⟩ := s'
  obtain rfl : os' = s.os := os
  exact ⟨v, H', I.call (h' := hh) (g' := g) (d' := d) (t' := t) (ch := []) un hok bare (fun b z => absurd z (by simp)), r, q⟩
end

/-! ### calls -/
/-- f(..): the written arguments, then the defaults dvs; E: what is wanted of an exception -/
def tCall (sp : Sp) (dvs : List V) (E : XK) (t : TA) : TE := fun σ H Q => t σ H fun vs H1 => sp (vs ++ dvs) H1 Q E
/-- o.m(..) of an instance of the class at C -/
def tMeth (C : Addr) (m : Str) (sp : Sp) (dvs : List V) (E : XK) (ta : TE) (t : TA) : TE := fun σ H Q => ta σ H fun x H1 => ∃ a dx fs, x = .ref a ∧ H1 a = some (.ins C dx fs) ∧ fs.lookup m = none ∧
  t σ H1 fun vs H2 => sp (x :: (vs ++ dvs)) H2 Q E
/-- C(..): a new instance and its dict, then __init__ -/
def tMake (C : Addr) (sp : Sp) (dvs : List V) (E : XK) (t : TA) : TE := fun σ H Q => t σ H fun vs H1 => ∀ x dx, H1 x = none → H1 dx = none → dx ≠ x →
  sp (.ref x :: (vs ++ dvs)) (upd (upd H1 dx (.own x)) x (.ins C dx [])) (fun v H2 => v = .non ∧ Q (.ref x) H2) E

/-- how the parameters are bound: us the positional arguments, kw the keywords' values by name, ds the defaults that fill up -/
def Binds (K : PySem.W.Frag) (fd : FuncData) (ps : List Str) (ds : List Value) : Prop :=
  ∀ (s : Shared) (us : List Value), K.In s.heap → (us ++ ds).length = ps.length → BindsTo s fd ⟨us, []⟩ (ps.zip (us ++ ds))
/-- every parameter is given -/
theorem Binds.all {K : PySem.W.Frag} {fd : FuncData} {ps : List Str} (h : ∀ us : List Value, us.length = ps.length → bindArgs fd ⟨us, []⟩ = pure (ps.zip us)) : Binds K fd ps [] := fun s us _ hl => by
  rw [List.append_nil] at hl ⊢
  exact .of_eq (h us hl)

/-- an exception of a callee reaches what this body wants of exceptions -/
def Passes (CX : CXT) (X : Cx) (E : XK) : Prop := ∀ (pins : List (Addr × Obj)) (σ : St) (H : Hp) (s : Shared) (e : Value) (s' : Shared), Inv X pins σ H s → CX X.stack H s E e s' → X.xe e s'

section
variable {X : Cx} {CX : CXT} {k : Nat} {f C : Addr} {fd : FuncData} {ps : List Str} {sp : Sp} {dvs : List V} {ds : List Value} {E : XK} {x m : Str} {p pos apos : Pos} {e o : Expr} {es : List Expr} {ta : TE} {t : TA}

/-- the callee runs -/
theorem run_fn {pins : List (Addr × Obj)} {σ : St} {H : Hp} {s : Shared} {Q : VK} {us : List Value} {vs : List V} (F : FnOk X.prog X.w X.K X.mg X.base CX k f fd ps sp) (hr : Room k X.A) (hb : Binds X.K fd ps ds) (hd : Vals dvs ds) (hx : Passes CX X E)
    (I : Inv X pins σ H s) (r : Vals vs us) (h : sp (vs ++ dvs) H Q E) : wpAny (model X.prog X.w) X.A (call (.ref f) us) (EP X pins σ Q) X.xe s := by
  have r2 : Vals (vs ++ dvs) (us ++ ds) := r.append hd
  have hl : (us ++ ds).length = ps.length := by rw [← r2.length]; exact F.len _ _ _ _ h
  refine wpAny_call (codeAny_mono (F.run X.A X.stack s H ⟨us, []⟩ (us ++ ds) (vs ++ dvs) Q E hr I.env0 (hb s us I.kIn hl) r2 h) fun r s' hq => ?_)
  cases r with
  | error e => exact hx pins σ H s e s' I hq
  | ok fl =>
    cases fl with
    | ret u => exact I.after hq
    | next => exact False.elim hq
    | brk => exact False.elim hq
    | cont => exact False.elim hq

theorem pe_call (F : FnOk X.prog X.w X.K X.mg X.base CX k f fd ps sp) (hr : Room k X.A) (hg : Gl X x) (hm : X.mg x = some (.ref f)) (hk : PySem.W.keepIn X.K (.ref f) = true) (hb : Binds X.K fd ps ds) (hd : Vals dvs ds) (hx : Passes CX X E)
    (ha : PA X (e :: es) t) (hdb : (x == ("__debug__" : Str)) = false := by decide) (he : starEach (e :: es) X.env = (false, eval e X.env) :: starEach es X.env := by rfl) (hpl : (backTo pos (starEach es X.env)).any (·.1) = false := by rfl) :
    PE X (.Call (.Name x p) (e :: es) [] pos) (tCall sp dvs E t) := by
  intro pins s σ H Q I h
  refine wpAny_Call_Name_kw (ld_glob I hg hm ?_ hdb)
  refine PySem.W.callWith_K (h₀ := X.base) I.ok.mod.kin hk (thn (ha pos pins s σ H _ I h) fun us s1 ⟨vs, H1, I1, r, q⟩ => ⟨I1.kIn, ?_⟩) he hpl
  exact run_fn F hr hb hd hx I1 r q
/-- what a class must have to be made -/
structure Mk (K : PySem.W.Frag) (C f : Addr) : Prop where
  makes : PySem.W.makesIn K C = true
  init : PySem.W.findIn K (.ref C) "__init__" = some (some (.ref f))
  fn : PySem.W.isFn K (.ref f) = true
  kp : PySem.W.keepIn K (.ref C) = true

end

/-! ### keywords -/
/-- the values of the keywords, from the left -/
def PK (X : Cx) (kws : List Keyword) (t : TA) : Prop :=
  ∀ (pos : Pos) (pins : List (Addr × Obj)) (s : Shared) (σ : St) (H : Hp) (Q : List V → Hp → Prop), Inv X pins σ H s → t σ H Q → wpAny (model X.prog X.w) X.A (evalAll ((backToKw pos (keywordEach kws X.env)).map (·.2))) (AP X pins σ Q) X.xe s
section
variable {X : Cx} {CX : CXT} {k : Nat} {f C : Addr} {fd : FuncData} {ps ks : List Str} {sp : Sp} {E : XK} {x m : Str} {p pos apos kpos : Pos} {e o : Expr} {es : List Expr} {kws : List Keyword} {te ta : TE} {t tk : TA} {nm : Option Str}
/-- how a call with keywords binds: g puts the positional values us and the keywords' values ws (names ks) in the parameters' order, defaults among them -/
structure KBinds (K : PySem.W.Frag) (fd : FuncData) (ps ks : List Str) (g : List Value → List Value → List Value) (gV : List V → List V → List V) : Prop where
  to : ∀ (s : Shared) (us ws : List Value), K.In s.heap → (g us ws).length = ps.length → BindsTo s fd ⟨us, ks.zip ws⟩ (ps.zip (g us ws))
  rel : ∀ {vs : List V} {us : List Value} {zs : List V} {ws : List Value}, Vals vs us → Vals zs ws → Vals (gV vs zs) (g us ws)
def tCallK (sp : Sp) (gV : List V → List V → List V) (E : XK) (t tk : TA) : TE := fun σ H Q => t σ H fun vs H1 => tk σ H1 fun zs H2 => sp (gV vs zs) H2 Q E
variable {g : List Value → List Value → List Value} {gV : List V → List V → List V}
end

/-! ### a def's body keeps its promise -/
/-- names: the parameters first -/
structure FnScope (N P : List Str) (sc : Scope) : Prop where
  kind : sc.kind = .function
  co : sc.isCoroutine = false
  gen : sc.isGenerator = false
  nd : N.Nodup
  pre : N.take P.length = P
  par : ∀ x ∈ P, sc.names.lookup x = some .local ∨ sc.names.lookup x = some .cell
  nofree : ∀ y ∈ sc.names, y.2 ≠ .free

theorem bindL_out {kindOf : Str → Option NameKind} {x : Str} : ∀ {binds : List (Str × Value)} {m : Str → Option Value}, (∀ v, (x, v) ∉ binds) → bindL kindOf binds m x = m x
  | [], _, _ => rfl
  | (n, v) :: r, m, h => by
    unfold bindL
    rw [bindL_out fun w hw => h w (List.mem_cons_of_mem _ hw)]
    split
    · have : x ≠ n := by rintro rfl; exact h v List.mem_cons_self
      simp [this]
    · rfl
theorem bindC_out {kindOf : Str → Option NameKind} {x : Str} : ∀ {binds : List (Str × Value)} {m : Str → Option Value}, (∀ v, (x, v) ∉ binds) → bindC kindOf binds m x = m x
  | [], _, _ => rfl
  | (n, v) :: r, m, h => by
    unfold bindC
    rw [bindC_out fun w hw => h w (List.mem_cons_of_mem _ hw)]
    split
    · rfl
    · have : x ≠ n := by rintro rfl; exact h v List.mem_cons_self
      simp [this]
theorem bindL_get {kindOf : Str → Option NameKind} {x : Str} {v : Value} : ∀ {P : List Str} {vs : List Value} {i : Nat} {m : Str → Option Value}, P.Nodup → P[i]? = some x → vs[i]? = some v → kindOf x = some .local →
    bindL kindOf (P.zip vs) m x = some v
  | [], _, _, _, _, h, _, _ => by simp at h
  | _ :: _, [], _, _, _, _, h, _ => by simp at h
  | p :: P, w :: vs, 0, m, nd, h1, h2, hk => by
    simp at h1 h2; subst h1; subst h2
    show bindL kindOf ((p, w) :: P.zip vs) m p = _
    unfold bindL
    rw [bindL_out fun v hv => (List.nodup_cons.mp nd).1 (List.of_mem_zip hv).1, if_pos hk]
    simp
  | p :: P, w :: vs, i + 1, m, nd, h1, h2, hk => by
    show bindL kindOf ((p, w) :: P.zip vs) m x = _
    unfold bindL
    exact bindL_get (i := i) (List.nodup_cons.mp nd).2 (by simpa using h1) (by simpa using h2) hk
theorem bindC_get {kindOf : Str → Option NameKind} {x : Str} {v : Value} : ∀ {P : List Str} {vs : List Value} {i : Nat} {m : Str → Option Value}, P.Nodup → P[i]? = some x → vs[i]? = some v → kindOf x ≠ some .local →
    bindC kindOf (P.zip vs) m x = some v
  | [], _, _, _, _, h, _, _ => by simp at h
  | _ :: _, [], _, _, _, _, h, _ => by simp at h
  | p :: P, w :: vs, 0, m, nd, h1, h2, hk => by
    simp at h1 h2; subst h1; subst h2
    show bindC kindOf ((p, w) :: P.zip vs) m p = _
    unfold bindC
    rw [bindC_out fun v hv => (List.nodup_cons.mp nd).1 (List.of_mem_zip hv).1, if_neg hk]
    simp
  | p :: P, w :: vs, i + 1, m, nd, h1, h2, hk => by
    show bindC kindOf ((p, w) :: P.zip vs) m x = _
    unfold bindC
    exact bindC_get (i := i) (List.nodup_cons.mp nd).2 (by simpa using h1) (by simpa using h2) hk

/-- the names' values at the entry -/
def start (N : List Str) (vs : List V) : St := vs.map some ++ List.replicate (N.length - vs.length) none

/-- the context of a def's body, at its entry; an exception leaves the frame, then lies as CX says -/
def cxOf (CX : CXT) (P : Program) (w : World) (K : PySem.W.Frag) (mg : Str → Option Value) (base : Heap) (N : List Str) (qual : Str) (scope : Scope) (f : Addr) (cd : Value) (A : Around) (outer : List Env) (s : Shared) (H : Hp) (E : XK) : Cx where
  prog := P
  w := w
  K := K
  mg := mg
  base := base
  A := A.deeper (envOfC qual scope s.heap.objs.size f cd)
  N := N
  s₀ := s
  H₀ := H
  env := envOfC qual scope s.heap.objs.size f cd
  outer := outer
  stack := envOfC qual scope s.heap.objs.size f cd :: outer
  ex := []
  calm := true
  fn := fun _ => true
  pn := []
  xe := fun e s' => wpAny (model P w) (A.deeper (envOfC qual scope s.heap.objs.size f cd)) (leaving (envOfC qual scope s.heap.objs.size f cd) e) (fun _ s'' => CX outer H s E e s'') (fun e' s'' => CX outer H s E e' s'') s'

theorem cell_has {sc : Scope} {n : Nat} {x : Str} (h : sc.names.lookup x = some .cell) : ∃ c, (cellsFrom n sc.names []).lookup x = some c := by
  have q := PySem.W.cellsFrom_some sc.names n [] (.inl h)
  exact Option.isSome_iff_exists.mp q

theorem inv_start {CX : CXT} {P : Program} {w : World} {K : PySem.W.Frag} {mg : Str → Option Value} {base : Heap} {N ps : List Str} {qual : Str} {scope : Scope} {f : Addr} {cd : Value} {A : Around} {outer : List Env} {s s1 : Shared} {H : Hp} {E : XK} {us : List Value} {vs : List V}
    (S : FnScope N ps scope) (hd : A.handled = none) (e0 : Env0 P w K mg base A outer s H) (hl : vs.length = ps.length) (r : Vals vs us)
    (x : InCallC s s.heap.objs.size (bindL (envOfC qual scope s.heap.objs.size f cd).kindOf (ps.zip us) fun _ => none) (cellsFrom (s.heap.objs.size + 1) scope.names []) (bindC (envOfC qual scope s.heap.objs.size f cd).kindOf (ps.zip us) fun _ => none) s1) :
    Inv (cxOf CX P w K mg base N qual scope f cd A outer s H E) [] (start N vs) H s1 := by
  have hpl : ps.length ≤ N.length := by have := congrArg List.length S.pre; rw [List.length_take] at this; omega
  obtain ⟨h1, tk, rfl, hk⟩ := x.done
  have noA : ∀ b : Addr, b ∉ (cxOf CX P w K mg base N qual scope f cd A outer s H E).ex := fun b z => absurd (show b ∈ ([] : List Addr) from z) (by simp)
  refine ⟨⟨e0.mod, S.kind, rfl, rfl, Nat.le_refl _, fun y z c h1 h2 => ?_, fun y hy => ?_, fun y c _ h => ?_, fun _ => hd, Around.frames_deeper e0.frames, .inr ⟨rfl, rfl⟩, fun b z => absurd z (noA b), e0.bs, e0.bsz, fun b _ _ => noA b, fun b z => absurd z (noA b), e0.funs, e0.frf⟩,
    rfl, e0.bare, Un.kept hk, ⟨_, x.toInCall.ns, fun i y v h1 h2 h3 => ?_⟩, fun y c h => ⟨_, x.cell y c h⟩, e0.hok.fresh (Nat.le_refl _), fun y c h => ?_, fun p hp => absurd (show p ∈ ([] : List (Addr × Obj)) from hp) (by simp), e0.hok.kept hk, ?_⟩
  · exact name_of_addr x.apart (PySem.mem_of_lookup h1) (PySem.mem_of_lookup h2)
  · have hy : scope.names.lookup y = some .cell ∨ scope.names.lookup y = some .free := hy
    rcases hy with hy | hy
    · exact cell_has hy
    · exact absurd rfl (S.nofree _ (PySem.mem_of_lookup hy))
  · exact Nat.le_of_lt (x.above y c (PySem.mem_of_lookup h))
  · have hi : i < vs.length := by
      unfold start at h2
      by_cases hi : i < vs.length
      · exact hi
      · rw [List.getElem?_append_right (by simpa using hi)] at h2
        rw [List.getElem?_replicate] at h2
        split at h2 <;> cases h2
    have ha : vs[i]? = some v := by
      unfold start at h2
      rw [List.getElem?_append_left (by simpa using hi), List.getElem?_map] at h2
      cases e : vs[i]? with
      | none => rw [e] at h2; cases h2
      | some a => rw [e] at h2; cases h2; rfl
    obtain ⟨u, hu, rv⟩ := r.get ha
    have hp : ps[i]? = some y := by
      rw [← S.pre, List.getElem?_take_of_lt (by omega)]; exact h1
    have ndP : ps.Nodup := by rw [← S.pre]; exact S.nd.sublist (List.take_sublist _ _)
    refine ⟨u, rv, ?_⟩
    rcases S.par y (List.mem_of_getElem? hp) with k | k
    · exact .inl ⟨k, bindL_get ndP hp hu k⟩
    · obtain ⟨c, e⟩ := cell_has (n := s.heap.objs.size + 1) k
      refine .inr ⟨.inl k, c, e, ?_⟩
      have q := x.cell y c e
      rw [bindC_get ndP hp hu (by show scope.names.lookup y ≠ _; rw [k]; decide)] at q
      exact q
  · exact e0.hok.fresh (Nat.le_of_lt (x.above y c (PySem.mem_of_lookup h)))
  · unfold start
    show _ = N.length
    rw [List.length_append, List.length_map, List.length_replicate]
    omega

/-- THE RULE: a def (or a method) of the text, by its body. The body's reading t is chosen for each entry; it is run at the parameters' values -/
theorem fn_of {CX : CXT} {P : Program} {w : World} {K : PySem.W.Frag} {mg : Str → Option Value} {base : Heap} {k : Nat} {f : Addr} {name qual : Str} {params : Arguments} {body : List Stmt} {scope : Scope} {dV kV doc pm cdv ct oc : Value} {an od : Option Addr}
    {osl : Array (Option Value)} {N ps : List Str} {sp : Sp} (lk : K.lookup f = some ⟨oc, od, .func (PySem.W.fnOf name qual params body scope dV kV doc pm an cdv ct), osl⟩) (hcd : PySem.W.codeIn K cdv qual = true) (S : FnScope N ps scope)
    (len : ∀ vs H Q E, sp vs H Q E → vs.length = ps.length)
    (hbody : ∀ (A : Around) (outer : List Env) (s : Shared) (H : Hp) (vs : List V) (Q : VK) (E : XK), Room k (A.deeper (envOfC qual scope s.heap.objs.size f cdv)) → sp vs H Q E →
      ∃ t, PSs (cxOf CX P w K mg base N qual scope f cdv A outer s H E) body t ∧ t { nx := fun _ H' => Q .non H', rt := Q } (start N vs) H) :
    FnOk P w K mg base CX (k + 1) f (PySem.W.fnOf name qual params body scope dV kV doc pm an cdv ct) ps sp := by
  refine ⟨len, fun A outer s H args us vs Q E hr e0 hb r hsp => ?_⟩
  have hl := len _ _ _ _ hsp
  have KX : K.In s.heap := e0.mod.kin.keeps fun b o e => (e0.bs b o e).1
  have lim : s.heap.NoLimit := e0.mod.nolimit.keeps fun b o e => (e0.bs b o e).1
  have hkind : ∀ y ∈ ps.zip us, scope.names.lookup y.1 = some .local ∨ (scope.names.lookup y.1 = some .cell ∧ ((cellsFrom (s.heap.objs.size + 1) scope.names []).lookup y.1).isSome = true) := fun ⟨n, v⟩ hy => by
    rcases S.par n (List.of_mem_zip hy).1 with q | q
    · exact .inl q
    · exact .inr ⟨q, PySem.W.cellsFrom_some _ _ _ (.inl q)⟩
  refine codeAny_call_function hr.depth (KX _ _ lk) rfl S.co S.gen rfl (PySem.W.codeRec_of KX hcd) (hb _ _ _ _ ?_)
  refine wpAny_newFunctionEnv_cells S.kind hkind fun env he s1 x => ?_
  subst he
  refine ⟨lim.keeps x.toInCall.keep, codeAny_func ?_⟩
  obtain ⟨t, ht, hq⟩ := hbody A outer s H vs Q E (hr.deeper _) hsp
  have I : Inv (cxOf CX P w K mg base N qual scope f cdv A outer s H E) [] (start N vs) H s1 := inv_start S hr.hd e0 hl r x
  refine wpAny_mono (ht [] s1 (start N vs) H _ I hq) (fun fl s' hs => ?_) fun e s' hs => hs
  have fin : ∀ {σ' : St} {H' : Hp} {v : V} {u : Value}, Inv (cxOf CX P w K mg base N qual scope f cdv A outer s H E) [] σ' H' s' → RelV v u → Q v H' → CE outer P w H s Q u s' :=
    fun {σ' H' v u} J rv q => ⟨v, H', J.os, J.bare, J.base, J.hok, rv, q⟩
  cases fl with
  | ret u =>
    obtain ⟨v, σ', H', J, rv, q⟩ := hs
    exact fin J rv q
  | next =>
    obtain ⟨σ', H', J, q⟩ := hs
    exact fin (v := V.non) (u := Value.none) J rfl q
  | brk =>
    obtain ⟨_, _, _, q⟩ := hs
    exact False.elim q
  | cont =>
    obtain ⟨_, _, _, q⟩ := hs
    exact False.elim q
end L2

namespace L2
open PySem PySem.Spec PyProof.Rows
section
variable {X : Cx} {x : Str} {p pos : Pos} {e : Expr} {es : List Expr} {t : TA} {id T : String} {r : List V → Hp → VK → Prop}

def tCB (r : List V → Hp → VK → Prop) (t : TA) : TE := fun σ H Q => t σ H fun vs H1 => r vs H1 Q
/-- f(e, ..), f a built-in function -/
theorem pe_callB (hc : CallR X (.builtin id) r) (hg : Gl X x) (hm : X.mg x = none) (hv : bootBuiltins x = some (.builtin id)) (ha : PA X (e :: es) t) (hn : x ≠ "__name__" := by decide) (hdb : (x == ("__debug__" : Str)) = false := by decide)
    (he : starEach (e :: es) X.env = (false, eval e X.env) :: starEach es X.env := by rfl) (hpl : (backTo pos (starEach es X.env)).any (·.1) = false := by rfl) : PE X (.Call (.Name x p) (e :: es) [] pos) (tCB r t) := by
  intro pins s σ H Q I h
  refine wpAny_Call_Name_kw (ld_blt I hg hm hv ?_ hn hdb)
  exact PyProof.Rows.callWith_builtin1 (thn (ha pos pins s σ H _ I h) fun us s1 ⟨vs, H1, I1, r1, q1⟩ => hc pins s1 σ H1 vs us Q I1 r1 q1) he hpl
/-- T(e, ..), T a built-in type -/
theorem pe_callTy (hc : CallR X (.type T) r) (hg : Gl X x) (hm : X.mg x = none) (hv : bootBuiltins x = some (.type T)) (ha : PA X (e :: es) t) (hn : x ≠ "__name__" := by decide) (hdb : (x == ("__debug__" : Str)) = false := by decide)
    (he : starEach (e :: es) X.env = (false, eval e X.env) :: starEach es X.env := by rfl) (hpl : (backTo pos (starEach es X.env)).any (·.1) = false := by rfl) : PE X (.Call (.Name x p) (e :: es) [] pos) (tCB r t) := by
  intro pins s σ H Q I h
  refine wpAny_Call_Name_kw (ld_blt I hg hm hv ?_ hn hdb)
  exact PyProof.Rows.callWith_type1 (thn (ha pos pins s σ H _ I h) fun us s1 ⟨vs, H1, I1, r1, q1⟩ => hc pins s1 σ H1 vs us Q I1 r1 q1) he hpl
end
end L2

namespace HT
open PySem PyProof.Rows

/-- t < u of tuples of ints -/
def lexLt : List Int → List Int → Bool
  | [], [] => false
  | [], _ :: _ => true
  | _ :: _, [] => false
  | x :: xs, y :: ys => if x = y then lexLt xs ys else decide (x < y)
theorem eqAt_int (A : Around) (s : Shared) (a : Int) (t : Tok) (c : Int) (u : Tok) : ∃ e, SeqAt.EqAt A s (.int a t) (.int c u) e ∧ (e = true ↔ a = c) :=
  ⟨(a == c), SeqAt.EqAt.int_int a t c u, by simp⟩
section
open PySem.SeqAt
open PySem.AutoSeq1 (wpAny_loadPart')
open PySem.MeetsSeq PySem.MeetsSeq2 PySem.MeetsSeq3

end

section
variable {prog : Program} {w : World} {A : Around} {E : Value → Shared → Prop} {s : Shared}

/-! ### t[a:b], not the whole -/
/-- a slice's bound as a place among n (d where it is left out) -/
def sIx (n d : Nat) : Option Int → Nat
  | none => d
  | some v => if v < 0 then (v + (n : Int)).toNat else min v.toNat n
end
end HT

namespace L2
open PySem PySem.Spec PyProof.Rows

/-! ### the parts of a slice -/
abbrev TO := St → Hp → (Option Int → Hp → Prop) → Prop
/-- a slice's part (left out, or an int) -/
def PO (X : Cx) (e : Option Expr) (t : TO) : Prop :=
  ∀ (pins : List (Addr × Obj)) (s : Shared) (σ : St) (H : Hp) (Q : Option Int → Hp → Prop), Inv X pins σ H s → t σ H Q →
    wpAny (model X.prog X.w) X.A (evalPart e X.env) (fun u s' => ∃ o H', Inv X pins σ H' s' ∧ IsPart u o ∧ Q o H') X.xe s
def tNoPart : TO := fun _ H Q => Q none H
def tPart (t : TE) : TO := fun σ H Q => t σ H fun x H1 => ∃ i, x = .int i ∧ Q (some i) H1

section
variable {X : Cx} {e : Expr} {te : TE} {lo hi : Option Expr} {tl th : TO} {pos p2 : Pos}

/-- what a slice of a value is, by values: the slice object stands at sl -/
def SlR (X : Cx) (r : V → Option Int → Option Int → Hp → VK → Prop) : Prop :=
  ∀ (pins : List (Addr × Obj)) (s : Shared) (σ : St) (H : Hp) (x : V) (v vl vu : Value) (lo hi : Option Int) (sl : Addr) (Q : VK), Inv X pins σ H s → RelV x v → s.heap.IsSliceOf sl vl vu .none → IsPart vl lo → IsPart vu hi → r x lo hi H Q →
    ∃ T id, typeLookup (.type T) "__getitem__" = pure (some (.builtin id)) ∧ s.TypeIs v T ∧ wpAny (model X.prog X.w) X.A (getItem v (.ref sl)) (EP X pins σ Q) X.xe s
theorem SlR.or {r r' : V → Option Int → Option Int → Hp → VK → Prop} (h : SlR X r) (h' : SlR X r') : SlR X (fun x lo hi H Q => r x lo hi H Q ∨ r' x lo hi H Q) := by
  intro pins s σ H x v vl vu lo hi sl Q I rx hs pl pu q
  rcases q with q | q
  · exact h pins s σ H x v vl vu lo hi sl Q I rx hs pl pu q
  · exact h' pins s σ H x v vl vu lo hi sl Q I rx hs pl pu q
def tSl (r : V → Option Int → Option Int → Hp → VK → Prop) (te : TE) (tl th : TO) : TE := fun σ H Q => te σ H fun x H1 => tl σ H1 fun l H2 => th σ H2 fun u H3 => r x l u H3 Q
/-- the items of xs[lo:hi] -/
def cutV (xs : List V) (lo hi : Option Int) : List V := (xs.drop (HT.sIx xs.length 0 lo)).take (HT.sIx xs.length xs.length hi - HT.sIx xs.length 0 lo)
/-- t[lo:hi], not the whole of it (the whole would be t itself) -/
def rSlT (K : PySem.W.Frag) : V → Option Int → Option Int → Hp → VK → Prop := fun x lo hi H Q => ∃ a xs, x = .ref a ∧ SqT K H a xs ∧
  ¬ (HT.sIx xs.length 0 lo = 0 ∧ HT.sIx xs.length xs.length hi = xs.length) ∧ ∀ p, H p = none → Q (.ref p) (upd H p (.tup (cutV xs lo hi)))
/-! ### t < u, t + u -/
def rLtT (K : PySem.W.Frag) : R2 := fun x y H Q => ∃ a b ns ms, x = .ref a ∧ y = .ref b ∧ SqT K H a (ns.map V.int) ∧ SqT K H b (ms.map V.int) ∧ Q (.bl (HT.lexLt ns ms)) H
/-- t + u, t not empty: u empty gives t itself -/
def rCatT (K : PySem.W.Frag) : R2 := fun x y H Q => ∃ a b xs ys, x = .ref a ∧ y = .ref b ∧ SqT K H a xs ∧ SqT K H b ys ∧ xs ≠ [] ∧ xs.length + ys.length ≤ sizeLine ∧
  (ys = [] → Q (.ref a) H) ∧ (ys ≠ [] → ∀ p, H p = none → Q (.ref p) (upd H p (.tup (xs ++ ys))))
end
end L2

namespace L2
open PySem PySem.Spec PyProof.Rows

/-! ### places -/
/-- the place that an index of any sign means -/
def ixN (n : Nat) (i : Int) : Option Nat := if 0 ≤ i then (if i < n then some i.toNat else none) else if -(n : Int) ≤ i then some (i + n).toNat else none
def atI {α : Type} (xs : List α) (i : Int) : Option α := (ixN xs.length i).bind fun j => xs[j]?
theorem ixN_seq {n : Nat} {i : Int} {j : Nat} (h : ixN n i = some j) : seqIndex? i n = some j ∧ j < n ∧ -(n : Int) ≤ i ∧ i < n := by
  unfold ixN at h
  by_cases h0 : 0 ≤ i
  · rw [if_pos h0] at h
    by_cases h1 : i < n
    · rw [if_pos h1] at h
      have e : i.toNat = j := Option.some.inj h
      exact ⟨by rw [seqIndex_of h0 h1, e], by omega, by omega, h1⟩
    · rw [if_neg h1] at h; cases h
  · rw [if_neg h0] at h
    by_cases h1 : -(n : Int) ≤ i
    · rw [if_pos h1] at h
      have e : (i + n).toNat = j := Option.some.inj h
      exact ⟨by rw [seqIndex_neg (by omega) h1, e], by omega, h1, by omega⟩
    · rw [if_neg h1] at h; cases h
theorem atI_get {α : Type} {xs : List α} {i : Int} {v : α} (h : atI xs i = some v) : ∃ j, seqIndex? i xs.length = some j ∧ xs[j]? = some v ∧ j < xs.length ∧ -(xs.length : Int) ≤ i ∧ i < xs.length := by
  unfold atI at h
  cases e : ixN xs.length i with
  | none => rw [e] at h; cases h
  | some j =>
    rw [e] at h
    obtain ⟨h1, h2, h3, h4⟩ := ixN_seq e
    exact ⟨j, h1, h, h2, h3, h4⟩
theorem atI_nat {α : Type} {xs : List α} {j : Nat} {v : α} (h : xs[j]? = some v) : atI xs (j : Int) = some v := by
  have hj : j < xs.length := (List.getElem?_eq_some_iff.mp h).1
  have e : ixN xs.length (j : Int) = some j := by
    unfold ixN
    rw [if_pos (by omega), if_pos (by omega)]; simp
  unfold atI; rw [e]; exact h
/-! ### what may be subscripted -/
/-- what stands as an index of a plain subscript -/
def PlainIx (b : Expr) : Prop := ∀ o i, subscripted b false o i = operate [o, i] (getItem o i)
/-- a subscript by values -/
def IxR (X : Cx) (r : R2) : Prop :=
  ∀ (value slice : Expr) (pins : List (Addr × Obj)) (s : Shared) (σ : St) (H : Hp) (x y : V) (v u : Value) (Q : VK), Inv X pins σ H s → RelV x v → RelV y u → r x y H Q →
    subscripted slice false v u = operate [v, u] (getItem v u) → wpAny (model X.prog X.w) X.A (subscriptTail value slice v u) (EP X pins σ Q) X.xe s
/-- a call of a builtin's method by values: the receiver, the arguments -/
def MtR (X : Cx) (id : String) (r : V → List V → Hp → VK → Prop) : Prop :=
  ∀ (pins : List (Addr × Obj)) (s : Shared) (σ : St) (H : Hp) (x : V) (xs : List V) (v : Value) (us : List Value) (Q : VK), Inv X pins σ H s → RelV x v → Vals xs us → r x xs H Q →
    wpAny (model X.prog X.w) X.A (call (.builtin id) (v :: us)) (EP X pins σ Q) X.xe s
section
variable {X : Cx} {a b : Expr} {ta tb : TE} {pos : Pos}
theorem IxR.or {r r' : R2} (h : IxR X r) (h' : IxR X r') : IxR X (fun x y H Q => r x y H Q ∨ r' x y H Q) := by
  intro value slice pins s σ H x y v u Q I rx ry q hs
  rcases q with q | q
  · exact h value slice pins s σ H x y v u Q I rx ry q hs
  · exact h' value slice pins s σ H x y v u Q I rx ry q hs
theorem MtR.or {id : String} {r r' : V → List V → Hp → VK → Prop} (h : MtR X id r) (h' : MtR X id r') : MtR X id (fun x xs H Q => r x xs H Q ∨ r' x xs H Q) := by
  intro pins s σ H x xs v us Q I rx rs q
  rcases q with q | q
  · exact h pins s σ H x xs v us Q I rx rs q
  · exact h' pins s σ H x xs v us Q I rx rs q
/-- a[b] -/
theorem pe_ix {r : R2} (hr : IxR X r) (ha : PE X a ta) (hb : PE X b tb) (hs : PlainIx b) : PE X (.Subscript a b pos) (tOp r ta tb) := by
  intro pins s σ H Q I h
  exact Subscript_ (binT ha hb I h fun v u s2 x y H2 I2 rx ry q => hr a b pins s2 σ H2 x y v u Q I2 rx ry q (hs _ _))

def rIxL (K : PySem.W.Frag) : R2 := fun x y H Q => ∃ p xs i v, x = .ref p ∧ y = .int i ∧ SqL K H p xs ∧ atI xs i = some v ∧ Q v H
def rIxT (K : PySem.W.Frag) : R2 := fun x y H Q => ∃ p xs i v, x = .ref p ∧ y = .int i ∧ SqT K H p xs ∧ atI xs i = some v ∧ Q v H
def rIxS : R2 := fun x y H Q => ∃ z i c, x = .str z ∧ y = .int i ∧ z.length ≤ sizeLine ∧ atI z.cps.toList i = some c ∧ Q (.str ⟨#[c]⟩) H
theorem ix_list : IxR X (rIxL X.K) := by
  intro value slice pins s σ H x y v u Q I rx ry h hs
  obtain ⟨p, xs, i, z, rfl, rfl, hq, he, q⟩ := h
  cases rx
  obtain ⟨t, rfl⟩ := ry
  obtain ⟨its, r, pl, hz⟩ := I.list hq
  obtain ⟨j, h1, h2, h3, h4, h5⟩ := atI_get he
  obtain ⟨w, ew, rw'⟩ := r.get h2
  have hl := r.length
  have hn := line63
  have fin : EP X pins σ Q w s := ⟨z, H, I, rw', q⟩
  by_cases h0 : 0 ≤ i
  · have hj : i.toNat = j := by
      rw [seqIndex_of h0 h5] at h1
      exact Option.some.inj h1
    exact item_listR pl.isList h0 (by omega) (by rw [hj]; simpa using ew) fin hs
  · have hj : (i + (its.toArray.size : Int)).toNat = j := by
      rw [seqIndex_neg (by omega) h4] at h1
      rw [List.size_toArray, ← hl]
      exact Option.some.inj h1
    exact subscriptTail_builtinR (x := w) pl.isList.typeIs slot_list_getitem.lookup
      (wpAny_getItem_list_neg (Q := fun r s' => r = w ∧ EP X pins σ Q r s') pl.isList (by omega) (by rw [List.size_toArray] <;> omega) (by omega) (by rw [hj]; simpa using ew) ⟨rfl, fin⟩) hs
theorem ix_tup : IxR X (rIxT X.K) := by
  intro value slice pins s σ H x y v u Q I rx ry h hs
  obtain ⟨p, xs, i, z, rfl, rfl, hq, he, q⟩ := h
  cases rx
  obtain ⟨t, rfl⟩ := ry
  obtain ⟨its, r, pl, hz⟩ := I.tuple hq
  obtain ⟨j, h1, h2, h3, h4, h5⟩ := atI_get he
  obtain ⟨w, ew, rw'⟩ := r.get h2
  have hl := r.length
  have hn := line63
  have fin : EP X pins σ Q w s := ⟨z, H, I, rw', q⟩
  exact subscriptTail_builtinR (x := w) pl.typeIs slot_tuple_getitem.lookup
    (getItem_tuple (j := j) (Q := fun r s' => r = w ∧ EP X pins σ Q r s') pl (by omega) (by omega) (by rw [List.size_toArray, ← hl]; exact h1) (by simpa using ew) ⟨rfl, fin⟩) hs
/-- list, tuple or str -/
def rIx (K : PySem.W.Frag) : R2 := fun x y H Q => rIxL K x y H Q ∨ rIxT K x y H Q ∨ rIxS x y H Q
/-! ### xs[i] = v, any sign -/
theorem Inv.lst {pins : List (Addr × Obj)} {σ : St} {H : Hp} {s : Shared} {p : Addr} {xs : List V} (I : Inv X pins σ H s) (h : H p = some (.lst xs)) :
    ∃ (its : List Value) (n : Nat), Vals xs its ∧ s.heap.get? p = some { cls := .type "list", data := .seq its.toArray n } ∧ xs.length ≤ sizeLine := by
  obtain ⟨z, its, n, r, e⟩ := I.hok p _ h
  exact ⟨its, n, r, e, z⟩
def rSetL : V → V → V → Hp → (Hp → Prop) → Prop := fun o i v H Q => ∃ p xs k j, o = .ref p ∧ i = .int k ∧ H p = some (.lst xs) ∧ ixN xs.length k = some j ∧ Q (upd H p (.lst (xs.set j v)))
/-! ### slices -/
/-- xs[lo:hi] of a list: a new list -/
def rSlL (K : PySem.W.Frag) : V → Option Int → Option Int → Hp → VK → Prop := fun x lo hi H Q => ∃ a xs, x = .ref a ∧ SqL K H a xs ∧ ∀ p, H p = none → Q (.ref p) (upd H p (.lst (cutV xs lo hi)))
/-! ### in, not in: flat items -/
def flatV : V → Bool
  | .non => true
  | .bl _ => true
  | .int _ => true
  | .str _ => true
  | _ => false
/-- == of flat values -/
def eqV : V → V → Bool
  | .non, .non => true
  | .bl a, .bl b => a == b
  | .bl a, .int b => (if a then 1 else 0) == b
  | .int a, .bl b => a == (if b then 1 else 0)
  | .int a, .int b => a == b
  | .str a, .str b => a == b
  | _, _ => false
theorem eqAt_V {A : Around} {s : Shared} {y x : V} {u v : Value} (ry : RelV y u) (rx : RelV x v) (fy : flatV y = true) (fx : flatV x = true) : SeqAt.EqAt A s u v (eqV y x) := by
  cases y with
  | non =>
    cases ry
    cases x with
    | non => cases rx; exact SeqAt.EqAt.same _
    | bl b => cases rx; exact SeqAt.EqAt.none_bool b
    | int b => obtain ⟨t, rfl⟩ := rx; exact SeqAt.EqAt.none_int b t
    | str b => obtain ⟨t, rfl⟩ := rx; exact SeqAt.EqAt.none_str b t
    | _ => exact absurd (show false = true from fx) Bool.false_ne_true
  | bl a =>
    cases ry
    cases x with
    | non => cases rx; exact SeqAt.EqAt.bool_none a
    | bl b => cases rx; exact SeqAt.EqAt.bool_bool a b
    | int b => obtain ⟨t, rfl⟩ := rx; exact SeqAt.EqAt.bool_int a b t
    | str b => obtain ⟨t, rfl⟩ := rx; exact SeqAt.EqAt.bool_str a b t
    | _ => exact absurd (show false = true from fx) Bool.false_ne_true
  | int a =>
    obtain ⟨t', rfl⟩ := ry
    cases x with
    | non => cases rx; exact SeqAt.EqAt.int_none a t'
    | bl b => cases rx; exact SeqAt.EqAt.int_bool a t' b
    | int b => obtain ⟨t, rfl⟩ := rx; exact SeqAt.EqAt.int_int a t' b t
    | str b => obtain ⟨t, rfl⟩ := rx; exact SeqAt.EqAt.int_str a t' b t
    | _ => exact absurd (show false = true from fx) Bool.false_ne_true
  | str a =>
    obtain ⟨t', rfl⟩ := ry
    cases x with
    | non => cases rx; exact SeqAt.EqAt.str_none a t'
    | bl b => cases rx; exact SeqAt.EqAt.str_bool a t' b
    | int b => obtain ⟨t, rfl⟩ := rx; exact SeqAt.EqAt.str_int a t' b t
    | str b => obtain ⟨t, rfl⟩ := rx; exact SeqAt.EqAt.str_str a t' b t
    | _ => exact absurd (show false = true from fx) Bool.false_ne_true
  | _ => exact absurd (show false = true from fy) Bool.false_ne_true
/-- the items' answers, read off the values (a value's own answer does not lean on its token) -/
def eqU (x : V) (u : Value) : Bool := match u with
  | .none => eqV .non x
  | .bool b => eqV (.bl b) x
  | .int i _ => eqV (.int i) x
  | .str z _ => eqV (.str z) x
  | _ => false
theorem eqU_of {x y : V} {u : Value} (r : RelV y u) (f : flatV y = true) : eqU x u = eqV y x := by
  cases y with
  | non => cases r; rfl
  | bl b => cases r; rfl
  | int i => obtain ⟨t, rfl⟩ := r; rfl
  | str z => obtain ⟨t, rfl⟩ := r; rfl
  | _ => exact absurd (show false = true from f) Bool.false_ne_true
theorem any_eqU {x : V} : ∀ {xs : List V} {us : List Value}, Vals xs us → xs.all flatV = true → us.any (eqU x) = xs.any fun y => eqV y x
  | _, _, .nil, _ => rfl
  | y :: xs, u :: us, .cons r t, f => by
    rw [List.all_cons, Bool.and_eq_true] at f
    rw [List.any_cons, List.any_cons, eqU_of r f.1, any_eqU t f.2]
theorem mem_eqAt {A : Around} {s : Shared} {x : V} {v : Value} (rx : RelV x v) (fx : flatV x = true) : ∀ {xs : List V} {us : List Value}, Vals xs us → xs.all flatV = true → ∀ u ∈ us, SeqAt.EqAt A s u v (eqU x u)
  | _, _, .nil, _ => fun u hu => by cases hu
  | y :: xs, u :: us, .cons r t, f => fun u' hu => by
    rw [List.all_cons, Bool.and_eq_true] at f
    rcases List.mem_cons.mp hu with rfl | hu
    · rw [eqU_of r f.1]; exact eqAt_V r rx f.1 fx
    · exact mem_eqAt rx fx t f.2 u' hu
def inV (x : V) (xs : List V) : Bool := xs.any fun y => eqV y x
/-- x in a list or tuple of flat items -/
def rIn (K : PySem.W.Frag) (neg : Bool) : R2 := fun x y H Q => ∃ p xs, y = .ref p ∧ (SqL K H p xs ∨ SqT K H p xs) ∧ flatV x = true ∧ xs.all flatV = true ∧ Q (.bl (if neg then !inV x xs else inV x xs)) H
theorem op_in_seq : OpR X (compareOp .In) (rIn X.K false) := by
  intro pins s σ H x y v u Q I rx ry h
  obtain ⟨p, xs, rfl, hq, fx, fs, q⟩ := h
  cases ry
  rcases hq with hq | hq
  · obtain ⟨its, r, pl, hz⟩ := I.list hq
    refine SeqAt.in_listAt (eqU x) pl.isList (fun w hw => mem_eqAt rx fx r fs w (by simpa using hw)) ⟨.bl _, H, I, rfl, ?_⟩
    rw [show its.toArray.any (eqU x) = its.any (eqU x) by simp, any_eqU r fs]
    exact q
  · obtain ⟨its, r, pl, hz⟩ := I.tuple hq
    refine SeqAt.in_tupleAt (eqU x) pl (fun w hw => mem_eqAt rx fx r fs w (by simpa using hw)) ⟨.bl _, H, I, rfl, ?_⟩
    rw [show its.toArray.any (eqU x) = its.any (eqU x) by simp, any_eqU r fs]
    exact q
/-! ### len, list(x), tuple(x) of any list or tuple that is read -/
theorem CallR.or {f : Value} {r r' : List V → Hp → VK → Prop} (h : CallR X f r) (h' : CallR X f r') : CallR X f (fun xs H Q => r xs H Q ∨ r' xs H Q) := by
  intro pins s σ H xs us Q I rs q
  rcases q with q | q
  · exact h pins s σ H xs us Q I rs q
  · exact h' pins s σ H xs us Q I rs q
/-! ### the call of a builtin's method: o.m(..) -/
/-- the value is of that builtin type -/
def tyV (K : PySem.W.Frag) (T : String) (x : V) (H : Hp) : Prop := match x with
  | .str _ => T = "str"
  | .int _ => T = "int"
  | .ref p => (T = "list" ∧ ∃ xs, SqL K H p xs) ∨ (T = "tuple" ∧ ∃ o, K.lookup p = some o ∧ o.cls = .type "tuple" ∧ o.dict = none) ∨
      (T = "dict" ∧ ((∃ kvs, H p = some (.dK kvs)) ∨ ∃ kvs, H p = some (.dT kvs))) ∨ (T = "set" ∧ ∃ S n, H p = some (.set S n))
  | _ => False
theorem tyV_is {pins : List (Addr × Obj)} {σ : St} {H : Hp} {s : Shared} {T : String} {x : V} {v : Value} (I : Inv X pins σ H s) (r : RelV x v) (ty : tyV X.K T x H) :
    s.TypeIs v T ∧ ∀ a, v = .ref a → ∃ ob, s.heap.get? a = some ob ∧ ob.dict = none := by
  cases x with
  | str z =>
    obtain ⟨t, rfl⟩ := r
    cases (show T = "str" from ty)
    exact ⟨typeIs_str s z t, fun _ e => nomatch e⟩
  | int i =>
    obtain ⟨t, rfl⟩ := r
    cases (show T = "int" from ty)
    exact ⟨typeIs_int s i t, fun _ e => nomatch e⟩
  | ref p =>
    cases r
    rcases ty with ⟨rfl, xs, hq⟩ | ⟨rfl, o, hk, hc, hd⟩ | ⟨rfl, hk⟩ | ⟨rfl, S, n, hk⟩
    · obtain ⟨its, _, pl, _⟩ := I.list hq
      refine ⟨pl.isList.typeIs, fun a e => ?_⟩
      cases e
      obtain ⟨o, n, e, c, hd, _⟩ := pl
      exact ⟨o, e, hd⟩
    · refine ⟨⟨o, I.kIn p o hk, hc⟩, fun a e => ?_⟩
      cases e
      exact ⟨o, I.kIn _ o hk, hd⟩
    · have z : ∃ o, s.heap.get? p = some o ∧ o.ExactDict := by
        rcases hk with ⟨kvs, hk⟩ | ⟨kvs, hk⟩
        · obtain ⟨_, _, _, _, o, _, _, e, ex, _⟩ := I.hok p _ hk
          exact ⟨o, e, ex⟩
        · obtain ⟨_, _, _, _, o, _, _, e, ex, _⟩ := I.hok p _ hk
          exact ⟨o, e, ex⟩
      obtain ⟨o, e, ex⟩ := z
      refine ⟨⟨o, e, ex.1⟩, fun a e2 => ?_⟩
      cases e2
      exact ⟨o, e, ex.2.1⟩
    · obtain ⟨o, _, _, _, e, ex, _⟩ := I.hok p _ hk
      refine ⟨⟨o, e, ex.1⟩, fun a e2 => ?_⟩
      cases e2
      exact ⟨o, e, ex.2.1⟩
  | _ => exact False.elim ty
def tBM0 (K : PySem.W.Frag) (T : String) (r : V → List V → Hp → VK → Prop) (to : TE) : TE := fun σ H Q => to σ H fun x H1 => tyV K T x H1 ∧ r x [] H1 Q
def tBM (K : PySem.W.Frag) (T : String) (r : V → List V → Hp → VK → Prop) (to : TE) (t : TA) : TE := fun σ H Q => to σ H fun x H1 => tyV K T x H1 ∧ t σ H1 fun xs H2 => r x xs H2 Q
variable {o e : Expr} {es : List Expr} {to : TE} {t : TA} {name : Str} {apos cpos : Pos} {T id : String} {r : V → List V → Hp → VK → Prop}
theorem pe_bm (pa : PlainAttrs T) (slot : Slot T name id) (hty : typeOf (.builtin id) = pure (.type "method_descriptor")) (hm : MtR X id r) (ho : PE X o to) (ha : PA X (e :: es) t)
    (hbase : attributeBase o name X.env (eval o X.env) = eval o X.env := by rfl)
    (hfew : ((backTo cpos (starEach (e :: es) X.env)).all (fun x => !x.1) && (backToKw cpos (keywordEach [] X.env)).all (fun x => x.1.isSome)
      && decide ((e :: es).length + ([] : List Keyword).length + (if ([] : List Keyword).isEmpty then 0 else 1) < 30)) = true := by rfl)
    (hline : (apos.endLine == cpos.line) = true := by rfl) (hs : starEach (e :: es) X.env = (false, eval e X.env) :: starEach es X.env := by rfl) (hplain : (backTo cpos (starEach es X.env)).any (·.1) = false := by rfl) :
    PE X (.Call (.Attribute o name apos) (e :: es) [] cpos) (tBM X.K T r to t) := by
  intro pins s σ H Q I h
  refine wpAny_Call_method_late hbase hfew hline rfl (thn (ho pins s σ H _ I h) fun v s1 ⟨x, H1, I1, r1, ty, q1⟩ => ?_)
  obtain ⟨h1, h2⟩ := tyV_is I1 r1 ty
  refine ⟨T, id, pa, slot, hty, h1, h2, ?_⟩
  have hA := ha cpos pins s1 σ H1 _ I1 q1
  rw [hs] at hA ⊢
  refine Calls.callWith_builtin (by show (false || (backTo cpos (starEach es X.env)).any (·.1)) = false; rw [hplain] <;> rfl) (Calls.evalArgs_plain ?_)
  exact thn hA fun us s2 ⟨vs, H2, I2, r2, q2⟩ => hm pins s2 σ H2 x vs v us Q I2 r1 r2 q2
/- xs.append(e), list.index on a module's tuple .. are MtR facts of 06m -/
end
end L2

namespace L2
open PySem PySem.Spec PyProof.Rows

def MtM (X : Cx) (id : String) (r : V → List V → Hp → VK → Prop) : Prop :=
  ∀ (pins : List (Addr × Obj)) (s : Shared) (σ : St) (H : Hp) (x : V) (xs : List V) (v : Value) (us : List Value) (Q : VK), Inv X pins σ H s → RelV x v → Vals xs us → r x xs H Q →
    wpAny (model X.prog X.w) X.A (call (.builtin id) (v :: us)) (EP X pins σ Q) X.xe s

/-! ### lists of values -/
theorem Vals.one : ∀ {x : V} {us : List Value}, Vals [x] us → ∃ u, us = [u] ∧ RelV x u
  | _, _, .cons r .nil => ⟨_, rfl, r⟩
theorem Vals.two : ∀ {x y : V} {us : List Value}, Vals [x, y] us → ∃ u v, us = [u, v] ∧ RelV x u ∧ RelV y v
  | _, _, _, .cons r (.cons q .nil) => ⟨_, _, rfl, r, q⟩
theorem Vals.zero : ∀ {us : List Value}, Vals [] us → us = []
  | _, .nil => rfl
theorem Vals.dropLast {xs : List V} {us : List Value} (h : Vals xs us) : Vals xs.dropLast us.dropLast := by
  induction h with
  | nil => exact .nil
  | cons r t ih =>
    cases t with
    | nil => exact .nil
    | cons q t' => exact .cons r ih
theorem Vals.eraseIdx : ∀ {xs : List V} {us : List Value} (i : Nat), Vals xs us → Vals (xs.eraseIdx i) (us.eraseIdx i)
  | _, _, _, .nil => .nil
  | _, _, 0, .cons _ t => t
  | _, _, i + 1, .cons r t => .cons r (Vals.eraseIdx i t)
theorem Vals.reverse {xs : List V} {us : List Value} (h : Vals xs us) : Vals xs.reverse us.reverse := by
  induction h with
  | nil => exact .nil
  | cons r t ih => rw [List.reverse_cons, List.reverse_cons]; exact Vals.append ih (.cons r .nil)
section
variable {X : Cx} {pins : List (Addr × Obj)} {σ : St} {H : Hp} {s : Shared} {l b : Addr} {xs ys zs : List V}

/-! ### the two steps: a tracked list is rewritten, a new list is laid -/
theorem Inv.lset {its its' : List Value} {n : Nat} {f : Array Value → Array Value} {t' : Nat} (I : Inv X pins σ H s) (hH : H l = some (.lst xs))
    (e : s.heap.get? l = some { cls := .type "list", data := .seq its.toArray n }) (hf : f its.toArray = its'.toArray) (hv : Vals ys its') (hz : ys.length ≤ sizeLine) :
    Inv X pins σ (upd H l (.lst ys)) { s with heap := s.heap.update l (Obj.mapSeq f), toks := t' } := by
  have q := PySem.IsL.update e f
  rw [hf] at q
  refine I.write (x := l) (e := l) (by rw [hH]; exact trivial) (.inl rfl) (fun b' u hb hu => (Heap.get?_update_other s.heap (Obj.mapSeq f) (Ne.symm hb)).trans hu) ⟨_, q⟩ ?_
  exact ⟨hz, its', _, hv, q⟩
theorem Inv.lnew {its : List Value} {t' : Nat} (I : Inv X pins σ H s) (hv : Vals ys its) (hz : ys.length ≤ sizeLine) :
    Inv X pins σ (upd H s.heap.objs.size (.lst ys)) { s with heap := s.heap.push { cls := .type "list", data := .seq its.toArray }, toks := t' } :=
  I.laid (fun _ _ q => Heap.get?_push_of_some _ q) (Nat.le_refl _) ⟨hz, its, 0, hv, Heap.get?_push_size _ rfl⟩
theorem Inv.fresh (I : Inv X pins σ H s) : H s.heap.objs.size = none := I.hok.fresh (Nat.le_refl _)
theorem Inv.lstM (I : Inv X pins σ H s) (hH : H l = some (.lst xs)) : xs.length ≤ sizeLine ∧ ∃ (its : List Value) (n : Nat), Vals xs its ∧ xs.length = its.length ∧ s.heap.get? l = some { cls := .type "list", data := .seq its.toArray n } := by
  obtain ⟨z, its, n, r, e⟩ := I.hok l _ hH
  exact ⟨z, its, n, r, r.length, e⟩

end

section
variable {X : Cx}

/-! ### methods -/
def rAppend : V → List V → Hp → VK → Prop := fun x vs H Q => ∃ l xs y, x = .ref l ∧ vs = [y] ∧ H l = some (.lst xs) ∧ xs.length < sizeLine ∧ Q .non (upd H l (.lst (xs ++ [y])))
theorem mt_append : MtM X "list.append" rAppend := by
  intro pins s σ H x vs v us Q I rx rv h
  obtain ⟨l, xs, y, rfl, rfl, hH, hz, q⟩ := h
  cases rx
  obtain ⟨u, rfl, ru⟩ := rv.one
  obtain ⟨z, its, n, r, hl, e⟩ := I.lstM hH
  refine call_meets F.slot_list_append ⟨_, e, rfl⟩ F.entry_list_append (F.args_list_append_2 _ _) (PySem.list_append l its.toArray n u (by rw [List.size_toArray]; omega)) ⟨e, ?_⟩
  refine ⟨.non, _, I.lset (its' := its ++ [u]) hH e (by simp) (r.append (.cons ru .nil)) ?_, rfl, q⟩
  rw [List.length_append, List.length_singleton]
  omega

def rExtend : V → List V → Hp → VK → Prop := fun x vs H Q => ∃ l b xs zs, x = .ref l ∧ vs = [.ref b] ∧ H l = some (.lst xs) ∧ H b = some (.lst zs) ∧ xs.length + zs.length ≤ sizeLine ∧ Q .non (upd H l (.lst (xs ++ zs)))
def rPop : V → List V → Hp → VK → Prop := fun x vs H Q => ∃ l xs y, x = .ref l ∧ vs = [] ∧ H l = some (.lst xs) ∧ xs[xs.length - 1]? = some y ∧ Q y (upd H l (.lst xs.dropLast))
def rPopAt : V → List V → Hp → VK → Prop := fun x vs H Q => ∃ l xs i k y, x = .ref l ∧ vs = [.int i] ∧ H l = some (.lst xs) ∧ -(2 ^ 63) ≤ i ∧ i < 2 ^ 63 ∧ seqIndex? i xs.length = some k ∧ xs[k]? = some y ∧ Q y (upd H l (.lst (xs.eraseIdx k)))
def rReverse : V → List V → Hp → VK → Prop := fun x vs H Q => ∃ l xs, x = .ref l ∧ vs = [] ∧ H l = some (.lst xs) ∧ Q .non (upd H l (.lst xs.reverse))
def rClear : V → List V → Hp → VK → Prop := fun x vs H Q => ∃ l xs, x = .ref l ∧ vs = [] ∧ H l = some (.lst xs) ∧ Q .non (upd H l (.lst []))
/-! ### list + list, list += list, list * int -/
def rCat : R2 := fun x y H Q => ∃ l b xs zs, x = .ref l ∧ y = .ref b ∧ H l = some (.lst xs) ∧ H b = some (.lst zs) ∧ xs.length + zs.length ≤ sizeLine ∧ ∀ p, H p = none → Q (.ref p) (upd H p (.lst (xs ++ zs)))
/-- a list times an int (a negative one is nothing) -/
def rRep : R2 := fun x y H Q => ∃ l k xs, x = .ref l ∧ y = .int k ∧ H l = some (.lst xs) ∧ -(2 ^ 63) ≤ k ∧ k < 2 ^ 63 ∧ xs.length * k.toNat ≤ sizeLine ∧
  ∀ p, H p = none → Q (.ref p) (upd H p (.lst (List.replicate k.toNat xs).flatten))
/-! ### del xs[i] -/
end

/-! ### xs[a:b] = ys -/
section
variable {prog : Program} {w : World} {A : Around} {E : Value → Shared → Prop} {s : Shared}
set_option maxRecDepth 100000 in
end

section
variable {X : Cx}
end
end L2

namespace Att
open PySem PySem.W PySem.Calls PyProof.Rows

/-! ### the script -/
theorem ints_of_wellAll {P : Params} {h : Heap} : ∀ (ns : List Int) (vs : List Value), WellAll P h vs (ns.map WData.int) → IntsAre vs ns := by
  intro ns
  induction ns with
  | nil =>
    intro vs w
    rw [List.map_nil] at w
    cases w
    exact .nil
  | cons n ns ih =>
    intro vs w
    rw [List.map_cons] at w
    cases w with
    | cons a b =>
      cases a
      exact .cons _ _ (ih _ b)

theorem script_of {l : OpenLaw} {n : Nat} (hn : l.most = some n) {P : Params} {h : Heap} {args : List WData} {vals : List Value}
    (hpre : l.row.toRowW.claim.pre args = true) (hwl : WellAll P h vals args) :
    ∃ a vs ns, vals = [Value.ref a] ∧ args = [WData.list (ns.map WData.int)] ∧ h.get? a = some { cls := .type "list", data := .seq vs.toArray } ∧ IntsAre vs ns ∧ ns.length ≤ n := by
  have hsh : WShape.hasAll [] args [.list .int] = true := (pre_splitW hpre).1
  have hc : l.pre.holds [] { args := args } = true := (pre_splitW hpre).2
  obtain ⟨d, r, rfl, h1, h2⟩ := hasAllW_cons hsh
  obtain rfl := hasAllW_nil h2
  obtain ⟨xs, rfl, h3⟩ := hasW_list h1
  obtain ⟨ns, rfl⟩ := items_int h3
  have hlen : ns.length ≤ n := by
    unfold OpenLaw.pre at hc
    have h4 : (WTm.not (.lt (.lit (.int (n : Int))) (.len (.arg 0)))).holds [] { args := [.list (ns.map .int)] } = true := by
      have h4 := (holds_andW hc).1
      rw [hn] at h4
      exact h4
    have h5 := condW_of h4 (w_not (w_lt w_lit (w_len_list (w_arg rfl))))
    rw [List.length_map] at h5
    refine Nat.le_of_not_lt fun q => ?_
    have q' : (n : Int) < ((ns.length : Nat) : Int) := by omega
    first
      | (rw [decide_eq_true q'] at h5; exact absurd h5 (by decide))
      | (simp at h5; omega)
  cases hwl with
  | cons w1 w2 =>
    cases w2
    cases w1 with
    | list ho hall => exact ⟨_, _, ns, rfl, rfl, ho, ints_of_wellAll ns _ hall, hlen⟩

theorem post_true (l : OpenLaw) (args : List WData) : l.row.toRowW.claim.post args (.bool true) args = true :=
  postW_of (r := l.row.toRowW) (X := (true == true))
    (show WShape.has [] (.bool true) .bool = true by first | rfl | decide | simp [WShape.has, WShape.arms, WShape.armsAll])
    (show (WTm.eq .res (.lit (.bool true))).value [] { args := args, res := some (.bool true), after := args } = some (.bool (true == true)) from w_eq_bool (w_res rfl) w_lit) rfl

/-! ### the attachment: holds_open's last premise (the goal 'hc' behind k_head) from a wpAny of the law's body -/
/-- the same from a codeAny of the CALL (for a layer whose function contracts speak of calls) -/
theorem attach_call {l : OpenLaw} {n : Nat} {q : Program} {loose : List Str} {XP : (Str → Option Value) → Heap → Prop} {YP : World → Heap → Prop} {d : DefRec}
    (hn : l.most = some n) (hdf : d.params.defaults = [])
    (call : ∀ (w : World) (s₀ s₁ : Shared) (mg mb : Str → Option Value) (fa : Addr) (o : Obj) (pm cd doc : Value) (a : Addr) (vs : List Value) (ns : List Int),
      Ground q loose [] XP w s₀ mg mb s₁.heap → YP w s₁.heap →
      s₁.heap.get? fa = some o → o.data = .func (docDef d.name d.params d.body d.scope pm cd doc) → s₁.heap.CodeRec cd d.name → mg d.name = some (.ref fa) →
      s₁.heap.get? a = some { cls := .type "list", data := .seq vs.toArray } → IntsAre vs ns → ns.length ≤ n → s₁.gens = #[] →
      codeAny (model l.prog w) callerA (.call (.ref fa) ⟨[.ref a], []⟩) (fun r s' => r = .ok (.ret (.bool true)) ∧ OldK s₁.heap s'.heap ∧ s'.os = s₁.os ∧ AllBare s'.gens) s₁) :
    WalkO q loose XP YP l.row.toRowW d [] (fun f vs => PySem.call f vs) := by
  intro w s₀ s₁ mg mb G Y fa o pm cd doc dV kV ho hd hcd hD hmg hg args vals as hpre hlay hrd hwl hlo
  obtain rfl : dV = .none := Dflts.none hD hdf
  obtain rfl : kV = .none := Dflts.noKw hD
  obtain ⟨a, vs, ns, rfl, rfl, hobj, hints, hlen⟩ := script_of hn hpre hwl
  refine enter_call (codeAny_mono (call w s₀ s₁ mg mb fa o pm cd doc a vs ns G Y ho (fd_plain hd) hcd hmg hobj hints hlen hg) fun r s' hq => ?_)
  obtain ⟨rfl, h2, h3, h4⟩ := hq
  exact ⟨.inl ⟨.bool true, .bool true, [], rfl, fun _ => rfl, .bool true, post_true l _, fun _ => ⟨List.Pairwise.nil, fun _ hm => (nomatch hm)⟩⟩, h2, h3, h4⟩

/-! ### rules over ANY heap (no ledger) from facts about the written part K: the library's own take a ledger (News) for what they write -/
section
variable {prog : Program} {w : World} {A : Around} {E : Value → Shared → Prop} {s : Shared} {K : Frag}

/-! the whole heap as the ledger: makes every rule that writes through a ledger a rule over any heap -/
def noObjs (h : Heap) : Heap := { h with objs := #[] }
def ledger (h : Heap) (L d : Addr) : List (Addr × Obj) := (List.range h.objs.size).filterMap fun a => if a = L ∨ a = d then none else (h.get? a).map fun o => (a, o)
end
end Att

namespace L2
open PySem PySem.Spec PyProof.Rows

theorem vals_ints : ∀ {vs : List Value} {ns : List Int}, IntsAre vs ns → Vals (ns.map V.int) vs
  | _, _, .nil => .nil
  | _, _, .cons n t h => .cons ⟨t, rfl⟩ (vals_ints h)

/-- nothing is tracked but the script, known to the object (or it is an object of the module) -/
def Only (H : Hp) : Prop := ∀ b, H b = none ∨ ∃ o xs, H b = some (.frz o (.lst xs))

/-- THE HEAD: the law's promise, at the heap behind the top. F, the promise of the law's def, may use that base is part of the heap (so K.In base, base.Ns mainGlobals mg stand in Mod) -/
theorem law_call {P : Program} {w : World} {K : PySem.W.Frag} {mg mb : Str → Option Value} {CX : CXT} {k : Nat} {fa a : Addr} {fd : FuncData} {x : Str} {sp : Sp} {s₁ : Shared} {vs : List Value} {ns : List Int}
    (KX : K.In s₁.heap) (hns : s₁.heap.Ns mainGlobals mg) (hb : s₁.heap.Ns builtinsNs mb) (hbb : ∀ x : Str, x ≠ "__name__" → mb x = bootBuiltins x) (hlim : s₁.heap.NoLimit) (hg : s₁.gens = #[])
    (ha : s₁.heap.get? a = some { cls := .type "list", data := .seq vs.toArray }) (hi : IntsAre vs ns) (hl : ns.length ≤ sizeLine) (hr : Room k callerA)
    (F : ∀ base : Heap, K.In base → base.Ns mainGlobals mg → FnOk P w K mg base CX k fa fd [x] sp) (hbind : ∀ (s : Shared) (u : Value), BindsTo s fd ⟨[u], []⟩ [(x, u)])
    (hsp : ∀ H : Hp, Only H → SqL K H a (ns.map V.int) → sp [.ref a] H (fun v _ => v = .bl true) fun _ _ _ => False)
    (hCX : ∀ H e s', CX [] H s₁ (fun _ _ _ => False) e s' → False) :
    codeAny (model P w) callerA (.call (.ref fa) ⟨[.ref a], []⟩) (fun r s' => r = .ok (.ret (.bool true)) ∧ OldK s₁.heap s'.heap ∧ s'.os = s₁.os ∧ AllBare s'.gens) s₁ := by
  have rv := vals_ints hi
  have lenV := hi.length
  -- from an abstract heap in which nothing but the script may be tracked
  have core : ∀ H : Hp, Only H → SqL K H a (ns.map V.int) → HOk P w H s₁.heap → (∀ b, H b ≠ none → b = a) → (H a ≠ none → K.lookup a = none) →
      codeAny (model P w) callerA (.call (.ref fa) ⟨[.ref a], []⟩) (fun r s' => r = .ok (.ret (.bool true)) ∧ OldK s₁.heap s'.heap ∧ s'.os = s₁.os ∧ AllBare s'.gens) s₁ := by
    intro H hO hS hok hA hK
    have base_of : ∀ {b : Addr} {o : Obj}, s₁.heap.get? b = some o → H b = none → (hidT s₁.heap H).get? b = some o := fun e n => hidT_get e n
    have noA : ∀ {b : Addr} {o : Obj} {es : Array DictEntry} {ep : Nat}, s₁.heap.get? b = some o → o.data = .dict es ep → H b = none := fun {b o es ep} e d => by
      cases q : H b with
      | none => rfl
      | some u =>
        have e' : b = a := hA b (by rw [q]; simp)
        subst e'
        rw [ha] at e; cases e
        have d' : Data.seq vs.toArray _ = Data.dict es ep := d
        cases d'
    have nsK : ∀ {b : Addr} {m : Str → Option Value}, s₁.heap.Ns b m → (hidT s₁.heap H).Ns b m := fun {b m} ⟨o, es, ep, e, d, r⟩ => ⟨o, es, ep, base_of e (noA e d), d, r⟩
    have hKb : K.In (hidT s₁.heap H) := fun b o e => base_of (KX b o e) (by
      cases q : H b with
      | none => rfl
      | some u =>
        have e' : b = a := hA b (by rw [q]; simp)
        subst e'
        rw [hK (by rw [q]; simp)] at e; cases e)
    have hM : Mod K mg (hidT s₁.heap H) := ⟨hKb, nsK hns, ⟨mb, nsK hb, hbb⟩, let ⟨mc, h1, h2⟩ := hlim; ⟨mc, nsK h1, h2⟩⟩
    have e0 : Env0 P w K mg (hidT s₁.heap H) callerA [] s₁ H := ⟨rfl, hM, fun b o e => of_hidT e, Nat.le_of_eq (hidT_size _ _), trivial, fun b hb => absurd (show b ∈ ([] : List Addr) from hb) (by simp), hok, .of_eq hg⟩
    refine codeAny_mono ((F _ hKb (nsK hns)).run callerA [] s₁ H ⟨[.ref a], []⟩ [.ref a] [.ref a] _ _ hr e0 (hbind s₁ (.ref a)) (.cons rfl .nil) (hsp H hO hS)) fun r s' h => ?_
    cases r with
    | error e => exact (hCX H e s' h).elim
    | ok fl =>
      cases fl with
      | next => exact False.elim h
      | brk => exact False.elim h
      | cont => exact False.elim h
      | ret u =>
        obtain ⟨v, H', os, bare, un, hok', r', q⟩ := h
        have q' : v = .bl true := q
        subst q'
        obtain rfl : u = Value.bool true := r'
        refine ⟨rfl, OldK.of_keep fun b o e => ?_, os, bare⟩
        cases q : H b with
        | none => exact un.keep b o e q (by intro z; exact absurd (show b ∈ ([] : List Addr) from z) (by simp)) (by simp)
        | some u =>
          rcases hO b with z | ⟨ob, xs, z⟩
          · rw [q] at z; cases z
          · have z2 := un.frzs b ob _ z
            obtain ⟨e1, _⟩ := hok b _ z
            obtain ⟨e2, _⟩ := hok' b _ z2
            rw [e] at e1; cases e1
            exact e2
  cases hk : K.lookup a with
  | some o =>
    -- the script is one of the module's own objects
    have e := KX a o hk
    rw [ha] at e
    cases e
    refine core (fun _ => none) (fun _ => .inl rfl) (.inr ⟨_, vs.toArray, _, hk, rfl, rfl, rfl, by rw [List.size_toArray, lenV]; exact hl, by simpa using rv⟩) (fun b u z => by have z' : (none : Option HO) = some u := z; cases z') (fun b z => absurd rfl z) fun z => absurd rfl z
  | none =>
    refine core (fun b => if b = a then some (.frz { cls := .type "list", data := .seq vs.toArray } (.lst (ns.map V.int))) else none) (fun b => ?_) (.inl (.inr ⟨{ cls := .type "list", data := .seq vs.toArray }, if_pos rfl⟩)) (fun b u z => ?_) (fun b z => ?_) fun _ => hk
    · by_cases hb : b = a
      · exact .inr ⟨_, _, if_pos hb⟩
      · exact .inl (if_neg hb)
    · by_cases hb : b = a
      · have z' := (if_pos hb).symm.trans z
        cases z'
        subst hb
        exact ⟨ha, by rw [List.length_map]; exact hl, vs, _, rv, ha⟩
      · have z' := (if_neg hb).symm.trans z
        cases z'
    · by_cases hb : b = a
      · exact hb
      · exact absurd (if_neg hb) z
end L2

namespace L2
open PySem PySem.Spec PyProof.Rows

abbrev KOf {K : PySem.W.Frag} {h : Heap} (_ : K.In h) : PySem.W.Frag := K

/-- the goal that k_head leaves (case hc), from the law's promise. F gives the function object fd (K's own) once, then the promise over every base -/
theorem walk_of {l : PySem.W.OpenLaw} {n k : Nat} {q : Program} {loose : List Str} {XP : (Str → Option Value) → Heap → Prop} {YP : World → Heap → Prop} {d : DefRec} {K : Params → PySem.W.Frag} {CX : World → CXT} {sp : World → Sp} {x : Str}
    (hn : l.most = some n) (hn2 : n ≤ sizeLine) (hdf : d.params.defaults = []) (hr : Room k callerA)
    (hY : ∀ (w : World) (h : Heap), YP w h → (K w.params).In h)
    (F : ∀ (w : World) (mg : Str → Option Value) (fa : Addr) (h : Heap), (K w.params).In h → h.Ns mainGlobals mg → mg d.name = some (.ref fa) →
      ∃ fd : FuncData, (∀ (s : Shared) (u : Value), BindsTo s fd ⟨[u], []⟩ [(x, u)]) ∧
        ∀ base : Heap, (K w.params).In base → base.Ns mainGlobals mg → FnOk l.prog w (K w.params) mg base (CX w) k fa fd [x] (sp w))
    (hsp : ∀ (w : World) (H : Hp) (a : Addr) (ns : List Int), ns.length ≤ n → Only H → SqL (K w.params) H a (ns.map V.int) → sp w [.ref a] H (fun v _ => v = .bl true) fun _ _ _ => False)
    (hCX : ∀ (w : World) (H : Hp) (s : Shared) (e : Value) (s' : Shared), CX w [] H s (fun _ _ _ => False) e s' → False) :
    PySem.W.WalkO q loose XP YP l.row.toRowW d [] (fun f vs => PySem.call f vs) := by
  refine Att.attach_call hn hdf fun w s₀ s₁ mg mb fa o pm cd doc a vs ns G Y ho hd hcd hmg hobj hints hlen hg => ?_
  have KX := hY w _ Y
  obtain ⟨fd, hb, hF⟩ := F w mg fa _ KX G.T.g hmg
  exact law_call KX G.T.g G.T.b G.T.builtins G.T.nolimit hg hobj hints (Nat.le_trans hlen hn2) hr hF hb (fun H hO hS => hsp w H a ns hlen hO hS) fun H e s' => hCX w H s₁ e s'
end L2

/- THE LAST THEOREM (shape; LID, My.* are yours):
   My.Adr: a structure of the addresses that your layer names (classes, functions); My.Txt K t: a structure (Prop) of the equations over K;
   My.txt_mk : {K} {implicit addresses ..} (e1 : nsIn K mainGlobals "law" = some (some (.ref f))) (e2 : K.lookup f = some ⟨oc, od, .func (fnOf "law" "law" params body scope dV kV doc pm an cdv ct), sl⟩) (e3 : codeIn K cdv "law" = true) .. : ∃ t, My.Txt K t

set_option maxRecDepth 100000 in
set_option maxHeartbeats 0 in
(the tactic k_is has no namespace: write k_is) -/

/-! SHORT WORDS over the layer: a def of the text, its body, what a loop and a test want. -/
namespace L2
open PySem PySem.Spec PyProof.Rows

/-! ### the text by places -/
/-- the j-th statement of a class's body -/
def inClass (s : Stmt) (j : Nat) : Stmt := match s with
  | .ClassDef _ _ _ body _ _ _ _ _ _ _ => body.getD j (.Pass ⟨0, 0, 0, 0⟩)
  | _ => .Pass ⟨0, 0, 0, 0⟩
def defArgs (s : Stmt) : Arguments := match s with
  | .FunctionDef _ a _ _ _ _ _ _ _ _ => a
  | _ => { posonlyargs := [], args := [], vararg := none, kwonlyargs := [], kw_defaults := [], kwarg := none, defaults := [] }
def defBody (s : Stmt) : List Stmt := match s with
  | .FunctionDef _ _ b _ _ _ _ _ _ _ => b
  | _ => []
def defScope (s : Stmt) : Scope := match s with
  | .FunctionDef _ _ _ _ _ _ sc _ _ _ => sc
  | _ => { kind := .function, names := [], isGenerator := false, isCoroutine := false }

/-! ### no exception leaves a def -/
abbrev CX0 : CXT := fun _ _ _ _ _ _ => False
abbrev E0 : XK := fun _ _ _ => False
theorem pass0 {X : Cx} : Passes CX0 X E0 := fun _ _ _ _ _ _ _ h => h.elim

/-! ### a def (or method) of the text as it stands behind the top -/
structure Fun (K : PySem.W.Frag) (x qual : Str) (st : Stmt) (f : Addr) (fd : FuncData) : Prop where
  ex : ∃ (oc : Value) (od : Option Addr) (kV doc pm : Value) (an : Option Addr) (cdv ct : Value) (osl : Array (Option Value)),
    fd = PySem.W.fnOf x qual (defArgs st) (defBody st) (defScope st) .none kV doc pm an cdv ct ∧ K.lookup f = some ⟨oc, od, .func fd, osl⟩ ∧ PySem.W.codeIn K cdv qual = true
  kp : PySem.W.keepIn K (.ref f) = true
section
variable {P : Program} {w : World} {K : PySem.W.Frag} {mg : Str → Option Value} {base : Heap}
/-- THE RULE for a def: its body as a term of rules, and the reading of that term -/
theorem Fun.ok {x qual : Str} {st : Stmt} {f : Addr} {fd : FuncData} {N ps : List Str} {k : Nat} {sp : Sp} (F : Fun K x qual st f fd) (S : FnScope N ps (defScope st)) (len : ∀ vs H Q E, sp vs H Q E → vs.length = ps.length)
    (hbody : ∀ (cdv : Value) (A : Around) (outer : List Env) (s : Shared) (H : Hp) (vs : List V) (Q : VK) (E : XK), Room k (A.deeper (envOfC qual (defScope st) s.heap.objs.size f cdv)) → sp vs H Q E →
      ∃ t, PSs (cxOf CX0 P w K mg base N qual (defScope st) f cdv A outer s H E).nox (defBody st) t ∧ t { nx := fun _ H' => Q .non H', rt := Q } (start N vs) H) : FnOk P w K mg base CX0 (k + 1) f fd ps sp := by
  obtain ⟨oc, od, kV, doc, pm, an, cdv, ct, osl, rfl, lk, hcd⟩ := F.ex
  refine fn_of lk hcd S len fun A outer s H vs Q E hr hsp => ?_
  obtain ⟨t, h, q⟩ := hbody cdv A outer s H vs Q E hr hsp
  exact ⟨t, h.nox, q⟩
/-- how its arguments bind (no defaults): h is «fun _ _ _ _ _ _ us hl => match us, hl with | [_, _], _ => rfl», one _ a parameter -/
theorem Fun.binds {x qual : Str} {st : Stmt} {f : Addr} {fd : FuncData} {ps : List Str} (F : Fun K x qual st f fd)
    (h : ∀ (kV doc pm : Value) (an : Option Addr) (cdv ct : Value) (us : List Value), us.length = ps.length → bindArgs (PySem.W.fnOf x qual (defArgs st) (defBody st) (defScope st) .none kV doc pm an cdv ct) ⟨us, []⟩ = pure (ps.zip us)) : Binds K fd ps [] := by
  obtain ⟨oc, od, kV, doc, pm, an, cdv, ct, osl, rfl, lk, hcd⟩ := F.ex
  exact .all (h kV doc pm an cdv ct)
theorem fun_mk {x qual : Str} {st : Stmt} {f : Addr} {oc : Value} {od an : Option Addr} {osl : Array (Option Value)} {kV doc pm cdv ct : Value} (l : K.lookup f = some ⟨oc, od, .func (PySem.W.fnOf x qual (defArgs st) (defBody st) (defScope st) .none kV doc pm an cdv ct), osl⟩)
    (c : PySem.W.codeIn K cdv qual = true) (k : PySem.W.keepIn K (.ref f) = true) : Fun K x qual st f (PySem.W.fnOf x qual (defArgs st) (defBody st) (defScope st) .none kV doc pm an cdv ct) := ⟨⟨oc, od, kV, doc, pm, an, cdv, ct, osl, rfl, l, c⟩, k⟩
end
/-! ### expressions in short: the name that stands in the i-th slot -/
section
variable {X : Cx}
theorem pv (i : Nat) {x : Str} {pos : Pos} (hN : X.N[i]? = some x := by rfl) (hv : Vis X.env.scope x := by first | exact Or.inl rfl | exact Or.inr (Or.inl rfl) | exact Or.inr (Or.inr rfl)) (hd : (x == ("__debug__" : Str)) = false := by decide)
    (hcd : (x == ("__classdict__" : Str)) = false := by decide) : PE X (.Name x pos) (tVar i) := pe_var hN hv hd hcd
end

/-! ### tests -/
theorem iteF {A B : Prop} (h : B) : if false = true then A else B := by
  rw [if_neg Bool.false_ne_true]
  exact h
theorem iteT {A B : Prop} (h : A) : if true = true then A else B := by
  rw [if_pos rfl]
  exact h
/-! ### heaps -/
/-- all that was tracked is as it was -/
def Same (H H' : Hp) : Prop := ∀ b o, H b = some o → H' b = some o
theorem Same.refl (H : Hp) : Same H H := fun _ _ h => h
theorem Same.trans {H H1 H2 : Hp} (a : Same H H1) (b : Same H1 H2) : Same H H2 := fun c o h => b c o (a c o h)
theorem Same.free {H H' : Hp} (e : Same H H') {l : Addr} (h : H' l = Option.none) : H l = Option.none := by
  cases q : H l with
  | none => rfl
  | some o =>
    rw [e l o q] at h
    cases h
theorem Same.seq {K : PySem.W.Frag} {H H' : Hp} {a : Addr} {xs : List V} (e : Same H H') (h : SqL K H a xs) : SqL K H' a xs := by
  rcases h with (h | ⟨o, h⟩) | h
  · exact .inl (.inl (e _ _ h))
  · exact .inl (.inr ⟨o, e _ _ h⟩)
  · exact .inr h

end L2

set_option Elab.async false
set_option linter.all false
set_option maxRecDepth 100000
namespace DL
open PySem L2

/-- what a program's value is, without the heap -/
inductive D where
  | non | bl (b : Bool) | int (i : Int) | str (x : Str) | tup (xs : List D) | lst (xs : List D)

mutual
inductive Rep (K : PySem.W.Frag) (F : Hp) : V → D → Prop
  | non : Rep K F .non .non
  | bl (b : Bool) : Rep K F (.bl b) (.bl b)
  | int (i : Int) : Rep K F (.int i) (.int i)
  | str (x : Str) : Rep K F (.str x) (.str x)
  | tup {a : Addr} {vs : List V} {ds : List D} : SqT K F a vs → Reps K F vs ds → Rep K F (.ref a) (.tup ds)
  | lst {a : Addr} {vs : List V} {ds : List D} : SqL K F a vs → Reps K F vs ds → Rep K F (.ref a) (.lst ds)
inductive Reps (K : PySem.W.Frag) (F : Hp) : List V → List D → Prop
  | nil : Reps K F [] []
  | cons {v : V} {vs : List V} {d : D} {ds : List D} : Rep K F v d → Reps K F vs ds → Reps K F (v :: vs) (d :: ds)
end

theorem sqT_same {K : PySem.W.Frag} {H H' : Hp} {a : Addr} {xs : List V} (e : Same H H') (h : SqT K H a xs) : SqT K H' a xs := by
  rcases h with (h | ⟨o, h⟩) | h
  · exact .inl (.inl (e _ _ h))
  · exact .inl (.inr ⟨o, e _ _ h⟩)
  · exact .inr h

section
variable {K : PySem.W.Frag} {F F' : Hp}
mutual
theorem Rep.mono (e : Same F F') : ∀ {v : V} {d : D}, Rep K F v d → Rep K F' v d
  | _, _, .non => .non
  | _, _, .bl b => .bl b
  | _, _, .int i => .int i
  | _, _, .str x => .str x
  | _, _, .tup h r => .tup (sqT_same e h) (Reps.mono e r)
  | _, _, .lst h r => .lst (e.seq h) (Reps.mono e r)
theorem Reps.mono (e : Same F F') : ∀ {vs : List V} {ds : List D}, Reps K F vs ds → Reps K F' vs ds
  | _, _, .nil => .nil
  | _, _, .cons r t => .cons (Rep.mono e r) (Reps.mono e t)
end
theorem Reps.length : ∀ {vs : List V} {ds : List D}, Reps K F vs ds → vs.length = ds.length
  | _, _, .nil => rfl
  | _, _, .cons _ t => congrArg (· + 1) (Reps.length t)
theorem Reps.get : ∀ {vs : List V} {ds : List D} {i : Nat} {d : D}, Reps K F vs ds → ds[i]? = some d → ∃ v, vs[i]? = some v ∧ Rep K F v d
  | _, _, _, _, .nil, e => by simp at e
  | _, _, 0, _, .cons r _, e => by simp at e; subst e; exact ⟨_, rfl, r⟩
  | _, _, i + 1, d, .cons _ t, e => by
    obtain ⟨u, h1, h2⟩ := Reps.get (i := i) (d := d) t (by simpa using e)
    exact ⟨u, by simpa using h1, h2⟩
theorem Reps.get' : ∀ {vs : List V} {ds : List D} {i : Nat} {v : V}, Reps K F vs ds → vs[i]? = some v → ∃ d, ds[i]? = some d ∧ Rep K F v d
  | _, _, _, _, .nil, e => by simp at e
  | _, _, 0, _, .cons r _, e => by simp at e; subst e; exact ⟨_, rfl, r⟩
  | _, _, i + 1, d, .cons _ t, e => by
    obtain ⟨u, h1, h2⟩ := Reps.get' (i := i) (v := d) t (by simpa using e)
    exact ⟨u, by simpa using h1, h2⟩
theorem Reps.append : ∀ {vs ws : List V} {ds es : List D}, Reps K F vs ds → Reps K F ws es → Reps K F (vs ++ ws) (ds ++ es)
  | _, _, _, _, .nil, s => s
  | _, _, _, _, .cons r t, s => .cons r (Reps.append t s)
theorem Reps.ints : ∀ (ns : List Int), Reps K F (ns.map V.int) (ns.map D.int)
  | [] => .nil
  | n :: r => .cons (.int n) (Reps.ints r)
end

/-- the frozen part F grew, the heap H grew; what was not frozen of the old heap is not frozen now -/
structure Ext (F H F' H' : Hp) : Prop where
  ff : Same F F'
  fh : Same F' H'
  hh : Same H H'
  fr : ∀ b, H b ≠ none → F b = none → F' b = none
theorem Ext.refl {F H : Hp} (h : Same F H) : Ext F H F H := ⟨Same.refl F, h, Same.refl H, fun _ _ e => e⟩
theorem Ext.trans {F H F1 H1 F2 H2 : Hp} (a : Ext F H F1 H1) (b : Ext F1 H1 F2 H2) : Ext F H F2 H2 :=
  ⟨a.ff.trans b.ff, b.fh, a.hh.trans b.hh, fun c hc fc => b.fr c (fun z => by
    cases q : H c with
    | none => exact hc q
    | some o => rw [a.hh c o q] at z; cases z) (a.fr c hc fc)⟩
theorem Ext.new {F H : Hp} {p : Addr} (h : Same F H) (hp : H p = none) (o : HO) : Ext F H (upd F p o) (upd H p o) where
  ff := fun b u q => by rw [upd_ne (fun z => by subst z; rw [h _ _ q] at hp; cases hp)]; exact q
  fh := fun b u q => by
    by_cases e : b = p
    · subst e; rw [upd_same] at q ⊢; exact q
    · rw [upd_ne e] at q ⊢; exact h _ _ q
  hh := fun b u q => by rw [upd_ne (ne_of_none q hp)]; exact q
  fr := fun b hb fb => by rw [upd_ne (fun z => hb (by rw [z]; exact hp))]; exact fb
/-- an exception of the own class D lies at x -/
def ExcAt (D x : Addr) (h : Heap) : Prop := ∃ o vs, h.get? x = some o ∧ o.cls = .ref D ∧ o.data = .fields vs
/-- a thing at an address, by what is known of its object -/
structure Thing where
  φ : PySem.W.Frag → Hp → Addr → HO → Prop
  keep : ∀ {K : PySem.W.Frag} {F F' : Hp} {a : Addr} {o : HO}, Same F F' → φ K F a o → φ K F' a o
def ThgOk (t : Thing) (K : PySem.W.Frag) (F : Hp) (a : Addr) (o : HO) : Prop := t.φ K F a o
theorem ThgOk.mono {t : Thing} {K : PySem.W.Frag} {F F' : Hp} {a : Addr} {o : HO} (e : Same F F') (h : ThgOk t K F a o) : ThgOk t K F' a o := t.keep e h
inductive Slot where
  | un | val (d : D) | own (ds : List D) | exc (C : Addr) | dic (kvs : List (Int × D)) | thg (t : Thing) | bor (t : Thing)
def slot : List Slot → Nat → Slot
  | [], _ => .un
  | x :: _, 0 => x
  | _ :: r, n + 1 => slot r n
def put : List Slot → Nat → Slot → List Slot
  | [], _, _ => []
  | _ :: r, 0, y => y :: r
  | x :: r, n + 1, y => x :: put r n y
theorem put_length (y : Slot) : ∀ (c : List Slot) (i : Nat), (put c i y).length = c.length
  | [], _ => rfl
  | _ :: _, 0 => rfl
  | _ :: r, n + 1 => congrArg (· + 1) (put_length y r n)
theorem slot_put_ne (y : Slot) : ∀ (c : List Slot) (i j : Nat), i ≠ j → slot (put c i y) j = slot c j
  | [], _, _, _ => rfl
  | _ :: _, 0, 0, h => absurd rfl h
  | _ :: _, 0, _ + 1, _ => rfl
  | _ :: _, _ + 1, 0, _ => rfl
  | _ :: r, n + 1, m + 1, h => slot_put_ne y r n m (fun z => h (by rw [z]))
theorem put_slot : ∀ (c : List Slot) (i : Nat), put c i (slot c i) = c
  | [], _ => rfl
  | _ :: _, 0 => rfl
  | x :: r, n + 1 => congrArg (x :: ·) (put_slot r n)
theorem slot_put (y : Slot) : ∀ (c : List Slot) (i : Nat), i < c.length → slot (put c i y) i = y
  | [], _, h => by simp at h
  | _ :: _, 0, _ => rfl
  | _ :: r, n + 1, h => slot_put y r n (by simpa using h)

/-- a dict of ints -/
structure DRep (K : PySem.W.Frag) (F : Hp) (kv : List (Key × V)) (kvs : List (Int × D)) : Prop where
  ks : kv.map (·.1) = kvs.map fun q => Sum.inl q.1
  vs : Reps K F (kv.map (·.2)) (kvs.map (·.2))
theorem DRep.mono {K : PySem.W.Frag} {F F' : Hp} {kv : List (Key × V)} {kvs : List (Int × D)} (e : Same F F') (h : DRep K F kv kvs) : DRep K F' kv kvs := ⟨h.ks, h.vs.mono e⟩
def SlotOk (K : PySem.W.Frag) (H₀ F H : Hp) (v : Option (Option V)) : Slot → Prop
  | .un => True
  | .val d => ∃ x, v = some (some x) ∧ Rep K F x d
  | .own ds => ∃ a vs, v = some (some (.ref a)) ∧ H a = some (.lst vs) ∧ F a = none ∧ H₀ a = none ∧ Reps K F vs ds
  | .exc C => ∃ a, v = some (some (.ref a)) ∧ H a = some (.ext (ExcAt C a))
  | .dic kvs => ∃ a kv, v = some (some (.ref a)) ∧ H a = some (.dK kv) ∧ F a = none ∧ H₀ a = none ∧ DRep K F kv kvs
  | .thg t => ∃ a o, v = some (some (.ref a)) ∧ H a = some o ∧ F a = none ∧ H₀ a = none ∧ ThgOk t K F a o
  | .bor t => ∃ a o, v = some (some (.ref a)) ∧ H₀ a = some o ∧ ThgOk t K F a o
def isOwn : Slot → Bool
  | .own _ => true
  | .dic _ => true
  | .thg _ => true
  | _ => false

structure Env (K : PySem.W.Frag) (F₀ H₀ F H : Hp) (σ : St) (c : List Slot) : Prop where
  ext : Ext F₀ H₀ F H
  len : σ.length = c.length
  sl : ∀ i, SlotOk K H₀ F H σ[i]? (slot c i)
  inj : ∀ (i j : Nat) (a : Addr), isOwn (slot c i) = true → isOwn (slot c j) = true → σ[i]? = some (some (V.ref a)) → σ[j]? = some (some (V.ref a)) → i = j

section
variable {K : PySem.W.Frag} {F₀ H₀ F H F' H' : Hp} {σ : St} {c : List Slot}
theorem SlotOk.ext {v : Option (Option V)} (e : Ext F H F' H') : ∀ {s : Slot}, SlotOk K H₀ F H v s → SlotOk K H₀ F' H' v s
  | .un, _ => trivial
  | .val d, ⟨x, h, r⟩ => ⟨x, h, r.mono e.ff⟩
  | .own ds, ⟨a, vs, h, h1, h2, h3, r⟩ => ⟨a, vs, h, e.hh _ _ h1, e.fr a (by rw [h1]; exact fun z => nomatch z) h2, h3, r.mono e.ff⟩
  | .exc C, ⟨a, h, h1⟩ => ⟨a, h, e.hh _ _ h1⟩
  | .dic kvs, ⟨a, kv, h, h1, h2, h3, r⟩ => ⟨a, kv, h, e.hh _ _ h1, e.fr a (by rw [h1]; exact fun z => nomatch z) h2, h3, r.mono e.ff⟩
  | .thg t, ⟨a, o, h, h1, h2, h3, r⟩ => ⟨a, o, h, e.hh _ _ h1, e.fr a (by rw [h1]; exact fun z => nomatch z) h2, h3, r.mono e.ff⟩
  | .bor t, ⟨a, o, h, h1, r⟩ => ⟨a, o, h, h1, r.mono e.ff⟩
theorem Env.grow (E : Env K F₀ H₀ F H σ c) (e : Ext F H F' H') : Env K F₀ H₀ F' H' σ c := ⟨E.ext.trans e, E.len, fun i => (E.sl i).ext e, E.inj⟩
theorem Env.val (E : Env K F₀ H₀ F H σ c) {i : Nat} {d : D} (h : slot c i = .val d) : ∃ x, σ[i]? = some (some x) ∧ Rep K F x d := by
  have q := E.sl i
  rw [h] at q
  exact q
theorem Env.fh (E : Env K F₀ H₀ F H σ c) : Same F H := E.ext.fh
theorem Env.set (E : Env K F₀ H₀ F H σ c) {i : Nat} {x : V} {d : D} (hi : i < c.length) (r : Rep K F x d) : Env K F₀ H₀ F H (σ.set i (some x)) (put c i (.val d)) where
  ext := E.ext
  len := by rw [List.length_set, put_length]; exact E.len
  sl := fun j => by
    by_cases e : i = j
    · subst e
      rw [slot_put _ _ _ hi, List.getElem?_set_self (by rw [E.len]; exact hi)]
      exact ⟨x, rfl, r⟩
    · rw [slot_put_ne _ _ _ _ e, List.getElem?_set_ne e]
      exact E.sl j
  inj := fun j k a h1 h2 h3 h4 => by
    by_cases e : i = j
    · subst e; rw [slot_put _ _ _ hi] at h1; cases h1
    · by_cases e2 : i = k
      · subst e2; rw [slot_put _ _ _ hi] at h2; cases h2
      · rw [slot_put_ne _ _ _ _ e] at h1
        rw [slot_put_ne _ _ _ _ e2] at h2
        rw [List.getElem?_set_ne e] at h3
        rw [List.getElem?_set_ne e2] at h4
        exact E.inj j k a h1 h2 h3 h4
end

/-- a body running: its context, the frozen part and the heap at its entry -/
structure Cy where
  X : Cx
  F0 : Hp
  H0 : Hp
abbrev Cy.K (Y : Cy) : PySem.W.Frag := Y.X.K
abbrev EnvY (Y : Cy) (F H : Hp) (σ : St) (c : List Slot) : Prop := Env Y.X.K Y.F0 Y.H0 F H σ c

def tD (Y : Cy) (c : List Slot) (d : D) : TE := fun σ H Q => ∃ F, EnvY Y F H σ c ∧ ∀ v F' H', Ext F H F' H' → Rep Y.X.K F' v d → Q v H'
def tT (Y : Cy) (c : List Slot) (b : Bool) : TT := fun σ H Q => ∃ F, EnvY Y F H σ c ∧ ∀ F' H', Ext F H F' H' → Q b H'
def tA (Y : Cy) (c : List Slot) (ds : List D) : TA := fun σ H Q => ∃ F, EnvY Y F H σ c ∧ ∀ vs F' H', Ext F H F' H' → Reps Y.X.K F' vs ds → Q vs H'
/-- the expression's value is d -/
def EvD (Y : Cy) (e : Expr) (c : List Slot) (d : D) : Prop := PE Y.X e (tD Y c d)
/-- the test comes out as b -/
def TeD (Y : Cy) (e : Expr) (c : List Slot) (b : Bool) : Prop := PT Y.X e (tT Y c b)
def ArD (Y : Cy) (es : List Expr) (c : List Slot) (ds : List D) : Prop := PA Y.X es (tA Y c ds)

inductive Out where
  | nx (c : List Slot) | rt (d : D) | bk (c : List Slot) | ct (c : List Slot) | ro (ds : List D) | rs (R : PySem.W.Frag → Hp → Hp → V → Hp → Prop)
def Meets (Y : Cy) (F : Hp) (D : Ends) : Out → Prop
  | .nx c => ∀ σ F' H, Same F F' → EnvY Y F' H σ c → D.nx σ H
  | .rt d => ∀ v F' H, Same F F' → Ext Y.F0 Y.H0 F' H → Rep Y.X.K F' v d → D.rt v H
  | .bk c => ∀ σ F' H, Same F F' → EnvY Y F' H σ c → D.bk σ H
  | .ct c => ∀ σ F' H, Same F F' → EnvY Y F' H σ c → D.ct σ H
  | .ro ds => ∀ vs F' H p, Same F F' → Ext Y.F0 Y.H0 F' H → Reps Y.X.K F' vs ds → H p = none → D.rt (.ref p) (upd H p (.lst vs))
  | .rs R => ∀ v F' H1 H, Same F F' → Ext Y.F0 Y.H0 F' H1 → R Y.X.K F' H1 v H → D.rt v H
theorem Meets.grow {Y : Cy} {F F1 : Hp} {D : Ends} (s : Same F F1) : ∀ {o : Out}, Meets Y F D o → Meets Y F1 D o
  | .nx _, m => fun σ F' H s' E => m σ F' H (s.trans s') E
  | .rt _, m => fun v F' H s' E r => m v F' H (s.trans s') E r
  | .bk _, m => fun σ F' H s' E => m σ F' H (s.trans s') E
  | .ct _, m => fun σ F' H s' E => m σ F' H (s.trans s') E
  | .ro _, m => fun vs F' H p s' E r hp => m vs F' H p (s.trans s') E r hp
  | .rs _, m => fun v F' H1 H s' E r => m v F' H1 H (s.trans s') E r
def tS (Y : Cy) (c : List Slot) (P : Out → Prop) : TS := fun D σ H => ∃ F, EnvY Y F H σ c ∧ ∀ o, P o → Meets Y F D o
def StD (Y : Cy) (st : Stmt) (c : List Slot) (P : Out → Prop) : Prop := PS Y.X st (tS Y c P)
def SsD (Y : Cy) (st : List Stmt) (c : List Slot) (P : Out → Prop) : Prop := PSs Y.X st (tS Y c P)
/-- behind a statement: the rest -/
def Thn (Y : Cy) (rest : List Stmt) (P : Out → Prop) : Out → Prop
  | .nx c => SsD Y rest c P
  | o => P o

theorem bt_abs : bootBuiltins "abs" = some (.builtin "abs") := by decide +kernel
theorem bt_max : bootBuiltins "max" = some (.builtin "max") := by decide +kernel
theorem bt_min : bootBuiltins "min" = some (.builtin "min") := by decide +kernel
theorem bt_len : bootBuiltins "len" = some (.builtin "len") := by decide +kernel
theorem bt_isinstance : bootBuiltins "isinstance" = some (.builtin "isinstance") := by decide +kernel
theorem bt_int : bootBuiltins "int" = some (.type "int") := by decide +kernel
theorem bt_bool : bootBuiltins "bool" = some (.type "bool") := by decide +kernel
theorem bt_tuple : bootBuiltins "tuple" = some (.type "tuple") := by decide +kernel
/-- the module that runs -/
structure Tx where
  prog : Program
  w : World
  K : PySem.W.Frag
  mg : Str → Option Value
  base : Heap
/-- names of a def: N its own (the parameters first), G the global ones that it uses -/
structure ScB (N ps G : List Str) (sc : Scope) : Prop where
  fs : FnScope N ps sc
  loc : ∀ x ∈ N, (sc.names.lookup x = some .local ∨ sc.names.lookup x = some .cell) ∧ (x == ("__debug__" : Str)) = false ∧ (x == ("__classdict__" : Str)) = false
  gl : ∀ x ∈ G, sc.names.lookup x = some .globalImplicit ∧ (x == ("__debug__" : Str)) = false ∧ x ≠ "__name__"
/-- what a body knows of where it runs: names; expressions; statements -/
structure Sn (Y : Cy) (T : Tx) (N G : List Str) : Prop where
  eP : Y.X.prog = T.prog
  eW : Y.X.w = T.w
  eK : Y.X.K = T.K
  eM : Y.X.mg = T.mg
  eB : Y.X.base = T.base
  n : Y.X.N = N
  nd : N.Nodup
  loc : ∀ x ∈ N, Loc Y.X.env.scope x ∧ (x == ("__debug__" : Str)) = false ∧ (x == ("__classdict__" : Str)) = false
  gl : ∀ x ∈ G, Gl Y.X x ∧ (x == ("__debug__" : Str)) = false ∧ x ≠ "__name__"
structure Se (Y : Cy) (T : Tx) (k : Nat) (N G : List Str) : Prop extends Sn Y T N G where
  calm : Y.X.calm = true
  room : Room k Y.X.A
structure Sc (Y : Cy) (T : Tx) (k : Nat) (N G : List Str) : Prop extends Se Y T k N G where
  fn : ∀ y, Y.X.fn y = true
  hp : PassesOwn (model Y.X.prog Y.X.w) Y.X.A Y.X.env Y.X.xe
/-- a def's body, as it stands -/
structure Fx (Y : Cy) (st : Stmt) : Prop where
  sc : Y.X.env.scope = defScope st
  ex : Y.X.ex = []
  stk : Y.X.stack = Y.X.env :: Y.X.outer ∧ Y.X.env.frame = some Y.X.env.locals

theorem PE.imp {X : Cx} {e : Expr} {t t' : TE} (h : PE X e t) (i : ∀ σ H Q, t' σ H Q → t σ H Q) : PE X e t' := fun pins s σ H Q I q => h pins s σ H Q I (i _ _ _ q)
theorem PT.imp {X : Cx} {e : Expr} {t t' : TT} (h : PT X e t) (i : ∀ σ H Q, t' σ H Q → t σ H Q) : PT X e t' := fun pins s σ H Q I q => h pins s σ H Q I (i _ _ _ q)
theorem PA.imp {X : Cx} {e : List Expr} {t t' : TA} (h : PA X e t) (i : ∀ σ H Q, t' σ H Q → t σ H Q) : PA X e t' := fun pos pins s σ H Q I q => h pos pins s σ H Q I (i _ _ _ q)
theorem PS.imp {X : Cx} {e : Stmt} {t t' : TS} (h : PS X e t) (i : ∀ D σ H, t' D σ H → t D σ H) : PS X e t' := fun pins s σ H Q I q => h pins s σ H Q I (i _ _ _ q)
theorem PSs.imp {X : Cx} {e : List Stmt} {t t' : TS} (h : PSs X e t) (i : ∀ D σ H, t' D σ H → t D σ H) : PSs X e t' := fun pins s σ H Q I q => h pins s σ H Q I (i _ _ _ q)

section
variable {Y : Cy} {T : Tx} {k : Nat} {N G : List Str} {c : List Slot} {a b e : Expr} {es : List Expr} {pos : Pos} {d d1 d2 : D} {ds : List D} {P : Out → Prop} {rest : List Stmt}

/-! ### expressions -/
theorem ev_var (S : Se Y T k N G) (i : Nat) {x : Str} (hN : N[i]? = some x := by rfl) (hs : slot c i = .val d := by rfl) : EvD Y (.Name x pos) c d := by
  have hx := S.loc x (List.mem_of_getElem? hN)
  rw [← S.n] at hN
  exact PE.imp (pe_var hN (hx.1.elim .inl fun h => .inr (.inl h)) hx.2.1 hx.2.2) fun σ H Q ⟨F, E, q⟩ =>
    let ⟨x, ex, r⟩ := E.val hs
    ⟨x, ex, q x F H (Ext.refl E.fh) r⟩
theorem ev_const {v : V} (h : PE Y.X e (tC v)) (r : ∀ F, Rep Y.X.K F v d) : EvD Y e c d :=
  PE.imp h fun σ H Q ⟨F, E, q⟩ => q v F H (Ext.refl E.fh) (r F)
theorem ev_int {i : Int} {j} : EvD Y (.Constant (.int i) j pos) c (.int i) := ev_const pe_int fun _ => .int i
theorem ev_bl {i : Bool} {j} : EvD Y (.Constant (.bool i) j pos) c (.bl i) := ev_const pe_bl fun _ => .bl i
theorem ev_non {j} : EvD Y (.Constant .none j pos) c .non := ev_const pe_non fun _ => .non
theorem ev_str {x : Str} {j} : EvD Y (.Constant (.str x) j pos) c (.str x) := ev_const pe_str fun _ => .str x

/-- an operation by values -/
theorem ev_op2 {t : TE} {ta tb : TE} {r : R2} (h : PE Y.X e (tOp r (tD Y c d1) (tD Y c d2)))
    (hr : ∀ x y F H Q, Same F H → Rep Y.X.K F x d1 → Rep Y.X.K F y d2 → (∀ v F' H', Ext F H F' H' → Rep Y.X.K F' v d → Q v H') → r x y H Q) : EvD Y e c d :=
  PE.imp h fun σ H Q ⟨F, E, q⟩ => ⟨F, E, fun x F1 H1 e1 r1 => ⟨F1, E.grow e1, fun y F2 H2 e2 r2 =>
    hr x y F2 H2 Q e2.fh (r1.mono e2.ff) r2 fun v F3 H3 e3 r3 => q v F3 H3 (e1.trans (e2.trans e3)) r3⟩⟩
theorem ev_un1 {r : V → Hp → VK → Prop} (h : PE Y.X e (tUn r (tD Y c d1)))
    (hr : ∀ x F H Q, Same F H → Rep Y.X.K F x d1 → (∀ v F' H', Ext F H F' H' → Rep Y.X.K F' v d → Q v H') → r x H Q) : EvD Y e c d :=
  PE.imp h fun σ H Q ⟨F, E, q⟩ => ⟨F, E, fun x F1 H1 e1 r1 => hr x F1 H1 Q e1.fh r1 fun v F3 H3 e3 r3 => q v F3 H3 (e1.trans e3) r3⟩

section
variable {i j : Int}
theorem inv_int {K : PySem.W.Frag} {F : Hp} {x : V} {i : Int} (r : Rep K F x (.int i)) : x = .int i := by cases r; rfl
theorem inv_bl {K : PySem.W.Frag} {F : Hp} {x : V} {i : Bool} (r : Rep K F x (.bl i)) : x = .bl i := by cases r; rfl
theorem inv_tup {K : PySem.W.Frag} {F : Hp} {x : V} {ds : List D} (r : Rep K F x (.tup ds)) : ∃ a vs, x = .ref a ∧ SqT K F a vs ∧ Reps K F vs ds := by cases r with | tup h t => exact ⟨_, _, rfl, h, t⟩
theorem inv_lst {K : PySem.W.Frag} {F : Hp} {x : V} {ds : List D} (r : Rep K F x (.lst ds)) : ∃ a vs, x = .ref a ∧ SqL K F a vs ∧ Reps K F vs ds := by cases r with | lst h t => exact ⟨_, _, rfl, h, t⟩

theorem ev_intop {op : Operator} {C : Int → Int → Prop} {g : Int → Int → Int} (ho : OpR Y.X (binaryOp op) (rI C fun i j => .int (g i j))) (ha : EvD Y a c (.int i)) (hb : EvD Y b c (.int j)) (hc : C i j) : EvD Y (.BinOp a op b pos) c (.int (g i j)) :=
  ev_op2 (t := tC .non) (ta := tC .non) (tb := tC .non) (pe_op ho ha hb) fun x y F H Q f rx ry q => ⟨i, j, inv_int rx, inv_int ry, hc, q _ F H (Ext.refl f) (.int _)⟩
theorem ev_intop0 {op : Operator} {g : Int → Int → Int} (ho : OpR Y.X (binaryOp op) (rI0 fun i j => .int (g i j))) (ha : EvD Y a c (.int i)) (hb : EvD Y b c (.int j)) : EvD Y (.BinOp a op b pos) c (.int (g i j)) :=
  ev_op2 (t := tC .non) (ta := tC .non) (tb := tC .non) (pe_op ho ha hb) fun x y F H Q f rx ry q => ⟨i, j, inv_int rx, inv_int ry, q _ F H (Ext.refl f) (.int _)⟩
theorem ev_add (ha : EvD Y a c (.int i)) (hb : EvD Y b c (.int j)) : EvD Y (.BinOp a .Add b pos) c (.int (i + j)) := ev_intop0 op_add ha hb
theorem ev_sub (ha : EvD Y a c (.int i)) (hb : EvD Y b c (.int j)) : EvD Y (.BinOp a .Sub b pos) c (.int (i - j)) := ev_intop0 op_sub ha hb
/-- numbers of at most n bits -/
def Bd (n : Nat) (i : Int) : Prop := i.natAbs < 2 ^ n
instance {n : Nat} {i : Int} : Decidable (Bd n i) := inferInstanceAs (Decidable (i.natAbs < 2 ^ n))
theorem op_mulB {X : Cx} : OpR X (binaryOp .Mult) (rI (fun i j => IntMulOk i j) fun i j => .int (i * j)) := opI fun _ _ _ _ _ _ _ hc q => PyProof.Rows.mul_int q hc
theorem bits_le {n : Nat} {i : Int} (h : Bd n i) : Builtin.Int.intBits i ≤ n := by
  unfold Builtin.Int.intBits
  split
  · exact Nat.zero_le _
  · rename_i h0
    have hn : i.natAbs ≠ 0 := fun z => h0 (by simpa using z)
    have : i.natAbs.log2 < n := (Nat.log2_lt hn).mpr h
    omega
theorem mulOk {m n : Nat} {i j : Int} (h1 : Bd m i) (h2 : Bd n j) (h : m + n ≤ 134217728) : IntMulOk i j := PySem.IntMulOk.of_le (bits_le h1) (bits_le h2) h
theorem ev_mul (ha : EvD Y a c (.int i)) (hb : EvD Y b c (.int j)) (hm : IntMulOk i j) : EvD Y (.BinOp a .Mult b pos) c (.int (i * j)) := ev_intop op_mulB ha hb hm
theorem op_fdivB {X : Cx} : OpR X (binaryOp .FloorDiv) (rI (fun i j => j ≠ 0 ∧ Bd 9000 j) fun i j => .int (i.fdiv j)) := opI fun _ j _ _ _ _ _ hc q => PyProof.Rows.floordiv_int hc.1 q (.inl (PyProof.noPylong_of_log2 (by
  have hn : j.natAbs ≠ 0 := fun z => hc.1 (Int.natAbs_eq_zero.mp z)
  exact (Nat.log2_lt hn).mpr hc.2)))
theorem ev_fdiv (ha : EvD Y a c (.int i)) (hb : EvD Y b c (.int j)) (hj : j ≠ 0) (hm : Bd 9000 j) : EvD Y (.BinOp a .FloorDiv b pos) c (.int (i.fdiv j)) := ev_intop op_fdivB ha hb ⟨hj, hm⟩
theorem ev_fdivP (ha : EvD Y a c (.int i)) (hb : EvD Y b c (.int j)) (hj : 0 < j) (hm : Bd 9000 j) : EvD Y (.BinOp a .FloorDiv b pos) c (.int (i / j)) := by
  have h := ev_fdiv (pos := pos) ha hb (by omega) hm
  rw [Int.fdiv_eq_ediv_of_nonneg i (by omega)] at h
  exact h
theorem ev_mod (ha : EvD Y a c (.int i)) (hb : EvD Y b c (.int j)) (hj : j ≠ 0) : EvD Y (.BinOp a .Mod b pos) c (.int (i.fmod j)) := ev_intop op_modN ha hb hj
theorem ev_modP (ha : EvD Y a c (.int i)) (hb : EvD Y b c (.int j)) (hj : 0 < j) : EvD Y (.BinOp a .Mod b pos) c (.int (i % j)) := ev_intop op_mod ha hb hj
theorem ev_pow (ha : EvD Y a c (.int i)) (hb : EvD Y b c (.int j)) (hj : CPow i j) : EvD Y (.BinOp a .Pow b pos) c (.int (i ^ j.toNat)) := ev_intop op_pow ha hb hj
theorem ev_neg (ha : EvD Y a c (.int i)) : EvD Y (.UnaryOp .USub a pos) c (.int (-i)) :=
  ev_un1 (pe_un un_neg ha) fun x F H Q f rx q => ⟨i, inv_int rx, q _ F H (Ext.refl f) (.int _)⟩

/-! comparisons -/
theorem ev_cmpI {op : CmpOp} {g : Int → Int → Bool} (ho : OpR Y.X (compareOp op) (rI0 fun i j => .bl (g i j))) (hm : behindInMarks op b = false) (ha : EvD Y a c (.int i)) (hb : EvD Y b c (.int j)) : EvD Y (.Compare a [op] [b] pos) c (.bl (g i j)) :=
  ev_op2 (t := tC .non) (ta := tC .non) (tb := tC .non) (pe_cmpR ho ha hb hm) fun x y F H Q f rx ry q => ⟨i, j, inv_int rx, inv_int ry, q _ F H (Ext.refl f) (.bl _)⟩
theorem ev_ge (ha : EvD Y a c (.int i)) (hb : EvD Y b c (.int j)) : EvD Y (.Compare a [.GtE] [b] pos) c (.bl (decide (j ≤ i))) := ev_cmpI op_ge (nomark _) ha hb
theorem ev_eqI (ha : EvD Y a c (.int i)) (hb : EvD Y b c (.int j)) : EvD Y (.Compare a [.Eq] [b] pos) c (.bl (decide (i = j))) :=
  ev_op2 (t := tC .non) (ta := tC .non) (tb := tC .non) (pe_cmpR op_eq ha hb (nomark _)) fun x y F H Q f rx ry q => by
    rw [inv_int rx, inv_int ry]
    refine ⟨rfl, ?_⟩
    rw [dec_int]
    exact q _ F H (Ext.refl f) (.bl _)
end

/-! tests -/
theorem te_val {v : Bool} (h : EvD Y e c (.bl v)) (he : ∀ whole, isTrue e Y.X.env whole = (do let v ← whole; standAt e.pos; holding [v] (truthy v)) := by intro _; rfl) : TeD Y e c v :=
  PT.imp (pt_val h he) fun σ H Q ⟨F, E, q⟩ => ⟨F, E, fun x F1 H1 e1 r1 => ⟨v, inv_bl r1, q F1 H1 e1⟩⟩
theorem te_cmp {op : CmpOp} {r : R2} {v : Bool} (ho : OpR Y.X (compareOp op) r) (hm : behindInMarks op b = false) (ha : EvD Y a c d1) (hb : EvD Y b c d2)
    (hr : ∀ x y F H Q, Same F H → Rep Y.X.K F x d1 → Rep Y.X.K F y d2 → (∀ F' H', Ext F H F' H' → Q (.bl v) H') → r x y H Q) : TeD Y (.Compare a [op] [b] pos) c v :=
  PT.imp (pt_cmpR ho ha hb hm) fun σ H Q ⟨F, E, q⟩ => ⟨F, E, fun x F1 H1 e1 r1 => ⟨F1, E.grow e1, fun y F2 H2 e2 r2 =>
    hr x y F2 H2 _ e2.fh (r1.mono e2.ff) r2 fun F3 H3 e3 => ⟨v, rfl, q F3 H3 (e1.trans (e2.trans e3))⟩⟩⟩
section
variable {i j : Int}
theorem te_cmpI {op : CmpOp} {g : Int → Int → Bool} (ho : OpR Y.X (compareOp op) (rI0 fun i j => .bl (g i j))) (hm : behindInMarks op b = false) (ha : EvD Y a c (.int i)) (hb : EvD Y b c (.int j)) : TeD Y (.Compare a [op] [b] pos) c (g i j) :=
  te_cmp ho hm ha hb fun x y F H Q f rx ry q => ⟨i, j, inv_int rx, inv_int ry, q F H (Ext.refl f)⟩
theorem te_lt (ha : EvD Y a c (.int i)) (hb : EvD Y b c (.int j)) : TeD Y (.Compare a [.Lt] [b] pos) c (decide (i < j)) := te_cmpI op_lt (nomark _) ha hb
theorem te_le (ha : EvD Y a c (.int i)) (hb : EvD Y b c (.int j)) : TeD Y (.Compare a [.LtE] [b] pos) c (decide (i ≤ j)) := te_cmpI op_le (nomark _) ha hb
theorem te_gt (ha : EvD Y a c (.int i)) (hb : EvD Y b c (.int j)) : TeD Y (.Compare a [.Gt] [b] pos) c (decide (j < i)) := te_cmpI op_gt (nomark _) ha hb
theorem te_ge (ha : EvD Y a c (.int i)) (hb : EvD Y b c (.int j)) : TeD Y (.Compare a [.GtE] [b] pos) c (decide (j ≤ i)) := te_cmpI op_ge (nomark _) ha hb
theorem te_eqI (ha : EvD Y a c (.int i)) (hb : EvD Y b c (.int j)) : TeD Y (.Compare a [.Eq] [b] pos) c (decide (i = j)) :=
  te_cmp op_eq (nomark _) ha hb fun x y F H Q f rx ry q => by
    rw [inv_int rx, inv_int ry]
    refine ⟨rfl, ?_⟩
    rw [dec_int]
    exact q F H (Ext.refl f)
theorem te_neI (ha : EvD Y a c (.int i)) (hb : EvD Y b c (.int j)) : TeD Y (.Compare a [.NotEq] [b] pos) c (!decide (i = j)) :=
  te_cmp op_ne (nomark _) ha hb fun x y F H Q f rx ry q => by
    rw [inv_int rx, inv_int ry]
    refine ⟨rfl, ?_⟩
    rw [dec_int]
    exact q F H (Ext.refl f)
end
theorem te_not {v : Bool} (h : TeD Y a c v) : TeD Y (.UnaryOp .Not a pos) c (!v) :=
  PT.imp (pt_not h) fun σ H Q ⟨F, E, q⟩ => ⟨F, E, fun F1 H1 e1 => q F1 H1 e1⟩
theorem te_and {v w : Bool} (ha : TeD Y a c v) (hb : v = true → PW Y.X (.BoolOp .And (b :: es) pos) (tT Y c w)) : PW Y.X (.BoolOp .And (a :: b :: es) pos) (tT Y c (v && w)) := by
  cases v with
  | true =>
    intro whole pins s σ H Q I h
    refine pw_and ha (hb rfl) whole pins s σ H Q I ?_
    obtain ⟨F, E, q⟩ := h
    exact ⟨F, E, fun F1 H1 e1 => L2.iteT ⟨F1, E.grow e1, fun F2 H2 e2 => q F2 H2 (e1.trans e2)⟩⟩
  | false =>
    intro whole pins s σ H Q I h
    have hn : PW Y.X (.BoolOp .And (b :: es) pos) (fun _ _ _ => False) := fun _ _ _ _ _ _ _ z => z.elim
    refine pw_and ha hn whole pins s σ H Q I ?_
    obtain ⟨F, E, q⟩ := h
    exact ⟨F, E, fun F1 H1 e1 => L2.iteF (q F1 H1 e1)⟩
theorem te_or {v w : Bool} (ha : TeD Y a c v) (hb : v = false → PW Y.X (.BoolOp .Or (b :: es) pos) (tT Y c w)) : PW Y.X (.BoolOp .Or (a :: b :: es) pos) (tT Y c (v || w)) := by
  cases v with
  | false =>
    intro whole pins s σ H Q I h
    refine pw_or ha (hb rfl) whole pins s σ H Q I ?_
    obtain ⟨F, E, q⟩ := h
    exact ⟨F, E, fun F1 H1 e1 => L2.iteF ⟨F1, E.grow e1, fun F2 H2 e2 => q F2 H2 (e1.trans e2)⟩⟩
  | true =>
    intro whole pins s σ H Q I h
    have hn : PW Y.X (.BoolOp .Or (b :: es) pos) (fun _ _ _ => False) := fun _ _ _ _ _ _ _ z => z.elim
    refine pw_or ha hn whole pins s σ H Q I ?_
    obtain ⟨F, E, q⟩ := h
    exact ⟨F, E, fun F1 H1 e1 => L2.iteT (q F1 H1 e1)⟩
theorem te_and1 {v : Bool} (ha : TeD Y a c v) : PW Y.X (.BoolOp .And [a] pos) (tT Y c v) := pw_and1 ha
theorem te_or1 {v : Bool} (ha : TeD Y a c v) : PW Y.X (.BoolOp .Or [a] pos) (tT Y c v) := pw_or1 ha
/-- and, or as values of truths -/
theorem ev_one {op} (h : EvD Y a c d) : EvD Y (.BoolOp op [a] pos) c d := pe_one h
theorem ev_and {v : Bool} (ha : EvD Y a c (.bl v)) (hb : v = true → EvD Y (.BoolOp .And (b :: es) pos) c d) : EvD Y (.BoolOp .And (a :: b :: es) pos) c (if v = true then d else .bl false) := by
  cases v with
  | true =>
    refine PE.imp (pe_and ha (hb rfl)) fun σ H Q ⟨F, E, q⟩ => ⟨F, E, fun x F1 H1 e1 r1 => ⟨true, inv_bl r1, L2.iteT ⟨F1, E.grow e1, fun v F2 H2 e2 r2 => q v F2 H2 (e1.trans e2) (by simpa using r2)⟩⟩⟩
  | false =>
    have hn : PE Y.X (.BoolOp .And (b :: es) pos) (fun _ _ _ => False) := fun _ _ _ _ _ _ z => z.elim
    refine PE.imp (pe_and ha hn) fun σ H Q ⟨F, E, q⟩ => ⟨F, E, fun x F1 H1 e1 r1 => ⟨false, inv_bl r1, L2.iteF (q _ F1 H1 e1 (by simpa using Rep.bl false))⟩⟩
theorem ev_or {v : Bool} (ha : EvD Y a c (.bl v)) (hb : v = false → EvD Y (.BoolOp .Or (b :: es) pos) c d) : EvD Y (.BoolOp .Or (a :: b :: es) pos) c (if v = true then .bl true else d) := by
  cases v with
  | false =>
    refine PE.imp (pe_or ha (hb rfl)) fun σ H Q ⟨F, E, q⟩ => ⟨F, E, fun x F1 H1 e1 r1 => ⟨false, inv_bl r1, L2.iteF ⟨F1, E.grow e1, fun v F2 H2 e2 r2 => q v F2 H2 (e1.trans e2) (by simpa using r2)⟩⟩⟩
  | true =>
    have hn : PE Y.X (.BoolOp .Or (b :: es) pos) (fun _ _ _ => False) := fun _ _ _ _ _ _ z => z.elim
    refine PE.imp (pe_or ha hn) fun σ H Q ⟨F, E, q⟩ => ⟨F, E, fun x F1 H1 e1 r1 => ⟨true, inv_bl r1, L2.iteT (q _ F1 H1 e1 (by simpa using Rep.bl true))⟩⟩
theorem ev_not {v : Bool} (ha : EvD Y a c (.bl v)) : EvD Y (.UnaryOp .Not a pos) c (.bl (!v)) :=
  PE.imp (pe_not ha) fun σ H Q ⟨F, E, q⟩ => ⟨F, E, fun x F1 H1 e1 r1 => ⟨v, inv_bl r1, q _ F1 H1 e1 (.bl _)⟩⟩
/-! arguments, displays, items -/
theorem ar_nil : ArD Y [] c [] := PA.imp pa_nil fun σ H Q ⟨F, E, q⟩ => q [] F H (Ext.refl E.fh) .nil
theorem ar_cons (ha : EvD Y e c d) (hr : ArD Y es c ds) (hs : starEach (e :: es) Y.X.env = (false, eval e Y.X.env) :: starEach es Y.X.env := by rfl) : ArD Y (e :: es) c (d :: ds) :=
  PA.imp (pa_cons ha hr hs) fun σ H Q ⟨F, E, q⟩ => ⟨F, E, fun x F1 H1 e1 r1 => ⟨F1, E.grow e1, fun vs F2 H2 e2 r2 => q _ F2 H2 (e1.trans e2) (.cons (r1.mono e2.ff) r2)⟩⟩
theorem small_le {n : Nat} (h : n ≤ 1000000) : n ≤ sizeLine := by rw [sizeLine_eq]; omega
theorem ev_tup {x1} (h : ArD Y es c ds) (hz : ds.length ≤ 1000000 := by first | exact of_decide_eq_true rfl | (simp; done)) : EvD Y (.Tuple es x1 pos) c (.tup ds) :=
  PE.imp (pe_tup h) fun σ H Q ⟨F, E, q⟩ => ⟨F, E, fun vs F1 H1 e1 r1 => ⟨by rw [r1.length]; exact small_le hz, fun p hp =>
    q (.ref p) _ _ (e1.trans (Ext.new e1.fh hp (.tup vs))) (.tup (SqT.of upd_same) (r1.mono (Ext.new e1.fh hp _).ff))⟩⟩
theorem ev_lst (h : ArD Y es c ds) (hz : ds.length ≤ 1000000 := by first | exact of_decide_eq_true rfl | (simp; done)) : EvD Y (.List es pos) c (.lst ds) :=
  PE.imp (pe_lst h) fun σ H Q ⟨F, E, q⟩ => ⟨F, E, fun vs F1 H1 e1 r1 => ⟨by rw [r1.length]; exact small_le hz, fun p hp =>
    q (.ref p) _ _ (e1.trans (Ext.new e1.fh hp (.lst vs))) (.lst (SqL.of upd_same) (r1.mono (Ext.new e1.fh hp _).ff))⟩⟩
theorem atI_reps {K : PySem.W.Frag} {F : Hp} {vs : List V} {ds : List D} {i : Int} {d : D} (r : Reps K F vs ds) (h : atI ds i = some d) : ∃ v, atI vs i = some v ∧ Rep K F v d := by
  unfold atI at h ⊢
  rw [r.length]
  cases q : ixN ds.length i with
  | none => rw [q] at h; cases h
  | some j =>
    rw [q] at h
    obtain ⟨v, h1, h2⟩ := r.get (i := j) (by simpa using h)
    exact ⟨v, by simpa using h1, h2⟩
theorem ev_ixT {i : Int} (ha : EvD Y a c (.tup ds)) (hb : EvD Y b c (.int i)) (h : atI ds i = some d) (hs : PlainIx b := by intro _ _; rfl) : EvD Y (.Subscript a b pos) c d :=
  ev_op2 (t := tC .non) (ta := tC .non) (tb := tC .non) (pe_ix ix_tup ha hb hs) fun x y F H Q f rx ry q => by
    obtain ⟨p, vs, rfl, hp, r⟩ := inv_tup rx
    obtain ⟨v, hv, rv⟩ := atI_reps r h
    exact ⟨p, vs, i, v, rfl, inv_int ry, sqT_same f hp, hv, q v F H (Ext.refl f) rv⟩
theorem ev_ixL {i : Int} (ha : EvD Y a c (.lst ds)) (hb : EvD Y b c (.int i)) (h : atI ds i = some d) (hs : PlainIx b := by intro _ _; rfl) : EvD Y (.Subscript a b pos) c d :=
  ev_op2 (t := tC .non) (ta := tC .non) (tb := tC .non) (pe_ix ix_list ha hb hs) fun x y F H Q f rx ry q => by
    obtain ⟨p, vs, rfl, hp, r⟩ := inv_lst rx
    obtain ⟨v, hv, rv⟩ := atI_reps r h
    exact ⟨p, vs, i, v, rfl, inv_int ry, f.seq hp, hv, q v F H (Ext.refl f) rv⟩

/-! ### built-in functions -/
theorem ev_callB (S : Se Y T k N G) (gi : Nat) {id : String} {x : Str} {p : Pos} {r : List V → Hp → VK → Prop} (hc : CallR Y.X (.builtin id) r) (hg : G[gi]? = some x) (hm : T.mg x = none) (hv : bootBuiltins x = some (.builtin id)) (ha : ArD Y (e :: es) c ds)
    (hr : ∀ vs F H Q, Same F H → Reps Y.X.K F vs ds → (∀ v F' H', Ext F H F' H' → Rep Y.X.K F' v d → Q v H') → r vs H Q)
    (he : starEach (e :: es) Y.X.env = (false, eval e Y.X.env) :: starEach es Y.X.env) (hpl : (backTo pos (starEach es Y.X.env)).any (·.1) = false) : EvD Y (.Call (.Name x p) (e :: es) [] pos) c d :=
  PE.imp (pe_callB hc (S.gl x (List.mem_of_getElem? hg)).1 (by rw [S.eM]; exact hm) hv ha (S.gl x (List.mem_of_getElem? hg)).2.2 (S.gl x (List.mem_of_getElem? hg)).2.1 he hpl) fun σ H Q ⟨F, E, q⟩ => ⟨F, E, fun vs F1 H1 e1 r1 => hr vs F1 H1 Q e1.fh r1 fun v F2 H2 e2 r2 => q v F2 H2 (e1.trans e2) r2⟩
theorem ev_callTy (S : Se Y T k N G) (gi : Nat) {id : String} {x : Str} {p : Pos} {r : List V → Hp → VK → Prop} (hc : CallR Y.X (.type id) r) (hg : G[gi]? = some x) (hm : T.mg x = none) (hv : bootBuiltins x = some (.type id)) (ha : ArD Y (e :: es) c ds)
    (hr : ∀ vs F H Q, Same F H → Reps Y.X.K F vs ds → (∀ v F' H', Ext F H F' H' → Rep Y.X.K F' v d → Q v H') → r vs H Q)
    (he : starEach (e :: es) Y.X.env = (false, eval e Y.X.env) :: starEach es Y.X.env) (hpl : (backTo pos (starEach es Y.X.env)).any (·.1) = false) : EvD Y (.Call (.Name x p) (e :: es) [] pos) c d :=
  PE.imp (pe_callTy hc (S.gl x (List.mem_of_getElem? hg)).1 (by rw [S.eM]; exact hm) hv ha (S.gl x (List.mem_of_getElem? hg)).2.2 (S.gl x (List.mem_of_getElem? hg)).2.1 he hpl) fun σ H Q ⟨F, E, q⟩ => ⟨F, E, fun vs F1 H1 e1 r1 => hr vs F1 H1 Q e1.fh r1 fun v F2 H2 e2 r2 => q v F2 H2 (e1.trans e2) r2⟩
theorem inv1 {K : PySem.W.Frag} {F : Hp} {vs : List V} {d : D} (r : Reps K F vs [d]) : ∃ v, vs = [v] ∧ Rep K F v d := by
  cases r with
  | cons a t => cases t; exact ⟨_, rfl, a⟩
theorem inv2 {K : PySem.W.Frag} {F : Hp} {vs : List V} {d e : D} (r : Reps K F vs [d, e]) : ∃ v w, vs = [v, w] ∧ Rep K F v d ∧ Rep K F w e := by
  cases r with
  | cons a t => obtain ⟨w, rfl, b⟩ := inv1 t; exact ⟨_, _, rfl, a, b⟩
theorem ev_abs (S : Se Y T k N G) (gi : Nat) {i : Int} {p : Pos} (ha : ArD Y [e] c [.int i]) (hm : T.mg "abs" = none) (hg : G[gi]? = some ("abs" : Str) := by rfl) (he : starEach [e] Y.X.env = (false, eval e Y.X.env) :: starEach [] Y.X.env := by rfl) : EvD Y (.Call (.Name "abs" p) [e] [] pos) c (.int (i.natAbs : Int)) :=
  ev_callB S gi call_abs hg hm bt_abs ha (fun vs F H Q f r q => by
    obtain ⟨v, rfl, rv⟩ := inv1 r
    refine ⟨i, by rw [inv_int rv], ?_⟩
    have e : (if i < 0 then -i else i) = (i.natAbs : Int) := by split <;> omega
    rw [e]
    exact q _ F H (Ext.refl f) (.int _)) he rfl
theorem ev_max (S : Se Y T k N G) (gi : Nat) {i j : Int} {p : Pos} {e1 : Expr} (ha : ArD Y [e, e1] c [.int i, .int j]) (hm : T.mg "max" = none) (hg : G[gi]? = some ("max" : Str) := by rfl) (he : starEach [e, e1] Y.X.env = (false, eval e Y.X.env) :: starEach [e1] Y.X.env := by rfl) (hpl : (backTo pos (starEach [e1] Y.X.env)).any (·.1) = false := by rfl) : EvD Y (.Call (.Name "max" p) [e, e1] [] pos) c (.int (max i j)) :=
  ev_callB S gi (call_max2 S.calm) hg hm bt_max ha (fun vs F H Q f r q => by
    obtain ⟨v, w, rfl, rv, rw'⟩ := inv2 r
    refine ⟨i, j, by rw [inv_int rv, inv_int rw'], ?_⟩
    have e : (if j > i then j else i) = max i j := by split <;> omega
    rw [e]
    exact q _ F H (Ext.refl f) (.int _)) he hpl
theorem ev_min (S : Se Y T k N G) (gi : Nat) {i j : Int} {p : Pos} {e1 : Expr} (ha : ArD Y [e, e1] c [.int i, .int j]) (hm : T.mg "min" = none) (hg : G[gi]? = some ("min" : Str) := by rfl) (he : starEach [e, e1] Y.X.env = (false, eval e Y.X.env) :: starEach [e1] Y.X.env := by rfl) (hpl : (backTo pos (starEach [e1] Y.X.env)).any (·.1) = false := by rfl) : EvD Y (.Call (.Name "min" p) [e, e1] [] pos) c (.int (min i j)) :=
  ev_callB S gi (call_min2 S.calm) hg hm bt_min ha (fun vs F H Q f r q => by
    obtain ⟨v, w, rfl, rv, rw'⟩ := inv2 r
    refine ⟨i, j, by rw [inv_int rv, inv_int rw'], ?_⟩
    have e : (if j < i then j else i) = min i j := by split <;> omega
    rw [e]
    exact q _ F H (Ext.refl f) (.int _)) he hpl
def lenD : D → Option Nat
  | .str x => if x.length ≤ 1000000 then some x.length else none
  | .tup xs => some xs.length
  | .lst xs => some xs.length
  | _ => none
theorem ev_len (S : Se Y T k N G) (gi : Nat) {n : Nat} {p : Pos} (ha : ArD Y [e] c [d]) (hl : lenD d = some n) (hm : T.mg "len" = none) (hg : G[gi]? = some ("len" : Str) := by rfl) (he : starEach [e] Y.X.env = (false, eval e Y.X.env) :: starEach [] Y.X.env := by rfl) : EvD Y (.Call (.Name "len" p) [e] [] pos) c (.int n) :=
  ev_callB S gi call_len hg hm bt_len ha (fun vs F H Q f r q => by
    obtain ⟨v, rfl, rv⟩ := inv1 r
    refine ⟨v, n, rfl, ?_, q _ F H (Ext.refl f) (.int _)⟩
    cases rv with
    | str x =>
      have hl' : (if x.length ≤ 1000000 then some x.length else none) = some n := hl
      by_cases hx : x.length ≤ 1000000
      · rw [if_pos hx] at hl'; cases hl'; exact ⟨small_le hx, rfl⟩
      · rw [if_neg hx] at hl'; cases hl'
    | tup h t => cases hl; exact .inr ⟨_, sqT_same f h, t.length.symm⟩
    | lst h t => cases hl; exact .inl ⟨_, f.seq h, t.length.symm⟩
    | _ => cases hl) he rfl
theorem ev_intOf (S : Se Y T k N G) (gi : Nat) {i : Bool} {p : Pos} (ha : ArD Y [e] c [.bl i]) (hm : T.mg "int" = none) (hg : G[gi]? = some ("int" : Str) := by rfl) (he : starEach [e] Y.X.env = (false, eval e Y.X.env) :: starEach [] Y.X.env := by rfl) : EvD Y (.Call (.Name "int" p) [e] [] pos) c (.int (if i then 1 else 0)) :=
  ev_callTy S gi call_int1 hg hm bt_int ha (fun vs F H Q f r q => by
    obtain ⟨v, rfl, rv⟩ := inv1 r
    exact .inr ⟨i, by rw [inv_bl rv], q _ F H (Ext.refl f) (.int _)⟩) he rfl

/-! ### statements -/
theorem ss_nil (h : P (.nx c)) : SsD Y [] c P := PSs.imp pss_nil fun D σ H ⟨F, E, m⟩ => m _ h σ F H (Same.refl F) E
/-- any reading of the rest -/
def tAny (Y : Cy) (rest : List Stmt) : TS := fun D σ H => ∃ c P F, SsD Y rest c P ∧ EnvY Y F H σ c ∧ ∀ o, P o → Meets Y F D o
theorem pss_any : PSs Y.X rest (tAny Y rest) := fun pins s σ H D I ⟨c, P, F, h, e, m⟩ => h pins s σ H D I ⟨F, e, m⟩
theorem ss_cons {st : Stmt} (h : StD Y st c (Thn Y rest P)) : SsD Y (st :: rest) c P :=
  PSs.imp (pss_cons h pss_any) fun D σ H ⟨F, e, m⟩ => ⟨F, e, fun o ho => by
    cases o with
    | nx c' => exact fun σ' F' H' s' E' => ⟨c', P, F', ho, E', fun o' ho' => (m o' ho').grow s'⟩
    | rt d => exact m (.rt d) ho
    | bk c' => exact m (.bk c') ho
    | ct c' => exact m (.ct c') ho
    | ro ds => exact m (.ro ds) ho
    | rs R => exact m (.rs R) ho⟩
theorem st_ret (h : EvD Y e c d) (hp : P (.rt d)) : StD Y (.Return (some e) pos) c P :=
  PS.imp (ps_ret h) fun D σ H ⟨F, E, m⟩ => ⟨F, E, fun v F' H' x r => m _ hp v F' H' x.ff (E.ext.trans x) r⟩
theorem ss_ret (h : EvD Y e c d) (hp : P (.rt d)) : SsD Y (.Return (some e) pos :: rest) c P := ss_cons (st_ret h hp)
theorem ss_if {t : Expr} {sa sb : List Stmt} {v : Bool} (ht : TeD Y t c v) (ha : v = true → SsD Y sa c (Thn Y rest P)) (hb : v = false → SsD Y sb c (Thn Y rest P)) : SsD Y (.If t sa sb pos :: rest) c P := by
  refine ss_cons ?_
  cases v with
  | true => exact PS.imp (ps_if ht (ha rfl) (pss_never (sts := sb))) fun D σ H ⟨F, E, m⟩ => ⟨F, E, fun F1 H1 e1 => L2.iteT ⟨F1, E.grow e1, fun o ho => (m o ho).grow e1.ff⟩⟩
  | false => exact PS.imp (ps_if ht (pss_never (sts := sa)) (hb rfl)) fun D σ H ⟨F, E, m⟩ => ⟨F, E, fun F1 H1 e1 => L2.iteF ⟨F1, E.grow e1, fun o ho => (m o ho).grow e1.ff⟩⟩
theorem ss_set (S : Sc Y T k N G) (i : Nat) {x : Str} {pos' : Pos} (he : EvD Y e c d)
    (hr : SsD Y rest (put c i (.val d)) P) (hi : N[i]? = some x := by rfl) (hlt : i < c.length := by first | exact of_decide_eq_true rfl | decide | omega) (hs : swapsWith e (some (.Name x pos')) pos.line Y.X.env = pure false := by rfl) : SsD Y (.Assign [.Name x pos'] e pos :: rest) c P := by
  have hx := S.loc x (List.mem_of_getElem? hi)
  have hN := S.nd
  rw [← S.n] at hi hN
  refine ss_cons (PS.imp (ps_set hN hi hx.1 he hs (.inl (S.fn x))) fun D σ H ⟨F, E, m⟩ => ⟨F, E, fun v F' H' e' r' => ?_⟩)
  exact m (.nx (put c i (.val d))) hr _ F' H' e'.ff ((E.grow e').set hlt r')
/-- if t: x = e (no else), the name's two values in one -/
theorem ss_ifI (S : Sc Y T k N G) (i : Nat) {x : Str} {t : Expr} {p1 p2 : Pos} {v : Bool} {a b : Int} (ht : TeD Y t c v) (he : v = true → EvD Y e c (.int a)) (hr : SsD Y rest (put c i (.val (.int (if v = true then a else b)))) P) (hsl : slot c i = .val (.int b) := by rfl) (hi : N[i]? = some x := by rfl)
    (hlt : i < c.length := by first | exact of_decide_eq_true rfl | decide | omega) (hs : swapsWith e (some (.Name x p1)) p2.line Y.X.env = pure false := by rfl) : SsD Y (.If t [.Assign [.Name x p1] e p2] [] pos :: rest) c P := by
  refine ss_if ht (fun h => ?_) (fun h => ?_)
  · refine ss_set S i (he h) (ss_nil ?_) hi hlt hs
    rw [if_pos h] at hr
    exact hr
  · refine ss_nil ?_
    rw [if_neg (by rw [h]; exact Bool.false_ne_true)] at hr
    have e : put c i (.val (.int b)) = c := by rw [← hsl]; exact put_slot c i
    rw [e] at hr
    exact hr
theorem ss_expr (he : EvD Y e c d) (hr : SsD Y rest c P) (hs : swapsWith e none pos.line Y.X.env = pure false := by rfl) : SsD Y (.Expr e pos :: rest) c P :=
  ss_cons (PS.imp (ps_expr he hs) fun D σ H ⟨F, E, m⟩ => ⟨F, E, fun v F' H' e' r' => m (.nx c) hr σ F' H' e'.ff (E.grow e')⟩)
/-- what a loop's turn is to reach -/
def Turned (I : List Slot → Prop) (Pn : List Slot → Prop) (Pr : D → Prop) : Out → Prop
  | .nx c => I c
  | .ct c => I c
  | .bk c => Pn c
  | .rt d => Pr d
  | .ro _ => False
  | .rs _ => False
def tAnyT (Y : Cy) (e : Expr) : TT := fun σ H Q => ∃ c v, TeD Y e c v ∧ tT Y c v σ H Q
theorem pt_any {e : Expr} : PT Y.X e (tAnyT Y e) := fun pins s σ H Q I ⟨c, v, h, q⟩ => h pins s σ H Q I q
theorem ss_while (S : Sc Y T k N G) {t : Expr} {body : List Stmt} (I : List Slot → Prop) (μ : List Slot → Nat) (h0 : I c)
    (hs : ∀ c, I c → ∃ v, TeD Y t c v ∧ (v = true → SsD Y body c (Turned (fun c' => I c' ∧ μ c' < μ c) (fun c' => SsD Y rest c' P) (fun d => P (.rt d)))) ∧ (v = false → SsD Y rest c P)) : SsD Y (.While t body [] pos :: rest) c P := by
  refine ss_cons (PS.imp (ps_while S.hp (pt_any (e := t)) (pss_any (rest := body))) fun D σ H ⟨F, E, m⟩ => ?_)
  refine ⟨fun n σ H => ∃ c F1, I c ∧ μ c = n ∧ EnvY Y F1 H σ c ∧ Same F F1, ⟨μ c, c, F, h0, rfl, E, Same.refl F⟩, ?_⟩
  rintro n σ H ⟨c, F1, hI, rfl, E, s1⟩
  obtain ⟨v, ht, hb, hn⟩ := hs c hI
  refine ⟨c, v, ht, F1, E, fun F2 H2 e2 => ?_⟩
  cases v with
  | false => exact L2.iteF (m (.nx c) (hn rfl) σ F2 H2 (s1.trans e2.ff) (E.grow e2))
  | true =>
    refine L2.iteT ⟨fun σ' H' => ∃ c' F', (I c' ∧ μ c' < μ c) ∧ EnvY Y F' H' σ' c' ∧ Same F F', fun σ' H' ⟨c', F', hI', E', s'⟩ => ⟨μ c', hI'.2, c', F', hI'.1, rfl, E', s'⟩, ?_⟩
    refine ⟨c, _, F2, hb rfl, E.grow e2, fun o ho => ?_⟩
    have s2 := s1.trans e2.ff
    cases o with
    | nx c' => exact fun σ' F' H' s' E' => ⟨c', F', ho, E', s2.trans s'⟩
    | ct c' => exact fun σ' F' H' s' E' => ⟨c', F', ho, E', s2.trans s'⟩
    | bk c' => exact fun σ' F' H' s' E' => m (.nx c') ho σ' F' H' (s2.trans s') E'
    | rt d => exact (m (.rt d) ho).grow s2
    | ro ds => exact False.elim ho
    | rs R => exact False.elim ho
end

/-! ### for -/
def Itrs (lo st : Int) (n : Nat) : It := ⟨fun i _ => i < n, fun i H x H' => H' = H ∧ x = .int (lo + i * st), fun i _ => n ≤ i⟩
theorem turn_ranges {P : Program} {w : World} {K : PySem.W.Frag} {tg : Expr} (it : Addr) (lo st : Int) (n : Nat) : Turn P w K tg (Itrs lo st n) [it] it (fun i h => IsRangeIter h it (lo + (i : Nat) * st) ((n : Int) - (i : Nat)) st) where
  mem := by simp
  obj := fun i h st b hb => by
    have e : b = it := by simpa using hb
    subst e
    exact ⟨_, st, fun v z => by
      have z' : Data.fields _ = Data.cell v := z
      cases z'⟩
  keep := fun i h h' st k => k it (by simp) _ st
  item := by
    intro X hP hw hK hc i pins s σ H E I hf stt hg
    subst hP hw hK
    obtain ⟨f0, f1, f2, f3, f4, f5⟩ := hf it (by simp)
    have W := PySem.Walks.range (prog := X.prog) (w := X.w) (I.ok.hd hc) it lo st n
    refine W.item i s _ _ hg stt fun v h' tk hv st' kk => ?_
    obtain ⟨t, rfl⟩ := hv
    have I1 : Inv X pins σ H { s with heap := h', toks := tk } := I.turned (fun b o hb e => kk b o (by simpa using hb) e) f0 f1 f3 f4 f5
    exact ⟨_, rfl, go_of (s := { s with heap := h', toks := tk }) (n := "range_iterator") st' rfl rfl (by decide) ⟨.int _, H, I1, ⟨t, rfl⟩, ⟨rfl, rfl⟩, st', fun b hb => (hf b hb).1⟩⟩
  done := by
    intro X hP hw hK hc i pins s σ H E I hf st hg
    subst hP hw hK
    obtain ⟨f0, f1, f2, f3, f4, f5⟩ := hf it (by simp)
    exact wpAny_pyNext_range_end (I.ok.hd hc) st (by have : n ≤ i := hg; omega) fun h' eb => ⟨rfl, I.turned (t' := s.toks) (fun b o hb e => eb b o hb e) f0 f1 f3 f4 f5⟩
  self := fun _ _ _ _ _ st h => wpAny_pyIter_rangeiter st h

theorem ranges_small {a b st : Int} (h1 : -(2 ^ 61) ≤ a) (h2 : a < 2 ^ 61) (h3 : -(2 ^ 61) ≤ b) (h4 : b < 2 ^ 61) (h5 : 0 < st) (h6 : st < 2 ^ 61) : Builtin.Range.small a b st = true := by
  have e : Builtin.Range.rangeSize a b st = if a < b then (b - a - 1) / st + 1 else 0 := by
    unfold Builtin.Range.rangeSize
    rw [if_pos h5]
  have q : a < b → 0 ≤ (b - a - 1) / st ∧ (b - a - 1) / st ≤ b - a - 1 := fun h => ⟨Int.ediv_nonneg (by omega) (by omega), Int.ediv_le_self _ (by omega)⟩
  unfold Builtin.Range.small
  rw [e]
  simp only [Builtin.Range.rangeFitsLong, Bool.and_eq_true, Bool.or_eq_true, decide_eq_true_eq, beq_iff_eq, h5, if_true]
  split
  · have := q (by assumption); omega
  · omega

section
variable {Y : Cy} {T : Tx} {k : Nat} {N G : List Str} {c c' : List Slot} {a b e tg : Expr} {es : List Expr} {pos : Pos} {d d1 d2 : D} {ds items : List D} {P : Out → Prop} {rest : List Stmt}
/-- the iterator J goes through the items -/
def Yields (K : PySem.W.Frag) (F1 : Hp) (J : It) (items : List D) : Prop := ∀ (i : Nat) (F H : Hp), Same F1 F → Same F H →
  (∀ d, items[i]? = some d → J.go i H ∧ ∀ x H', J.yld i H x H' → ∃ F', Ext F H F' H' ∧ Rep K F' x d) ∧ (items.length ≤ i → J.stop i H)
def tI (Y : Cy) (c : List Slot) (items : List D) : TI := fun σ H R => ∃ F, EnvY Y F H σ c ∧ ∀ J F1 H1, Ext F H F1 H1 → Yields Y.X.K F1 J items → R J H1
def ItD (Y : Cy) (tg e : Expr) (c : List Slot) (items : List D) : Prop := PI Y.X tg e (tI Y c items)
theorem PI.imp {X : Cx} {e : Expr} {t t' : TI} (h : PI X tg e t) (i : ∀ σ H R, t' σ H R → t σ H R) : PI X tg e t' := fun pins s σ H R I q => h pins s σ H R I (i _ _ _ q)
theorem it_tup (h : EvD Y e c (.tup ds)) : ItD Y tg e c ds :=
  PI.imp (pi_tup h) fun σ H R ⟨F, E, q⟩ => ⟨F, E, fun x F1 H1 e1 r1 => by
    obtain ⟨p, vs, rfl, hp, r⟩ := inv_tup r1
    refine ⟨p, rfl, ⟨vs, sqT_same e1.fh hp⟩, q _ F1 H1 e1 fun i F2 H2 s1 s2 => ⟨fun d hd => ?_, fun hl => ⟨vs, sqT_same s2 (sqT_same s1 hp), by rw [r.length]; exact hl⟩⟩⟩
    obtain ⟨v, hv, rv⟩ := r.get hd
    refine ⟨⟨vs, v, sqT_same s2 (sqT_same s1 hp), hv⟩, fun x H' y => ?_⟩
    obtain ⟨rfl, y⟩ := y
    have := y vs (sqT_same s2 (sqT_same s1 hp))
    rw [hv] at this
    cases this
    exact ⟨F2, Ext.refl s2, rv.mono s1⟩⟩
/-- lo, lo + st, .. (n of them) -/
def rangeD (lo st : Int) (n : Nat) : List D := (List.range n).map fun (m : Nat) => D.int (lo + (m : Int) * st)
theorem rangeD_length (lo st : Int) (n : Nat) : (rangeD lo st n).length = n := by simp [rangeD]
theorem rangeD_get {lo st : Int} {n m : Nat} (h : m < n) : (rangeD lo st n)[m]? = some (.int (lo + (m : Int) * st)) := by simp [rangeD, h]
theorem rangeD_of {lo st : Int} {n m : Nat} {d : D} (h : (rangeD lo st n)[m]? = some d) : m < n ∧ d = .int (lo + (m : Int) * st) := by
  have hl := (List.getElem?_eq_some_iff.mp h).1
  rw [rangeD_length] at hl
  rw [rangeD_get hl] at h
  cases h
  exact ⟨hl, rfl⟩
theorem yields_ranges {K : PySem.W.Frag} {F : Hp} (lo st : Int) (n : Nat) : Yields K F (Itrs lo st n) (rangeD lo st n) := fun i F2 H2 s1 s2 => ⟨fun d hd => by
    obtain ⟨hi, rfl⟩ := rangeD_of hd
    refine ⟨hi, fun x H' y => ?_⟩
    obtain ⟨rfl, rfl⟩ := y
    exact ⟨F2, Ext.refl s2, .int _⟩, fun hl => by rw [rangeD_length] at hl; exact hl⟩
theorem yields_range {K : PySem.W.Frag} {F : Hp} (lo : Int) (n : Nat) : Yields K F (Itr lo n) (rangeD lo 1 n) := fun i F2 H2 s1 s2 => ⟨fun d hd => by
    obtain ⟨hi, rfl⟩ := rangeD_of hd
    refine ⟨hi, fun x H' y => ?_⟩
    obtain ⟨rfl, rfl⟩ := y
    rw [Int.mul_one]
    exact ⟨F2, Ext.refl s2, .int _⟩, fun hl => by rw [rangeD_length] at hl; exact hl⟩
theorem it_range1 (S : Se Y T k N G) (gi : Nat) {j : Int} {p : Pos} (ha : ArD Y [a] c [.int j]) (h1 : -(2 ^ 62) ≤ j) (h2 : j < 2 ^ 62) (hm : T.mg "range" = none) (hg : G[gi]? = some ("range" : Str) := by rfl)
    (hs : starEach [a] Y.X.env = [(false, eval a Y.X.env)] := by rfl) : ItD Y tg (.Call (.Name "range" p) [a] [] pos) c (rangeD 0 1 j.toNat) :=
  PI.imp (pi_range1 (S.gl _ (List.mem_of_getElem? hg)).1 (by rw [S.eM]; exact hm) ha hs) fun σ H R ⟨F, E, q⟩ => ⟨F, E, fun vs F1 H1 e1 r1 => by
    obtain ⟨v, rfl, rv⟩ := inv1 r1
    exact ⟨j, by rw [inv_int rv], h1, h2, q _ F1 H1 e1 (yields_range 0 j.toNat)⟩⟩
theorem it_range2 (S : Se Y T k N G) (gi : Nat) {i j : Int} {p : Pos} (ha : ArD Y [a, b] c [.int i, .int j]) (h0 : -(2 ^ 62) ≤ i ∧ i < 2 ^ 62 ∧ -(2 ^ 62) ≤ j ∧ j < 2 ^ 62) (hm : T.mg "range" = none) (hg : G[gi]? = some ("range" : Str) := by rfl)
    (hs : starEach [a, b] Y.X.env = [(false, eval a Y.X.env), (false, eval b Y.X.env)] := by rfl) (hs2 : starEach [b] Y.X.env = [(false, eval b Y.X.env)] := by rfl) : ItD Y tg (.Call (.Name "range" p) [a, b] [] pos) c (rangeD i 1 (j - i).toNat) :=
  PI.imp (pi_range2 (S.gl _ (List.mem_of_getElem? hg)).1 (by rw [S.eM]; exact hm) ha hs hs2) fun σ H R ⟨F, E, q⟩ => ⟨F, E, fun vs F1 H1 e1 r1 => by
    obtain ⟨v, w, rfl, rv, rw'⟩ := inv2 r1
    exact ⟨i, j, by rw [inv_int rv, inv_int rw'], h0, q _ F1 H1 e1 (yields_range i _)⟩⟩
/-- how many -/
def rangeN (lo hi st : Int) : Nat := (Builtin.Range.rangeSize lo hi st).toNat
theorem inv3 {K : PySem.W.Frag} {F : Hp} {vs : List V} {d e f : D} (r : Reps K F vs [d, e, f]) : ∃ v w x, vs = [v, w, x] ∧ Rep K F v d ∧ Rep K F w e ∧ Rep K F x f := by
  cases r with
  | cons a t => obtain ⟨w, x, rfl, b, c⟩ := inv2 t; exact ⟨_, _, _, rfl, a, b, c⟩
theorem it_range3 (S : Se Y T k N G) (gi : Nat) {i j st : Int} {p : Pos} {b' : Expr} (ha : ArD Y [a, b, b'] c [.int i, .int j, .int st]) (h0 : -(2 ^ 61) ≤ i ∧ i < 2 ^ 61 ∧ -(2 ^ 61) ≤ j ∧ j < 2 ^ 61) (h5 : 0 < st) (h6 : st < 1000000) (hm : T.mg "range" = none) (hg : G[gi]? = some ("range" : Str) := by rfl)
    (hs : starEach [a, b, b'] Y.X.env = (false, eval a Y.X.env) :: starEach [b, b'] Y.X.env := by rfl) (hs2 : (backTo pos (starEach [b, b'] Y.X.env)).any (·.1) = false := by rfl) : ItD Y tg (.Call (.Name "range" p) [a, b, b'] [] pos) c (rangeD i st (rangeN i j st)) := by
  intro pins s σ H R I ⟨F, E, q⟩
  have hgl := (S.gl _ (List.mem_of_getElem? hg)).1
  refine PyProof.Rows.Call_ (ld_blt I hgl (by rw [S.eM]; exact hm) PyProof.Rows.boot_range (PyProof.Rows.callWith_type1 (thn (ha pos pins s σ H (fun vs H1 => ∃ F1, Ext F H F1 H1 ∧ vs = [V.int i, V.int j, V.int st]) I ⟨F, E, fun vs F1 H1 e1 r1 => ⟨F1, e1, by
    obtain ⟨v, w, x, rfl, rv, rw', rx⟩ := inv3 r1
    rw [inv_int rv, inv_int rw', inv_int rx]⟩⟩) fun us s1 ⟨vs, H1, I1, r1, F1, e1, ev⟩ => ?_) hs hs2))
  subst ev
  obtain ⟨u1, us1, rfl, ⟨t1, rfl⟩, r2⟩ : ∃ u us1, us = u :: us1 ∧ RelV (.int i) u ∧ Vals [.int j, .int st] us1 := by cases r1 with | cons a t => exact ⟨_, _, rfl, a, t⟩
  obtain ⟨u2, u3, rfl, ⟨t2, rfl⟩, ⟨t3, rfl⟩⟩ := vals2 r2
  refine PySem.call_range_3 (by omega) ?_ (.inl (PyProof.noPylong_small (by omega)))
  refine wpAny_pyIter_range (IsRange.new ..) (ranges_small h0.1 h0.2.1 h0.2.2.1 h0.2.2.2 h5 (by omega)) ?_
  have I2 : Inv Y.X pins σ H1 { s1 with heap := s1.heap.push { cls := .type "range", data := .fields #[.int i t1, .int j t2, .int st t3] }, toks := s1.toks } := I1.kept fun b o e => Heap.get?_push_of_some _ e
  refine ⟨(s1.heap.push { cls := .type "range", data := .fields #[.int i t1, .int j t2, .int st t3] }).objs.size, [(s1.heap.push { cls := .type "range", data := .fields #[.int i t1, .int j t2, .int st t3] }).objs.size], _, _, H1, rfl,
    I2.kept (t' := s1.toks) fun b o e => Heap.get?_push_of_some _ e, turn_ranges _ i st (rangeN i j st), ?_, fun b hb => ?_, q _ F1 H1 e1 (yields_ranges i st _)⟩
  · have e1 : i + ((0 : Nat) : Int) * st = i := by simp
    have nn : 0 ≤ Builtin.Range.rangeSize i j st := by
      unfold Builtin.Range.rangeSize
      rw [if_pos h5]
      split
      · have := Int.ediv_nonneg (show 0 ≤ j - i - 1 by omega) (show 0 ≤ st by omega); omega
      · omega
    have e2 : ((rangeN i j st : Nat) : Int) - ((0 : Nat) : Int) = Builtin.Range.rangeSize i j st := by unfold rangeN; omega
    show IsRangeIter _ _ (i + ((0 : Nat) : Int) * st) (((rangeN i j st : Nat) : Int) - ((0 : Nat) : Int)) st
    rw [e1, e2]
    exact Heap.get?_push_size _ rfl
  · have e : b = (s1.heap.push { cls := .type "range", data := .fields #[.int i t1, .int j t2, .int st t3] }).objs.size := by simpa using hb
    subst e
    exact I2.fpOk (Nat.le_refl _) (I2.hok.fresh (Nat.le_refl _))

/-! targets -/
def tG (Y : Cy) (d : D) (c c' : List Slot) : TG := fun v σ H Q => ∃ F, EnvY Y F H σ c ∧ Rep Y.X.K F v d ∧ ∀ σ' F' H', Ext F H F' H' → EnvY Y F' H' σ' c' → Q σ' H'
def TgD (Y : Cy) (tg : Expr) (d : D) (c c' : List Slot) : Prop := PG Y.X tg (tG Y d c c')
theorem PG.imp {X : Cx} {t t' : TG} (h : PG X tg t) (i : ∀ v σ H Q, t' v σ H Q → t v σ H Q) : PG X tg t' := fun pins s σ H x v Q I r q => h pins s σ H x v Q I r (i _ _ _ _ q)
theorem tg_name (S : Sc Y T k N G) (i : Nat) {x : Str} (hi : N[i]? = some x := by rfl) (hlt : i < c.length := by first | exact of_decide_eq_true rfl | decide | omega) : TgD Y (.Name x pos) d c (put c i (.val d)) := by
  have hx := S.loc x (List.mem_of_getElem? hi)
  have hN := S.nd
  rw [← S.n] at hi hN
  exact PG.imp (pg_name hN hi hx.1 (.inl (S.fn x))) fun v σ H Q ⟨F, E, r, q⟩ => q _ F H (Ext.refl E.fh) (E.set hlt r)
theorem tg_tup2 (S : Sc Y T k N G) (i j : Nat) {x y : Str} {p1 p2 : Pos} {kt : Nat} (hi : N[i]? = some x := by rfl) (hj : N[j]? = some y := by rfl) (hlt : i < c.length := by first | exact of_decide_eq_true rfl | decide | omega) (hlt2 : j < c.length := by first | exact of_decide_eq_true rfl | decide | omega)
    (hn : (assignEach [.Name x p1, .Name y p2] Y.X.env).length = 2 := by rfl) (hst : (assignEach [.Name x p1, .Name y p2] Y.X.env).findIdx? (·.1) = none := by rfl)
    (hs : (assignEach [.Name x p1, .Name y p2] Y.X.env).map (·.2) = assign (.Name x p1) Y.X.env :: (assignEach [.Name y p2] Y.X.env).map (·.2) := by rfl) (hs2 : (assignEach [.Name y p2] Y.X.env).map (·.2) = assign (.Name y p2) Y.X.env :: (assignEach [] Y.X.env).map (·.2) := by rfl) :
    TgD Y (.Tuple [.Name x p1, .Name y p2] kt pos) (.tup [d1, d2]) c (put (put c i (.val d1)) j (.val d2)) := by
  have hx := S.loc x (List.mem_of_getElem? hi)
  have hy := S.loc y (List.mem_of_getElem? hj)
  have hN := S.nd
  rw [← S.n] at hi hj hN
  refine PG.imp (pg_tup S.calm (pgs_cons (pg_name hN hi hx.1 (.inl (S.fn x))) (pgs_cons (pg_name hN hj hy.1 (.inl (S.fn y))) pgs_nil hs2) hs) hn hst) fun v σ H Q ⟨F, E, r, q⟩ => ?_
  obtain ⟨a, vs, rfl, hp, rs⟩ := inv_tup r
  obtain ⟨v1, v2, rfl, r1, r2⟩ := inv2 rs
  exact ⟨a, _, rfl, sqT_same E.fh hp, rfl, v1, _, rfl, v2, _, rfl, rfl, q _ F H (Ext.refl E.fh) ((E.set hlt r1).set (by rw [put_length]; exact hlt2) r2)⟩
theorem tg_name0 (S : Sn Y T N G) (i : Nat) {x : Str} (hf : Y.X.fn x = true ∨ Y.X.env.scope.names.lookup x = some .local) (hi : N[i]? = some x := by rfl) (hlt : i < c.length := by first | exact of_decide_eq_true rfl | decide | omega) : TgD Y (.Name x pos) d c (put c i (.val d)) := by
  have hx := S.loc x (List.mem_of_getElem? hi)
  have hN := S.nd
  rw [← S.n] at hi hN
  exact PG.imp (pg_name hN hi hx.1 hf) fun v σ H Q ⟨F, E, r, q⟩ => q _ F H (Ext.refl E.fh) (E.set hlt r)
def gAny (Y : Cy) (tg : Expr) : TG := fun v σ H Q => ∃ d c c', TgD Y tg d c c' ∧ tG Y d c c' v σ H Q
theorem pg_any : PG Y.X tg (gAny Y tg) := fun pins s σ H x v Q I r ⟨d, c, c', h, q⟩ => h pins s σ H x v Q I r q
theorem ss_for (S : Sc Y T k N G) {iter : Expr} {body : List Stmt} (hi : ItD Y tg iter c items) (I : Nat → List Slot → Prop) (h0 : I 0 c)
    (hs : ∀ m d c, items[m]? = some d → I m c → ∃ c', TgD Y tg d c c' ∧ SsD Y body c' (Turned (I (m + 1)) (fun c' => SsD Y rest c' P) (fun d => P (.rt d))))
    (hd : ∀ c, I items.length c → SsD Y rest c P) (hf : ∀ x, foldedSetIterable iter Y.X.env x = pure x := by intro _; rfl) : SsD Y (.For tg iter body [] pos :: rest) c P := by
  refine ss_cons (PS.imp (ps_for S.hp S.calm hi (pg_any (tg := tg)) (pss_any (rest := body)) hf) fun D σ H ⟨F, E, m⟩ => ?_)
  refine ⟨F, E, fun J F1 H1 e1 yl => ?_⟩
  refine ⟨fun n r σ H => r = items.length - n ∧ n ≤ items.length ∧ ∃ c F, I n c ∧ EnvY Y F H σ c ∧ Same F1 F, ⟨_, rfl, Nat.zero_le _, c, F1, h0, E.grow e1, Same.refl _⟩, ?_⟩
  rintro n r σ2 H2 ⟨rfl, hn, c2, F2, hI, E2, s2⟩
  have y := yl n F2 H2 s2 E2.fh
  by_cases hlt : n < items.length
  · obtain ⟨d, hd⟩ : ∃ d, items[n]? = some d := ⟨items[n], List.getElem?_eq_getElem hlt⟩
    obtain ⟨go, yy⟩ := y.1 d hd
    obtain ⟨c3, tgd, ssd⟩ := hs n d c2 hd hI
    refine .inr ⟨go, fun σ' H' => ∃ c' F', I (n + 1) c' ∧ EnvY Y F' H' σ' c' ∧ Same F1 F', fun σ' H' ⟨c', F', hI', E', s'⟩ => ⟨items.length - (n + 1), by omega, rfl, hlt, c', F', hI', E', s'⟩, fun x H' yx => ?_⟩
    obtain ⟨F3, e3, r3⟩ := yy x H' yx
    refine ⟨d, c2, c3, tgd, F3, E2.grow e3, r3, fun σ' F' H'' s' E' => ?_⟩
    have s3 : Same F1 F' := s2.trans (e3.ff.trans s'.ff)
    refine ⟨c3, _, F', ssd, E', fun o ho => ?_⟩
    cases o with
    | nx c' => exact fun σ' F' H' s' E' => ⟨c', F', ho, E', s3.trans s'⟩
    | ct c' => exact fun σ' F' H' s' E' => ⟨c', F', ho, E', s3.trans s'⟩
    | bk c' => exact fun σ' F' H' s' E' => m (.nx c') ho σ' F' H' (e1.ff.trans (s3.trans s')) E'
    | rt d => exact (m (.rt d) ho).grow (e1.ff.trans s3)
    | ro ds => exact False.elim ho
    | rs R => exact False.elim ho
  · have e : n = items.length := by omega
    subst e
    exact .inl ⟨y.2 (Nat.le_refl _), m (.nx c2) (hd c2 hI) σ2 F2 H2 (e1.ff.trans s2) E2⟩
end

/-! ### contracts -/
/-- what a def promises: on arguments ds it hands back d, if R ds d -/
def spD (K : PySem.W.Frag) (R : List D → D → Prop) : Sp := fun vs H Q _ => ∃ F ds d, Same F H ∧ Reps K F vs ds ∧ R ds d ∧ ∀ v F' H', Ext F H F' H' → Rep K F' v d → Q v H'
structure FnD (T : Tx) (k : Nat) (x : Str) (R : List D → D → Prop) : Prop where
  ex : ∃ (f : Addr) (fd : FuncData) (ps : List Str), T.mg x = some (.ref f) ∧ PySem.W.keepIn T.K (.ref f) = true ∧ Binds T.K fd ps [] ∧ FnOk T.prog T.w T.K T.mg T.base CX0 k f fd ps (spD T.K R)
/-- the names' places at a def's entry -/
def ctx0 (N : List Str) (ds : List D) : List Slot := ds.map Slot.val ++ List.replicate (N.length - ds.length) Slot.un
def Ret (d : D) : Out → Prop
  | .rt e => e = d
  | .nx _ => d = .non
  | _ => False
theorem slot_un : ∀ (n i : Nat), slot (List.replicate n Slot.un) i = .un
  | 0, _ => rfl
  | _ + 1, 0 => rfl
  | n + 1, i + 1 => slot_un n i
section
variable {K : PySem.W.Frag} {F H H0 : Hp}
theorem start_sl {n : Nat} : ∀ {vs : List V} {ds : List D}, Reps K F vs ds → ∀ i, SlotOk K H0 F H (vs.map some ++ List.replicate n none)[i]? (slot (ds.map Slot.val ++ List.replicate n Slot.un) i)
  | _, _, .nil, i => by
    show SlotOk K H0 F H _ (slot (List.replicate n Slot.un) i)
    rw [slot_un]; exact trivial
  | _, _, .cons r t, 0 => ⟨_, rfl, r⟩
  | _, _, .cons r t, i + 1 => by
    have q := start_sl (n := n) t i
    simpa [slot] using q
theorem start_own {n : Nat} : ∀ (ds : List D) (i : Nat), isOwn (slot (ds.map Slot.val ++ List.replicate n Slot.un) i) = false
  | [], i => by
    show isOwn (slot (List.replicate n Slot.un) i) = false
    rw [slot_un]; rfl
  | _ :: _, 0 => rfl
  | _ :: r, i + 1 => start_own r i
theorem env_start {N : List Str} {vs : List V} {ds : List D} (f : Same F H) (r : Reps K F vs ds) : Env K F H F H (L2.start N vs) (ctx0 N ds) where
  ext := Ext.refl f
  len := by
    unfold L2.start ctx0
    simp [r.length]
  sl := fun i => by
    unfold L2.start ctx0
    rw [r.length]
    exact start_sl r i
  inj := fun i j a h _ _ _ => by
    unfold ctx0 at h
    rw [start_own] at h
    cases h
end
section
variable {Y : Cy} {T : Tx} {k j : Nat} {N G ps : List Str} {c : List Slot} {e : Expr} {es : List Expr} {pos p : Pos} {d : D} {ds : List D} {R : List D → D → Prop} {x qual : Str}
theorem ev_call (S : Se Y T k N G) (gi : Nat) (Fn : FnD T j x R) (hj : j ≤ k) (ha : ArD Y (e :: es) c ds) (hR : R ds d) (hg : G[gi]? = some x := by rfl)
    (he : starEach (e :: es) Y.X.env = (false, eval e Y.X.env) :: starEach es Y.X.env := by rfl) (hpl : (backTo pos (starEach es Y.X.env)).any (·.1) = false := by rfl) : EvD Y (.Call (.Name x p) (e :: es) [] pos) c d := by
  obtain ⟨f, fd, ps, hm, hk, hb, F⟩ := Fn.ex
  have F' : FnOk Y.X.prog Y.X.w Y.X.K Y.X.mg Y.X.base CX0 j f fd ps (spD Y.X.K R) := by rw [S.eP, S.eW, S.eK, S.eM, S.eB]; exact F
  have gl := S.gl x (List.mem_of_getElem? hg)
  refine PE.imp (pe_call F' (S.room.mono hj) gl.1 (by rw [S.eM]; exact hm) (by rw [S.eK]; exact hk) (by rw [S.eK]; exact hb) .nil pass0 ha gl.2.1 he hpl) fun σ H Q ⟨F, E, q⟩ => ⟨F, E, fun vs F1 H1 e1 r1 => ?_⟩
  show spD Y.X.K R (vs ++ []) H1 Q E0
  rw [List.append_nil]
  exact ⟨F1, ds, d, e1.fh, r1, hR, fun v F2 H2 e2 r2 => q v F2 H2 (e1.trans e2) r2⟩
/-- THE RULE: a def of the text keeps its promise -/
theorem fn_Dk {st : Stmt} {f : Addr} {fd : FuncData} (F : Fun T.K x qual st f fd) (B : ScB N ps G (defScope st)) (hlen : ∀ ds d, R ds d → ds.length = ps.length)
    (body : ∀ (Y : Cy) (S : Sc Y T k N G) (Z : Fx Y st) (ds : List D) (d : D), R ds d → SsD Y (defBody st) (ctx0 N ds) (Ret d)) : FnOk T.prog T.w T.K T.mg T.base CX0 (k + 1) f fd ps (spD T.K R) := by
  refine F.ok B.fs (fun vs H Q E h => ?_) fun cdv A outer s H vs Q E hr h => ?_
  · obtain ⟨F0, ds, d, _, r, hR, _⟩ := h
    rw [r.length]; exact hlen ds d hR
  · obtain ⟨F0, ds, d, f0, r, hR, q⟩ := h
    have S : Sc ⟨(cxOf CX0 T.prog T.w T.K T.mg T.base N qual (defScope st) f cdv A outer s H E).nox, F0, H⟩ T k N G :=
      ⟨⟨⟨rfl, rfl, rfl, rfl, rfl, rfl, B.fs.nd, B.loc, B.gl⟩, rfl, hr⟩, fun _ => rfl, PassesOwn.never⟩
    refine ⟨_, body _ S ⟨rfl, rfl, rfl, rfl⟩ ds d hR, F0, env_start f0 r, fun o ho => ?_⟩
    cases o with
    | rt e => cases ho; exact fun v F' H' _ x r' => q v F' H' x r'
    | nx c => cases ho; exact fun σ F' H' _ E' => q .non F' H' E'.ext .non
    | bk c => exact ho.elim
    | ct c => exact ho.elim
    | ro ds => exact ho.elim
    | rs R => exact ho.elim
/-- a def stands in the module -/
def At (T : Tx) (x : Str) (st : Stmt) : Prop := ∃ (f : Addr) (fd : FuncData), Fun T.K x x st f fd ∧ T.mg x = some (.ref f)
theorem fn_D {st : Stmt} (A : At T x st) (B : ScB N ps G (defScope st)) (hb : ∀ f fd, Fun T.K x x st f fd → Binds T.K fd ps []) (hlen : ∀ ds d, R ds d → ds.length = ps.length)
    (body : ∀ (Y : Cy) (S : Sc Y T k N G) (Z : Fx Y st) (ds : List D) (d : D), R ds d → SsD Y (defBody st) (ctx0 N ds) (Ret d)) : FnD T (k + 1) x R :=
  let ⟨f, fd, F, hm⟩ := A
  ⟨f, fd, ps, hm, F.kp, hb f fd F, fn_Dk F B hlen body⟩
/-- what the law promises -/
def R_law (ds : List D) (d : D) : Prop := ∃ ns : List Int, ds = [.lst (ns.map D.int)] ∧ ns.length ≤ 63 ∧ d = .bl true
theorem law_sp (K : PySem.W.Frag) (H : Hp) (a : Addr) (ns : List Int) (hl : ns.length ≤ 63) (hS : SqL K H a (ns.map V.int)) : spD K R_law [.ref a] H (fun v _ => v = .bl true) fun _ _ _ => False :=
  ⟨H, _, _, Same.refl H, .cons (.lst hS (Reps.ints ns)) .nil, ⟨ns, rfl, hl, rfl⟩, fun v F' H' _ r => inv_bl r⟩
/-- a name of the module that is a built-in's -/
theorem ev_bltn {ty : String} (S : Se Y T k N G) (gi : Nat) (hm : T.mg x = none) (hv : bootBuiltins x = some (.type ty)) (hg : G[gi]? = some x) : PE Y.X (.Name x pos) (tC (.ty ty)) :=
  have gl := S.gl x (List.mem_of_getElem? hg)
  pe_bltn gl.1 (by rw [S.eM]; exact hm) hv rfl gl.2.2 gl.2.1
def tyD : D → String
  | .non => "NoneType" | .bl _ => "bool" | .int _ => "int" | .str _ => "str" | .tup _ => "tuple" | .lst _ => "list"
theorem isinst_D {X : Cx} {pins : List (Addr × Obj)} {σ : St} {F H : Hp} {s : Shared} {A : Around} {E : Value → Shared → Prop} {Q : Value → Shared → Prop} {cv : Value} {b : Bool} {v : V} {u : Value} {d : D}
    (I : Inv X pins σ H s) (rx : RelV v u) (f : Same F H) (r : Rep X.K F v d) (e : PySem.W.kitOne X.K (.type (tyD d)) cv = some b) (h : ∀ tk, Q (.bool b) { s with toks := tk }) :
    wpAny (model X.prog X.w) A (call (.builtin "isinstance") [u, cv]) Q E s := by
  cases r with
  | non => exact isinst_ok I rx .non e h
  | bl y => exact isinst_ok I rx (.bl y) e h
  | int i => exact isinst_ok I rx (.int i) e h
  | str y => exact isinst_ok I rx (.str y) e h
  | @tup a vs ds hs t =>
    cases (show u = Value.ref a from rx)
    obtain ⟨its, _, p, _⟩ := I.tuple (sqT_same f hs)
    obtain ⟨o, h1, h2, _⟩ := p
    exact PySem.W.kia_one PySem.W.kitx_tuple I.kIn ⟨o, h1, h2⟩ e (fun z => nomatch z) h
  | @lst a vs ds hs t =>
    cases (show u = Value.ref a from rx)
    obtain ⟨its, _, p, _⟩ := I.list (f.seq hs)
    obtain ⟨o, n, h1, h2, _⟩ := p
    exact PySem.W.kia_one PySem.W.kitx_list I.kIn ⟨o, h1, h2⟩ e (fun z => nomatch z) h
/-- isinstance(e, C), C a built-in type -/
theorem ev_isi (S : Se Y T k N G) (gi gj : Nat) {ty : String} {b : Bool} {pn : Pos} (he : EvD Y e c d) (e2 : PySem.W.kitOne T.K (.type (tyD d)) (.type ty) = some b) (hm : T.mg "isinstance" = none) (hm2 : T.mg x = none) (hv : bootBuiltins x = some (.type ty))
    (hg : G[gi]? = some ("isinstance" : Str) := by rfl) (hg2 : G[gj]? = some x := by rfl)
    (hs : starEach [e, .Name x pn] Y.X.env = (false, eval e Y.X.env) :: starEach [.Name x pn] Y.X.env := by rfl) : EvD Y (.Call (.Name "isinstance" p) [e, .Name x pn] [] pos) c (.bl b) := by
  have gl := S.gl _ (List.mem_of_getElem? hg)
  have hc : CallR Y.X (.builtin "isinstance") (fun xs H Q => ∃ v F, xs = [v, .ty ty] ∧ Same F H ∧ Rep Y.X.K F v d ∧ Q (.bl b) H) := by
    intro pins s σ H xs us Q I r h
    obtain ⟨v, F, rfl, f, rv, q⟩ := h
    obtain ⟨u, w', rfl, r1, r2⟩ := vals2 r
    cases (show w' = Value.type ty from r2)
    exact isinst_D I r1 f rv (by rw [S.eK]; exact e2) fun tk => ⟨.bl b, H, I.tok tk, rfl, q⟩
  refine PE.imp (pe_callB hc gl.1 (by rw [S.eM]; exact hm) bt_isinstance (pa_cons he (pa_cons (ev_bltn S gj hm2 hv hg2) pa_nil) hs) gl.2.2 gl.2.1 hs rfl) fun σ H Q ⟨F, E, q⟩ => ⟨F, E, fun v F1 H1 e1 r1 => ?_⟩
  exact ⟨v, F1, rfl, e1.fh, r1, q _ F1 H1 e1 (.bl b)⟩
end

/-! ### places of a text -/
def bodyOf : Stmt → List Stmt
  | .For _ _ b _ _ => b
  | .While _ b _ _ => b
  | .If _ b _ _ => b
  | .Try b _ _ _ _ => b
  | _ => []
def atS (l : List Stmt) (i : Nat) : Stmt := l.getD i (.Pass ⟨0, 0, 0, 0⟩)
/-! ### sizes -/
theorem Bd.mono {m n : Nat} {i : Int} (h : Bd m i) (l : m ≤ n) : Bd n i := Nat.lt_of_lt_of_le h (Nat.pow_le_pow_right (by decide) l)
theorem Bd.mul {m n : Nat} {i j : Int} (h1 : Bd m i) (h2 : Bd n j) : Bd (m + n) (i * j) := by
  unfold Bd at *
  rw [Int.natAbs_mul, Nat.pow_add]
  exact Nat.mul_lt_mul_of_lt_of_lt h1 h2
theorem Bd.add {m n : Nat} {i j : Int} (h1 : Bd m i) (h2 : Bd n j) : Bd (max m n + 1) (i + j) := by
  have a := h1.mono (Nat.le_max_left m n)
  have b := h2.mono (Nat.le_max_right m n)
  unfold Bd at *
  rw [Nat.pow_succ]
  omega
theorem Bd.neg {m : Nat} {i : Int} (h : Bd m i) : Bd m (-i) := by unfold Bd at *; rw [Int.natAbs_neg]; exact h
theorem Bd.sub {m n : Nat} {i j : Int} (h1 : Bd m i) (h2 : Bd n j) : Bd (max m n + 1) (i - j) := by rw [Int.sub_eq_add_neg]; exact h1.add h2.neg
theorem Bd.lt {n : Nat} {i : Int} (b : Nat) (h1 : i.natAbs < b) (h : b ≤ 2 ^ n) : Bd n i := Nat.lt_of_lt_of_le h1 h
theorem Bd.of {n : Nat} {i : Int} (b : Int) (h0 : -b < i) (h1 : i < b) (h : b ≤ 2 ^ n) : Bd n i := by
  unfold Bd
  have e : ((2 ^ n : Nat) : Int) = (2 : Int) ^ n := by simp
  omega

/-! ### == and != at any depth -/
mutual
def toPy : D → PyData
  | .non => .none
  | .bl b => .bool b
  | .int i => .int i
  | .str x => .str x
  | .tup xs => .tuple (toPys xs)
  | .lst xs => .list (toPys xs)
def toPys : List D → List PyData
  | [] => []
  | x :: xs => toPy x :: toPys xs
end
def eqD (d e : D) : Bool := PyData.eqv (toPy d) (toPy e)
section
variable {X : Cx} {pins : List (Addr × Obj)} {σ : St} {F H : Hp} {s : Shared}
mutual
theorem reads_of (I : Inv X pins σ H s) (f : Same F H) : ∀ {v : V} {d : D} {u : Value}, Rep X.K F v d → RelV v u → ∃ as, Reads s.heap u (toPy d) as
  | _, _, _, .non, r => by cases r; exact ⟨_, .none⟩
  | _, _, _, .bl b, r => by cases r; exact ⟨_, .bool b⟩
  | _, _, _, .int i, r => by obtain ⟨t, rfl⟩ := r; exact ⟨_, .int i t⟩
  | _, _, _, .str x, r => by obtain ⟨t, rfl⟩ := r; exact ⟨_, .str x t⟩
  | _, _, _, .tup h t, r => by
    cases r
    obtain ⟨its, r2, ⟨o, e1, e2, n, e3⟩, _⟩ := I.tuple (sqT_same f h)
    obtain ⟨as, ra⟩ := readss_of I f t r2
    exact ⟨as, .tuple e1 e2 e3 (by simpa using ra)⟩
  | _, _, _, .lst h t, r => by
    cases r
    obtain ⟨its, r2, ⟨o, n, e1, e2, _, e3⟩, _⟩ := I.list (f.seq h)
    obtain ⟨as, ra⟩ := readss_of I f t r2
    exact ⟨_, .list e1 e2 e3 (by simpa using ra)⟩
theorem readss_of (I : Inv X pins σ H s) (f : Same F H) : ∀ {vs : List V} {ds : List D} {us : List Value}, Reps X.K F vs ds → Vals vs us → ∃ as, ReadsAll s.heap us (toPys ds) as
  | _, _, _, .nil, r => by cases r; exact ⟨_, .nil⟩
  | _, _, _, .cons a t, r => by
    cases r with
    | cons r1 r2 =>
      obtain ⟨as, h1⟩ := reads_of I f a r1
      obtain ⟨bs, h2⟩ := readss_of I f t r2
      exact ⟨_, .cons h1 h2⟩
end
end
section
variable {Y : Cy} {T : Tx} {k : Nat} {N G : List Str} {c : List Slot} {a b : Expr} {pos : Pos} {d1 d2 : D}
def rEqD (K : PySem.W.Frag) (d1 d2 : D) (v : Bool) : R2 := fun x y H Q => ∃ F, Same F H ∧ Rep K F x d1 ∧ Rep K F y d2 ∧ Q (.bl v) H
theorem op_eqD {X : Cx} (hu : X.A.units + 64 < cLine) (h1 : SeqAt.shaped (toPy d1) = true) (h2 : SeqAt.shaped (toPy d2) = true) : OpR X (compareOp .Eq) (rEqD X.K d1 d2 (eqD d1 d2)) := by
  intro pins s σ H x y v u Q I rx ry ⟨F, f, r1, r2, q⟩
  obtain ⟨as, ra⟩ := reads_of I f r1 rx
  obtain ⟨bs, rb⟩ := reads_of I f r2 ry
  exact SeqAt.compareEq_shaped ra rb h1 h2 hu ⟨.bl _, H, I, rfl, q⟩
theorem op_neD {X : Cx} (hu : X.A.units + 64 < cLine) (h1 : SeqAt.shaped (toPy d1) = true) (h2 : SeqAt.shaped (toPy d2) = true) : OpR X (compareOp .NotEq) (rEqD X.K d1 d2 (!eqD d1 d2)) := by
  intro pins s σ H x y v u Q I rx ry ⟨F, f, r1, r2, q⟩
  obtain ⟨as, ra⟩ := reads_of I f r1 rx
  obtain ⟨bs, rb⟩ := reads_of I f r2 ry
  exact SeqAt.compareNe_shaped ra rb h1 h2 hu ⟨.bl _, H, I, rfl, q⟩
theorem te_eqD (S : Se Y T k N G) (ha : EvD Y a c d1) (hb : EvD Y b c d2) (h1 : SeqAt.shaped (toPy d1) = true := by rfl) (h2 : SeqAt.shaped (toPy d2) = true := by rfl) : TeD Y (.Compare a [.Eq] [b] pos) c (eqD d1 d2) :=
  te_cmp (op_eqD S.room.units h1 h2) (nomark _) ha hb fun x y F H Q f rx ry q => ⟨F, f, rx, ry, q F H (Ext.refl f)⟩
theorem te_neD (S : Se Y T k N G) (ha : EvD Y a c d1) (hb : EvD Y b c d2) (h1 : SeqAt.shaped (toPy d1) = true := by rfl) (h2 : SeqAt.shaped (toPy d2) = true := by rfl) : TeD Y (.Compare a [.NotEq] [b] pos) c (!eqD d1 d2) :=
  te_cmp (op_neD S.room.units h1 h2) (nomark _) ha hb fun x y F H Q f rx ry q => ⟨F, f, rx, ry, q F H (Ext.refl f)⟩
theorem ev_eqD (S : Se Y T k N G) (ha : EvD Y a c d1) (hb : EvD Y b c d2) (h1 : SeqAt.shaped (toPy d1) = true := by rfl) (h2 : SeqAt.shaped (toPy d2) = true := by rfl) : EvD Y (.Compare a [.Eq] [b] pos) c (.bl (eqD d1 d2)) :=
  ev_op2 (t := tC .non) (ta := tC .non) (tb := tC .non) (pe_cmpR (op_eqD S.room.units h1 h2) ha hb (nomark _)) fun x y F H Q f rx ry q => ⟨F, f, rx, ry, q _ F H (Ext.refl f) (.bl _)⟩
theorem ev_neD (S : Se Y T k N G) (ha : EvD Y a c d1) (hb : EvD Y b c d2) (h1 : SeqAt.shaped (toPy d1) = true := by rfl) (h2 : SeqAt.shaped (toPy d2) = true := by rfl) : EvD Y (.Compare a [.NotEq] [b] pos) c (.bl (!eqD d1 d2)) :=
  ev_op2 (t := tC .non) (ta := tC .non) (tb := tC .non) (pe_cmpR (op_neD S.room.units h1 h2) ha hb (nomark _)) fun x y F H Q f rx ry q => ⟨F, f, rx, ry, q _ F H (Ext.refl f) (.bl _)⟩
def isNon : D → Bool
  | .non => true
  | _ => false
/-- e is None, e is not None -/
theorem ev_isN {e : Expr} {d : D} {j pos'} (ha : EvD Y e c d) : EvD Y (.Compare e [.Is] [.Constant .none j pos'] pos) c (.bl (isNon d)) :=
  PE.imp (pe_cmp (pc_isN ha)) fun σ H Q ⟨F, E, q⟩ => ⟨F, E, fun x F1 H1 e1 r1 => by
    cases r1 <;> exact q _ F1 H1 e1 (.bl _)⟩
theorem te_isN {e : Expr} {d : D} {j pos'} (ha : EvD Y e c d) : TeD Y (.Compare e [.Is] [.Constant .none j pos'] pos) c (isNon d) :=
  PT.imp (pt_cmp (pc_isN ha)) fun σ H Q ⟨F, E, q⟩ => ⟨F, E, fun x F1 H1 e1 r1 => by
    cases r1 <;> exact ⟨_, rfl, q F1 H1 e1⟩⟩
end

/-! ### truths by is -/
section
variable {Y : Cy} {c : List Slot} {a b : Expr} {pos : Pos} {v w : Bool}
end
/-! ### a def whose last parameter has a default, an int -/
def AtV (T : Tx) (x : Str) (st : Stmt) (i : Int) : Prop := ∃ (f Td : Addr) (oc : Value) (od : Option Addr) (kV doc pm : Value) (an : Option Addr) (cdv ct : Value) (osl : Array (Option Value)) (tk : Tok) (o : Obj) (n : Nat),
  T.K.lookup f = some ⟨oc, od, .func (PySem.W.fnOf x x (defArgs st) (defBody st) (defScope st) (.ref Td) kV doc pm an cdv ct), osl⟩ ∧ T.K.lookup Td = some o ∧ o.data = .seq #[.int i tk] n ∧ PySem.W.codeIn T.K cdv x = true ∧ PySem.W.keepIn T.K (.ref f) = true ∧ T.mg x = some (.ref f)
/-- the def called without its last argument -/
structure FnDd (T : Tx) (k : Nat) (x : Str) (i : Int) (R : List D → D → Prop) : Prop where
  ex : ∃ (f : Addr) (fd : FuncData) (ps : List Str) (tk : Tok), T.mg x = some (.ref f) ∧ PySem.W.keepIn T.K (.ref f) = true ∧ Binds T.K fd ps [.int i tk] ∧ FnOk T.prog T.w T.K T.mg T.base CX0 k f fd ps (spD T.K R)
end DL

set_option Elab.async false
set_option linter.all false
set_option maxRecDepth 100000
namespace DL
open PySem L2 PySem.W PySem.Spec PySem.Calls PyProof.Rows Builtin Builtin.ObjectAttr Builtin.Getset_descriptor
section
variable {prog : Program} {w : World} {A : Around} {E : Value → Shared → Prop} {K : PySem.W.Frag} {x D : Addr} {o : Obj}
structure ExcK (K : PySem.W.Frag) (D : Addr) : Prop where
  ga : findIn K (.ref D) "__getattribute__" = some (some (.builtin "BaseException.__getattribute__"))
  gt : findIn K (.ref D) "__getattr__" = some none
  ca : findIn K (.ref D) "__class__" = some (some (.builtin "object.__class__"))
  cg : specialIn K (.builtin "object.__class__") "__get__" = some (some (.builtin "getset_descriptor.__get__"))
  tk : takesIn K (.builtin "object.__class__") = some true
  mo : mroIn K D (.type "object") = some true
  mb : mroIn K D (.type "BaseException") = some true
  cl : (clsIn K D).isSome = true
def excKb (K : PySem.W.Frag) (D : Addr) : Bool :=
  findIn K (.ref D) "__getattribute__" == some (some (.builtin "BaseException.__getattribute__")) && (findIn K (.ref D) "__getattr__" == some none && (findIn K (.ref D) "__class__" == some (some (.builtin "object.__class__")) &&
  (specialIn K (.builtin "object.__class__") "__get__" == some (some (.builtin "getset_descriptor.__get__")) && (takesIn K (.builtin "object.__class__") == some true && (mroIn K D (.type "object") == some true && (mroIn K D (.type "BaseException") == some true && (clsIn K D).isSome))))))
theorem excK_of {K : PySem.W.Frag} {D : Addr} (h : excKb K D = true) : ExcK K D := by
  unfold excKb at h
  simp only [Bool.and_eq_true, beq_iff_eq] at h
  obtain ⟨a, b, c, d, e, f, g, i⟩ := h
  exact ⟨a, b, c, d, e, f, g, i⟩
theorem exc_class_get {s : Shared} {R : Result → Shared → Prop} {tp : Value} (X : K.In s.heap) (hx : s.heap.get? x = some o) (hc : o.cls = .ref D) (hm : mroIn K D (.type "object") = some true)
    (h : R (.ok (.ret (.ref D))) s) : codeAny (model prog w) A (.call (.builtin "getset_descriptor.__get__") ⟨[.builtin "object.__class__", .ref x, tp], []⟩) R s := by
  obtain ⟨hh, g, dr, t, os⟩ := s
  have L0 : Looks (model prog w) hh (typeOf (.ref x)) (.ref D) := hc ▸ (Looks.ld hx).andThen .now
  have L1 := looks_mroIn (M := model prog w) X hm
  refine codeAny_call_builtin KF.slot_gs.plain KF.entry_gs (KF.slot_gs.check _ _ _ _ _ _ _ _ KF.type_class (KF.args_gs _ _ _) ?_)
  unfold Builtin.«getset_descriptor.__get__» descrGet
  rw [dga_obj]
  refine wpAny_bind (wpAny_pure ?_)
  unfold descrGetter descrCheckInstance descrNameAndClass isInstance
  simp only [KF.owner_class]
  repeat lk
  refine ⟨Code.quiet_builtin _ (by decide +kernel), codeAny_builtin KF.entry_class ?_⟩
  unfold Builtin.«object.__class__» shownTypeOf
  repeat lk
  exact h
theorem exc_class {s : Shared} {Q : Option Value → Shared → Prop} (X : K.In s.heap) (Z : ExcK K D) (hx : s.heap.get? x = some o) (hc : o.cls = .ref D)
    (h : Q (some (.ref D)) { s with toks := s.toks + 1 }) : wpAny (model prog w) A (getAttr? (.ref x) "__class__") Q E s := by
  obtain ⟨hh, g, d, t, os⟩ := s
  have L0 : Looks (model prog w) hh (typeOf (.ref x)) (.ref D) := hc ▸ (Looks.ld hx).andThen .now
  have L1 := looks_findIn (M := model prog w) X Z.ga
  have L2 := looks_findIn (M := model prog w) X Z.gt
  have L3 := looks_findIn (M := model prog w) X Z.ca
  have L5 := looks_mroIn (M := model prog w) X Z.mb
  have LI : Looks (model prog w) hh (isInstance (.ref x) (.type "BaseException")) true := L0.andThen L5
  unfold getAttr? getAttrBy? getAttrBy
  refine wpAny_bind (wpAny_mkText (wpAny_bind (wpAny_attempt (wpAny_holding (wpAny_bind (L0.at (wpAny_bind (L1.at ?_))))))))
  show wpAny _ _ (getAttrByItsOwn _ _ _ _ _ _) _ _ _
  unfold getAttrByItsOwn hookBefore
  refine wpAny_bind (L2.at (wpAny_bind (wpAny_attempt (wpAny_holding ?_))))
  show wpAny _ _ (boundAndCalled _ _ _) _ _ _
  unfold boundAndCalled
  rw [PySem.F.excAttr_ValueError.ga.bind (.ref x)]
  refine wpAny_bind (wpAny_pure (wpAny_call (codeAny_call_builtin PySem.F.excAttr_ValueError.ga.plain F.entry_bexc_ga ?_)))
  have hk : builtinKind "BaseException.__getattribute__" = some .slot := by decide +kernel
  have hsplit : splitId "BaseException.__getattribute__" = some ("BaseException", "__getattribute__") := by decide +kernel
  have hargs := F.args_bexc_ga (.ref x) (Value.str (Str.ofString "__class__") t)
  have hfind : Looks (model prog w) hh (find (.ref x) (.ref D) "__class__") (.bind (.builtin "getset_descriptor.__get__") (.builtin "object.__class__")) := by
    have G1 := looks_specialIn (M := model prog w) X Z.cg
    have G2 := looks_takesIn (M := model prog w) X Z.tk
    refine L3.andThen (G1.andThen ?_)
    exact (show Looks (model prog w) hh (dataDescriptor? (some (.builtin "object.__class__")) (some (.builtin "getset_descriptor.__get__"))) (some (.builtin "getset_descriptor.__get__", .builtin "object.__class__")) from G2.andThen .now).andThen (Looks.tag .now)
  simp only [checkBuiltinCall, hk, hsplit]
  refine wpAny_bind (LI.at ?_)
  simp only [Bool.not_true, Bool.false_eq_true, if_false]
  have body : ∀ (A' : Around) (Q' : Fin → Shared → Prop) (E' : Value → Shared → Prop), Q' (.done (.ret (.ref D))) ⟨hh, g, d, t + 1, os⟩ → wpAny (model prog w) A' (Builtin.«object.__getattribute__» ⟨[.ref x, .str "__class__" t], []⟩) Q' E' ⟨hh, g, d, t + 1, os⟩ := by
    intro A' Q' E' hq
    unfold Builtin.«object.__getattribute__»
    repeat lk
    refine wpAny_run (h := none) (exc_class_get (s := ⟨hh, g, d, t + 1, os⟩) X hx hc Z.mo ?_)
    exact wpAny_pure (wpAny_pure hq)
  refine wpAny_of_eq (a := ()) hargs (body _ _ _ ?_)
  show wpAny (model prog w) A (handedOut (.ref D)) _ _ _
  exact wpAny_of_eq (handedOut_of rfl) (wpAny_pure h)
theorem kitx_exc (Z : ExcK K D) : KitX K (.ref x) (.ref D) (ExcAt D x) where
  ty := fun _ _ _ ⟨o, _, h1, h2, _⟩ => h2 ▸ (Looks.ld h1).andThen .now
  it := fun _ _ X _ => by
    obtain ⟨cdD, hcD⟩ := Option.isSome_iff_exists.mp Z.cl
    unfold clsIn at hcD
    split at hcD
    · rename_i c' d' cd' sl' ho
      intro A' Q' E' s' k q
      unfold isType loadHead
      exact wpAny_bind (wpAny_loadPart (k _ _ (X _ _ ho)) (wpAny_pure q))
    · cases hcD
  ne := fun h tp dd its n sl X htp => by
    obtain ⟨cdD, hcD⟩ := Option.isSome_iff_exists.mp Z.cl
    refine Bool.eq_false_iff.mpr fun q => ?_
    have e : D = tp := Value.ref.inj (beq_iff_eq.mp q)
    subst e
    unfold clsIn at hcD
    split at hcD
    · rename_i c' d' cd' sl' ho
      have z := (X _ _ ho).symm.trans htp
      cases z
    · cases hcD
  ca := fun X ⟨o, _, h1, h2, _⟩ k => exc_class X Z h1 h2 k
end

end DL
namespace DL
open PySem L2
/-! ### exceptions that pass -/
theorem _root_.L2.ObjOk.there {P : Program} {w : World} {H : Hp} {h : Heap} {a : Addr} {o : HO} (x : ObjOk P w H h a o) : ∃ ob, h.get? a = some ob := by
  cases o with
  | lst xs => obtain ⟨_, _, _, _, e⟩ := x; exact ⟨_, e⟩
  | tup xs => obtain ⟨_, _, _, ob, e, _⟩ := x; exact ⟨_, e⟩
  | dK kvs => obtain ⟨_, _, _, _, o, _, _, e, _⟩ := x; exact ⟨_, e⟩
  | dT kvs => obtain ⟨_, _, _, _, o, _, _, e, _⟩ := x; exact ⟨_, e⟩
  | set S n => obtain ⟨o, _, _, _, e, _⟩ := x; exact ⟨_, e⟩
  | ins C dx fs => obtain ⟨_, _, _, e, _⟩ := x; exact ⟨_, e⟩
  | own y => obtain ⟨_, e⟩ := x; exact ⟨_, e⟩
  | xd fs => obtain ⟨_, ⟨_, _, _, e, _⟩, _⟩ := x; exact ⟨_, e⟩
  | rng lo hi => obtain ⟨_, _, _, e⟩ := x; exact ⟨_, e⟩
  | frz ob u => obtain ⟨e, _⟩ := x; exact ⟨_, e⟩
  | tbl ps => exact ⟨_, (show h.get? a = some _ from x)⟩
  | met f y => exact ⟨_, (show h.get? a = some _ from x)⟩
  | ext φ => obtain ⟨_, ⟨_, e⟩, _⟩ := x; exact ⟨_, e⟩
/-- what B keeps of the heap h: the tracked things, and what stood at s but the frames -/
def Kpt (B : Heap) (outer : List PySem.Env) (H : Hp) (s h : Heap) : Prop := ∀ b o, h.get? b = some o → (H b ≠ none ∨ (s.get? b ≠ none ∧ b ∉ frs outer)) → B.get? b = some o
theorem un_move {P : Program} {w : World} {B : Heap} {outer : List PySem.Env} {H H' : Hp} {s h1 h2 : Heap} (U : Un (frs outer) [] H H' s h1) (K : Kpt B outer H' s h1) (hk : HOk P w H' h1) (fr : h1.FunFrames B outer) (fu : ∀ b ∈ frs outer, H' b = none)
    (st : B.StaysIn h2) (up : h1.UpToSlots h2) : Un (frs outer) [] H H' s h2 ∧ HOk P w H' h2 ∧ Kpt B outer H' s h2 := by
  have frame : ∀ b o, b ∈ frs outer → h1.get? b = some o → ∃ sl, h2.get? b = some { o with slots := sl } := fun b o hb e => by
    obtain ⟨_, o', ho, hd⟩ := fr.mem hb
    rw [e] at ho; cases ho
    exact up b o e hd
  refine ⟨⟨fun b o e n hb hx => ?_, fun b o e n hb hx => ?_, U.free, fun b o e hx => ?_, U.tups, U.frzs, U.tbls⟩, fun a o e => ?_, fun b o e c => ?_⟩
  · exact st _ _ (K b o (U.keep b o e n hb hx) (.inr ⟨by rw [e]; exact (fun z => nomatch z), hb⟩))
  · obtain ⟨sl, e1⟩ := U.slot b o e n hb hx
    obtain ⟨sl', e2⟩ := frame b _ hb e1
    exact ⟨sl', e2⟩
  · obtain ⟨o', e1⟩ := U.there b o e hx
    by_cases hb : b ∈ frs outer
    · obtain ⟨sl, e2⟩ := frame b _ hb e1
      exact ⟨_, e2⟩
    · exact ⟨o', st _ _ (K b o' e1 (.inr ⟨by rw [e]; exact (fun z => nomatch z), hb⟩))⟩
  · refine (hk a o e).stay (fun b u hb q => ?_) (fun _ q => q) fun _ _ q => q
    refine st _ _ (K b u q (.inl ?_))
    rcases hb with rfl | hb
    · rw [e]; exact fun z => nomatch z
    · rw [hb]; exact fun z => nomatch z
  · have ex : ∃ o', h1.get? b = some o' := by
      rcases c with c | ⟨c, _⟩
      · cases q : H' b with
        | none => exact absurd q c
        | some u => exact (hk b u q).there
      · cases q : s.get? b with
        | none => exact absurd q c
        | some u => exact U.there b u q (by simp)
    obtain ⟨o', e1⟩ := ex
    have k := K b o' e1 c
    have z := st _ _ k
    rw [e] at z; cases z
    exact k
/-- how an exception lies behind a call: the class C, at a -/
structure Lies (P : Program) (w : World) (outer : List PySem.Env) (H : Hp) (s : Shared) (a C : Addr) (H' : Hp) (s' : Shared) : Prop where
  os : s'.os = s.os
  bare : PyProof.Rows.AllBare s'.gens
  un : Un (frs outer) [] H H' s.heap s'.heap
  hok : HOk P w H' s'.heap
  new : s.heap.get? a = none
  fu : ∀ b ∈ frs outer, H' b = none
  fly : ∃ B a0, Heap.FlyingW B outer a (.ref C) a0 s'.heap ∧ Kpt B outer H' s.heap s'.heap
def CXE (P : Program) (w : World) : CXT := fun outer H s E e s' => ∃ a C H', e = .ref a ∧ Lies P w outer H s a C H' s' ∧ E (.ref C) none H'
/-- an exception of the class C that is raised here, or arrives here, is as it is wanted -/
structure RzM (Y : Cy) (C : Addr) (c : List Slot) : Prop where
  made : ∀ {pins : List (Addr × Obj)} {σ : St} {F H : Hp} {s : Shared} {h' : Heap} {e : Addr} {vs : List Value}, Inv Y.X pins σ H s → EnvY Y F H σ c → Heap.MadeExcOf s.heap h' e (.ref C) vs → Y.X.xe (.ref e) { s with heap := h' }
structure Rz (Y : Cy) (C : Addr) (c : List Slot) : Prop where
  fly : ∀ {pins : List (Addr × Obj)} {σ : St} {F H F' H' : Hp} {s s' : Shared} {e : Addr}, Inv Y.X pins σ H s → EnvY Y F H σ c → Ext F H F' H' → Lies Y.X.prog Y.X.w Y.X.stack H s e C H' s' → Y.X.xe (.ref e) s'
/-- a state of a body as seen from its entry -/
theorem kpt_of {X : Cx} {pins : List (Addr × Obj)} {σ : St} {H : Hp} {s : Shared} (I : Inv X pins σ H s) (hx : X.ex = []) : Kpt (PySem.W.hideAll s.heap (frs X.stack)) X.stack H s.heap s.heap := fun b o e c => by
  refine PySem.W.hideAll_get _ e fun hb => ?_
  rcases c with c | ⟨_, c⟩
  · exact c (I.stkFree b hb)
  · exact c hb
theorem kpt_in {X : Cx} {pins : List (Addr × Obj)} {σ : St} {H H' : Hp} {s : Shared} {B h : Heap} (I : Inv X pins σ H s) (hx : X.ex = []) (hs : X.stack = X.env :: X.outer ∧ X.env.frame = some X.env.locals) (K : Kpt B X.stack H' s.heap h) : Kpt B X.outer H' X.s₀.heap h := fun b o e c => by
  refine K b o e ?_
  rcases c with c | ⟨c1, c2⟩
  · exact .inl c
  · refine .inr ⟨fun z => ?_, fun hb => ?_⟩
    · cases q : X.s₀.heap.get? b with
      | none => exact c1 q
      | some u =>
        obtain ⟨o', e'⟩ := I.base.there b u q (by rw [hx]; simp)
        rw [z] at e'; cases e'
    · rw [hs.1] at hb
      unfold frs at hb
      rw [List.filterMap_cons, hs.2] at hb
      rcases List.mem_cons.mp hb with rfl | hb
      · cases q : X.s₀.heap.get? X.env.locals with
        | none => exact c1 q
        | some u => exact absurd (Nat.lt_of_lt_of_le (Heap.lt_size q) I.ok.above) (Nat.lt_irrefl _)
      · exact c2 hb
theorem new_in {X : Cx} {pins : List (Addr × Obj)} {σ : St} {H : Hp} {s : Shared} {a : Addr} (I : Inv X pins σ H s) (hx : X.ex = []) (n : s.heap.get? a = none) : X.s₀.heap.get? a = none := by
  cases q : X.s₀.heap.get? a with
  | none => rfl
  | some u =>
    obtain ⟨o', e'⟩ := I.base.there a u q (by rw [hx]; simp)
    rw [n] at e'; cases e'
/-- an exception leaves a def -/
theorem leave_made {X : Cx} {pins : List (Addr × Obj)} {σ : St} {H : Hp} {s : Shared} {h' : Heap} {e C : Addr} {vs : List Value} {Q : Unit → Shared → Prop} {E : Value → Shared → Prop} (I : Inv X pins σ H s) (hx : X.ex = []) (hs : X.stack = X.env :: X.outer ∧ X.env.frame = some X.env.locals)
    (M : Heap.MadeExcOf s.heap h' e (.ref C) vs) (hQ : ∀ s', Lies X.prog X.w X.outer X.H₀ X.s₀ e C H s' → Q () s') : wpAny (model X.prog X.w) X.A (leaving X.env (.ref e)) Q E { s with heap := h' } := by
  have hin : ∀ env ∈ X.stack, ∀ b, env.frame = some b → b ∈ frs X.stack := fun env he b hb => List.mem_filterMap.mpr ⟨env, he, hb⟩
  have fr := PySem.W.funFrames_hide (as := frs X.stack) I.stack hin
  have fro : s.heap.FunFrames (PySem.W.hideAll s.heap (frs X.stack)) X.outer := by have := fr; rw [hs.1] at this; rw [hs.1]; exact this.2.2
  refine wpAny_leaves_madeW (base := PySem.W.hideAll s.heap (frs X.stack)) (by rw [I.ok.frames, hs.1]) hs.2 (fun b o q => PySem.W.of_hideAll _ q) (by rw [← hs.1]; exact fr) M fun h2 t fl _ _ up => ?_
  have ub : Un (frs X.outer) [] X.H₀ H X.s₀.heap s.heap := by have := I.base; rw [hx] at this; exact this
  have fu : ∀ b ∈ frs X.outer, H b = none := fun b hb => I.stkFree b (by rw [hs.1]; unfold frs; rw [List.filterMap_cons, hs.2]; exact .tail _ hb)
  obtain ⟨u2, k2, kp⟩ := un_move ub (kpt_in I hx hs (kpt_of I hx)) I.hok fro fu fl.1 ((Heap.UpToSlots.of_keeps M.keeps).trans up)
  exact hQ _ ⟨I.os, I.bare, u2, k2, new_in I hx M.new, fu, _, _, fl, kp⟩
theorem leave_on {X : Cx} {pins : List (Addr × Obj)} {σ : St} {H H' : Hp} {s s' : Shared} {e C : Addr} {Q : Unit → Shared → Prop} {E : Value → Shared → Prop} (I : Inv X pins σ H s) (hx : X.ex = []) (hs : X.stack = X.env :: X.outer ∧ X.env.frame = some X.env.locals)
    (L : Lies X.prog X.w X.stack H s e C H' s') (hQ : ∀ s', Lies X.prog X.w X.outer X.H₀ X.s₀ e C H' s' → Q () s') : wpAny (model X.prog X.w) X.A (leaving X.env (.ref e)) Q E s' := by
  obtain ⟨B, a0, fl, kp⟩ := L.fly
  have I' : Inv X pins σ H' s' := I.call' (ch := []) L.os L.un L.hok L.bare (fun _ z => nomatch z)
  refine wpAny_leaves_onW (by rw [I.ok.frames, hs.1]) hs.2 (by rw [← hs.1]; exact fl) fun h2 fl2 up => ?_
  have ub : Un (frs X.outer) [] X.H₀ H' X.s₀.heap s'.heap := by have := I'.base; rw [hx] at this; exact this
  have fu : ∀ b ∈ frs X.outer, H' b = none := fun b hb => L.fu b (by rw [hs.1]; unfold frs; rw [List.filterMap_cons, hs.2]; exact .tail _ hb)
  have fro : s'.heap.FunFrames B X.outer := by have := fl.2.2.1; rw [hs.1] at this; exact this.2.2
  obtain ⟨u2, k2, kp2⟩ := un_move ub (kpt_in I hx hs kp) L.hok fro fu fl2.1 up
  exact hQ { s' with heap := h2 } ⟨I'.os, L.bare, u2, k2, new_in I hx L.new, fu, _, _, fl2, kp2⟩

/-! ### defs that may refuse -/
/-- what a def hands back, or the class by which it refuses -/
inductive Rs where
  | ok (d : D) | ex (x : Str)
def spX (T : Tx) (R : List D → Rs → Prop) : Sp := fun vs H Q E => ∃ F ds r, Same F H ∧ Reps T.K F vs ds ∧ R ds r ∧ (match r with
  | .ok d => ∀ v F' H', Ext F H F' H' → Rep T.K F' v d → Q v H'
  | .ex x => ∀ C F' H', T.mg x = some (.ref C) → Ext F H F' H' → E (.ref C) none H')
structure FnX (T : Tx) (k : Nat) (x : Str) (R : List D → Rs → Prop) : Prop where
  ex : ∃ (f : Addr) (fd : FuncData) (ps : List Str), T.mg x = some (.ref f) ∧ PySem.W.keepIn T.K (.ref f) = true ∧ Binds T.K fd ps [] ∧ FnOk T.prog T.w T.K T.mg T.base (CXE T.prog T.w) k f fd ps (spX T R)
def RzN (Y : Cy) (T : Tx) (x : Str) (c : List Slot) : Prop := ∀ C, T.mg x = some (.ref C) → Rz Y C c
def RzMN (Y : Cy) (T : Tx) (x : Str) (c : List Slot) : Prop := ∀ C, T.mg x = some (.ref C) → RzM Y C c
def RetX : Rs → Out → Prop
  | .ok d => Ret d
  | .ex _ => fun _ => False
/-- an expression that raises -/
def tX (Y : Cy) (c : List Slot) : TE := fun σ H _ => ∃ F, EnvY Y F H σ c
def EvX (Y : Cy) (e : Expr) (c : List Slot) : Prop := PE Y.X e (tX Y c)
def tXA (Y : Cy) (c : List Slot) : TA := fun σ H _ => ∃ F, EnvY Y F H σ c
def ArX (Y : Cy) (es : List Expr) (c : List Slot) : Prop := PA Y.X es (tXA Y c)
def tXT (Y : Cy) (c : List Slot) : TT := fun σ H _ => ∃ F, EnvY Y F H σ c
def TeX (Y : Cy) (e : Expr) (c : List Slot) : Prop := PT Y.X e (tXT Y c)
section
variable {Y : Cy} {T : Tx} {k j : Nat} {N G ps : List Str} {c : List Slot} {e : Expr} {es : List Expr} {pos p : Pos} {d : D} {ds : List D} {R : List D → Rs → Prop} {x qual y : Str} {P : Out → Prop} {rest : List Stmt}
theorem fn_Xk {st : Stmt} {f : Addr} {fd : FuncData} (F : Fun T.K x qual st f fd) (B : ScB N ps G (defScope st)) (hlen : ∀ ds d, R ds d → ds.length = ps.length)
    (body : ∀ (Y : Cy) (S : Sc Y T k N G) (Z : Fx Y st) (ds : List D) (r : Rs), R ds r → (∀ y, r = .ex y → ∀ c, RzN Y T y c ∧ RzMN Y T y c) → SsD Y (defBody st) (ctx0 N ds) (RetX r)) : FnOk T.prog T.w T.K T.mg T.base (CXE T.prog T.w) (k + 1) f fd ps (spX T R) := by
  obtain ⟨oc, od, kV, doc, pm, an, cdv, ct, osl, rfl, lk, hcd⟩ := F.ex
  refine fn_of lk hcd B.fs (fun vs H Q E h => ?_) fun A outer s H vs Q E hr h => ?_
  · obtain ⟨F0, ds, d, _, r, hR, _⟩ := h
    rw [r.length]; exact hlen ds d hR
  · obtain ⟨F0, ds, r, f0, rs, hR, q⟩ := h
    have S : Sc ⟨cxOf (CXE T.prog T.w) T.prog T.w T.K T.mg T.base N qual (defScope st) f cdv A outer s H E, F0, H⟩ T k N G :=
      ⟨⟨⟨rfl, rfl, rfl, rfl, rfl, rfl, B.fs.nd, B.loc, B.gl⟩, rfl, hr⟩, fun _ => rfl, PassesOwn.leaving⟩
    refine ⟨_, body _ S ⟨rfl, rfl, rfl, rfl⟩ ds r hR (fun y hy c => ?_), F0, env_start f0 rs, fun o ho => ?_⟩
    · subst hy
      have q : ∀ C F' H', T.mg y = some (.ref C) → Ext F0 H F' H' → E (.ref C) none H' := q
      exact ⟨fun C hC => ⟨fun I En ex L => leave_on I rfl ⟨rfl, rfl⟩ L fun s' L => ⟨_, C, _, rfl, L, q C _ _ hC (En.ext.trans ex)⟩⟩, fun C hC => ⟨fun I En M => leave_made I rfl ⟨rfl, rfl⟩ M fun s' L => ⟨_, C, _, rfl, L, q C _ _ hC En.ext⟩⟩⟩
    · cases r with
      | ex y => exact False.elim ho
      | ok d =>
        have q : ∀ v F' H', Ext F0 H F' H' → Rep T.K F' v d → Q v H' := q
        cases o with
        | rt e => cases ho; exact fun v F' H' _ x r' => q v F' H' x r'
        | nx c => cases ho; exact fun σ F' H' _ E' => q .non F' H' E'.ext .non
        | bk c => exact False.elim ho
        | ct c => exact False.elim ho
        | ro ds => exact False.elim ho
        | rs R => exact False.elim ho
theorem fn_X {st : Stmt} (A : At T x st) (B : ScB N ps G (defScope st)) (hb : ∀ f fd, Fun T.K x x st f fd → Binds T.K fd ps []) (hlen : ∀ ds d, R ds d → ds.length = ps.length)
    (body : ∀ (Y : Cy) (S : Sc Y T k N G) (Z : Fx Y st) (ds : List D) (r : Rs), R ds r → (∀ y, r = .ex y → ∀ c, RzN Y T y c ∧ RzMN Y T y c) → SsD Y (defBody st) (ctx0 N ds) (RetX r)) : FnX T (k + 1) x R :=
  let ⟨f, fd, F, hm⟩ := A
  ⟨f, fd, ps, hm, F.kp, hb f fd F, fn_Xk F B hlen body⟩
/-- the call hands back -/
theorem ev_callO (S : Se Y T k N G) (gi : Nat) (Fn : FnX T j x R) (hj : j ≤ k) (ha : ArD Y (e :: es) c ds) (hR : R ds (.ok d)) (hg : G[gi]? = some x := by rfl)
    (he : starEach (e :: es) Y.X.env = (false, eval e Y.X.env) :: starEach es Y.X.env := by rfl) (hpl : (backTo pos (starEach es Y.X.env)).any (·.1) = false := by rfl) : EvD Y (.Call (.Name x p) (e :: es) [] pos) c d := by
  obtain ⟨f, fd, ps, hm, hk, hb, F⟩ := Fn.ex
  have F' : FnOk Y.X.prog Y.X.w Y.X.K Y.X.mg Y.X.base (CXE Y.X.prog Y.X.w) j f fd ps (spX T R) := by rw [S.eP, S.eW, S.eK, S.eM, S.eB]; exact F
  have gl := S.gl x (List.mem_of_getElem? hg)
  refine PE.imp (pe_call (E := E0) F' (S.room.mono hj) gl.1 (by rw [S.eM]; exact hm) (by rw [S.eK]; exact hk) (by rw [S.eK]; exact hb) .nil (fun _ _ _ _ _ _ _ ⟨_, _, _, _, _, z⟩ => z.elim) ha gl.2.1 he hpl) fun σ H Q ⟨F, E, q⟩ => ⟨F, E, fun vs F1 H1 e1 r1 => ?_⟩
  show spX T R (vs ++ []) H1 Q E0
  rw [List.append_nil]
  refine ⟨F1, ds, .ok d, e1.fh, by rw [← S.eK]; exact r1, hR, fun v F2 H2 e2 r2 => q v F2 H2 (e1.trans e2) (by rw [← S.eK] at r2; exact r2)⟩
/-- the call refuses -/
theorem ev_callX (S : Se Y T k N G) (gi : Nat) (Fn : FnX T j x R) (hj : j ≤ k) (ha : ArD Y (e :: es) c ds) (hR : R ds (.ex y)) (hz : RzN Y T y c) (hg : G[gi]? = some x := by rfl)
    (he : starEach (e :: es) Y.X.env = (false, eval e Y.X.env) :: starEach es Y.X.env := by rfl) (hpl : (backTo pos (starEach es Y.X.env)).any (·.1) = false := by rfl) : EvX Y (.Call (.Name x p) (e :: es) [] pos) c := by
  obtain ⟨f, fd, ps, hm, hk, hb, F⟩ := Fn.ex
  have F' : FnOk Y.X.prog Y.X.w Y.X.K Y.X.mg Y.X.base (CXE Y.X.prog Y.X.w) j f fd ps (spX T R) := by rw [S.eP, S.eW, S.eK, S.eM, S.eB]; exact F
  have gl := S.gl x (List.mem_of_getElem? hg)
  intro pins s σ H Q I ⟨F0, E⟩
  refine wpAny_Call_Name_kw (ld_glob I gl.1 (by rw [S.eM]; exact hm) ?_ gl.2.1)
  refine PySem.W.callWith_K (h₀ := Y.X.base) I.ok.mod.kin (by rw [S.eK]; exact hk) (thn (ha pos pins s σ H (fun vs H1 => ∃ F1, Ext F0 H F1 H1 ∧ Reps Y.X.K F1 vs ds) I ⟨F0, E, fun vs F1 H1 e1 r1 => ⟨F1, e1, r1⟩⟩) fun us s1 ⟨vs, H1, I1, r, F1, e1, rs⟩ => ⟨I1.kIn, ?_⟩) he hpl
  have h : spX T R vs H1 (fun _ _ => False) (fun cls _ H' => ∃ C F', cls = .ref C ∧ T.mg y = some (.ref C) ∧ Ext F1 H1 F' H') :=
    ⟨F1, ds, .ex y, e1.fh, by rw [← S.eK]; exact rs, hR, fun C F' H' hC ex => ⟨C, F', rfl, hC, ex⟩⟩
  have hl : us.length = ps.length := by rw [← r.length]; exact F'.len _ _ _ _ h
  have hb' : Binds Y.X.K fd ps [] := by rw [S.eK]; exact hb
  have hb2 := hb' s1 us I1.kIn (by rw [List.append_nil]; exact hl)
  rw [List.append_nil] at hb2
  refine wpAny_call (codeAny_mono (F'.run Y.X.A Y.X.stack s1 H1 ⟨us, []⟩ us vs _ _ (S.room.mono hj) I1.env0 hb2 r h) fun r s' hq => ?_)
  cases r with
  | error e =>
    obtain ⟨a, C, H', rfl, L, C', F', z, hC, ex⟩ := hq
    cases z
    exact (hz C hC).fly I1 (E.grow e1) ex L
  | ok fl =>
    cases fl with
    | ret u => obtain ⟨_, _, _, _, _, _, _, z⟩ := hq; exact z.elim
    | next => exact False.elim hq
    | brk => exact False.elim hq
    | cont => exact False.elim hq
theorem ss_retX (h : EvX Y e c) : SsD Y (.Return (some e) pos :: rest) c P := ss_cons (PS.imp (ps_ret h) fun D σ H ⟨F, E, _⟩ => ⟨F, E⟩)
theorem ss_exprX (he : EvX Y e c) (hs : swapsWith e none pos.line Y.X.env = pure false := by rfl) : SsD Y (.Expr e pos :: rest) c P :=
  ss_cons (PS.imp (ps_expr he hs) fun D σ H ⟨F, E, _⟩ => ⟨F, E⟩)
end
/-! ### raise -/
theorem exc_of_in {K : PySem.W.Frag} {h : Heap} {C : Addr} {bmB : List Value} {newId : String} (X : K.In h) (q : PySem.W.excIn K C bmB newId = true) :
    ∃ bm N nm qn bs hdct sn sub ab col dd k0 k1 k2 k3 k5 mN, h.get? C = some (excClassObj nm qn C N bs bm hdct sn sub ab col dd k0 k1 k2 k3 k5 newId) ∧ h.Ns N mN ∧ mN "__init__" = none ∧ OwnTail h bmB bm := by
  unfold PySem.W.excIn at q
  split at q
  · rename_i dd cd sl ho
    split at q
    · rename_i C' bm k0 k1 k2 k3 n k5 hm hs
      simp only [Bool.and_eq_true, beq_iff_eq, Bool.not_eq_true'] at q
      obtain ⟨⟨⟨⟨⟨rfl, rfl⟩, hdel⟩, ht⟩, hok⟩, hni⟩ := q
      obtain ⟨nm, bs, mro, ns, qn, hd, sn, sub, ab, col, del⟩ := cd
      dsimp only at hm hdel hok hni
      subst hm hdel
      have hsl : sl = #[k0, k1, k2, k3, some (.builtin n), k5] := by
        obtain ⟨l⟩ := sl
        simp only at hs
        rw [hs]
      subst hsl
      exact ⟨bm, ns, nm, qn, bs, hd, sn, sub, ab, col, dd, k0, k1, k2, k3, k5, _, X _ _ ho, .of_isNs (PySem.W.isNs_of_in X hok), PySem.W.nsMap_none_of_in X hok hni, PySem.W.tail_of_in X ht⟩
    · cases q
  · cases q
/-- an own class of refusals -/
def ClsX (T : Tx) (x : Str) : Prop := ∃ C, T.mg x = some (.ref C) ∧ PySem.W.excIn T.K C [.type "ValueError", .type "Exception", .type "BaseException", .type "object"] "ValueError.__new__" = true
section
variable {Y : Cy} {T : Tx} {k : Nat} {N G : List Str} {c : List Slot} {e : Expr} {es : List Expr} {pos p cpos : Pos} {ds : List D} {x : Str} {P : Out → Prop} {rest : List Stmt}
theorem ss_raise (S : Sc Y T k N G) (gi : Nat) (hC : ClsX T x) (ha : ArD Y (e :: es) c ds) (hz : RzMN Y T x c) (hn : ds.length ≤ 1000000 := by first | exact of_decide_eq_true rfl | (simp; done)) (hg : G[gi]? = some x := by rfl)
    (he : starEach (e :: es) Y.X.env = (false, eval e Y.X.env) :: starEach es Y.X.env := by rfl) (hpl : (backTo cpos (starEach es Y.X.env)).any (·.1) = false := by rfl) : SsD Y (.Raise (some (.Call (.Name x p) (e :: es) [] cpos)) none pos :: rest) c P := by
  obtain ⟨C, hm, q⟩ := hC
  have gl := S.gl x (List.mem_of_getElem? hg)
  refine ss_cons fun pins s σ H D I ⟨F, E, _⟩ => ?_
  have q' : PySem.W.excIn Y.X.K C [.type "ValueError", .type "Exception", .type "BaseException", .type "object"] "ValueError.__new__" = true := by rw [S.eK]; exact q
  obtain ⟨tl, NN, nm, qn, bs, hdct, sn, sub, ab, col, dd, k0, k1, k2, k3, k5, mN, hC, hN, hni, TL⟩ := exc_of_in (h := Y.X.base) I.ok.mod.kin q'
  refine wpAny_Raise_call_subT (C := C) (nm := nm) (q := qn) (N := NN) (bs := bs) (bm := tl) (hdct := hdct) (sn := sn) (sub := sub) (ab := ab) (col := col) (dd := dd) (k0 := k0) (k1 := k1) (k2 := k2) (k3 := k3) (k5 := k5)
    PySem.F.excBase_ValueError (mN := mN) (TL.hasType PySem.F.excBase_ValueError.hasBase) S.room.hd (by rw [he]; show (false || (backTo cpos (starEach es Y.X.env)).any (·.1)) = false; rw [hpl]; rfl) hni (ld_glob I gl.1 (by rw [S.eM]; exact hm) ⟨rfl, ?_⟩ gl.2.1)
  have h1 := ha cpos pins s σ H (fun vs H1 => ∃ F1, Ext F H F1 H1 ∧ vs.length = ds.length) I ⟨F, E, fun vs F1 H1 e1 r1 => ⟨F1, e1, r1.length⟩⟩
  rw [he] at h1 ⊢
  refine Calls.evalArgs_plain (wpAny_mono h1 (fun us s2 h2 => ?_) fun _ _ y => y)
  obtain ⟨vs, H1, I1, r1, F1, e1, hl⟩ := h2
  exact ⟨rfl, by show us.length ≤ sizeLine; rw [← r1.length, hl]; exact small_le hn, I1.bk _ _ hC, hN.keeps I1.bk, TL.keeps I1.bk, fun h' a M => (hz C hm).made I1 (E.grow e1) M⟩
end
end DL

set_option Elab.async false
set_option linter.all false
set_option maxRecDepth 100000
namespace L2
open PySem PySem.Spec PyProof.Rows
/-! ### defs that are called within an except suite -/
structure RoomH (k : Nat) (A : Around) : Prop where
  dp : A.depth + 3 * k + 5 < recursionLimit
  un : A.units + 16 * k + 200 < cLine
theorem RoomH.mono {j k : Nat} {A : Around} (r : RoomH k A) (h : j ≤ k) : RoomH j A := ⟨by have := r.dp; omega, by have := r.un; omega⟩
theorem RoomH.deeper {k : Nat} {A : Around} (r : RoomH (k + 1) A) (env : Env) : RoomH k (A.deeper env) :=
  ⟨by have := r.dp; show A.depth + 1 + 3 * k + 5 < _; omega, by have := r.un; show A.units + 3 + 16 * k + 200 < _; omega⟩
theorem RoomH.depth {k : Nat} {A : Around} (r : RoomH k A) : A.depth < recursionLimit := by have := r.dp; omega
def cxH (P : Program) (w : World) (K : PySem.W.Frag) (mg : Str → Option Value) (base : Heap) (N : List Str) (qual : Str) (scope : Scope) (f : Addr) (cd : Value) (A : Around) (outer : List Env) (s : Shared) (H : Hp) : Cx :=
  { cxOf CX0 P w K mg base N qual scope f cd A outer s H E0 with calm := false, xe := fun _ _ => False }
structure FnOkH (P : Program) (w : World) (K : PySem.W.Frag) (mg : Str → Option Value) (base : Heap) (k : Nat) (f : Addr) (fd : FuncData) (ps : List Str) (sp : Sp) : Prop where
  len : ∀ vs H Q, sp vs H Q E0 → vs.length = ps.length
  run : ∀ (A : Around) (outer : List Env) (s : Shared) (H : Hp) (args : Args) (us : List Value) (vs : List V) (Q : VK), RoomH k A → Env0 P w K mg base A outer s H → BindsTo s fd args (ps.zip us) → Vals vs us → sp vs H Q E0 →
    codeAny (model P w) A (.call (.ref f) args) (CR CX0 outer P w H s Q E0) s
theorem inv_startH {P : Program} {w : World} {K : PySem.W.Frag} {mg : Str → Option Value} {base : Heap} {N ps : List Str} {qual : Str} {scope : Scope} {f : Addr} {cd : Value} {A : Around} {outer : List Env} {s s1 : Shared} {H : Hp} {us : List Value} {vs : List V}
    (S : FnScope N ps scope) (e0 : Env0 P w K mg base A outer s H) (hl : vs.length = ps.length) (r : Vals vs us)
    (x : InCallC s s.heap.objs.size (bindL (envOfC qual scope s.heap.objs.size f cd).kindOf (ps.zip us) fun _ => none) (cellsFrom (s.heap.objs.size + 1) scope.names []) (bindC (envOfC qual scope s.heap.objs.size f cd).kindOf (ps.zip us) fun _ => none) s1) :
    Inv (cxH P w K mg base N qual scope f cd A outer s H) [] (start N vs) H s1 := by
  have hpl : ps.length ≤ N.length := by have := congrArg List.length S.pre; rw [List.length_take] at this; omega
  obtain ⟨h1, tk, rfl, hk⟩ := x.done
  have noA : ∀ b : Addr, b ∉ (cxH P w K mg base N qual scope f cd A outer s H).ex := fun b z => absurd (show b ∈ ([] : List Addr) from z) (by simp)
  refine ⟨⟨e0.mod, S.kind, rfl, rfl, Nat.le_refl _, fun y z c h1 h2 => ?_, fun y hy => ?_, fun y c _ h => ?_, (fun z => nomatch z), Around.frames_deeper e0.frames, .inr ⟨rfl, rfl⟩, fun b z => absurd z (noA b), e0.bs, e0.bsz, fun b _ _ => noA b, fun b z => absurd z (noA b), e0.funs, e0.frf⟩,
    rfl, e0.bare, Un.kept hk, ⟨_, x.toInCall.ns, fun i y v h1 h2 h3 => ?_⟩, fun y c h => ⟨_, x.cell y c h⟩, e0.hok.fresh (Nat.le_refl _), fun y c h => ?_, fun p hp => absurd (show p ∈ ([] : List (Addr × Obj)) from hp) (by simp), e0.hok.kept hk, ?_⟩
  · exact name_of_addr x.apart (PySem.mem_of_lookup h1) (PySem.mem_of_lookup h2)
  · have hy : scope.names.lookup y = some .cell ∨ scope.names.lookup y = some .free := hy
    rcases hy with hy | hy
    · exact cell_has hy
    · exact absurd rfl (S.nofree _ (PySem.mem_of_lookup hy))
  · exact Nat.le_of_lt (x.above y c (PySem.mem_of_lookup h))
  · have hi : i < vs.length := by
      unfold start at h2
      by_cases hi : i < vs.length
      · exact hi
      · rw [List.getElem?_append_right (by simpa using hi)] at h2
        rw [List.getElem?_replicate] at h2
        split at h2 <;> cases h2
    have ha : vs[i]? = some v := by
      unfold start at h2
      rw [List.getElem?_append_left (by simpa using hi), List.getElem?_map] at h2
      cases e : vs[i]? with
      | none => rw [e] at h2; cases h2
      | some a => rw [e] at h2; cases h2; rfl
    obtain ⟨u, hu, rv⟩ := r.get ha
    have hp : ps[i]? = some y := by
      rw [← S.pre, List.getElem?_take_of_lt (by omega)]; exact h1
    have ndP : ps.Nodup := by rw [← S.pre]; exact S.nd.sublist (List.take_sublist _ _)
    refine ⟨u, rv, ?_⟩
    rcases S.par y (List.mem_of_getElem? hp) with k | k
    · exact .inl ⟨k, bindL_get ndP hp hu k⟩
    · obtain ⟨c, e⟩ := cell_has (n := s.heap.objs.size + 1) k
      refine .inr ⟨.inl k, c, e, ?_⟩
      have q := x.cell y c e
      rw [bindC_get ndP hp hu (by show scope.names.lookup y ≠ _; rw [k]; decide)] at q
      exact q
  · exact e0.hok.fresh (Nat.le_of_lt (x.above y c (PySem.mem_of_lookup h)))
  · unfold start
    show _ = N.length
    rw [List.length_append, List.length_map, List.length_replicate]
    omega

theorem fn_ofH {P : Program} {w : World} {K : PySem.W.Frag} {mg : Str → Option Value} {base : Heap} {k : Nat} {f : Addr} {name qual : Str} {params : Arguments} {body : List Stmt} {scope : Scope} {dV kV doc pm cdv ct oc : Value} {an od : Option Addr}
    {osl : Array (Option Value)} {N ps : List Str} {sp : Sp} (lk : K.lookup f = some ⟨oc, od, .func (PySem.W.fnOf name qual params body scope dV kV doc pm an cdv ct), osl⟩) (hcd : PySem.W.codeIn K cdv qual = true) (S : FnScope N ps scope)
    (len : ∀ vs H Q, sp vs H Q E0 → vs.length = ps.length)
    (hbody : ∀ (A : Around) (outer : List Env) (s : Shared) (H : Hp) (vs : List V) (Q : VK), RoomH k (A.deeper (envOfC qual scope s.heap.objs.size f cdv)) → sp vs H Q E0 →
      ∃ t, PSs (cxH P w K mg base N qual scope f cdv A outer s H) body t ∧ t { nx := fun _ H' => Q .non H', rt := Q } (start N vs) H) :
    FnOkH P w K mg base (k + 1) f (PySem.W.fnOf name qual params body scope dV kV doc pm an cdv ct) ps sp := by
  refine ⟨len, fun A outer s H args us vs Q hr e0 hb r hsp => ?_⟩
  have hl := len _ _ _ hsp
  have KX : K.In s.heap := e0.mod.kin.keeps fun b o e => (e0.bs b o e).1
  have lim : s.heap.NoLimit := e0.mod.nolimit.keeps fun b o e => (e0.bs b o e).1
  have hkind : ∀ y ∈ ps.zip us, scope.names.lookup y.1 = some .local ∨ (scope.names.lookup y.1 = some .cell ∧ ((cellsFrom (s.heap.objs.size + 1) scope.names []).lookup y.1).isSome = true) := fun ⟨n, v⟩ hy => by
    rcases S.par n (List.of_mem_zip hy).1 with q | q
    · exact .inl q
    · exact .inr ⟨q, PySem.W.cellsFrom_some _ _ _ (.inl q)⟩
  refine codeAny_call_function hr.depth (KX _ _ lk) rfl S.co S.gen rfl (PySem.W.codeRec_of KX hcd) (hb _ _ _ _ ?_)
  refine wpAny_newFunctionEnv_cells S.kind hkind fun env he s1 x => ?_
  subst he
  refine ⟨lim.keeps x.toInCall.keep, codeAny_func ?_⟩
  obtain ⟨t, ht, hq⟩ := hbody A outer s H vs Q (hr.deeper _) hsp
  have I : Inv (cxH P w K mg base N qual scope f cdv A outer s H) [] (start N vs) H s1 := inv_startH S e0 hl r x
  refine wpAny_mono (ht [] s1 (start N vs) H _ I hq) (fun fl s' hs => ?_) fun e s' hs => False.elim hs
  have fin : ∀ {σ' : St} {H' : Hp} {v : V} {u : Value}, Inv (cxH P w K mg base N qual scope f cdv A outer s H) [] σ' H' s' → RelV v u → Q v H' → CE outer P w H s Q u s' :=
    fun {σ' H' v u} J rv q => ⟨v, H', J.os, J.bare, J.base, J.hok, rv, q⟩
  cases fl with
  | ret u =>
    obtain ⟨v, σ', H', J, rv, q⟩ := hs
    exact fin J rv q
  | next =>
    obtain ⟨σ', H', J, q⟩ := hs
    exact fin (v := V.non) (u := Value.none) J rfl q
  | brk =>
    obtain ⟨_, _, _, q⟩ := hs
    exact False.elim q
  | cont =>
    obtain ⟨_, _, _, q⟩ := hs
    exact False.elim q

end L2
namespace DL
open PySem L2
structure ScH (Y : Cy) (T : Tx) (k : Nat) (N G : List Str) : Prop extends Sn Y T N G where
  fn : ∀ y, Y.X.fn y = true
  room : RoomH k Y.X.A
/-- what a def promises that is handed an exception of the class named x -/
def spH (T : Tx) (R : Str → D → Prop) : Sp := fun vs H Q _ => ∃ F a C x d, vs = [.ref a] ∧ Same F H ∧ H a = some (.ext (ExcAt C a)) ∧ T.mg x = some (.ref C) ∧ R x d ∧ ∀ v F' H', Ext F H F' H' → Rep T.K F' v d → Q v H'
structure FnH (T : Tx) (k : Nat) (x : Str) (R : Str → D → Prop) : Prop where
  ex : ∃ (f : Addr) (fd : FuncData) (ps : List Str), T.mg x = some (.ref f) ∧ PySem.W.keepIn T.K (.ref f) = true ∧ Binds T.K fd ps [] ∧ FnOkH T.prog T.w T.K T.mg T.base k f fd ps (spH T R)
section
variable {Y : Cy} {T : Tx} {k j : Nat} {N G : List Str} {c : List Slot} {e a b : Expr} {es : List Expr} {pos p : Pos} {d : D} {ds : List D} {R : Str → D → Prop} {x qual y : Str} {P : Out → Prop} {rest : List Stmt}
/-- names' places at the entry of a def that is handed an exception -/
def ctxH (N : List Str) (C : Addr) : List Slot := .exc C :: List.replicate (N.length - 1) Slot.un
theorem env_startH {K : PySem.W.Frag} {F H : Hp} {N : List Str} {a C : Addr} (f : Same F H) (h : H a = some (.ext (ExcAt C a))) : Env K F H F H (L2.start N [.ref a]) (ctxH N C) where
  ext := Ext.refl f
  len := by unfold L2.start ctxH; simp
  sl := fun i => by
    unfold L2.start ctxH
    cases i with
    | zero => exact ⟨a, rfl, h⟩
    | succ i => show SlotOk K H F H _ (slot (List.replicate _ Slot.un) i); rw [slot_un]; exact trivial
  inj := fun i j a h _ _ _ => by
    unfold ctxH at h
    cases i with
    | zero => cases h
    | succ i => have h : isOwn (slot (List.replicate _ Slot.un) i) = true := h; rw [slot_un] at h; cases h
theorem fn_H {ps : List Str} {st : Stmt} (A : At T x st) (B : ScB N ps G (defScope st)) (hb : ∀ f fd, Fun T.K x x st f fd → Binds T.K fd ps []) (hlen : ps.length = 1)
    (body : ∀ (Y : Cy) (S : ScH Y T k N G) (C : Addr) (y : Str) (d : D), T.mg y = some (.ref C) → R y d → SsD Y (defBody st) (ctxH N C) (Ret d)) : FnH T (k + 1) x R := by
  obtain ⟨f, fd, F, hm⟩ := A
  refine ⟨f, fd, ps, hm, F.kp, hb f fd F, ?_⟩
  obtain ⟨oc, od, kV, doc, pm, an, cdv, ct, osl, rfl, lk, hcd⟩ := F.ex
  refine fn_ofH lk hcd B.fs (fun vs H Q h => ?_) fun A outer s H vs Q hr h => ?_
  · obtain ⟨_, _, _, _, _, rfl, _⟩ := h; exact hlen.symm
  · obtain ⟨F0, a, C, y, d, rfl, f0, hH, hC, hR, q⟩ := h
    have S : ScH ⟨cxH T.prog T.w T.K T.mg T.base N x (defScope st) f cdv A outer s H, F0, H⟩ T k N G :=
      ⟨⟨rfl, rfl, rfl, rfl, rfl, rfl, B.fs.nd, B.loc, B.gl⟩, fun _ => rfl, hr⟩
    refine ⟨_, body _ S C y d hC hR, F0, env_startH f0 hH, fun o ho => ?_⟩
    cases o with
    | rt e => cases ho; exact fun v F' H' _ x r' => q v F' H' x r'
    | nx c => cases ho; exact fun σ F' H' _ E' => q .non F' H' E'.ext .non
    | bk c => exact ho.elim
    | ct c => exact ho.elim
    | ro ds => exact ho.elim
    | rs R => exact ho.elim
theorem Env.excv {K : PySem.W.Frag} {F₀ H₀ F H : Hp} {σ : St} (E : Env K F₀ H₀ F H σ c) {i : Nat} {C : Addr} (h : slot c i = .exc C) : ∃ a, σ[i]? = some (some (.ref a)) ∧ H a = some (.ext (ExcAt C a)) := by
  have q := E.sl i
  rw [h] at q
  exact q
def tExc (Y : Cy) (c : List Slot) (C : Addr) : TE := fun σ H Q => ∃ F, EnvY Y F H σ c ∧ ∀ a, H a = some (.ext (ExcAt C a)) → Q (.ref a) H
theorem pe_exc (S : Sn Y T N G) (i : Nat) {x : Str} {C : Addr} (hN : N[i]? = some x) (hs : slot c i = .exc C) : PE Y.X (.Name x pos) (tExc Y c C) := by
  have hx := S.loc x (List.mem_of_getElem? hN)
  rw [← S.n] at hN
  exact PE.imp (pe_var hN (hx.1.elim .inl fun h => .inr (.inl h)) hx.2.1 hx.2.2) fun σ H Q ⟨F, E, q⟩ =>
    let ⟨a, ea, r⟩ := E.excv hs
    ⟨.ref a, ea, q a r⟩
theorem ev_var0 (S : Sn Y T N G) (i : Nat) {x : Str} (hN : N[i]? = some x := by rfl) (hs : slot c i = .val d := by rfl) : EvD Y (.Name x pos) c d := by
  have hx := S.loc x (List.mem_of_getElem? hN)
  rw [← S.n] at hN
  exact PE.imp (pe_var hN (hx.1.elim .inl fun h => .inr (.inl h)) hx.2.1 hx.2.2) fun σ H Q ⟨F, E, q⟩ =>
    let ⟨x, ex, r⟩ := E.val hs
    ⟨x, ex, q x F H (Ext.refl E.fh) r⟩
theorem ss_set0 (S : ScH Y T k N G) (i : Nat) {x : Str} {pos' : Pos} (he : EvD Y e c d)
    (hr : SsD Y rest (put c i (.val d)) P) (hi : N[i]? = some x := by rfl) (hlt : i < c.length := by first | exact of_decide_eq_true rfl | decide | omega) (hs : swapsWith e (some (.Name x pos')) pos.line Y.X.env = pure false := by rfl) : SsD Y (.Assign [.Name x pos'] e pos :: rest) c P := by
  have hx := S.loc x (List.mem_of_getElem? hi)
  have hN := S.nd
  rw [← S.n] at hi hN
  refine ss_cons (PS.imp (ps_set hN hi hx.1 he hs (.inl (S.fn x))) fun D σ H ⟨F, E, m⟩ => ⟨F, E, fun v F' H' e' r' => ?_⟩)
  exact m (.nx (put c i (.val d))) hr _ F' H' e'.ff ((E.grow e').set hlt r')
/-- isinstance of an exception -/
theorem isi_exc {C : Addr} {cv : Value} {cV : V} {v : Bool} (Z : ExcK T.K C) (eK : Y.X.K = T.K) (rv : RelV cV cv) (hcv : ∀ u, RelV cV u → u = cv) (e2 : PySem.W.kitOne T.K (.ref C) cv = some v) :
    CallR Y.X (.builtin "isinstance") (fun xs H Q => ∃ a, xs = [.ref a, cV] ∧ H a = some (.ext (ExcAt C a)) ∧ Q (.bl v) H) := by
  intro pins s σ H xs us Q I r h
  obtain ⟨a, rfl, hH, q⟩ := h
  obtain ⟨u, w', rfl, r1, r2⟩ := vals2 r
  cases (show u = Value.ref a from r1)
  cases hcv _ r2
  have ok : ObjOk Y.X.prog Y.X.w H s.heap a (.ext (ExcAt C a)) := I.hok a _ hH
  have Z' : ExcK Y.X.K C := by rw [eK]; exact Z
  exact PySem.W.kia_one (kitx_exc Z') I.kIn ok.1 (by rw [eK]; exact e2) (fun z => nomatch z) fun tk => ⟨.bl v, H, I.tok tk, rfl, q⟩
/-- isinstance(e, C), C an own class -/
theorem ev_isX (S : Sn Y T N G) (i gi gj : Nat) {z : Str} {C C' : Addr} {v : Bool} {pn pz : Pos} (hs : slot c i = .exc C) (Z : ExcK T.K C) (hm2 : T.mg y = some (.ref C')) (e2 : PySem.W.kitOne T.K (.ref C) (.ref C') = some v) (hm : T.mg "isinstance" = none)
    (hi : N[i]? = some z := by rfl) (hg : G[gi]? = some ("isinstance" : Str) := by rfl) (hg2 : G[gj]? = some y := by rfl)
    (hst : starEach [.Name z pz, .Name y pn] Y.X.env = (false, eval (.Name z pz) Y.X.env) :: starEach [.Name y pn] Y.X.env := by rfl) : EvD Y (.Call (.Name "isinstance" p) [.Name z pz, .Name y pn] [] pos) c (.bl v) := by
  have gl := S.gl _ (List.mem_of_getElem? hg)
  have gl2 := S.gl _ (List.mem_of_getElem? hg2)
  refine PE.imp (pe_callB (isi_exc Z S.eK (cV := .ref C') (cv := .ref C') rfl (fun u h => h) e2) gl.1 (by rw [S.eM]; exact hm) bt_isinstance (pa_cons (pe_exc S i hi hs) (pa_cons (pe_glob (v := .ref C') gl2.1 (by rw [S.eM]; exact hm2) rfl gl2.2.1) pa_nil) hst) gl.2.2 gl.2.1 hst rfl) fun σ H Q ⟨F, E, q⟩ => ⟨F, E, fun a ha => ?_⟩
  exact ⟨a, rfl, ha, q _ F H (Ext.refl E.fh) (.bl v)⟩
theorem ev_isXB (S : Sn Y T N G) (i gi gj : Nat) {z : Str} {C : Addr} {ty : String} {v : Bool} {pn pz : Pos} (hs : slot c i = .exc C) (Z : ExcK T.K C) (hm2 : T.mg y = none) (hv : bootBuiltins y = some (.type ty)) (e2 : PySem.W.kitOne T.K (.ref C) (.type ty) = some v) (hm : T.mg "isinstance" = none)
    (hi : N[i]? = some z := by rfl) (hg : G[gi]? = some ("isinstance" : Str) := by rfl) (hg2 : G[gj]? = some y := by rfl)
    (hst : starEach [.Name z pz, .Name y pn] Y.X.env = (false, eval (.Name z pz) Y.X.env) :: starEach [.Name y pn] Y.X.env := by rfl) : EvD Y (.Call (.Name "isinstance" p) [.Name z pz, .Name y pn] [] pos) c (.bl v) := by
  have gl := S.gl _ (List.mem_of_getElem? hg)
  have gl2 := S.gl _ (List.mem_of_getElem? hg2)
  refine PE.imp (pe_callB (isi_exc Z S.eK (cV := .ty ty) (cv := .type ty) rfl (fun u h => h) e2) gl.1 (by rw [S.eM]; exact hm) bt_isinstance (pa_cons (pe_exc S i hi hs) (pa_cons (pe_bltn (v := .ty ty) gl2.1 (by rw [S.eM]; exact hm2) hv rfl gl2.2.2 gl2.2.1) pa_nil) hst) gl.2.2 gl.2.1 hst rfl) fun σ H Q ⟨F, E, q⟩ => ⟨F, E, fun a ha => ?_⟩
  exact ⟨a, rfl, ha, q _ F H (Ext.refl E.fh) (.bl v)⟩
/-- a def is handed the exception -/
theorem ev_callH (S : ScH Y T k N G) (i gi : Nat) {z : Str} {C : Addr} {pz : Pos} (Fn : FnH T j x R) (hj : j ≤ k) (hs : slot c i = .exc C) (hC : T.mg y = some (.ref C)) (hR : R y d) (hi : N[i]? = some z := by rfl) (hg : G[gi]? = some x := by rfl)
    (he : starEach [.Name z pz] Y.X.env = (false, eval (.Name z pz) Y.X.env) :: starEach [] Y.X.env := by rfl) : EvD Y (.Call (.Name x p) [.Name z pz] [] pos) c d := by
  obtain ⟨f, fd, ps, hm, hk, hb, F⟩ := Fn.ex
  have F' : FnOkH Y.X.prog Y.X.w Y.X.K Y.X.mg Y.X.base j f fd ps (spH T R) := by rw [S.eP, S.eW, S.eK, S.eM, S.eB]; exact F
  have gl := S.gl x (List.mem_of_getElem? hg)
  intro pins s σ H Q I ⟨F0, E, q⟩
  refine wpAny_Call_Name_kw (ld_glob I gl.1 (by rw [S.eM]; exact hm) ?_ gl.2.1)
  refine PySem.W.callWith_K (h₀ := Y.X.base) I.ok.mod.kin (by rw [S.eK]; exact hk) (thn (pa_cons (pe_exc S.toSn i hi hs) pa_nil he pos pins s σ H (fun vs H1 => ∃ a, vs = [.ref a] ∧ H1 = H ∧ H a = some (.ext (ExcAt C a))) I ⟨F0, E, fun a ha => ⟨a, rfl, rfl, ha⟩⟩) fun us s1 ⟨vs, H1, I1, r, a, ev, eh, ha⟩ => ⟨I1.kIn, ?_⟩) he rfl
  subst ev eh
  have h : spH T R [.ref a] H1 Q E0 := ⟨F0, a, C, y, d, rfl, E.fh, ha, hC, hR, fun v F' H' ex r => q v F' H' ex (by rw [S.eK]; exact r)⟩
  have hl : us.length = ps.length := by rw [← r.length]; exact F'.len _ _ _ h
  have hb' : Binds Y.X.K fd ps [] := by rw [S.eK]; exact hb
  have hb2 := hb' s1 us I1.kIn (by rw [List.append_nil]; exact hl)
  rw [List.append_nil] at hb2
  refine wpAny_call (codeAny_mono (F'.run Y.X.A Y.X.stack s1 H1 ⟨us, []⟩ us _ _ (S.room.mono hj) I1.env0 hb2 r h) fun r s' hq => ?_)
  cases r with
  | error e => exact False.elim hq
  | ok fl =>
    cases fl with
    | ret u => exact I1.after hq
    | next => exact False.elim hq
    | brk => exact False.elim hq
    | cont => exact False.elim hq
end

/-! ### try .. except C as n -/
theorem _root_.L2.Inv.track {X : Cx} {pins : List (Addr × Obj)} {σ : St} {H : Hp} {s : Shared} {e : Addr} {φ : Heap → Prop} (I : Inv X pins σ H s) (hn : H e = none) (h0 : X.s₀.heap.get? e = none) (hl : e ≠ X.env.locals) (hc : ∀ x c, X.env.cells.lookup x = some c → c ≠ e)
    (hp : ∀ p ∈ X.pn ++ pins, p.1 ≠ e) (hφ : ObjOk X.prog X.w (upd H e (.ext φ)) s.heap e (.ext φ)) : Inv X pins σ (upd H e (.ext φ)) s := by
  have ne : ∀ b u, H b = some u → upd H e (.ext φ) b = some u := fun b u q => by rw [upd_ne (ne_of_none q hn)]; exact q
  refine ⟨I.ok, I.os, I.bare, ⟨I.base.keep, I.base.slot, fun b o q n hx => ?_, I.base.there, fun b xs q => ne _ _ (I.base.tups b xs q), fun b o u q => ne _ _ (I.base.frzs b o u q), fun b ps q => ?_⟩, I.loc, I.cell, ?_, fun x c q => ?_, fun p hp' => ?_, fun b o q => ?_, I.len⟩
  · rw [upd_ne (fun z => by rw [z, h0] at q; cases q)]; exact I.base.free b o q n hx
  · obtain ⟨m, q'⟩ := I.base.tbls b ps q; exact ⟨m, ne _ _ q'⟩
  · rw [upd_ne (Ne.symm hl)]; exact I.free
  · rw [upd_ne (hc x c q)]; exact I.freeC x c q
  · obtain ⟨a1, a2, a3, a4, a5⟩ := I.pin p hp'
    exact ⟨a1, by rw [upd_ne (hp p hp')]; exact a2, a3, a4, a5⟩
  · by_cases hb : b = e
    · subst hb; rw [upd_same] at q; cases q; exact hφ
    · rw [upd_ne hb] at q
      exact (I.hok b o q).stay (fun _ _ _ z => z) (fun c z => ne _ _ z) fun c xs z => ne _ _ z
theorem _root_.L2.Inv.unname {X : Cx} {pins : List (Addr × Obj)} {σ : St} {H : Hp} {s : Shared} {i : Nat} {n : Str} {pos : Pos} {M : Model} {A : Around} {E : Value → Shared → Prop} {Q : Unit → Shared → Prop} (I : Inv X pins σ H s) (hN : X.N.Nodup) (hi : X.N[i]? = some n) (hl : X.env.scope.names.lookup n = some .local)
    (h : ∀ s', Inv X pins (σ.set i none) H s' → Q () s') : wpAny M A (do bindName X.env n .none; unbindBehindTheSuite X.env n pos) Q E s := by
  obtain ⟨m, hn, hv⟩ := id I.loc
  have hcls : (X.env.scope.kind == .class || (X.env.scope.kind == .module && X.env.locals != X.env.globals)) = false := by rw [I.ok.kind]; rfl
  refine wpAny_nameGoes_keeps hl hn hcls fun h' v hn' hs => h _ ?_
  obtain ⟨oL, _, _, hoL, _⟩ := id hn
  have iσ : i < σ.length := by rw [I.len]; exact (List.getElem?_eq_some_iff.mp hi).1
  refine ⟨I.ok, I.os, I.bare, ⟨fun b o e n hb hx => ?_, fun b o e n hb hx => ?_, I.base.free, fun b o e hx => ?_, I.base.tups, I.base.frzs, I.base.tbls⟩, ⟨_, hn', fun j y v' e1 e2 e3 => ?_⟩, fun y c e => ?_, I.free, I.freeC, fun p hp => ?_, fun b ob e => ?_, by simpa using I.len⟩
  · exact (hs.2 b (Nat.ne_of_lt (Nat.lt_of_lt_of_le (Heap.lt_size e) I.ok.above))).trans (I.base.keep b o e n hb hx)
  · obtain ⟨sl, e1⟩ := I.base.slot b o e n hb hx
    exact ⟨sl, (hs.2 b (Nat.ne_of_lt (Nat.lt_of_lt_of_le (Heap.lt_size e) I.ok.above))).trans e1⟩
  · obtain ⟨o', e1⟩ := I.base.there b o e hx
    exact ⟨o', (hs.2 b (Nat.ne_of_lt (Nat.lt_of_lt_of_le (Heap.lt_size e) I.ok.above))).trans e1⟩
  · by_cases hj : j = i
    · subst hj
      rw [List.getElem?_set_self iσ] at e2
      cases e2
    · rw [List.getElem?_set_ne (Ne.symm hj)] at e2
      obtain ⟨u', r', q⟩ := hv j y v' e1 e2 e3
      refine ⟨u', r', ?_⟩
      rcases q with ⟨k, e⟩ | ⟨k, c, e, z⟩
      · refine .inl ⟨k, ?_⟩
        have : y ≠ n := fun e => hj (nodup_ix hN e1 (e ▸ hi))
        simp [this, e]
      · exact .inr ⟨k, c, e, z.sameBut hs (I.cne y c e)⟩
  · obtain ⟨w', z⟩ := I.cell y c e
    exact ⟨w', z.sameBut hs (I.cne y c e)⟩
  · obtain ⟨e, n, ne, nf, d⟩ := I.pin p hp
    exact ⟨(hs.2 p.1 ne).trans e, n, ne, nf, d⟩
  · refine (I.hok b ob e).stay (fun c w' hc q => (hs.2 c ?_).trans q) (fun _ q => q) fun _ _ q => q
    rintro rfl
    rcases hc with rfl | hc
    · rw [I.free] at e; cases e
    · rw [I.free] at hc; cases hc
theorem Ext.track {F H : Hp} {e : Addr} {o : HO} (f : Same F H) (hn : H e = none) : Ext F H F (upd H e o) :=
  ⟨Same.refl F, fun b u q => by rw [upd_ne (ne_of_none (f _ _ q) hn)]; exact f _ _ q, fun b u q => by rw [upd_ne (ne_of_none q hn)]; exact q, fun _ _ z => z⟩
theorem Env.setExc {K : PySem.W.Frag} {F₀ H₀ F H : Hp} {σ : St} {c : List Slot} (E : Env K F₀ H₀ F H σ c) {i : Nat} {a C : Addr} (hi : i < c.length) (r : H a = some (.ext (ExcAt C a))) : Env K F₀ H₀ F H (σ.set i (some (.ref a))) (put c i (.exc C)) where
  ext := E.ext
  len := by rw [List.length_set, put_length]; exact E.len
  sl := fun j => by
    by_cases e : i = j
    · subst e
      rw [slot_put _ _ _ hi, List.getElem?_set_self (by rw [E.len]; exact hi)]
      exact ⟨a, rfl, r⟩
    · rw [slot_put_ne _ _ _ _ e, List.getElem?_set_ne e]
      exact E.sl j
  inj := fun j k a h1 h2 h3 h4 => by
    by_cases e : i = j
    · subst e; rw [slot_put _ _ _ hi] at h1; cases h1
    · by_cases e2 : i = k
      · subst e2; rw [slot_put _ _ _ hi] at h2; cases h2
      · rw [slot_put_ne _ _ _ _ e] at h1
        rw [slot_put_ne _ _ _ _ e2] at h2
        rw [List.getElem?_set_ne e] at h3
        rw [List.getElem?_set_ne e2] at h4
        exact E.inj j k a h1 h2 h3 h4
theorem slot_ge : ∀ (c : List Slot) (i : Nat), c.length ≤ i → slot c i = .un
  | [], _, _ => rfl
  | _ :: r, 0, h => by simp at h
  | _ :: r, i + 1, h => slot_ge r i (by simpa using h)
theorem put_ge (y : Slot) : ∀ (c : List Slot) (i : Nat), c.length ≤ i → put c i y = c
  | [], _, _ => rfl
  | _ :: r, 0, h => by simp at h
  | x :: r, i + 1, h => congrArg (x :: ·) (put_ge y r i (by simpa using h))
theorem Env.unset {K : PySem.W.Frag} {F₀ H₀ F H : Hp} {σ : St} {c : List Slot} (E : Env K F₀ H₀ F H σ c) {i : Nat} : Env K F₀ H₀ F H (σ.set i none) (put c i .un) where
  ext := E.ext
  len := by rw [List.length_set, put_length]; exact E.len
  sl := fun j => by
    by_cases e : i = j
    · subst e
      by_cases hi : i < c.length
      · rw [slot_put _ _ _ hi]; exact trivial
      · rw [put_ge _ _ _ (by omega), slot_ge _ _ (by omega)]; exact trivial
    · rw [slot_put_ne _ _ _ _ e, List.getElem?_set_ne e]
      exact E.sl j
  inj := fun j k a h1 h2 h3 h4 => by
    by_cases e : i = j
    · subst e
      by_cases hi : i < c.length
      · rw [slot_put _ _ _ hi] at h1; cases h1
      · rw [put_ge _ _ _ (by omega), slot_ge _ _ (by omega)] at h1; cases h1
    · by_cases e2 : i = k
      · subst e2
        by_cases hi : i < c.length
        · rw [slot_put _ _ _ hi] at h2; cases h2
        · rw [put_ge _ _ _ (by omega), slot_ge _ _ (by omega)] at h2; cases h2
      · rw [slot_put_ne _ _ _ _ e] at h1
        rw [slot_put_ne _ _ _ _ e2] at h2
        rw [List.getElem?_set_ne e] at h3
        rw [List.getElem?_set_ne e2] at h4
        exact E.inj j k a h1 h2 h3 h4

/-- the context within a try's body -/
abbrev _root_.L2.Cx.tried (X : Cx) (E : Value → Shared → Prop) (pins : List (Addr × Obj)) : Cx := { X with xe := E, pn := X.pn ++ pins }
/-- the context within an except suite -/
abbrev _root_.L2.Cx.caught (X : Cx) (e : Value) (pins : List (Addr × Obj)) : Cx := { X with A := X.A.mark (some e), calm := false, xe := fun _ _ => False, pn := X.pn ++ pins }
section
variable {X : Cx} {pins pins' : List (Addr × Obj)} {σ : St} {H : Hp} {s : Shared} {E : Value → Shared → Prop} {e : Value}
theorem _root_.L2.Inv.tried (I : Inv X pins σ H s) : Inv (X.tried E pins) [] σ H s :=
  ⟨⟨I.ok.mod, I.ok.kind, I.ok.glob, I.ok.blt, I.ok.above, I.ok.inj, I.ok.has, I.ok.cab, I.ok.hd, I.ok.frames, I.ok.stk, I.ok.exf, I.ok.bs, I.ok.bsz, I.ok.noex, I.ok.exfs, I.ok.funs, I.ok.frf⟩, I.os, I.bare, I.base, I.loc, I.cell, I.free, I.freeC, fun p hp => I.pin p (by simpa using hp), I.hok, I.len⟩
theorem _root_.L2.Inv.untried (I : Inv (X.tried E pins) pins' σ H s) : Inv X pins σ H s :=
  ⟨⟨I.ok.mod, I.ok.kind, I.ok.glob, I.ok.blt, I.ok.above, I.ok.inj, I.ok.has, I.ok.cab, I.ok.hd, I.ok.frames, I.ok.stk, I.ok.exf, I.ok.bs, I.ok.bsz, I.ok.noex, I.ok.exfs, I.ok.funs, I.ok.frf⟩, I.os, I.bare, I.base, I.loc, I.cell, I.free, I.freeC, fun p hp => I.pin p (List.mem_append_left _ hp), I.hok, I.len⟩
theorem _root_.L2.Inv.caught (I : Inv X pins σ H s) (hf : (X.A.mark (some e)).frames = some X.stack) : Inv (X.caught e pins) [] σ H s :=
  ⟨⟨I.ok.mod, I.ok.kind, I.ok.glob, I.ok.blt, I.ok.above, I.ok.inj, I.ok.has, I.ok.cab, (fun z => nomatch z), hf, I.ok.stk, I.ok.exf, I.ok.bs, I.ok.bsz, I.ok.noex, I.ok.exfs, I.ok.funs, I.ok.frf⟩, I.os, I.bare, I.base, I.loc, I.cell, I.free, I.freeC, fun p hp => I.pin p (by simpa using hp), I.hok, I.len⟩
theorem _root_.L2.Inv.uncaught (I : Inv (X.caught e pins) pins' σ H s) (hc : X.calm = true → X.A.handled = none) (hf : X.A.frames = some X.stack) : Inv X pins σ H s :=
  ⟨⟨I.ok.mod, I.ok.kind, I.ok.glob, I.ok.blt, I.ok.above, I.ok.inj, I.ok.has, I.ok.cab, hc, hf, I.ok.stk, I.ok.exf, I.ok.bs, I.ok.bsz, I.ok.noex, I.ok.exfs, I.ok.funs, I.ok.frf⟩, I.os, I.bare, I.base, I.loc, I.cell, I.free, I.freeC, fun p hp => I.pin p (List.mem_append_left _ hp), I.hok, I.len⟩
end
section
variable {K : PySem.W.Frag} {F₀ H₀ F H F1 H1 : Hp} {σ σ0 : St} {c c0 : List Slot}
theorem Env.into (E : Env K F₀ H₀ F H σ c) : Env K F H₀ F H σ c := ⟨⟨Same.refl F, E.ext.fh, E.ext.hh, fun _ _ z => z⟩, E.len, E.sl, E.inj⟩
theorem Ext.outof (a : Ext F₀ H₀ F H) (b : Ext F H₀ F1 H1) : Ext F₀ H₀ F1 H1 := ⟨a.ff.trans b.ff, b.fh, b.hh, fun c hc fc => b.fr c hc (a.fr c hc fc)⟩
theorem Env.outof (E : Env K F₀ H₀ F H σ0 c0) (E' : Env K F H₀ F1 H1 σ c) : Env K F₀ H₀ F1 H1 σ c := ⟨E.ext.outof E'.ext, E'.len, E'.sl, E'.inj⟩
end
/-- behind an except suite: the name is gone -/
def Gone (Y : Cy) (rest : List Stmt) (i : Nat) (P : Out → Prop) : Out → Prop
  | .nx c => SsD Y rest (put c i .un) P
  | .bk c => P (.bk (put c i .un))
  | .ct c => P (.ct (put c i .un))
  | .rt d => P (.rt d)
  | .ro _ => False
  | .rs _ => False
theorem ss_try {Y : Cy} {T : Tx} {k : Nat} {N G : List Str} {c : List Slot} {pos px hpos : Pos} {x n : Str} {body suite : List Stmt} {b₀ : Stmt} {rest : List Stmt} {P : Out → Prop} {Ct : Addr} {st : Stmt} (S : Sc Y T k N G) (Z : Fx Y st) (i gi : Nat) (raised : Str → Prop)
    (hlo : (defScope st).names.lookup n = some .local) (hx : T.mg x = some (.ref Ct)) (hmt : ∀ y C, raised y → T.mg y = some (.ref C) → PySem.W.exmOne T.K (.ref C) (.ref Ct) = some true)
    (hb : ∀ (Y' : Cy) (S' : Sc Y' T k N G), (∀ y, raised y → RzN Y' T y c) → SsD Y' body c (Thn Y rest P))
    (hh : ∀ (Yh : Cy) (Sh : ScH Yh T k N G) (y : Str) (C : Addr), raised y → T.mg y = some (.ref C) → SsD Yh (b₀ :: suite) (put c i (.exc C)) (Gone Y rest i P))
    (hi : N[i]? = some n := by rfl) (hg : G[gi]? = some x := by rfl) (hlt : i < c.length := by first | exact of_decide_eq_true rfl | decide | omega) :
    SsD Y (.Try body [.ExceptHandler (some (.Name x px)) (some n) (b₀ :: suite) hpos] [] [] pos :: rest) c P := by
  refine ss_cons fun pins s σ H D I ⟨F, E, m⟩ => wpAny_Try_except ?_
  have gl := S.gl x (List.mem_of_getElem? hg)
  have hl : Y.X.env.scope.names.lookup n = some .local := by rw [Z.sc]; exact hlo
  have hN : Y.X.N.Nodup := by rw [S.n]; exact S.nd
  have hiX : Y.X.N[i]? = some n := by rw [S.n]; exact hi
  have locn := S.loc n (List.mem_of_getElem? hi)
  have frk : ∀ e, (Y.X.A.mark (some e)).frames = some Y.X.stack := fun e => I.ok.frames
  generalize hxe : (fun (e : Value) (s₁ : Shared) => wpAny (model Y.X.prog Y.X.w) Y.X.A (noteFrame e Y.X.env) (fun _ s₂ => wpAny (model Y.X.prog Y.X.w) Y.X.A (setFlight e none) (fun _ s₃ => wpAny (model Y.X.prog Y.X.w) Y.X.A (handleBy e Y.X.env [.ExceptHandler (some (.Name x px)) (some n) (b₀ :: suite) hpos]) (SP Y.X pins D) Y.X.xe s₃) Y.X.xe s₂) Y.X.xe s₁) = xe'
  have hp' : PassesOwn (model Y.X.prog Y.X.w) Y.X.A Y.X.env xe' := by subst hxe; exact PassesOwn.looking
  have S' : Sc ⟨Y.X.tried xe' pins, F, Y.H0⟩ T k N G := ⟨⟨⟨S.eP, S.eW, S.eK, S.eM, S.eB, S.n, S.nd, S.loc, S.gl⟩, S.calm, S.room⟩, S.fn, hp'⟩
  have rz : ∀ y, raised y → RzN ⟨Y.X.tried xe' pins, F, Y.H0⟩ T y c := by
    intro y hy C hC
    refine ⟨fun {pins' σ F0 H F' H' s s' e} I0 E0' ex L => ?_⟩
    have I : Inv Y.X pins σ H s := I0.untried
    have E1 : Env Y.X.K F Y.H0 F0 H σ c := E0'
    obtain ⟨B, a0, fl, kp⟩ := L.fly
    subst hxe
    have stk : Y.X.stack = Y.X.env :: Y.X.outer := Z.stk.1
    have fl' : Heap.FlyingW B (Y.X.env :: Y.X.outer) e (.ref C) a0 s'.heap := by rw [← stk]; exact fl
    refine wpAny_looks_onW (by rw [I.ok.frames, stk]) Z.stk.2 fl' fun h4 held up4 => ?_
    refine wpAny_landsW held fun h5 fl5 up5 => ?_
    obtain ⟨u5, k5, kp5⟩ := un_move L.un kp L.hok fl.2.2.1 L.fu fl5.1 (up4.trans up5)
    have I5 : Inv Y.X pins σ H' { s' with heap := h5 } := I.call' (s' := { s' with heap := h5 }) (ch := []) L.os u5 k5 L.bare (fun _ z => nomatch z)
    obtain ⟨ob, hob, hobc⟩ := fl5.there
    have LT : PySem.W.Looks (model Y.X.prog Y.X.w) h5 (typeOf (.ref e)) (.ref C) := hobc ▸ (PySem.W.Looks.ld hob).andThen .now
    have I5m : Inv (Y.X.caught (.ref e) pins) [] σ H' { s' with heap := h5 } := I5.caught (frk _)
    refine wpAny_handleBy_cons (codeAny_handlers_test (ld_glob (X := Y.X.caught (.ref e) pins) I5m gl.1 (by show Y.X.mg x = _; rw [S.eM]; exact hx) ?_ gl.2.1)) (by intro q; cases q)
    refine (PySem.W.exm_one (K := Y.X.K) I5.kIn LT (by rw [S.eK]; exact hmt y C hy hC)).here ?_
    refine codeAny_handlers_suite_as ?_
    refine PyProof.Rows.lands_againW fl5 fun h6 fl6 up6 => ?_
    have fl5r : h5.FunFrames B Y.X.stack := by rw [stk]; exact fl5.2.2.1
    obtain ⟨u6, k6, kp6⟩ := un_move u5 kp5 k5 fl5r L.fu fl6.1 up6
    have I6 : Inv Y.X pins σ H' { s' with heap := h6 } := I.call' (s' := { s' with heap := h6 }) (ch := []) L.os u6 k6 L.bare (fun _ z => nomatch z)
    have hn : H' e = none := by
      cases q : H' e with
      | none => rfl
      | some u =>
        obtain ⟨o, ho⟩ := (k6 e u q).there
        have := kp6 e o ho (.inl (by rw [q]; exact fun z => nomatch z))
        rw [fl6.2.1] at this; cases this
    have hloc : e ≠ Y.X.env.locals := fun z => by
      obtain ⟨mm, ⟨oL, _, _, hoL, _⟩, _⟩ := I.loc
      have := L.new; rw [z, hoL] at this; cases this
    have hce : ∀ x c, Y.X.env.cells.lookup x = some c → c ≠ e := fun x c q z => by
      obtain ⟨v, o, ho, _⟩ := I.cell x c q
      have := L.new; rw [← z, ho] at this; cases this
    have hpe : ∀ p ∈ Y.X.pn ++ pins, p.1 ≠ e := fun p hp z => by
      have q := (I.pin p hp).1
      have := L.new; rw [← z, q] at this; cases this
    obtain ⟨oe, vs, hoe, hoc, hod, _⟩ := fl6.first
    have I7 : Inv Y.X pins σ (upd H' e (.ext (ExcAt C e))) { s' with heap := h6 } :=
      I6.track hn (new_in I Z.ex L.new) hloc hce hpe ⟨⟨oe, vs, hoe, hoc, hod⟩, ⟨oe, hoe⟩, fun h1 h2 ⟨o, vs, q1, q2, q3⟩ k => ⟨o, vs, k o q1, q2, q3⟩⟩
    have I7m : Inv (Y.X.caught (.ref e) pins) [] σ (upd H' e (.ext (ExcAt C e))) { s' with heap := h6 } := I7.caught (frk _)
    refine store_ok (X := Y.X.caught (.ref e) pins) (v := .ref e) I7m hN hiX locn.1 rfl (fun s8 I8 => ?_) (.inl (S.fn n))
    have E7 : Env Y.X.K F Y.H0 F' (upd H' e (.ext (ExcAt C e))) σ c := (E1.grow ex).grow (Ext.track ex.fh hn)
    have E8 : Env Y.X.K F Y.H0 F' (upd H' e (.ext (ExcAt C e))) (σ.set i (some (.ref e))) (put c i (.exc C)) := E7.setExc hlt upd_same
    have Sh : ScH ⟨Y.X.caught (.ref e) pins, F, Y.H0⟩ T k N G := ⟨⟨S.eP, S.eW, S.eK, S.eM, S.eB, S.n, S.nd, S.loc, S.gl⟩, S.fn, ⟨S.room.dp, S.room.un⟩⟩
    have w := hh _ Sh y C hy hC [] s8 _ _ { nx := fun σ H => ∃ c2 F2, Env Y.X.K F Y.H0 F2 H σ c2 ∧ SsD Y rest (put c2 i .un) P, rt := D.rt, bk := fun σ H => ∃ c2 F2, Env Y.X.K F Y.H0 F2 H σ c2 ∧ P (.bk (put c2 i .un)), ct := fun σ H => ∃ c2 F2, Env Y.X.K F Y.H0 F2 H σ c2 ∧ P (.ct (put c2 i .un)) } I8 ⟨F', E8, fun o ho => ?_⟩
    · refine wpAny_mono w (fun f s9 hs => ?_) fun _ _ z => False.elim z
      have back : ∀ {σ' : St} {H' : Hp}, Inv (Y.X.caught (.ref e) pins) [] σ' H' s9 → Inv Y.X pins σ' H' s9 := fun J => J.uncaught I.ok.hd I.ok.frames
      cases f with
      | next =>
        obtain ⟨σ', H', J, c2, F2, E2, q⟩ := hs
        exact (back J).unname hN hiX hl fun s10 J10 => ⟨_, _, J10, m (.nx (put c2 i .un)) q _ F2 H' E2.ext.ff (E.outof E2.unset)⟩
      | brk =>
        obtain ⟨σ', H', J, c2, F2, E2, q⟩ := hs
        exact (back J).unname hN hiX hl fun s10 J10 => ⟨_, _, J10, m (.bk (put c2 i .un)) q _ F2 H' E2.ext.ff (E.outof E2.unset)⟩
      | cont =>
        obtain ⟨σ', H', J, c2, F2, E2, q⟩ := hs
        exact (back J).unname hN hiX hl fun s10 J10 => ⟨_, _, J10, m (.ct (put c2 i .un)) q _ F2 H' E2.ext.ff (E.outof E2.unset)⟩
      | ret u =>
        obtain ⟨v, σ', H', J, r, q⟩ := hs
        exact (back J).unname hN hiX hl fun s10 J10 => ⟨v, _, _, J10, r, q⟩
    · cases o with
      | nx c2 => exact fun σ2 F2 H2 s2 E2 => ⟨c2, F2, E2, ho⟩
      | bk c2 => exact fun σ2 F2 H2 s2 E2 => ⟨c2, F2, E2, ho⟩
      | ct c2 => exact fun σ2 F2 H2 s2 E2 => ⟨c2, F2, E2, ho⟩
      | rt d => exact fun v F2 H2 s2 x r => m (.rt d) ho v F2 H2 x.ff (E.ext.outof x) r
      | ro ds => exact False.elim ho
      | rs R => exact False.elim ho
  have w := hb _ S' rz [] s σ H D I.tried ⟨F, E.into, fun o ho => ?_⟩
  · refine wpAny_mono w (fun f s1 hs => ?_) fun e s1 z => by subst hxe; exact z
    cases f with
    | next => obtain ⟨σ', H', J, q⟩ := hs; exact wpAny_execs_nil ⟨σ', H', J.untried, q⟩
    | brk => obtain ⟨σ', H', J, q⟩ := hs; exact ⟨σ', H', J.untried, q⟩
    | cont => obtain ⟨σ', H', J, q⟩ := hs; exact ⟨σ', H', J.untried, q⟩
    | ret u => obtain ⟨v, σ', H', J, r, q⟩ := hs; exact ⟨v, σ', H', J.untried, r, q⟩
  · cases o with
    | nx c2 => exact fun σ2 F2 H2 s2 E2 => m (.nx c2) ho σ2 F2 H2 s2 (E.outof E2)
    | bk c2 => exact fun σ2 F2 H2 s2 E2 => m (.bk c2) ho σ2 F2 H2 s2 (E.outof E2)
    | ct c2 => exact fun σ2 F2 H2 s2 E2 => m (.ct c2) ho σ2 F2 H2 s2 (E.outof E2)
    | rt d => exact fun v F2 H2 s2 x r => m (.rt d) ho v F2 H2 s2 (E.ext.outof x) r
    | ro ds => exact fun vs F2 H2 p s2 x r hp => m (.ro ds) ho vs F2 H2 p s2 (E.ext.outof x) r hp
    | rs R => exact fun v F2 H1 H2 s2 x r => m (.rs R) ho v F2 H1 H2 s2 (E.ext.outof x) r
end DL

set_option Elab.async false
set_option linter.all false
set_option maxRecDepth 100000
namespace DL
open PySem L2
/-! ### list comprehensions -/
theorem closure_ex (env : PySem.Env) : ∀ (l : List (Str × NameKind)) (acc : List (Str × Addr)), (∀ x ∈ l, x.2 = .free → ∃ c, env.cells.lookup x.1 = some c) →
    ∃ cl, (forIn l acc (fun (x : Str × NameKind) (cs : List (Str × Addr)) => (if (x.2 == .free) = true then do let a ← cellOf env x.1; pure (ForInStep.yield ((x.1, a) :: cs)) else pure (ForInStep.yield cs) : Sem (ForInStep (List (Str × Addr))))) : Sem (List (Str × Addr))) = pure cl ∧
      (∀ y c, cl.lookup y = some c → acc.lookup y = some c ∨ (env.cells.lookup y = some c ∧ (y, NameKind.free) ∈ l)) ∧ (∀ y, (acc.lookup y).isSome = true ∨ (y, NameKind.free) ∈ l → ∃ c, cl.lookup y = some c)
  | [], acc, _ => ⟨acc, rfl, fun y c h => .inl h, fun y h => by
      rcases h with h | h
      · exact Option.isSome_iff_exists.mp h
      · simp at h⟩
  | (n, kd) :: r, acc, h => by
    by_cases hk : kd = .free
    · subst hk
      obtain ⟨a, ha⟩ := h (n, .free) List.mem_cons_self rfl
      obtain ⟨cl, e, h1, h2⟩ := closure_ex env r ((n, a) :: acc) fun x hx => h x (List.mem_cons_of_mem _ hx)
      refine ⟨cl, ?_, fun y c q => ?_, fun y q => ?_⟩
      · rw [List.forIn_cons]
        have ec : cellOf env n = pure a := by unfold cellOf; rw [ha]
        simp only [beq_self_eq_true, if_true, ec]
        exact e
      · rcases h1 y c q with z | ⟨z1, z2⟩
        · rw [List.lookup_cons] at z
          split at z
          · rename_i b
            have : y = n := by simpa using b
            subst this
            cases z
            exact .inr ⟨ha, List.mem_cons_self⟩
          · exact .inl z
        · exact .inr ⟨z1, List.mem_cons_of_mem _ z2⟩
      · refine h2 y ?_
        rcases q with q | q
        · left; rw [List.lookup_cons]; split
          · rfl
          · exact q
        · rcases List.mem_cons.mp q with z | z
          · cases z; left; rw [List.lookup_cons, beq_self_eq_true]; rfl
          · exact .inr z
    · obtain ⟨cl, e, h1, h2⟩ := closure_ex env r acc fun x hx => h x (List.mem_cons_of_mem _ hx)
      refine ⟨cl, ?_, fun y c q => ?_, fun y q => h2 y ?_⟩
      · rw [List.forIn_cons]
        have : (kd == NameKind.free) = false := by cases kd <;> first | rfl | exact absurd rfl hk
        simp only [this, Bool.false_eq_true, if_false]
        exact e
      · rcases h1 y c q with z | ⟨z1, z2⟩
        · exact .inl z
        · exact .inr ⟨z1, List.mem_cons_of_mem _ z2⟩
      · rcases q with q | q
        · exact .inl q
        · rcases List.mem_cons.mp q with z | z
          · cases z; exact absurd rfl hk
          · exact .inr z
theorem closureFor_ex (scope : Scope) (env : PySem.Env) (h : ∀ x ∈ scope.names, x.2 = .free → ∃ c, env.cells.lookup x.1 = some c) :
    ∃ cl, closureFor scope env = pure cl ∧ (∀ y c, cl.lookup y = some c → env.cells.lookup y = some c ∧ (y, NameKind.free) ∈ scope.names) ∧ ∀ y, (y, NameKind.free) ∈ scope.names → ∃ c, cl.lookup y = some c := by
  obtain ⟨cl, e, h1, h2⟩ := closure_ex env scope.names [] h
  refine ⟨cl, ?_, fun y c q => ?_, fun y q => h2 y (.inr q)⟩
  · have z : closureFor scope env = ((forIn scope.names ([] : List (Str × Addr)) (fun (x : Str × NameKind) (cs : List (Str × Addr)) => (if (x.2 == .free) = true then do let a ← cellOf env x.1; pure (ForInStep.yield ((x.1, a) :: cs)) else pure (ForInStep.yield cs) : Sem (ForInStep (List (Str × Addr))))) : Sem (List (Str × Addr))) >>= fun r => pure r) := rfl
    rw [z, e]
    rfl
  · rcases h1 y c q with z | z
    · cases z
    · exact z

theorem compLoop_any {prog : Program} {w : World} {A : Around} {R : Result → Shared → Prop} {s : Shared} {elt target iter : Expr} {ifs : List Expr} {scope : Scope} {pos : Pos} {it acc : Value} {env : PySem.Env} (I : Nat → Shared → Prop)
    (turn : ∀ n s, I n s → wpAny (model prog w) A (pyNext it) (fun r s₁ => match r with
      | none => R (.ok .next) s₁
      | some v => wpAny (model prog w) A (letOwnedTupleGo target it v) (fun _ s₁' => wpAny (model prog w) A (assign target env v) (fun _ s₂ =>
          wpAny (model prog w) A (forIn ifs true fun c r => if r = true then do let ok ← isTrue c env (eval c env); pure (ForInStep.yield ok) else pure (ForInStep.yield r)) (fun ok s₃ =>
            if ok = true then wpAny (model prog w) A (eval elt env) (fun x s₄ =>
              wpAny (model prog w) A (call (.builtin "list.append") [acc, x]) (fun _ s₅ => ∃ m, m < n ∧ I m s₅) (fun _ _ => False) s₄) (fun _ _ => False) s₃
            else ∃ m, m < n ∧ I m s₃) (fun _ _ => False) s₂) (fun _ _ => False) s₁') (fun _ _ => False) s₁) (fun _ _ => False) s)
    (n : Nat) (h : I n s) :
    codeAny (model prog w) A (.compLoop (.ListComp elt [⟨target, iter, ifs, 0⟩] scope pos) 0 it acc env) R s := by
  refine codeAny_loop rfl I (fun n s hI => ?_) n h
  show wpAny _ A ((compTurn (.ListComp elt [⟨target, iter, ifs, 0⟩] scope pos) 0 it acc env).onRaise (fun x => do noteFrame x env; theTreesLotGoes x)) _ _ s
  refine wpAny_noted ?_
  rw [compTurn_list]
  refine wpAny_bind (wpAny_standAt (wpAny_bind (wpAny_mono (turn n s hI) (fun r s₁ h₁ => ?_) fun _ _ h' => h'.elim)))
  cases r with
  | none => exact wpAny_pure h₁
  | some v =>
    refine wpAny_bind (wpAny_mono h₁ (fun _ s₁' h₁' => ?_) fun _ _ h' => h'.elim)
    refine wpAny_bind (wpAny_mono h₁' (fun _ s₂ h₂ => wpAny_bind (wpAny_mono h₂ (fun ok s₃ h₃ => ?_) fun _ _ h' => h'.elim)) fun _ _ h' => h'.elim)
    cases ok with
    | false => exact wpAny_pure ⟨rfl, h₃⟩
    | true =>
      exact wpAny_bind (wpAny_bind (wpAny_mono h₃ (fun x s₄ h₄ => wpAny_bind (wpAny_mono h₄ (fun _ s₅ h₅ => wpAny_pure (wpAny_pure ⟨rfl, h₅⟩)) fun _ _ h' => h'.elim)) fun _ _ h' => h'.elim))
/-- a comprehension's block -/
def cxC (X : Cx) (N' : List Str) (scope : Scope) (cl : List (Str × Addr)) (C : Addr) (s : Shared) (H : Hp) (ex : List Addr) : Cx :=
  { X with N := N', s₀ := s, H₀ := H, env := compEnvC scope cl C X.env, outer := X.stack, ex := ex, fn := fun x => (cl.lookup x).isNone, pn := [], xe := fun _ _ => False }
/-- what stands of the scopes: tn the targets, fs the names of the def that are used (at the places ix), G the global ones -/
structure CmB (N tn fs : List Str) (ix : List Nat) (G : List Str) (scope osc : Scope) : Prop where
  kd : scope.kind = .function
  okd : osc.kind = .function
  nocell : ∀ x ∈ scope.names, x.2 ≠ .cell
  once : ∀ x ∈ scope.names, x.2 = .local → scope.names.lookup x.1 = some .local
  fr : ∀ x ∈ scope.names, x.2 = .free → osc.names.lookup x.1 = some .cell
  htn : ∀ x ∈ tn, scope.names.lookup x = some .local ∧ (x == ("__debug__" : Str)) = false ∧ (x == ("__classdict__" : Str)) = false
  hfs : ∀ x ∈ fs, scope.names.lookup x = some .free ∧ (x == ("__debug__" : Str)) = false ∧ (x == ("__classdict__" : Str)) = false
  hnd : (tn ++ fs).Nodup
  hix : ix.map (fun i => N[i]?) = fs.map some
  hgl : ∀ x ∈ G, scope.names.lookup x = some .globalImplicit ∧ (x == ("__debug__" : Str)) = false ∧ x ≠ "__name__"
theorem relabel_of {scope : Scope} {env : PySem.Env} {x : Str} : ∀ {names : List (Str × NameKind)} {k : NameKind}, names.lookup x = some k →
    (names.map fun (n, k) => if (k == NameKind.free && env.scope.kind == .function && env.kindOf n == some .cell) then (n, NameKind.cell) else (n, k)).lookup x = some (if (k == NameKind.free && env.scope.kind == .function && env.kindOf x == some .cell) = true then .cell else k)
  | [], _, h => by simp at h
  | (n, k') :: r, k, h => by
    have ih := @relabel_of scope env x r k
    show List.lookup x ((if (k' == NameKind.free && env.scope.kind == .function && env.kindOf n == some .cell) = true then (n, NameKind.cell) else (n, k')) :: _) = _
    cases hx : x == n with
    | true =>
      simp only [List.lookup_cons, hx] at h
      cases h
      have : x = n := by simpa using hx
      subst this
      split
      · rename_i hc; simp [List.lookup_cons, hc]
      · rename_i hc; simp only [List.lookup_cons, hx, if_neg hc]
    | false =>
      simp only [List.lookup_cons, hx] at h
      by_cases hc : (k' == NameKind.free && env.scope.kind == .function && env.kindOf n == some .cell) = true
      · rw [if_pos hc]; simp only [List.lookup_cons, hx]; exact ih h
      · rw [if_neg hc]; simp only [List.lookup_cons, hx]; exact ih h
theorem relabel_back {scope : Scope} {env : PySem.Env} {x : Str} : ∀ {names : List (Str × NameKind)} {k : NameKind},
    (names.map fun (n, k) => if (k == NameKind.free && env.scope.kind == .function && env.kindOf n == some .cell) then (n, NameKind.cell) else (n, k)).lookup x = some k → ∃ k', names.lookup x = some k' ∧ (x, k') ∈ names ∧ (k = k' ∨ k' = .free)
  | [], _, h => by simp at h
  | (n, k') :: r, k, h => by
    have ih := @relabel_back scope env x r k
    have h : List.lookup x ((if (k' == NameKind.free && env.scope.kind == .function && env.kindOf n == some .cell) = true then (n, NameKind.cell) else (n, k')) :: (r.map fun (n, k) => if (k == NameKind.free && env.scope.kind == .function && env.kindOf n == some .cell) then (n, NameKind.cell) else (n, k))) = some k := h
    cases hx : x == n with
    | true =>
      have : x = n := by simpa using hx
      subst this
      refine ⟨k', by simp [List.lookup_cons], List.mem_cons_self, ?_⟩
      by_cases hc : (k' == NameKind.free && env.scope.kind == .function && env.kindOf x == some .cell) = true
      · right
        simp only [Bool.and_eq_true] at hc
        have := hc.1.1
        cases k' <;> first | rfl | exact absurd this (by decide)
      · rw [if_neg hc] at h
        simp [List.lookup_cons] at h
        exact .inl h.symm
    | false =>
      have h' : List.lookup x (r.map fun (n, k) => if (k == NameKind.free && env.scope.kind == .function && env.kindOf n == some .cell) then (n, NameKind.cell) else (n, k)) = some k := by
        by_cases hc : (k' == NameKind.free && env.scope.kind == .function && env.kindOf n == some .cell) = true
        · rw [if_pos hc] at h; simpa only [List.lookup_cons, hx] using h
        · rw [if_neg hc] at h; simpa only [List.lookup_cons, hx] using h
      obtain ⟨k2, a, b, c⟩ := ih h'
      exact ⟨k2, by simp only [List.lookup_cons, hx]; exact a, List.mem_cons_of_mem _ b, c⟩

theorem cxC_kind {X : Cx} {N' : List Str} {scope : Scope} {cl : List (Str × Addr)} {C : Addr} {s : Shared} {H : Hp} {ex : List Addr} {x : Str} {k : NameKind} (h : scope.names.lookup x = some k) :
    (cxC X N' scope cl C s H ex).env.scope.names.lookup x = some (if (k == NameKind.free && X.env.scope.kind == .function && X.env.kindOf x == some .cell) = true then .cell else k) := relabel_of (scope := scope) h
section
variable {X : Cx} {pins : List (Addr × Obj)} {σ : St} {H2 : Hp} {s2 : Shared} {N tn fs G : List Str} {ix : List Nat} {scope osc : Scope} {cl : List (Str × Addr)} {fp : List Addr} {tnn : Nat → Heap → Prop} {J : It} {it D C : Addr} {tg : Expr} {h4 : Heap} {m0 : Str → Option Value}
def capt (n : Nat) (ix : List Nat) (σ : St) : St := List.replicate n none ++ ix.map fun i => (σ[i]?).join
theorem inv_comp (I2 : Inv X pins σ H2 s2) (T : Turn X.prog X.w X.K tg J fp it tnn) (st2 : tnn 0 s2.heap) (f2 : ∀ b ∈ fp, FpOk X pins H2 b) (hsc : X.env.scope = osc) (hN : X.N = N) (B : CmB N tn fs ix G scope osc)
    (hcl1 : ∀ y c, cl.lookup y = some c → X.env.cells.lookup y = some c ∧ (y, NameKind.free) ∈ scope.names) (hcl2 : ∀ y, (y, NameKind.free) ∈ scope.names → ∃ c, cl.lookup y = some c)
    (k : ∀ b u, s2.heap.get? b = some u → h4.get? b = some u) (eD : D = s2.heap.objs.size) (hD : h4.get? D = some { cls := .type "list", data := .seq #[] }) (hns : h4.Ns C m0) (hC : s2.heap.objs.size < C) {t' : Nat} :
    Inv (cxC X (tn ++ fs) scope cl C s2 H2 fp) [] (capt tn.length ix σ) (upd H2 D (.lst [])) { s2 with heap := h4, toks := t' } := by
  have old : ∀ b u, s2.heap.get? b = some u → b ≠ C := fun b u e z => by
    have := Heap.lt_size e; rw [z] at this; exact Nat.lt_irrefl _ (Nat.lt_trans this hC)
  have oldD : ∀ b u, s2.heap.get? b = some u → b ≠ D := fun b u e z => by
    have := Heap.lt_size e; rw [z, eD] at this; exact Nat.lt_irrefl _ this
  have freeOf : ∀ x, ((cxC X (tn ++ fs) scope cl C s2 H2 fp).env.kindOf x = some .cell ∨ (cxC X (tn ++ fs) scope cl C s2 H2 fp).env.kindOf x = some .free) → (x, NameKind.free) ∈ scope.names := fun x hx => by
    have : ∃ k, (cxC X (tn ++ fs) scope cl C s2 H2 fp).env.kindOf x = some k ∧ (k = .cell ∨ k = .free) := by
      rcases hx with h | h
      · exact ⟨_, h, .inl rfl⟩
      · exact ⟨_, h, .inr rfl⟩
    obtain ⟨k, hk, hc⟩ := this
    obtain ⟨k', e1, e2, e3⟩ := relabel_back (scope := scope) (env := X.env) (names := scope.names) hk
    rcases e3 with rfl | rfl
    · rcases hc with rfl | rfl
      · exact absurd rfl (B.nocell _ e2)
      · exact e2
    · exact e2
  have hH : ∀ b, H2 b = none → b ≠ D → upd H2 D (.lst []) b = none := fun b h1 h2 => by rw [upd_ne h2]; exact h1
  refine ⟨⟨I2.ok.mod, ?_, I2.ok.glob, I2.ok.blt, Nat.le_of_lt hC, fun x y c h1 h2 => I2.ok.inj x y c (hcl1 x c h1).1 (hcl1 y c h2).1, fun x hx => hcl2 x (freeOf x hx), fun x c h1 h2 => ?_, I2.ok.hd, I2.ok.frames, .inl rfl, fun b hb => ⟨?_, fun x c e => ?_⟩, I2.bs, Nat.le_trans I2.ok.bsz I2.sz, fun b o e hb => ?_, fun b hb hs => ?_, I2.stack, I2.stkFree⟩,
    rfl, I2.bare, Un.laid k (by rw [eD]; exact Nat.le_refl _) (I2.hok.fresh (by rw [eD]; exact Nat.le_refl _)), ⟨m0, hns, fun i x v e1 e2 e3 => ?_⟩, fun x c e => ?_, ?_, fun x c e => ?_, fun p hp => absurd (show p ∈ ([] : List (Addr × Obj)) from hp) (by simp), ?_, ?_⟩
  · show scope.kind = .function; exact B.kd
  · have h1 : (cl.lookup x).isNone = true := h1
    rw [show cl.lookup x = some c from h2] at h1; cases h1
  · obtain ⟨o, e, _⟩ := T.obj 0 _ st2 b hb; exact old b o e
  · exact (f2 b hb).2.2.2.2.1 x c (hcl1 x c e).1
  · have hb : b ∈ fp := hb
    rcases (f2 b hb).2.2.2.1 with z | z
    · exact I2.ok.noex b o e z
    · exact absurd (Nat.lt_of_lt_of_le (Heap.lt_size (I2.ok.bs b o e).1) z) (Nat.lt_irrefl _)
  · have hb : b ∈ fp := hb
    rcases List.mem_cons.mp (I2.stkSub b hs) with z | z
    · exact (f2 b hb).2.1 z
    · exact (f2 b hb).2.2.1 z
  · -- the captured names
    have hl : tn.length ≤ i := by
      rcases Nat.lt_or_ge i tn.length with z | z
      · unfold capt at e2
        rw [List.getElem?_append_left (by simpa using z), List.getElem?_replicate] at e2
        split at e2 <;> cases e2
      · exact z
    have e1' : fs[i - tn.length]? = some x := by
      have : (tn ++ fs)[i]? = some x := e1
      rwa [List.getElem?_append_right hl] at this
    have e2' : (ix.map fun i => (σ[i]?).join)[i - tn.length]? = some (some v) := by
      unfold capt at e2
      rwa [List.getElem?_append_right (by simpa using hl), List.length_replicate] at e2
    rw [List.getElem?_map] at e2'
    cases qj : ix[i - tn.length]? with
    | none => rw [qj] at e2'; cases e2'
    | some j =>
      rw [qj] at e2'
      have e3' : σ[j]? = some (some v) := by
        have : (σ[j]?).join = some v := by simpa using e2'
        cases q : σ[j]? with
        | none => rw [q] at this; cases this
        | some o => rw [q] at this; have : o = some v := this; rw [this]
      have e4 : X.N[j]? = some x := by
        have z := congrArg (fun l => l[i - tn.length]?) B.hix
        simp only [List.getElem?_map, qj, e1', Option.map_some] at z
        rw [hN]; exact Option.some.inj z
      have hx := B.hfs x (List.mem_of_getElem? e1')
      have hmem : (x, NameKind.free) ∈ scope.names := PySem.mem_of_lookup hx.1
      have hcell : X.env.kindOf x = some .cell := by show X.env.scope.names.lookup x = _; rw [hsc]; exact B.fr _ hmem rfl
      obtain ⟨mm, _, hv⟩ := I2.loc
      obtain ⟨u, ru, lu⟩ := hv j x v e4 e3' (.inr (.inl hcell))
      refine ⟨u, ru, .inr ⟨.inl ?_, ?_⟩⟩
      · show (cxC X (tn ++ fs) scope cl C s2 H2 fp).env.scope.names.lookup x = _
        rw [cxC_kind hx.1]
        have hk : X.env.scope.kind = .function := by rw [hsc]; exact B.okd
        simp [hk, hcell]
      · obtain ⟨c, hc⟩ := hcl2 x hmem
        refine ⟨c, hc, ?_⟩
        rcases lu with ⟨z, _⟩ | ⟨_, c', h1, h2⟩
        · rw [hcell] at z; cases z
        · have := (hcl1 x c hc).1
          rw [h1] at this; cases this
          obtain ⟨o, ho, hd⟩ := h2
          exact ⟨o, k _ _ ho, hd⟩
  · obtain ⟨v, o, ho, hd⟩ := I2.cell x c (hcl1 x c e).1
    exact ⟨v, o, k _ _ ho, hd⟩
  · refine hH C (I2.hok.fresh (Nat.le_of_lt hC)) ?_
    intro z; rw [z, eD] at hC; exact Nat.lt_irrefl _ hC
  · obtain ⟨v, o, ho, hd⟩ := I2.cell x c (hcl1 x c e).1
    exact hH c (I2.freeC x c (hcl1 x c e).1) (oldD c o ho)
  · exact I2.hok.laid (a := D) (o := .lst []) k (by rw [eD]; exact Nat.le_refl _) ⟨Nat.zero_le _, [], 0, .nil, hD⟩
  · show (capt tn.length ix σ).length = (tn ++ fs).length
    have := congrArg List.length B.hix
    simp only [List.length_map] at this
    unfold capt
    simp [this]
end

def capS : Slot → Slot
  | .val d => .val d
  | .thg t => .bor t
  | .bor t => .bor t
  | _ => .un
/-- a comprehension's tests -/
def TsD (Y : Cy) : List Expr → List Slot → Bool → Prop
  | [], _, b => b = true
  | [t], c, b => TeD Y t c b
  | _, _, _ => False
theorem slot_map {α : Type} (f : α → Slot) : ∀ (l : List α) (i : Nat), slot (l.map f) i = (match l[i]? with | some x => f x | none => .un)
  | [], i => by simp [slot]
  | x :: r, 0 => rfl
  | x :: r, i + 1 => by simpa [slot] using slot_map f r i
theorem slot_app_left : ∀ (a b : List Slot) (i : Nat), i < a.length → slot (a ++ b) i = slot a i
  | [], _, _, h => by simp at h
  | _ :: _, _, 0, _ => rfl
  | _ :: r, b, i + 1, h => slot_app_left r b i (by simpa using h)
theorem slot_app_right : ∀ (a b : List Slot) (i : Nat), slot (a ++ b) (a.length + i) = slot b i
  | [], _, i => by simp
  | _ :: r, b, i => by
    have := slot_app_right r b i
    simp only [List.length_cons, List.cons_append]
    rw [show r.length + 1 + i = (r.length + i) + 1 by omega]
    exact this
theorem env_comp {K : PySem.W.Frag} {F₀ H₀ F H : Hp} {σ : St} {c : List Slot} {n : Nat} {ix : List Nat} {D : Addr} {o : HO} (E : Env K F₀ H₀ F H σ c) (hn : H D = none) :
    Env K F H F (upd H D o) (capt n ix σ) (List.replicate n .un ++ ix.map fun i => capS (slot c i)) where
  ext := Ext.track E.fh hn
  len := by unfold capt; simp
  sl := fun j => by
    unfold capt
    by_cases hj : j < n
    · rw [slot_app_left _ _ _ (by simpa using hj), slot_un]; exact trivial
    · have ej : j = (List.replicate n Slot.un).length + (j - n) := by simp; omega
      have e2 : slot (List.replicate n .un ++ ix.map fun i => capS (slot c i)) j = slot (ix.map fun i => capS (slot c i)) (j - n) := by
        have := slot_app_right (List.replicate n .un) (ix.map fun i => capS (slot c i)) (j - n)
        rw [← ej] at this; exact this
      rw [e2, slot_map, List.getElem?_append_right (by simp; omega), List.length_replicate, List.getElem?_map]
      cases q : ix[j - n]? with
      | none => exact trivial
      | some i =>
        show SlotOk K H F (upd H D o) (some ((σ[i]?).join)) (capS (slot c i))
        have z := E.sl i
        cases e : slot c i with
        | val d =>
          rw [e] at z
          obtain ⟨x, ex, r⟩ := z
          exact ⟨x, by rw [ex]; rfl, r⟩
        | thg t =>
          rw [e] at z
          obtain ⟨a, o', ex, h1, _, _, r⟩ := z
          exact ⟨a, o', by rw [ex]; rfl, h1, r⟩
        | bor t =>
          rw [e] at z
          obtain ⟨a, o', ex, h1, r⟩ := z
          exact ⟨a, o', by rw [ex]; rfl, E.ext.hh _ _ h1, r⟩
        | _ => exact trivial
  inj := fun i j a h _ _ _ => by
    exfalso
    have : isOwn (slot (List.replicate n .un ++ ix.map fun i => capS (slot c i)) i) = false := by
      by_cases hj : i < n
      · rw [slot_app_left _ _ _ (by simpa using hj), slot_un]; rfl
      · have ej : i = (List.replicate n Slot.un).length + (i - n) := by simp; omega
        have e2 : slot (List.replicate n .un ++ ix.map fun i => capS (slot c i)) i = slot (ix.map fun i => capS (slot c i)) (i - n) := by
          have := slot_app_right (List.replicate n .un) (ix.map fun i => capS (slot c i)) (i - n)
          rw [← ej] at this; exact this
        rw [e2, slot_map]
        split
        · rename_i x _; cases slot c x <;> rfl
        · rfl
    rw [this] at h; cases h
/-- a list that the slots do not know grows -/
theorem Env.aside {K : PySem.W.Frag} {F₀ H₀ F H : Hp} {σ : St} {c : List Slot} {D : Addr} {vs ws : List V} (E : Env K F₀ H₀ F H σ c) (h0 : H₀ D = none) (hF : F D = none) (hD : H D = some (.lst vs)) (hs : ∀ i a, isOwn (slot c i) = true → σ[i]? = some (some (.ref a)) → a ≠ D) : Env K F₀ H₀ F (upd H D (.lst ws)) σ c where
  ext := ⟨E.ext.ff, fun b u q => by rw [upd_ne (fun z => by rw [z, hF] at q; cases q)]; exact E.ext.fh _ _ q, fun b u q => by rw [upd_ne (fun z => by rw [z, h0] at q; cases q)]; exact E.ext.hh _ _ q, E.ext.fr⟩
  len := E.len
  sl := fun i => by
    have z := E.sl i
    cases e : slot c i with
    | un => exact trivial
    | val d => rw [e] at z; exact z
    | own ds =>
      rw [e] at z
      obtain ⟨a, vs', h1, h2, h3, h4, h5⟩ := z
      exact ⟨a, vs', h1, by rw [upd_ne (hs i a (by rw [e]; rfl) h1)]; exact h2, h3, h4, h5⟩
    | dic ds =>
      rw [e] at z
      obtain ⟨a, vs', h1, h2, h3, h4, h5⟩ := z
      exact ⟨a, vs', h1, by rw [upd_ne (hs i a (by rw [e]; rfl) h1)]; exact h2, h3, h4, h5⟩
    | thg t =>
      rw [e] at z
      obtain ⟨a, vs', h1, h2, h3, h4, h5⟩ := z
      exact ⟨a, vs', h1, by rw [upd_ne (hs i a (by rw [e]; rfl) h1)]; exact h2, h3, h4, h5⟩
    | bor t => rw [e] at z; exact z
    | exc C =>
      rw [e] at z
      obtain ⟨a, h1, h2⟩ := z
      exact ⟨a, h1, by rw [upd_ne (fun q => by rw [q, hD] at h2; cases h2)]; exact h2⟩
  inj := E.inj

theorem ts_run {Y : Cy} {ifs : List Expr} {c : List Slot} {b : Bool} {pins : List (Addr × Obj)} {s : Shared} {σ : St} {F H : Hp} (h : TsD Y ifs c b) (I : Inv Y.X pins σ H s) (E : EnvY Y F H σ c) (hx : Y.X.xe = fun _ _ => False) {Q : Bool → Shared → Prop}
    (q : ∀ s' F' H', Ext F H F' H' → Inv Y.X pins σ H' s' → Q b s') :
    wpAny (model Y.X.prog Y.X.w) Y.X.A (forIn ifs true fun c r => if r = true then do let ok ← isTrue c Y.X.env (eval c Y.X.env); pure (ForInStep.yield ok) else pure (ForInStep.yield r)) Q (fun _ _ => False) s := by
  match ifs, h with
  | [], h =>
    have h : b = true := h
    subst h
    exact wpAny_tests_nil (q s F H (Ext.refl E.fh) I)
  | [t], h =>
    refine wpAny_tests_one ?_
    have w := (show TeD Y t c b from h) pins s σ H (fun v H' => v = b ∧ ∃ F', Ext F H F' H') I ⟨F, E, fun F' H' e => ⟨rfl, F', e⟩⟩
    rw [hx] at w
    refine wpAny_mono w (fun v s' hv => ?_) fun _ _ z => z
    obtain ⟨H', I', rfl, F', e⟩ := hv
    exact q s' F' H' e I'
theorem own_all : ∀ {ts : List Slot}, ts.all (fun s => !isOwn s) = true → ∀ j, isOwn (slot ts j) = false
  | [], _, _ => rfl
  | x :: r, h, 0 => by simp at h; exact h.1
  | x :: r, h, j + 1 => own_all (ts := r) (by simp at h ⊢; exact h.2) j
theorem own_none {ts : List Slot} {ix : List Nat} {c : List Slot} (h : ts.all (fun s => !isOwn s) = true) {j : Nat} : isOwn (slot (ts ++ ix.map fun i => capS (slot c i)) j) = false := by
  refine own_all ?_ j
  rw [List.all_append, h, Bool.true_and, List.all_map]
  rw [List.all_eq_true]
  intro i _
  show (!isOwn (capS (slot c i))) = true
  cases slot c i <;> rfl
theorem comp_coreG {Y : Cy} {T : Tx} {k : Nat} {N G tn fs G' : List Str} {ix : List Nat} {c : List Slot} {tg iter elt : Expr} {ifs : List Expr} {scope osc : Scope} {pos : Pos} {items : List D} (S : Se Y T k N G) (hsc : Y.X.env.scope = osc) (B : CmB N tn fs ix G' scope osc) (hi : ItD Y tg iter c items)
    (rs : List (Option D)) (hlen : rs.length = items.length) (hz : rs.length ≤ 100000)
    (turn : ∀ (Y' : Cy) (S' : Se Y' T k (tn ++ fs) G'), (∀ x ∈ tn, Y'.X.env.scope.names.lookup x = some .local) → ∀ (m : Nat) (d : D) (r : Option D), items[m]? = some d → rs[m]? = some r → ∀ ts : List Slot, ts.length = tn.length →
      ∃ ts' : List Slot, ts'.length = tn.length ∧ ts'.all (fun s => !isOwn s) = true ∧ TgD Y' tg d (ts ++ ix.map fun i => capS (slot c i)) (ts' ++ ix.map fun i => capS (slot c i)) ∧ (match r with
        | some e => TsD Y' ifs (ts' ++ ix.map fun i => capS (slot c i)) true ∧ EvD Y' elt (ts' ++ ix.map fun i => capS (slot c i)) e
        | none => TsD Y' ifs (ts' ++ ix.map fun i => capS (slot c i)) false))
    (hs : ∀ x, foldedSetIterable iter Y.X.env x = pure x := by intro _; rfl)
    {pins : List (Addr × Obj)} {s : Shared} {σ : St} {F H : Hp} (I : Inv Y.X pins σ H s) (E : EnvY Y F H σ c) {use : Option (Value → Sem Unit)} {Qv : Value → Shared → Prop} {cpos : Pos}
    (post : ∀ (D C : Addr) (s' : Shared) (m : Str → Option Value) (F' H' : Hp) (vs : List V), s'.heap.Ns C m → FpOk Y.X pins H' C → (∀ h', Heap.SameBut C s'.heap h' → Inv Y.X pins σ H' { s' with heap := h' }) → Ext F H F' H' → H D = none → H' D = some (.lst vs) → F' D = none → Reps Y.X.K F' vs (rs.filterMap id) →
      compPost (model Y.X.prog Y.X.w) Y.X.A Y.X.xe use Qv (.ref D) C (.ok .next) s') :
    wpAny (model Y.X.prog Y.X.w) Y.X.A (comprehension (.ListComp elt [⟨tg, iter, ifs, 0⟩] scope pos) scope Y.X.env cpos (newList []) (firstAsync [⟨tg, iter, ifs, 0⟩]) (firstIter [⟨tg, iter, ifs, 0⟩] Y.X.env) use) Qv Y.X.xe s := by
  obtain ⟨cl, ecl, hcl1, hcl2⟩ := closureFor_ex scope Y.X.env fun x hx hf => I.ok.has x.1 (.inl (by show Y.X.env.scope.names.lookup x.1 = _; rw [hsc]; exact B.fr x hx hf))
  refine wpAny_comprehension_free (g := ⟨tg, iter, ifs, 0⟩) (gs := []) rfl hs ecl B.kd B.once ?_
  have h1 := hi pins s σ H (fun J H1 => ∃ F1, Ext F H F1 H1 ∧ Yields Y.X.K F1 J items) I ⟨F, E, fun J F1 H1 e1 y => ⟨F1, e1, y⟩⟩
  refine thn h1 fun x s1 h1 => thn h1 fun itv s2 h2 => ?_
  obtain ⟨it, fp, tnn, J, H2, rfl, I2, TT, st2, f2, F2, e2, yl⟩ := h2
  refine wpAny_newObj_type (wpAny_newFunctionEnv B.nocell (by intro y hy; simp at hy) (fun h4 hns hsb => ?_) B.kd)
  dsimp only at hns hsb ⊢
  generalize hH3 : s2.heap.push { cls := .type "list", dict := none, data := .seq ([] : List Value).toArray } = g3 at hns hsb ⊢
  have hC : g3.objs.size = s2.heap.objs.size + 1 := by rw [← hH3, Heap.size_push]
  have hD3 : g3.get? s2.heap.objs.size = some { cls := .type "list", dict := none, data := .seq ([] : List Value).toArray } := by rw [← hH3]; exact Heap.get?_push_size _ rfl
  have kk : ∀ b u, s2.heap.get? b = some u → h4.get? b = some u := fun b u e => hsb.extBut b u (by rw [hC]; exact Nat.ne_of_lt (Nat.lt_succ_of_lt (Heap.lt_size e))) (Heap.get?_push_of_some _ (hH3 ▸ Heap.get?_push_of_some _ e))
  have hD : h4.get? s2.heap.objs.size = some { cls := .type "list", data := .seq #[] } := hsb.extBut _ _ (by rw [hC]; exact Nat.ne_of_lt (Nat.lt_succ_self _)) (Heap.get?_push_of_some _ hD3)
  have hCl : s2.heap.objs.size < g3.objs.size := by rw [hC]; exact Nat.lt_succ_self _
  generalize hDe : s2.heap.objs.size = D at hD hCl ⊢
  generalize g3.objs.size = C at hns hsb hCl ⊢
  have hDn : H2 D = none := I2.hok.fresh (by rw [hDe]; exact Nat.le_refl _)
  have I4 := inv_comp (t' := s2.toks + ([] : List (Str × Value)).length) I2 TT st2 f2 hsc S.n B hcl1 hcl2 kk hDe.symm hD hns (by rw [hDe]; exact hCl)
  generalize hXc : cxC Y.X (tn ++ fs) scope cl C s2 H2 fp = Xc at I4
  have xP : Xc.prog = Y.X.prog := by rw [← hXc]; rfl
  have xW : Xc.w = Y.X.w := by rw [← hXc]; rfl
  have xK : Xc.K = Y.X.K := by rw [← hXc]; rfl
  have xA : Xc.A = Y.X.A := by rw [← hXc]; rfl
  have xE : Xc.xe = fun _ _ => False := by rw [← hXc]; rfl
  have xenv : Xc.env = compEnvC scope cl C Y.X.env := by rw [← hXc]; rfl
  have S' : Se ⟨Xc, F2, H2⟩ T k (tn ++ fs) G' := by
    subst hXc
    refine ⟨⟨S.eP, S.eW, S.eK, S.eM, S.eB, rfl, B.hnd, fun x hx => ?_, fun x hx => ?_⟩, S.calm, S.room⟩
    · rcases List.mem_append.mp hx with h | h
      · have z := B.htn x h
        exact ⟨.inl (lookup_relabel_local z.1), z.2⟩
      · have z := B.hfs x h
        refine ⟨.inr ?_, z.2⟩
        have zz := cxC_kind (X := Y.X) (N' := tn ++ fs) (cl := cl) (C := C) (s := s2) (H := H2) (ex := fp) z.1
        have hk : Y.X.env.scope.kind = .function := by rw [hsc]; exact B.okd
        have hcell : Y.X.env.kindOf x = some .cell := by show Y.X.env.scope.names.lookup x = _; rw [hsc]; exact B.fr _ (PySem.mem_of_lookup z.1) rfl
        rw [hk, hcell] at zz
        exact zz
    · have z := B.hgl x hx
      refine ⟨?_, z.2⟩
      have zz := cxC_kind (X := Y.X) (N' := tn ++ fs) (cl := cl) (C := C) (s := s2) (H := H2) (ex := fp) z.1
      exact zz
  have hloc : ∀ x ∈ tn, (⟨Xc, F2, H2⟩ : Cy).X.env.scope.names.lookup x = some .local := fun x hx => by
    show Xc.env.scope.names.lookup x = _
    rw [xenv]; exact lookup_relabel_local (B.htn x hx).1
  have E2 := E.grow e2
  have E4 : Env Y.X.K F2 H2 F2 (upd H2 D (.lst [])) (capt tn.length ix σ) (List.replicate tn.length .un ++ ix.map fun i => capS (slot c i)) := env_comp E2 hDn
  have fin : ∀ {σ' : St} {F' H' : Hp} {s' : Shared} {vs : List V}, Inv Xc [] σ' H' s' → Ext F2 H2 F' H' → H' D = some (.lst vs) → F' D = none → Reps Y.X.K F' vs (rs.filterMap id) →
      compPost (model Y.X.prog Y.X.w) Y.X.A Y.X.xe use Qv (.ref D) C (.ok .next) s' := by
    intro σ' F' H' s' vs I' ex hv hf r
    obtain ⟨m, hn, _⟩ := id I'.loc
    rw [xenv] at hn
    have b0 : Un (frs Y.X.stack) fp H2 H' s2.heap s'.heap := by have := I'.base; rw [← hXc] at this; exact this
    have nC : ∀ b o, s2.heap.get? b = some o → b ≠ C := fun b o e z => by
      have := Heap.lt_size e; rw [z, hDe] at this; exact Nat.lt_irrefl _ (Nat.lt_trans this hCl)
    have hfC : H' C = none := by have := I'.free; rw [xenv] at this; exact this
    have I9 : ∀ h', Heap.SameBut C s'.heap h' → Inv Y.X pins σ H' { s' with heap := h' } := fun h' hs' => by
      have un : Un (frs Y.X.stack) fp H2 H' s2.heap h' := ⟨fun b o e n hb hx => (hs'.2 b (nC b o e)).trans (b0.keep b o e n hb hx), fun b o e n hb hx => by
          obtain ⟨sl, z⟩ := b0.slot b o e n hb hx
          exact ⟨sl, (hs'.2 b (nC b o e)).trans z⟩, b0.free, fun b o e hx => by
          obtain ⟨o', z⟩ := b0.there b o e hx
          exact ⟨o', (hs'.2 b (nC b o e)).trans z⟩, b0.tups, b0.frzs, b0.tbls⟩
      have hok : HOk Y.X.prog Y.X.w H' h' := by
        have ok' : HOk Y.X.prog Y.X.w H' s'.heap := by rw [← xP, ← xW]; exact I'.hok
        intro b o e
        refine (ok' b o e).stay (fun c w' hc z => (hs'.2 c ?_).trans z) (fun _ z => z) fun _ _ z => z
        rintro rfl
        rcases hc with rfl | hc
        · rw [hfC] at e; cases e
        · rw [hfC] at hc; cases hc
      have os : ({ s' with heap := h' } : Shared).os = s2.os := by have := I'.os; rw [← hXc] at this; exact this
      exact I2.call' (s' := { s' with heap := h' }) (ch := fp) os un hok I'.bare fun b hb => ⟨(f2 b hb).2.2.2.1, (f2 b hb).2.1, (f2 b hb).2.2.2.2.1, (f2 b hb).2.2.2.2.2⟩
    have hD0 : H D = none := by
      cases z : H D with
      | none => rfl
      | some u => rw [e2.hh _ _ z] at hDn; cases hDn
    exact post D C s' m F' H' vs hn (I2.fpOk (by rw [hDe]; exact Nat.le_of_lt hCl) hfC) I9 (e2.trans ex) hD0 hv hf r
  have calm : Xc.calm = true := S'.calm
  have cells : ∀ b ∈ fp, ∀ x c, Xc.env.cells.lookup x = some c → c ≠ b := fun b hb x c e => by
    rw [xenv] at e
    exact (f2 b hb).2.2.2.2.1 x c (hcl1 x c e).1
  have neC : ∀ b ∈ fp, b ≠ Xc.env.locals := fun b hb => by
    rw [xenv]
    obtain ⟨o, e, _⟩ := TT.obj 0 _ st2 b hb
    intro z
    have z : b = C := z
    have := Heap.lt_size e; rw [z, hDe] at this; exact Nat.lt_irrefl _ (Nat.lt_trans this hCl)
  have nfs : ∀ b ∈ fp, b ∉ Xc.fs := fun b hb z => by
    rw [← hXc] at z
    rcases List.mem_cons.mp (I2.stkSub b z) with z | z
    · exact (f2 b hb).2.1 z
    · exact (f2 b hb).2.2.1 z
  have inex : ∀ b ∈ fp, b ∈ Xc.ex := fun b hb => by rw [← hXc]; exact hb
  have stat : ∀ {H' : Hp}, (∀ b ∈ fp, H' b = none) → ∀ b ∈ fp, FpOk Xc [] H' b := fun hn b hb => ⟨hn b hb, neC b hb, nfs b hb, .inl (inex b hb), cells b hb, fun p hp => by rw [← hXc] at hp; exact absurd (show p ∈ ([] : List (Addr × Obj)) from hp) (by simp)⟩
  have TX : Turn Xc.prog Xc.w Xc.K tg J fp it tnn := by rw [xP, xW, xK]; exact TT
  have loop : ∀ s3 : Shared, s3 = { s2 with heap := h4, toks := s2.toks + ([] : List (Str × Value)).length } →
      codeAny (model Y.X.prog Y.X.w) Y.X.A (.compLoop (.ListComp elt [⟨tg, iter, ifs, 0⟩] scope pos) 0 (.ref it) (.ref D) (compEnvC scope cl C Y.X.env)) (compPost (model Y.X.prog Y.X.w) Y.X.A Y.X.xe use Qv (.ref D) C) s3 := by
    rintro s3 rfl
    rw [← xP, ← xW, ← xA, ← xenv]
    refine compLoop_any (fun n s' => ∃ (i : Nat) (σ' : St) (F' H' : Hp) (vs : List V) (ts : List Slot), n = items.length - i ∧ i ≤ items.length ∧ Inv Xc [] σ' H' s' ∧ tnn i s'.heap ∧ (∀ b ∈ fp, H' b = none) ∧ Env Y.X.K F2 H2 F' H' σ' (ts ++ ix.map fun i => capS (slot c i)) ∧ ts.length = tn.length ∧
      H' D = some (.lst vs) ∧ F' D = none ∧ Reps Y.X.K F' vs ((rs.take i).filterMap id)) ?_ items.length ⟨0, _, F2, _, [], _, rfl, Nat.zero_le _, I4, TT.keep _ _ _ st2 fun b hb o e => kk b o e, fun b hb => ?_, E4, by simp, upd_same, ?_, .nil⟩
    · rintro n s' ⟨i, σ', F', H', vs, ts, rfl, hi', I', st', fr', E', hts, hv, hf, rp⟩
      have y := yl i F' H' E'.ext.ff E'.fh
      by_cases hlt : i < items.length
      · obtain ⟨d, hd⟩ : ∃ d, items[i]? = some d := ⟨items[i], List.getElem?_eq_getElem hlt⟩
        obtain ⟨r, hr⟩ : ∃ r, rs[i]? = some r := ⟨rs[i]'(by rw [hlen]; exact hlt), List.getElem?_eq_getElem _⟩
        obtain ⟨go, yy⟩ := y.1 d hd
        obtain ⟨ts', hts', hown, tgd, body⟩ := turn ⟨Xc, F2, H2⟩ S' hloc i d r hd hr ts hts
        refine thn (TX.item Xc rfl rfl rfl calm i [] s' σ' H' _ I' (stat fr') st' go) fun rr s4 ⟨u, hr', h4'⟩ => ?_
        subst hr'
        refine thn h4' fun _ s5 ⟨xv, H5, I5, r5, y5, st5, fr5⟩ => ?_
        obtain ⟨F5, ex5, rep5⟩ := yy xv H5 y5
        have I5' := I5.pinned (stat fr5) (TT.obj _ _ st5)
        have E5 : Env Y.X.K F2 H2 F5 H5 σ' (ts ++ ix.map fun i => capS (slot c i)) := E'.grow ex5
        have tgr := tgd _ s5 σ' H5 xv u (fun σ6 H6 => ∃ F6, Ext F5 H5 F6 H6 ∧ Env Y.X.K F2 H2 F6 H6 σ6 (ts' ++ ix.map fun i => capS (slot c i))) I5' r5 ⟨F5, by show Env Xc.K _ _ _ _ _ _; rw [xK]; exact E5, by show Rep Xc.K _ _ _; rw [xK]; exact rep5, fun σ6 F6 H6 ex6 E6 => ⟨F6, ex6, by have z : Env Xc.K F2 H2 F6 H6 σ6 _ := E6; rw [xK] at z; exact z⟩⟩
        rw [show (⟨Xc, F2, H2⟩ : Cy).X.xe = fun _ _ => False from xE] at tgr
        refine thn tgr fun _ s6 ⟨σ6, H6, I6, F6, ex6, E6⟩ => ?_
        have ne : ∀ {Fa Ha Fb Hb : Hp} {ws : List V}, Ext Fa Ha Fb Hb → Ha D = some (.lst ws) → Fa D = none → Hb D = some (.lst ws) ∧ Fb D = none := fun ex h1 h2 => ⟨ex.hh _ _ h1, ex.fr D (by rw [h1]; exact fun z => nomatch z) h2⟩
        obtain ⟨hv5, hf5⟩ := ne ex5 hv hf
        obtain ⟨hv6, hf6⟩ := ne ex6 hv5 hf5
        have rp6 := (rp.mono ex5.ff).mono ex6.ff
        have E6' : EnvY ⟨Xc, F2, H2⟩ F6 H6 σ6 (ts' ++ ix.map fun i => capS (slot c i)) := by show Env Xc.K _ _ _ _ _ _; rw [xK]; exact E6
        have again : ∀ {s7 : Shared} {σ7 : St} {F7 H7 : Hp} {ws : List V}, Inv Xc ([] ++ pinsAt fp s5.heap) σ7 H7 s7 → Env Y.X.K F2 H2 F7 H7 σ7 (ts' ++ ix.map fun i => capS (slot c i)) → H7 D = some (.lst ws) → F7 D = none → Reps Y.X.K F7 ws ((rs.take (i + 1)).filterMap id) →
            ∃ m, m < items.length - i ∧ ∃ (i : Nat) (σ' : St) (F' H' : Hp) (vs : List V) (ts : List Slot), m = items.length - i ∧ i ≤ items.length ∧ Inv Xc [] σ' H' s7 ∧ tnn i s7.heap ∧ (∀ b ∈ fp, H' b = none) ∧ Env Y.X.K F2 H2 F' H' σ' (ts ++ ix.map fun i => capS (slot c i)) ∧ ts.length = tn.length ∧ H' D = some (.lst vs) ∧ F' D = none ∧ Reps Y.X.K F' vs ((rs.take i).filterMap id) := by
          intro s7 σ7 F7 H7 ws I7 E7 h7 f7 r7
          refine ⟨items.length - (i + 1), by omega, i + 1, σ7, F7, H7, ws, ts', rfl, hlt, I7.unpinned, TT.keep _ _ _ st5 fun b hb o e => (I7.pin (b, o) (List.mem_append_right _ (List.mem_append_right _ (mem_pinsAt hb e)))).1, fun b hb => ?_, E7, hts', h7, f7, r7⟩
          obtain ⟨o, e, dd⟩ := TT.obj _ _ st5 b hb
          exact (I7.pin (b, o) (List.mem_append_right _ (List.mem_append_right _ (mem_pinsAt hb e)))).2.1
        have tk : (rs.take (i + 1)).filterMap id = (rs.take i).filterMap id ++ r.toList := by
          rw [List.take_add_one, hr, List.filterMap_append]
          cases r <;> rfl
        cases r with
        | none =>
          refine ts_run (Y := ⟨Xc, F2, H2⟩) body I6 E6' xE fun s7 F7 H7 ex7 I7 => ?_
          rw [if_neg Bool.false_ne_true]
          obtain ⟨hv7, hf7⟩ := ne ex7 hv6 hf6
          exact again I7 (E6.grow ex7) hv7 hf7 (by rw [tk]; simpa using rp6.mono ex7.ff)
        | some e =>
          refine ts_run (Y := ⟨Xc, F2, H2⟩) body.1 I6 E6' xE fun s7 F7 H7 ex7 I7 => ?_
          rw [if_pos rfl]
          obtain ⟨hv7, hf7⟩ := ne ex7 hv6 hf6
          have el := body.2 _ s7 σ6 H7 (fun v H8 => ∃ F8, Ext F7 H7 F8 H8 ∧ Rep Y.X.K F8 v e) I7 ⟨F7, by show Env Xc.K _ _ _ _ _ _; rw [xK]; exact E6.grow ex7, fun v F8 H8 ex8 r8 => ⟨F8, ex8, by have z : Rep Xc.K F8 v e := r8; rw [xK] at z; exact z⟩⟩
          rw [show (⟨Xc, F2, H2⟩ : Cy).X.xe = fun _ _ => False from xE] at el
          refine thn el fun u8 s8 ⟨v8, H8, I8, r8, F8, ex8, rep8⟩ => ?_
          obtain ⟨hv8, hf8⟩ := ne ex8 hv7 hf7
          have rp8 := (rp6.mono ex7.ff).mono ex8.ff
          have E8 := (E6.grow ex7).grow ex8
          have ln : vs.length < sizeLine := by
            rw [rp.length]
            have l1 : ((rs.take i).filterMap id).length ≤ (rs.take i).length := List.length_filterMap_le _ _
            have l2 : (rs.take i).length ≤ rs.length := by simp; omega
            rw [sizeLine_eq]; omega
          have ap := (mt_append (X := Xc)) _ s8 σ6 H8 (.ref D) [v8] (.ref D) [u8] (fun _ H9 => H9 = upd H8 D (.lst (vs ++ [v8]))) I8 rfl (.cons r8 .nil) ⟨D, vs, v8, rfl, rfl, hv8, ln, rfl⟩
          rw [xE] at ap
          refine thn ap fun _ s9 ⟨v9, H9, I9, _, e9⟩ => ?_
          subst e9
          refine again (ws := vs ++ [v8]) I9 (E8.aside hDn hf8 hv8 fun j a hj ha => ?_) upd_same hf8 (by rw [tk]; exact rp8.append (.cons rep8 .nil))
          rw [own_none hown] at hj; cases hj
      · have ei : i = items.length := by omega
        subst ei
        refine thn (TX.done Xc rfl rfl rfl calm items.length [] s' σ' H' _ I' (stat fr') st' (y.2 (Nat.le_refl _))) fun rr s4 ⟨hr', I4'⟩ => ?_
        subst hr'
        show compPost (model Xc.prog Xc.w) Xc.A Y.X.xe use Qv (.ref D) C (.ok .next) s4
        rw [xP, xW, xA]
        exact fin I4' E'.ext hv hf (by rw [← hlen, List.take_length] at rp; exact rp)
    · rw [upd_ne (fun z => ?_)]
      · exact (f2 b hb).1
      · obtain ⟨o, e, _⟩ := TT.obj 0 _ st2 b hb
        have := Heap.lt_size e; rw [z, hDe] at this; exact Nat.lt_irrefl _ this
    · cases z : F2 D with
      | none => rfl
      | some u => rw [e2.fh _ _ z] at hDn; cases hDn
  exact codeAny_compStart_list (loop _ rfl) (TT.self _ 0 _ _ _ (TT.keep _ _ _ st2 fun b hb o e => kk b o e) (loop _ rfl))
theorem comp_core {Y : Cy} {T : Tx} {k : Nat} {N G tn fs G' : List Str} {ix : List Nat} {c : List Slot} {tg iter elt : Expr} {ifs : List Expr} {scope osc : Scope} {pos : Pos} {items : List D} (S : Se Y T k N G) (hsc : Y.X.env.scope = osc) (B : CmB N tn fs ix G' scope osc) (hi : ItD Y tg iter c items)
    (rs : List (Option D)) (hlen : rs.length = items.length) (hz : rs.length ≤ 100000)
    (turn : ∀ (Y' : Cy) (S' : Se Y' T k (tn ++ fs) G'), (∀ x ∈ tn, Y'.X.env.scope.names.lookup x = some .local) → ∀ (m : Nat) (d : D) (r : Option D), items[m]? = some d → rs[m]? = some r → ∀ ts : List Slot, ts.length = tn.length →
      ∃ ts' : List Slot, ts'.length = tn.length ∧ ts'.all (fun s => !isOwn s) = true ∧ TgD Y' tg d (ts ++ ix.map fun i => capS (slot c i)) (ts' ++ ix.map fun i => capS (slot c i)) ∧ (match r with
        | some e => TsD Y' ifs (ts' ++ ix.map fun i => capS (slot c i)) true ∧ EvD Y' elt (ts' ++ ix.map fun i => capS (slot c i)) e
        | none => TsD Y' ifs (ts' ++ ix.map fun i => capS (slot c i)) false))
    (hs : ∀ x, foldedSetIterable iter Y.X.env x = pure x := by intro _; rfl)
    {pins : List (Addr × Obj)} {s : Shared} {σ : St} {F H : Hp} (I : Inv Y.X pins σ H s) (E : EnvY Y F H σ c) {use : Option (Value → Sem Unit)} {Qv : Value → Shared → Prop} {cpos : Pos}
    (post : ∀ (D C : Addr) (s' : Shared) (m : Str → Option Value) (F' H' : Hp), s'.heap.Ns C m → FpOk Y.X pins H' C → (∀ h', Heap.SameBut C s'.heap h' → Inv Y.X pins σ H' { s' with heap := h' }) → Ext F H F' H' → Rep Y.X.K F' (.ref D) (.lst (rs.filterMap id)) →
      compPost (model Y.X.prog Y.X.w) Y.X.A Y.X.xe use Qv (.ref D) C (.ok .next) s') :
    wpAny (model Y.X.prog Y.X.w) Y.X.A (comprehension (.ListComp elt [⟨tg, iter, ifs, 0⟩] scope pos) scope Y.X.env cpos (newList []) (firstAsync [⟨tg, iter, ifs, 0⟩]) (firstIter [⟨tg, iter, ifs, 0⟩] Y.X.env) use) Qv Y.X.xe s := by
  refine comp_coreG S hsc B hi rs hlen hz turn hs I E fun D C s' m F' H' vs hn fp hI ex hD hv hf r => ?_
  have sm : Same F' (upd F' D (.lst vs)) := fun b u z => by rw [upd_ne (fun w => by rw [w, hf] at z; cases z)]; exact z
  have ex2 : Ext F H (upd F' D (.lst vs)) H' := ⟨ex.ff.trans sm, fun b u z => by
      by_cases hb : b = D
      · subst hb; rw [upd_same] at z; cases z; exact hv
      · rw [upd_ne hb] at z; exact ex.fh _ _ z, ex.hh, fun b h1 h2 => by
      rw [upd_ne (fun w => h1 (by rw [w]; exact hD))]; exact ex.fr b h1 h2⟩
  exact post D C s' m _ H' hn fp hI ex2 (.lst (SqL.of upd_same) (r.mono sm))
theorem ev_comp {Y : Cy} {T : Tx} {k : Nat} {N G tn fs G' : List Str} {ix : List Nat} {c : List Slot} {tg iter elt : Expr} {ifs : List Expr} {scope osc : Scope} {pos : Pos} {items : List D} (S : Se Y T k N G) (hsc : Y.X.env.scope = osc) (B : CmB N tn fs ix G' scope osc) (hi : ItD Y tg iter c items)
    (rs : List (Option D)) (hlen : rs.length = items.length) (hz : rs.length ≤ 100000)
    (turn : ∀ (Y' : Cy) (S' : Se Y' T k (tn ++ fs) G'), (∀ x ∈ tn, Y'.X.env.scope.names.lookup x = some .local) → ∀ (m : Nat) (d : D) (r : Option D), items[m]? = some d → rs[m]? = some r → ∀ ts : List Slot, ts.length = tn.length →
      ∃ ts' : List Slot, ts'.length = tn.length ∧ ts'.all (fun s => !isOwn s) = true ∧ TgD Y' tg d (ts ++ ix.map fun i => capS (slot c i)) (ts' ++ ix.map fun i => capS (slot c i)) ∧ (match r with
        | some e => TsD Y' ifs (ts' ++ ix.map fun i => capS (slot c i)) true ∧ EvD Y' elt (ts' ++ ix.map fun i => capS (slot c i)) e
        | none => TsD Y' ifs (ts' ++ ix.map fun i => capS (slot c i)) false))
    (hs : ∀ x, foldedSetIterable iter Y.X.env x = pure x := by intro _; rfl) : EvD Y (.ListComp elt [⟨tg, iter, ifs, 0⟩] scope pos) c (.lst (rs.filterMap id)) := by
  intro pins s σ H Q I ⟨F, E, q⟩
  rw [eval_ListComp]
  exact comp_core S hsc B hi rs hlen hz turn hs I E (use := none) (Qv := EP Y.X pins σ Q) fun D C s' m F' H' hn _ hI ex r => ⟨m, hn, fun h' hs' => ⟨.ref D, H', hI h' hs', rfl, q _ F' H' ex r⟩⟩
end DL

set_option Elab.async false
set_option linter.all false
set_option maxRecDepth 100000
namespace DL
open PySem L2
/-! ### more expressions -/
def rCatS (K : PySem.W.Frag) : R2 := fun x y H Q => ∃ l b xs zs, x = .ref l ∧ y = .ref b ∧ SqL K H l xs ∧ SqL K H b zs ∧ xs.length + zs.length ≤ sizeLine ∧ ∀ p, H p = none → Q (.ref p) (upd H p (.lst (xs ++ zs)))
theorem op_catS {X : Cx} : OpR X (binaryOp .Add) (rCatS X.K) := by
  intro pins s σ H x y v u Q I rx ry h
  obtain ⟨l, b, xs, zs, rfl, rfl, hH, hB, hz, q⟩ := h
  cases rx
  cases ry
  obtain ⟨its, r, ⟨⟨cls, dd, data, sl⟩, n, e, hc, hdd, hd⟩, z1⟩ := I.list hH
  obtain ⟨its2, r2, ⟨⟨cls2, dd2, data2, sl2⟩, n2, e2, hc2, hdd2, hd2⟩, z2⟩ := I.list hB
  simp only at hc hd hc2 hd2
  subst hc hd hc2 hd2
  have l1 := r.length
  have l2 := r2.length
  refine concat_meets ⟨_, e, rfl⟩ ⟨_, e2, rfl⟩ noFill_list_add seq_list_add PySem.F.slot_list_add PySem.F.entry_list_add (PySem.F.args_list_add_2 _ _) (PyProof.Rows.list_addW l b its.toArray its2.toArray n n2 dd dd2 sl sl2 (by rw [List.size_toArray, List.size_toArray]; omega)) ⟨e, e2, ?_⟩
  have ea : its.toArray ++ its2.toArray = (its ++ its2).toArray := by simp
  rw [ea]
  exact ⟨.ref _, _, I.lnew (t' := s.toks) (r.append r2) (by rw [List.length_append]; omega), rfl, q _ I.fresh⟩
section
variable {Y : Cy} {T : Tx} {k : Nat} {N G : List Str} {c : List Slot} {a b e : Expr} {es : List Expr} {pos : Pos} {d d1 d2 : D} {ds es' xs ys : List D} {P : Out → Prop} {rest : List Stmt}
theorem ev_catL (ha : EvD Y a c (.lst xs)) (hb : EvD Y b c (.lst ys)) (hz : xs.length + ys.length ≤ 1000000 := by first | exact of_decide_eq_true rfl | (simp; done)) : EvD Y (.BinOp a .Add b pos) c (.lst (xs ++ ys)) :=
  ev_op2 (t := tC .non) (ta := tC .non) (tb := tC .non) (pe_op op_catS ha hb) fun x y F H Q f rx ry q => by
    obtain ⟨p1, vs, rfl, h1, r1⟩ := inv_lst rx
    obtain ⟨p2, ws, rfl, h2, r2⟩ := inv_lst ry
    exact ⟨p1, p2, vs, ws, rfl, rfl, f.seq h1, f.seq h2, by rw [r1.length, r2.length]; exact small_le hz, fun p hp => q (.ref p) _ _ (Ext.new f hp (.lst (vs ++ ws))) (.lst (SqL.of upd_same) ((r1.append r2).mono (Ext.new f hp _).ff))⟩
/-- flat things -/
def flatD : D → Bool
  | .non | .bl _ | .int _ | .str _ => true
  | _ => false
def toV : D → V
  | .non => .non | .bl b => .bl b | .int i => .int i | .str x => .str x | _ => .non
theorem rep_flat {K : PySem.W.Frag} {F : Hp} {v : V} {d : D} (r : Rep K F v d) (h : flatD d = true) : v = toV d := by
  cases r <;> first | rfl | cases h
theorem reps_flat {K : PySem.W.Frag} {F : Hp} : ∀ {vs : List V} {ds : List D}, Reps K F vs ds → ds.all flatD = true → vs = ds.map toV
  | _, _, .nil, _ => rfl
  | _, _, .cons r t, h => by simp at h; rw [rep_flat r h.1, reps_flat t (by simpa using h.2)]; rfl
def inD (d : D) (ds : List D) : Bool := inV (toV d) (ds.map toV)
theorem flat_V {d : D} (h : flatD d = true) : flatV (toV d) = true := by cases d <;> first | rfl | cases h
theorem ev_inT (ha : EvD Y a c d) (hb : EvD Y b c (.tup ds)) (h1 : flatD d = true := by rfl) (h2 : ds.all flatD = true := by rfl) (hm : behindInMarks .In b = false := by rfl) : EvD Y (.Compare a [.In] [b] pos) c (.bl (inD d ds)) :=
  ev_op2 (t := tC .non) (ta := tC .non) (tb := tC .non) (pe_cmpR op_in_seq ha hb hm) fun x y F H Q f rx ry q => by
    obtain ⟨p, vs, rfl, hp, r⟩ := inv_tup ry
    have e1 := rep_flat rx h1
    have e2 := reps_flat r h2
    subst e1 e2
    refine ⟨p, _, rfl, .inr (sqT_same f hp), flat_V h1, ?_, q _ F H (Ext.refl f) (.bl _)⟩
    rw [List.all_map, List.all_eq_true]
    intro x hx
    exact flat_V (List.all_eq_true.mp h2 x hx)
/-- a constant of the module: a tuple of ints -/
def CstT (T : Tx) (x : Str) (l : List Int) : Prop := ∃ a, T.mg x = some (.ref a) ∧ ∃ (o : Obj) (its : Array Value) (n : Nat), T.K.lookup a = some o ∧ o.cls = .type "tuple" ∧ o.data = .seq its n ∧ its.size ≤ sizeLine ∧ Vals (l.map V.int) its.toList
theorem ev_cstT (S : Sn Y T N G) (gi : Nat) {x : Str} {l : List Int} (h : CstT T x l) (hg : G[gi]? = some x := by rfl) : EvD Y (.Name x pos) c (.tup (l.map D.int)) := by
  obtain ⟨a, hm, o, its, n, h1, h2, h3, h4, h5⟩ := h
  have gl := S.gl x (List.mem_of_getElem? hg)
  refine PE.imp (pe_glob (v := .ref a) gl.1 (by rw [S.eM]; exact hm) rfl gl.2.1) fun σ H Q ⟨F, E, q⟩ => q _ F H (Ext.refl E.fh) (.tup (.inr ⟨o, its, n, by rw [S.eK]; exact h1, h2, h3, h4, h5⟩) (Reps.ints l))
end
end DL
namespace DL
open PySem L2
theorem bt_ValueError : bootBuiltins "ValueError" = some (.type "ValueError") := by decide +kernel
/-- which of the twelve classes take a refusal -/
def onlyL (i : Int) : List D := (List.range 12).map fun k => .bl (inD (.int (k : Nat)) [.int 0, .int 1, .int i])
end DL
namespace DL
open PySem L2
/-! ### defs that may refuse: where they don't; with a default -/
theorem FnX.toD {T : Tx} {k : Nat} {x : Str} {R : List D → Rs → Prop} {R' : List D → D → Prop} (h : FnX T k x R) (i : ∀ ds d, R' ds d → R ds (.ok d)) : FnD T k x R' := by
  obtain ⟨f, fd, ps, hm, hk, hb, F⟩ := h.ex
  have conv : ∀ {vs : List V} {H : Hp} {Q : VK} {E : XK}, spD T.K R' vs H Q E → spX T R vs H Q E0 := fun {vs H Q E} ⟨F0, ds, d, f0, r, hR, q⟩ => ⟨F0, ds, .ok d, f0, r, i ds d hR, q⟩
  refine ⟨f, fd, ps, hm, hk, hb, ⟨fun vs H Q E z => F.len vs H Q E0 (conv z), fun A outer s H args us vs Q E hr he hb hv hs => ?_⟩⟩
  refine codeAny_mono (F.run A outer s H args us vs Q E0 hr he hb hv (conv hs)) fun r s' hq => ?_
  cases r with
  | error e => obtain ⟨_, _, _, _, _, z⟩ := hq; exact z.elim
  | ok fl => cases fl <;> exact hq
structure FnXd (T : Tx) (k : Nat) (x : Str) (i : Int) (R : List D → Rs → Prop) : Prop where
  ex : ∃ (f : Addr) (fd : FuncData) (ps : List Str) (tk : Tok), T.mg x = some (.ref f) ∧ PySem.W.keepIn T.K (.ref f) = true ∧ Binds T.K fd ps [.int i tk] ∧ FnOk T.prog T.w T.K T.mg T.base (CXE T.prog T.w) k f fd ps (spX T R)
theorem FnXd.toD {T : Tx} {k : Nat} {x : Str} {j : Int} {R : List D → Rs → Prop} {R' : List D → D → Prop} (h : FnXd T k x j R) (i : ∀ ds d, R' ds d → R ds (.ok d)) : FnDd T k x j R' := by
  obtain ⟨f, fd, ps, tk, hm, hk, hb, F⟩ := h.ex
  have conv : ∀ {vs : List V} {H : Hp} {Q : VK} {E : XK}, spD T.K R' vs H Q E → spX T R vs H Q E0 := fun {vs H Q E} ⟨F0, ds, d, f0, r, hR, q⟩ => ⟨F0, ds, .ok d, f0, r, i ds d hR, q⟩
  refine ⟨f, fd, ps, tk, hm, hk, hb, ⟨fun vs H Q E z => F.len vs H Q E0 (conv z), fun A outer s H args us vs Q E hr he hb hv hs => ?_⟩⟩
  refine codeAny_mono (F.run A outer s H args us vs Q E0 hr he hb hv (conv hs)) fun r s' hq => ?_
  cases r with
  | error e => obtain ⟨_, _, _, _, _, z⟩ := hq; exact z.elim
  | ok fl => cases fl <;> exact hq
theorem fn_XV {T : Tx} {k : Nat} {N G ps : List Str} {R : List D → Rs → Prop} {x : Str} {st : Stmt} {i : Int} (A : AtV T x st i) (B : ScB N ps G (defScope st))
    (hb : ∀ (Td : Addr) (kV doc pm : Value) (an : Option Addr) (cdv ct : Value) (tk : Tok) (o : Obj) (n : Nat), T.K.lookup Td = some o → o.data = .seq #[.int i tk] n →
      Binds T.K (PySem.W.fnOf x x (defArgs st) (defBody st) (defScope st) (.ref Td) kV doc pm an cdv ct) ps [] ∧ Binds T.K (PySem.W.fnOf x x (defArgs st) (defBody st) (defScope st) (.ref Td) kV doc pm an cdv ct) ps [.int i tk]) (hlen : ∀ ds d, R ds d → ds.length = ps.length)
    (body : ∀ (Y : Cy) (S : Sc Y T k N G) (Z : Fx Y st) (ds : List D) (r : Rs), R ds r → (∀ y, r = .ex y → ∀ c, RzN Y T y c ∧ RzMN Y T y c) → SsD Y (defBody st) (ctx0 N ds) (RetX r)) : FnX T (k + 1) x R ∧ FnXd T (k + 1) x i R := by
  obtain ⟨f, Td, oc, od, kV, doc, pm, an, cdv, ct, osl, tk, o, n, lk, lt, hs, hcd, kp, hm⟩ := A
  have hB := hb Td kV doc pm an cdv ct tk o n lt hs
  have main : FnOk T.prog T.w T.K T.mg T.base (CXE T.prog T.w) (k + 1) f (PySem.W.fnOf x x (defArgs st) (defBody st) (defScope st) (.ref Td) kV doc pm an cdv ct) ps (spX T R) := by
    refine fn_of lk hcd B.fs (fun vs H Q E h => ?_) fun A outer s H vs Q E hr h => ?_
    · obtain ⟨F0, ds, d, _, r, hR, _⟩ := h
      rw [r.length]; exact hlen ds d hR
    · obtain ⟨F0, ds, r, f0, rs, hR, q⟩ := h
      have S : Sc ⟨cxOf (CXE T.prog T.w) T.prog T.w T.K T.mg T.base N x (defScope st) f cdv A outer s H E, F0, H⟩ T k N G :=
        ⟨⟨⟨rfl, rfl, rfl, rfl, rfl, rfl, B.fs.nd, B.loc, B.gl⟩, rfl, hr⟩, fun _ => rfl, PassesOwn.leaving⟩
      refine ⟨_, body _ S ⟨rfl, rfl, rfl, rfl⟩ ds r hR (fun y hy c => ?_), F0, env_start f0 rs, fun o ho => ?_⟩
      · subst hy
        have q : ∀ C F' H', T.mg y = some (.ref C) → Ext F0 H F' H' → E (.ref C) none H' := q
        exact ⟨fun C hC => ⟨fun I En ex L => leave_on I rfl ⟨rfl, rfl⟩ L fun s' L => ⟨_, C, _, rfl, L, q C _ _ hC (En.ext.trans ex)⟩⟩, fun C hC => ⟨fun I En M => leave_made I rfl ⟨rfl, rfl⟩ M fun s' L => ⟨_, C, _, rfl, L, q C _ _ hC En.ext⟩⟩⟩
      · cases r with
        | ex y => exact False.elim ho
        | ok d =>
          have q : ∀ v F' H', Ext F0 H F' H' → Rep T.K F' v d → Q v H' := q
          cases o with
          | rt e => cases ho; exact fun v F' H' _ x r' => q v F' H' x r'
          | nx c => cases ho; exact fun σ F' H' _ E' => q .non F' H' E'.ext .non
          | bk c => exact False.elim ho
          | ct c => exact False.elim ho
          | ro ds => exact False.elim ho
          | rs R => exact False.elim ho
  exact ⟨⟨f, _, ps, hm, kp, hB.1, main⟩, ⟨f, _, ps, tk, hm, kp, hB.2, main⟩⟩
end DL

set_option Elab.async false
set_option linter.all false
set_option maxRecDepth 100000
namespace DL
open PySem L2
section
variable {Y : Cy} {T : Tx} {k j : Nat} {N G : List Str} {c c' c'' : List Slot} {a b e tg : Expr} {es : List Expr} {pos p : Pos} {rest : List Stmt} {P : Out → Prop} {d d1 d2 d3 : D} {ds : List D} {R : List D → D → Prop} {x : Str}
/-- any target = value -/
theorem ss_asg (he : EvD Y e c d) (hg : TgD Y tg d c c') (hr : SsD Y rest c' P) (hs : swapsWithSole [tg] e pos.line Y.X.env = pure false := by rfl) (hw : swappedStores [tg] e Y.X.env = pure none := by rfl)
    (h1 : (assignEach [tg] Y.X.env).map (·.2) = [assign tg Y.X.env] := by rfl) : SsD Y (.Assign [tg] e pos :: rest) c P := by
  refine ss_cons (PS.imp (ps_asg he hg hs hw h1) fun D σ H ⟨F, E, m⟩ => ⟨F, E, fun v F' H' e' r' => ?_⟩)
  exact ⟨F', E.grow e', r', fun σ2 F2 H2 e2 E2 => m (.nx c') hr σ2 F2 H2 (e'.trans e2).ff E2⟩
end

section
variable {Y : Cy} {T : Tx} {k j : Nat} {N G : List Str} {c c' c'' : List Slot} {a b e tg : Expr} {es : List Expr} {pos p : Pos} {rest : List Stmt} {P : Out → Prop} {d d1 d2 d3 : D} {ds : List D} {R : List D → D → Prop} {x : Str}
/-! targets in a row -/
def tGs (Y : Cy) (ds : List D) (c c' : List Slot) : TGs := fun vs σ H Q => ∃ F, EnvY Y F H σ c ∧ Reps Y.X.K F vs ds ∧ ∀ σ' F' H', Ext F H F' H' → EnvY Y F' H' σ' c' → Q σ' H'
def TgsD (Y : Cy) (es : List Expr) (ds : List D) (c c' : List Slot) : Prop := PGs Y.X es (tGs Y ds c c')
theorem PGs.imp {X : Cx} {t t' : TGs} (h : PGs X es t) (i : ∀ vs σ H Q, t' vs σ H Q → t vs σ H Q) : PGs X es t' := fun pins s σ H vs us Q I r q => h pins s σ H vs us Q I r (i _ _ _ _ q)
/-! a list taken apart -/
def gLst (K : PySem.W.Frag) (n : Nat) (t : TGs) : TG := fun v σ H Q => ∃ a xs, v = .ref a ∧ SqL K H a xs ∧ xs.length = n ∧ t xs σ H Q
/-! a, b = x, y -/
/-! a list comprehension without a test -/
theorem ev_lto {xs ys : List D} (h : EvD Y e c (.lst xs)) (he : xs = ys) : EvD Y e c (.lst ys) := he ▸ h
theorem star_T {env : PySem.Env} {es' : List Expr} {x1 : Nat} {p1 : Pos} : starEach (.Tuple es' x1 p1 :: es) env = (false, eval (.Tuple es' x1 p1) env) :: starEach es env := by rfl
/-- a written tuple among others -/
theorem ar_consT {es' : List Expr} {x1 : Nat} {p1 : Pos} (ha : EvD Y (.Tuple es' x1 p1) c d) (hr : ArD Y es c ds) : ArD Y (.Tuple es' x1 p1 :: es) c (d :: ds) := ar_cons ha hr star_T
/-! tuple(list) -/
/-! min(list) -/
theorem best_min (val : Nat → Int) : ∀ (l : List Int) (x : Int), (∀ i, i < (x :: l).length → val i = (x :: l).getD i 0) → ∀ m, m < (x :: l).length → val (argBest (fun i j => decide (val i < val j)) m) = ((x :: l).take (m + 1)).tail.foldl min x
  | l, x, h, 0, _ => by rw [h _ (by simp [argBest])]; rfl
  | l, x, h, m + 1, hm => by
    have ih := best_min val l x h m (by omega)
    have hm' : m < l.length := by simpa using hm
    have e : ((x :: l).take (m + 1 + 1)).tail = ((x :: l).take (m + 1)).tail ++ [l[m]] := by
      show l.take (m + 1) = l.take m ++ [l[m]]
      rw [List.take_succ, List.getElem?_eq_getElem hm']
      rfl
    have hv : val (m + 1) = l[m] := by rw [h _ hm]; simp [hm']
    rw [e, List.foldl_append, ← ih]
    show val (if decide (val (m + 1) < val (argBest _ m)) = true then m + 1 else argBest _ m) = min (val (argBest _ m)) l[m]
    rw [← hv]
    split
    · rename_i q; have : val (m + 1) < val (argBest (fun i j => decide (val i < val j)) m) := by simpa using q
      omega
    · rename_i q; have : ¬ val (m + 1) < val (argBest (fun i j => decide (val i < val j)) m) := by simpa using q
      omega
theorem call_minL {X : Cx} (hh : X.A.handled = none) : CallR X (.builtin "min") (fun xs H Q => ∃ (p : Addr) (x : Int) (l : List Int), xs = [.ref p] ∧ SqL X.K H p ((x :: l).map V.int) ∧ Q (.int (l.foldl min x)) H) := by
  intro pins s σ H xs us Q I r h
  obtain ⟨p, x, l, rfl, hp, q⟩ := h
  obtain ⟨u, rfl, ru⟩ := vals1 r
  cases (show u = Value.ref p from ru)
  obtain ⟨its, rv, pl, hz⟩ := I.list hp
  have hlt : p < s.heap.objs.size := by obtain ⟨o, n, e, _⟩ := pl; exact Heap.lt_size e
  have hl := rv.length
  have hval : ∀ i v, its.toArray[i]? = some v → ∃ t, v = Value.int ((x :: l).getD i 0) t := fun i v hv => by
    have hv : its[i]? = some v := by simpa using hv
    have hi : i < (x :: l).length := by
      have := (List.getElem?_eq_some_iff.mp hv).1
      rw [← hl, List.length_map] at this; exact this
    obtain ⟨u', hu', r'⟩ := rv.get (i := i) (x := .int (x :: l)[i]) (by rw [List.getElem?_map, List.getElem?_eq_getElem hi]; rfl)
    rw [hv] at hu'
    cases hu'
    obtain ⟨t, rfl⟩ := r'
    exact ⟨t, by rw [List.getD_eq_getElem?_getD, List.getElem?_eq_getElem hi]; rfl⟩
  have hn : its.toArray.size = (x :: l).length := by rw [List.size_toArray, ← hl, List.length_map]
  refine call_min_walk (wpAny_pyIter_list pl.isList ?_)
  refine ⟨s.heap.objs.size, _, _, _, _, _, _, rfl, Walks.list (prog := X.prog) (w := X.w) (A := X.A.in1) hh s.heap.objs.size p (Nat.ne_of_lt hlt) its.toArray, ⟨⟨_, Heap.get?_push_size _ rfl, rfl, rfl⟩, pl.isList.push _⟩, fun b hb => ?_, by rw [hn]; simp, CmpOf.ints_lt (fun i => (x :: l).getD i 0) hval, fun v h' tk hv hk => ?_⟩
  · have hb' : b = s.heap.objs.size ∨ b = p := by simpa using hb
    have hz : (s.heap.push { cls := .type "list_iterator", data := .fields #[.ref p, .int 0 0] }).objs.size = s.heap.objs.size + 1 := Heap.size_push ..
    show b < (s.heap.push _).objs.size
    rw [hz]
    rcases hb' with rfl | rfl
    · exact Nat.lt_succ_self _
    · exact Nat.lt_succ_of_lt hlt
  · obtain ⟨t, rfl⟩ := hval _ v hv
    have e := best_min (fun i => (x :: l).getD i 0) l x (fun _ _ => rfl) (its.toArray.size - 1) (by rw [hn]; simp)
    have e2 : ((x :: l).take (its.toArray.size - 1 + 1)).tail = l := by rw [hn]; simp
    rw [e2] at e
    refine ⟨.int _, H, I.kept (t' := tk) fun b o z => ?_, ⟨t, rfl⟩, ?_⟩
    · refine hk b o ?_ (Heap.get?_push_of_some _ z)
      have := Heap.lt_size z
      simp; exact Nat.ne_of_lt this
    · have e' : (x :: l).getD (argBest (fun i j => decide ((x :: l).getD i 0 < (x :: l).getD j 0)) (its.toArray.size - 1)) 0 = l.foldl min x := e
      rw [e']
      exact q
theorem reps_int {K : PySem.W.Frag} {F : Hp} : ∀ {vs : List V} {l : List Int}, Reps K F vs (l.map D.int) → vs = l.map V.int
  | _, [], r => by cases r; rfl
  | _, b :: bs, r => by
    cases r with
    | cons h t => rw [inv_int h, reps_int t]; rfl
theorem ev_minL (S : Se Y T k N G) (gi : Nat) {i : Int} {l : List Int} {p : Pos} (ha : ArD Y [e] c [.lst ((i :: l).map D.int)]) (hm : T.mg "min" = none) (hg : G[gi]? = some ("min" : Str) := by rfl) (he : starEach [e] Y.X.env = (false, eval e Y.X.env) :: starEach [] Y.X.env := by rfl) : EvD Y (.Call (.Name "min" p) [e] [] pos) c (.int (l.foldl min i)) :=
  ev_callB S gi (call_minL S.room.hd) hg hm bt_min ha (fun vs F H Q f r q => by
    obtain ⟨v, rfl, rv⟩ := inv1 r
    obtain ⟨p, ws, rfl, hp, rs⟩ := inv_lst rv
    have := reps_int rs
    subst this
    exact ⟨p, i, l, rfl, f.seq hp, q _ F H (Ext.refl f) (.int _)⟩) he rfl
/-! all -/
end
end DL

set_option Elab.async false
set_option linter.all false
set_option maxRecDepth 100000
namespace DL
open PySem L2
/-! lists of our own, that are written -/
section
variable {K : PySem.W.Frag} {F₀ H₀ F H : Hp} {σ : St} {c : List Slot} {i : Nat} {a p : Addr} {vs : List V} {ds : List D}
theorem none_of {F H : Hp} {p : Addr} (s : Same F H) (h : H p = none) : F p = none := by
  cases q : F p with
  | none => rfl
  | some o => rw [s p o q] at h; cases h
theorem Env.own_new (E : Env K F₀ H₀ F H σ c) (hi : i < c.length) (hp : H p = none) (r : Reps K F vs ds) : Env K F₀ H₀ F (upd H p (.lst vs)) (σ.set i (some (.ref p))) (put c i (.own ds)) where
  ext := ⟨E.ext.ff, fun b u q => by rw [upd_ne (ne_of_none (E.ext.fh b u q) hp)]; exact E.ext.fh b u q, fun b u q => by rw [upd_ne (ne_of_none (E.ext.hh b u q) hp)]; exact E.ext.hh b u q, E.ext.fr⟩
  len := by rw [List.length_set, put_length]; exact E.len
  sl := fun j => by
    by_cases e : i = j
    · subst e
      rw [slot_put _ _ _ hi, List.getElem?_set_self (by rw [E.len]; exact hi)]
      exact ⟨p, vs, rfl, upd_same, none_of E.ext.fh hp, none_of E.ext.hh hp, r⟩
    · rw [slot_put_ne _ _ _ _ e, List.getElem?_set_ne e]
      have q := E.sl j
      generalize slot c j = s at q ⊢
      cases s with
      | un => trivial
      | val d => exact q
      | own ds' => obtain ⟨b, ws, h, h1, h2, h3, r'⟩ := q; exact ⟨b, ws, h, by rw [upd_ne (ne_of_none h1 hp)]; exact h1, h2, h3, r'⟩
      | dic ds' => obtain ⟨b, ws, h, h1, h2, h3, r'⟩ := q; exact ⟨b, ws, h, by rw [upd_ne (ne_of_none h1 hp)]; exact h1, h2, h3, r'⟩
      | thg ds' => obtain ⟨b, ws, h, h1, h2, h3, r'⟩ := q; exact ⟨b, ws, h, by rw [upd_ne (ne_of_none h1 hp)]; exact h1, h2, h3, r'⟩
      | bor t => exact q
      | exc C => obtain ⟨b, h, h1⟩ := q; exact ⟨b, h, by rw [upd_ne (ne_of_none h1 hp)]; exact h1⟩
  inj := by
    have key : ∀ k, i ≠ k → isOwn (slot c k) = true → σ[k]? = some (some (V.ref p)) → False := fun k hk h2 h4 => by
      have q := E.sl k
      cases hs : slot c k with
      | own ds' =>
        rw [hs] at q
        obtain ⟨b, ws, h, h1, _⟩ := q
        rw [h4] at h
        cases h
        rw [hp] at h1
        cases h1
      | dic ds' =>
        rw [hs] at q
        obtain ⟨b, ws, h, h1, _⟩ := q
        rw [h4] at h
        cases h
        rw [hp] at h1
        cases h1
      | thg ds' =>
        rw [hs] at q
        obtain ⟨b, ws, h, h1, _⟩ := q
        rw [h4] at h
        cases h
        rw [hp] at h1
        cases h1
      | bor t => rw [hs] at h2; cases h2
      | un => rw [hs] at h2; cases h2
      | val d => rw [hs] at h2; cases h2
      | exc C => rw [hs] at h2; cases h2
    intro j k b h1 h2 h3 h4
    by_cases e : i = j
    · subst e
      by_cases e2 : i = k
      · exact e2
      · rw [List.getElem?_set_self (by rw [E.len]; exact hi)] at h3
        cases h3
        rw [List.getElem?_set_ne e2] at h4
        rw [slot_put_ne _ _ _ _ e2] at h2
        exact (key k e2 h2 h4).elim
    · by_cases e2 : i = k
      · subst e2
        rw [List.getElem?_set_self (by rw [E.len]; exact hi)] at h4
        cases h4
        rw [List.getElem?_set_ne e] at h3
        rw [slot_put_ne _ _ _ _ e] at h1
        exact (key j e h1 h3).elim
      · rw [slot_put_ne _ _ _ _ e] at h1
        rw [slot_put_ne _ _ _ _ e2] at h2
        rw [List.getElem?_set_ne e] at h3
        rw [List.getElem?_set_ne e2] at h4
        exact E.inj j k b h1 h2 h3 h4
theorem Env.own_at (E : Env K F₀ H₀ F H σ c) (hs : slot c i = .own ds) : ∃ a vs, σ[i]? = some (some (.ref a)) ∧ H a = some (.lst vs) ∧ F a = none ∧ H₀ a = none ∧ Reps K F vs ds := by
  have q := E.sl i
  rw [hs] at q
  exact q
theorem own_lt : ∀ {c : List Slot} {i : Nat} {ds : List D}, slot c i = .own ds → i < c.length
  | [], _, _, h => by cases h
  | _ :: _, 0, _, _ => by simp
  | _ :: r, i + 1, _, h => by simpa using own_lt (c := r) (i := i) h
theorem Env.own_set (E : Env K F₀ H₀ F H σ c) {ds' : List D} {vs' ws : List V} (hs : slot c i = .own ds) (hσ : σ[i]? = some (some (.ref a))) (h1 : H a = some (.lst ws)) (h2 : F a = none) (h3 : H₀ a = none) (r : Reps K F vs' ds') :
    Env K F₀ H₀ F (upd H a (.lst vs')) σ (put c i (.own ds')) where
  ext := ⟨E.ext.ff, fun b u q => by rw [upd_ne (ne_of_none q h2)]; exact E.ext.fh b u q, fun b u q => by rw [upd_ne (ne_of_none q h3)]; exact E.ext.hh b u q, E.ext.fr⟩
  len := by rw [put_length]; exact E.len
  sl := fun j => by
    by_cases e : i = j
    · subst e
      rw [slot_put _ _ _ (own_lt hs)]
      exact ⟨a, vs', hσ, upd_same, h2, h3, r⟩
    · rw [slot_put_ne _ _ _ _ e]
      have q := E.sl j
      cases hj : slot c j with
      | un => trivial
      | val d => rw [hj] at q; exact q
      | own ds2 =>
        rw [hj] at q
        obtain ⟨b, us, h, g1, g2, g3, r'⟩ := q
        have hb : b ≠ a := fun z => e (E.inj i j a (by rw [hs]; rfl) (by rw [hj]; rfl) hσ (by rw [← z]; exact h))
        exact ⟨b, us, h, by rw [upd_ne hb]; exact g1, g2, g3, r'⟩
      | dic ds2 =>
        rw [hj] at q
        obtain ⟨b, us, h, g1, g2, g3, r'⟩ := q
        have hb : b ≠ a := fun z => e (E.inj i j a (by rw [hs]; rfl) (by rw [hj]; rfl) hσ (by rw [← z]; exact h))
        exact ⟨b, us, h, by rw [upd_ne hb]; exact g1, g2, g3, r'⟩
      | thg ds2 =>
        rw [hj] at q
        obtain ⟨b, us, h, g1, g2, g3, r'⟩ := q
        have hb : b ≠ a := fun z => e (E.inj i j a (by rw [hs]; rfl) (by rw [hj]; rfl) hσ (by rw [← z]; exact h))
        exact ⟨b, us, h, by rw [upd_ne hb]; exact g1, g2, g3, r'⟩
      | bor t => rw [hj] at q; exact q
      | exc C =>
        rw [hj] at q
        obtain ⟨b, h, g1⟩ := q
        have hb : b ≠ a := fun z => by rw [z, h1] at g1; cases g1
        exact ⟨b, h, by rw [upd_ne hb]; exact g1⟩
  inj := fun j k b h1 h2 h3 h4 => by
    have own : ∀ l, isOwn (slot (put c i (.own ds')) l) = true → isOwn (slot c l) = true := fun l hl => by
      by_cases e : i = l
      · subst e; rw [hs]; rfl
      · rw [slot_put_ne _ _ _ _ e] at hl; exact hl
    exact E.inj j k b (own j h1) (own k h2) h3 h4
theorem Env.freeze (E : Env K F₀ H₀ F H σ c) (hs : slot c i = .own ds) : ∃ F', Same F F' ∧ Env K F₀ H₀ F' H σ (put c i (.val (.lst ds))) := by
  obtain ⟨a, vs, hσ, h1, h2, h3, r⟩ := E.own_at hs
  have sm : Same F (upd F a (.lst vs)) := fun b u q => by rw [upd_ne (ne_of_none q h2)]; exact q
  refine ⟨upd F a (.lst vs), sm, ⟨E.ext.ff.trans sm, fun b u q => ?_, E.ext.hh, fun b hb fb => ?_⟩, by rw [put_length]; exact E.len, fun j => ?_, fun j k b q1 q2 q3 q4 => ?_⟩
  · by_cases e : b = a
    · subst e; rw [upd_same] at q; cases q; exact h1
    · rw [upd_ne e] at q; exact E.ext.fh b u q
  · by_cases e : b = a
    · subst e; exact absurd h3 hb
    · rw [upd_ne e]; exact E.ext.fr b hb fb
  · by_cases e : i = j
    · subst e
      rw [slot_put _ _ _ (own_lt hs)]
      exact ⟨.ref a, hσ, .lst (SqL.of upd_same) (r.mono sm)⟩
    · rw [slot_put_ne _ _ _ _ e]
      have q := E.sl j
      cases hj : slot c j with
      | un => trivial
      | val d => rw [hj] at q; obtain ⟨x, h, r'⟩ := q; exact ⟨x, h, r'.mono sm⟩
      | own ds2 =>
        rw [hj] at q
        obtain ⟨b, us, h, g1, g2, g3, r'⟩ := q
        have hb : b ≠ a := fun z => e (E.inj i j a (by rw [hs]; rfl) (by rw [hj]; rfl) hσ (by rw [← z]; exact h))
        exact ⟨b, us, h, g1, by rw [upd_ne hb]; exact g2, g3, r'.mono sm⟩
      | dic ds2 =>
        rw [hj] at q
        obtain ⟨b, us, h, g1, g2, g3, r'⟩ := q
        have hb : b ≠ a := fun z => e (E.inj i j a (by rw [hs]; rfl) (by rw [hj]; rfl) hσ (by rw [← z]; exact h))
        exact ⟨b, us, h, g1, by rw [upd_ne hb]; exact g2, g3, r'.mono sm⟩
      | thg ds2 =>
        rw [hj] at q
        obtain ⟨b, us, h, g1, g2, g3, r'⟩ := q
        have hb : b ≠ a := fun z => e (E.inj i j a (by rw [hs]; rfl) (by rw [hj]; rfl) hσ (by rw [← z]; exact h))
        exact ⟨b, us, h, g1, by rw [upd_ne hb]; exact g2, g3, r'.mono sm⟩
      | bor t => rw [hj] at q; obtain ⟨b, o, h, g1, r2⟩ := q; exact ⟨b, o, h, g1, r2.mono sm⟩
      | exc C => rw [hj] at q; exact q
  · have own : ∀ l, isOwn (slot (put c i (.val (.lst ds))) l) = true → isOwn (slot c l) = true := fun l hl => by
      by_cases e : i = l
      · subst e; rw [hs]; rfl
      · rw [slot_put_ne _ _ _ _ e] at hl; exact hl
    exact E.inj j k b (own j q1) (own k q2) q3 q4
end
section
variable {Y : Cy} {T : Tx} {k : Nat} {N G : List Str} {c : List Slot} {a b e : Expr} {es : List Expr} {pos p1 p2 p3 : Pos} {rest : List Stmt} {P : Out → Prop} {d : D} {ds : List D} {x : Str}
/-- e makes a new list -/
def OwD (Y : Cy) (e : Expr) (c : List Slot) (ds : List D) : Prop := PE Y.X e fun σ H Q => ∃ F, EnvY Y F H σ c ∧ ∀ vs F1 H1 p, Ext F H F1 H1 → Reps Y.X.K F1 vs ds → H1 p = none → Q (.ref p) (upd H1 p (.lst vs))
/-- our own list is no longer written -/
theorem ss_freeze {sts : List Stmt} (i : Nat) (hs : slot c i = .own ds) (h : SsD Y sts (put c i (.val (.lst ds))) P) : SsD Y sts c P :=
  PSs.imp h fun D σ H ⟨F, E, m⟩ => by
    obtain ⟨F', sm, E'⟩ := E.freeze hs
    exact ⟨F', E', fun o ho => (m o ho).grow sm⟩
/-- x.append(e) -/
theorem ss_app (S : Sc Y T k N G) (i : Nat) (hs : slot c i = .own ds) (he : EvD Y e c d) (hr : SsD Y rest (put c i (.own (ds ++ [d]))) P) (hz : ds.length < 1000000) (hi : N[i]? = some x := by rfl)
    (hbase : attributeBase (.Name x p1) "append" Y.X.env (eval (.Name x p1) Y.X.env) = eval (.Name x p1) Y.X.env := by rfl) (hfew : ((backTo p3 (starEach [e] Y.X.env)).all (fun x => !x.1) && (backToKw p3 (keywordEach [] Y.X.env)).all (fun x => x.1.isSome)
      && decide ([e].length + ([] : List Keyword).length + (if ([] : List Keyword).isEmpty then 0 else 1) < 30)) = true := by rfl) (hline : (p2.endLine == p3.line) = true := by rfl) (hst : starEach [e] Y.X.env = (false, eval e Y.X.env) :: starEach [] Y.X.env := by rfl)
    (hsw : swapsWith (.Call (.Attribute (.Name x p1) "append" p2) [e] [] p3) none pos.line Y.X.env = pure false := by rfl) :
    SsD Y (.Expr (.Call (.Attribute (.Name x p1) "append" p2) [e] [] p3) pos :: rest) c P := by
  have hx := S.loc x (List.mem_of_getElem? hi)
  rw [← S.n] at hi
  refine ss_cons (PS.imp (ps_expr (pe_bm PySem.F.plainAttrs_list PySem.F.slot_list_append PySem.F.type_list_append mt_append (pe_var hi (hx.1.elim .inl fun h => .inr (.inl h)) hx.2.1 hx.2.2) (pa_cons he pa_nil hst) hbase hfew hline hst rfl) hsw) fun D σ H ⟨F, E, m⟩ => ?_)
  obtain ⟨l, vs, hσ, h1, h2, h3, r⟩ := E.own_at hs
  refine ⟨.ref l, hσ, .inl ⟨rfl, vs, .inl (.inl h1)⟩, F, E, fun v F1 H1 e1 r1 => ?_⟩
  have E1 := E.grow e1
  obtain ⟨l', vs', hσ', g1, g2, g3, r'⟩ := E1.own_at hs
  rw [hσ] at hσ'
  cases hσ'
  refine ⟨l, vs', v, rfl, rfl, g1, ?_, ?_⟩
  · rw [r'.length]; exact Nat.lt_of_lt_of_le hz (small_le (Nat.le_refl _))
  · exact m (.nx _) hr _ F1 _ e1.ff (E1.own_set hs hσ g1 g2 g3 (r'.append (.cons r1 .nil)))
/-! max(list), sum(list) -/
end
end DL

set_option Elab.async false
set_option linter.all false
set_option maxRecDepth 100000
namespace DL
open PySem L2
section
variable {Y : Cy} {T : Tx} {k : Nat} {N G : List Str} {c : List Slot} {tg iter elt : Expr} {ifs : List Expr} {pos p1 p2 : Pos} {rest : List Stmt} {P : Out → Prop} {ds items : List D} {x : Str} {tn fs G' : List Str} {ix : List Nat} {scope osc : Scope}
theorem swapC_at {env : PySem.Env} {sc : Scope} {v : Expr} {t : Option Expr} {n : Nat} {r : Sem Bool} (h : env.scope = sc) (hs : ∀ env : PySem.Env, swapsWith v t n { env with scope := sc } = r) : swapsWith v t n env = r := by
  subst h
  exact hs env
end
end DL

set_option Elab.async false
set_option linter.all false
set_option maxRecDepth 100000
namespace DL
open PySem L2
section
variable {Y : Cy} {T : Tx} {k : Nat} {N G : List Str} {c : List Slot} {tg iter elt : Expr} {ifs : List Expr} {pos p1 p2 : Pos} {rest : List Stmt} {P : Out → Prop} {ds items : List D} {x : Str} {tn fs G' : List Str} {ix : List Nat} {scope osc : Scope}
/-- x = [.. for .. if ..]: a list of our own -/
theorem ss_ownC (S : Sc Y T k N G) (i : Nat) (hsc : Y.X.env.scope = osc) (B : CmB N tn fs ix G' scope osc) (hi : ItD Y tg iter c items)
    (rs : List (Option D)) (hlen : rs.length = items.length) (hz : rs.length ≤ 100000)
    (turn : ∀ (Y' : Cy) (S' : Se Y' T k (tn ++ fs) G'), (∀ x ∈ tn, Y'.X.env.scope.names.lookup x = some .local) → ∀ (m : Nat) (d : D) (r : Option D), items[m]? = some d → rs[m]? = some r → ∀ ts : List Slot, ts.length = tn.length →
      ∃ ts' : List Slot, ts'.length = tn.length ∧ ts'.all (fun s => !isOwn s) = true ∧ TgD Y' tg d (ts ++ ix.map fun i => capS (slot c i)) (ts' ++ ix.map fun i => capS (slot c i)) ∧ (match r with
        | some e => TsD Y' ifs (ts' ++ ix.map fun i => capS (slot c i)) true ∧ EvD Y' elt (ts' ++ ix.map fun i => capS (slot c i)) e
        | none => TsD Y' ifs (ts' ++ ix.map fun i => capS (slot c i)) false))
    (hw : swapsWith (.ListComp elt [⟨tg, iter, ifs, 0⟩] scope p2) (some (.Name x p1)) pos.line Y.X.env = pure true)
    (hr : SsD Y rest (put c i (.own (rs.filterMap id))) P)
    (hs : ∀ x, foldedSetIterable iter Y.X.env x = pure x := by intro _; rfl) (hix : N[i]? = some x := by rfl) (hlt : i < c.length := by first | exact of_decide_eq_true rfl | decide | omega) :
    SsD Y (.Assign [.Name x p1] (.ListComp elt [⟨tg, iter, ifs, 0⟩] scope p2) pos :: rest) c P := by
  have hx := S.loc x (List.mem_of_getElem? hix)
  have hN := S.nd
  rw [← S.n] at hix hN
  refine ss_cons fun pins s σ H D I ⟨F, E, m⟩ => ?_
  rw [exec_Assign_Name_used _ _ _ _ hw]
  refine wpAny_bind (wpAny_standAt (wpAny_bind ?_))
  rw [arm_evalThenUse_ListComp]
  refine wpAny_bind (wpAny_mono (comp_coreG (pos := p2) S.toSe hsc B hi rs hlen hz turn hs I E (use := some (assign (.Name x p1) Y.X.env)) (Qv := fun _ s3 => SP Y.X pins D .next s3) (fun D' C s' mm F' H' vs hn fp hI ex hD hv hf r => ?_)) (fun _ s3 q => wpAny_pure (wpAny_pure q)) fun _ _ q => q)
  have I1 : Inv Y.X pins σ H' s' := hI s'.heap (Heap.SameBut.refl ..)
  obtain ⟨o, es, ep, ho, r'⟩ := id hn
  have I2 : Inv Y.X (pins ++ [(C, o)]) σ H' s' := I1.pins_of fun q hq => by
    rcases List.mem_append.mp hq with hq | hq
    · have := I1.pin q (List.mem_append_right _ hq)
      exact this
    · have : q = (C, o) := by simpa using hq
      subst this
      exact ⟨ho, fp.1, fp.2.1, fp.2.2.1, fun v z => by rw [r'.1] at z; cases z⟩
  show wpAny _ _ (do standAt p1; bindName Y.X.env x (.ref D')) _ _ s'
  refine wpAny_bind (wpAny_standAt (wpAny_bindName (store_ok I2 hN hix hx.1 (show RelV (.ref D') (.ref D') from rfl) (fun s2 I3 => ?_) (.inl (S.fn x)))))
  have hp := I3.pin (C, o) (by simp)
  refine ⟨mm, ⟨o, es, ep, hp.1, r'⟩, fun h' hs' => ?_⟩
  have I3' : Inv Y.X pins (σ.set i (some (.ref D'))) H' s2 := I3.pins_of fun q hq => I3.pin q (List.mem_append_right _ (List.mem_append_left _ hq))
  have I4 : Inv Y.X pins (σ.set i (some (.ref D'))) H' { s2 with heap := h' } := I3'.turned (it := C) (t' := s2.toks) (fun b o hb e => (hs'.2 b hb).trans e) fp.1 fp.2.1 fp.2.2.2.1 fp.2.2.2.2.1 fp.2.2.2.2.2
  have eH : upd (fun b => if b = D' then none else H' b) D' (.lst vs) = H' := by
    funext b
    by_cases hb : b = D'
    · subst hb; rw [upd_same, hv]
    · rw [upd_ne hb, if_neg hb]
  have ex' : Ext F H F' (fun b => if b = D' then none else H' b) := ⟨ex.ff, fun b u z => by
      have hb : b ≠ D' := fun w => by rw [w, hf] at z; cases z
      show (if b = D' then none else H' b) = some u
      rw [if_neg hb]; exact ex.fh _ _ z, fun b u z => by
      have hb : b ≠ D' := fun w => by rw [w, hD] at z; cases z
      show (if b = D' then none else H' b) = some u
      rw [if_neg hb]; exact ex.hh _ _ z, ex.fr⟩
  exact ⟨_, H', I4, m (.nx _) hr _ F' H' ex'.ff (by have q := (E.grow ex').own_new hlt (if_pos rfl) r; rw [eH] at q; exact q)⟩
end
end DL

set_option Elab.async false
set_option linter.all false
set_option maxRecDepth 100000
namespace DL
open PySem L2
/-! ### sorted(list of whole numbers) -/
section
variable {Y : Cy} {T : Tx} {k : Nat} {N G : List Str} {c : List Slot} {e : Expr} {pos : Pos}
end
end DL

set_option Elab.async false
set_option linter.all false
set_option maxRecDepth 100000
namespace DMX
open PySem PySem.Spec PyProof.Rows L2
section
open PySem.SeqAt
open PySem.AutoSeq1 (wpAny_loadPart')
open PySem.MeetsSeq PySem.MeetsSeq2 PySem.MeetsSeq3
theorem rcGt_int (A : Around) (s : Shared) (a : Int) (t : Tok) (c : Int) (u : Tok) (prog : Program) (w : World) (E : Value → Shared → Prop) (Q : Value → Shared → Prop) (h : Q (.bool (decide (c < a))) s) :
    wpAny (model prog w) A (richCompare .Gt (.int a t) (.int c u)) Q E s :=
  (PyProof.Rows.gt_int h : wpAny (model prog w) A (compareOp .Gt (.int a t) (.int c u)) Q E s)
theorem tuple_gt_first (l b : Addr) (i j : Int) (t u : Tok) (x y : Value) (n n2 : Nat) (dd dd2 : Option Addr) (sl sl2 : Array (Option Value)) :
    Meets (Builtin.«tuple.__gt__» ⟨[.ref l, .ref b], []⟩)
      (fun A R s => s.heap.get? l = some { cls := .type "tuple", dict := dd, data := .seq #[.int i t, x] n, slots := sl } ∧ s.heap.get? b = some { cls := .type "tuple", dict := dd2, data := .seq #[.int j u, y] n2, slots := sl2 } ∧
        (i = j → EqAt A.in1 s x y true) ∧ R (.ok (.ret (.bool (decide (j < i))))) s) :=
  .of_wp fun prog w A R s h => by
    obtain ⟨hp, g, d, tk, os⟩ := s; obtain ⟨hl, hb, hq, h⟩ := h
    have f2 := AutoSeq1.sub_tuple_tuple
    wp_walk using wpAny_loadPart' hl, wpAny_loadPart' hb, wpAny_forIn_list _ (fun rest r s' => r.1 = none ∧ s' = ⟨hp, g, d, tk, os⟩ ∧ (rest = [(Value.int i t, Value.int j u), (x, y)] ∨ (i = j ∧ (rest = [(x, y)] ∨ rest = [])))) _
    case turn =>
      rintro ⟨v, v'⟩ rest r s' ⟨hr, rfl, hc⟩
      rcases hc with hc | ⟨hij, hc | hc⟩
      · injection hc with h1 h2
        injection h1 with h3 h4
        subst h3 h4
        obtain ⟨e, he, hiff⟩ := HT.eqAt_int A.in1 ⟨hp, g, d, tk, os⟩ i t j u
        refine wpAny_bind (he prog w _ _ ?_)
        cases e with
        | true =>
          wp_walk
          exact ⟨rfl, rfl, .inr ⟨hiff.mp rfl, .inl h2⟩⟩
        | false =>
          have hri := rcGt_int A.in1 ⟨hp, g, d, tk, os⟩ i t j u prog w
          wp_walk using hri
          exact ⟨_, rfl, by simpa using h⟩
      · injection hc with h1 h2
        injection h1 with h3 h4
        subst h3 h4
        refine wpAny_bind (hq hij prog w _ _ ?_)
        wp_walk
        exact ⟨rfl, rfl, .inr ⟨hij, .inr h2⟩⟩
      · cases hc
    case fin =>
      rintro ⟨r1, r2⟩ s' ⟨hr, rfl, hc⟩
      simp only at hr
      subst hr
      have hij : i = j := by
        rcases hc with hc | ⟨hij, _⟩
        · cases hc
        · exact hij
      have e : decide (j < i) = false := decide_eq_false (by omega)
      rw [e] at h
      wp_walk
      exact ⟨_, rfl, by simpa [Builtin.Tuple.tupleCompareSizes] using h⟩
    case h =>
      exact ⟨rfl, rfl, .inl rfl⟩
theorem gt_first {prog : Program} {w : World} {A : Around} {E : Value → Shared → Prop} {s : Shared} {l b : Addr} {i j : Int} {t u : Tok} {x y : Value} {Q : Value → Shared → Prop} (hl : IsTup s.heap l #[.int i t, x]) (hb : IsTup s.heap b #[.int j u, y])
    (hq : i = j → EqAt A.in1 s x y true) (hu : A.units < cLine) (h : Q (.bool (decide (j < i))) s) : wpAny (model prog w) A (richCompare .Gt (.ref l) (.ref b)) Q E s := by
  obtain ⟨⟨cls, dd, data, sl⟩, ho, hc, n, hd⟩ := id hl
  obtain ⟨⟨cls2, dd2, data2, sl2⟩, ho2, hc2, n2, hd2⟩ := id hb
  simp only at hc hd hc2 hd2
  subst hc hd hc2 hd2
  exact richCompare_meets_room (op := .Gt) ⟨_, ho, rfl⟩ ⟨_, ho2, rfl⟩ PySem.F.slot_tuple_gt PySem.F.entry_tuple_gt (PySem.F.args_tuple_gt_2 _ _) (tuple_gt_first l b i j t u x y n n2 dd dd2 sl sl2)
    ⟨ho, ho2, hq, show Value.bool (decide (j < i)) ≠ Value.notImplemented ∧ Q (.bool (decide (j < i))) s from ⟨(fun x => nomatch x), h⟩⟩ hu
end
end DMX
namespace DL
open PySem L2
/-! ### max of a list of tuples (whole number, thing): two of them have unlike first numbers, or are alike -/
/-- what lay there lies there -/
def Up (h₀ h : Heap) : Prop := ∀ b o, h₀.get? b = some o → h.get? b = some o
theorem Up.step {h₀ h h' : Heap} {wr : List Addr} (k : Up h₀ h) (fw : ∀ b ∈ wr, h₀.get? b = none) (m : ∀ b o, b ∉ wr → h.get? b = some o → h'.get? b = some o) : Up h₀ h' := fun b o e => m b o (fun z => by rw [fw b z] at e; cases e) (k b o e)
theorem Up.upd {h₀ h : Heap} {S : Addr} {f : Obj → Obj} (k : Up h₀ h) (fS : h₀.get? S = none) : Up h₀ (h.update S f) := fun b o e => by
  have ne : S ≠ b := fun z => by rw [z, e] at fS; cases fS
  exact (Heap.get?_update_other _ _ ne).trans (k b o e)
/-- a comparison that reads what lay there -/
def CmpUp (prog : Program) (w : World) (A : Around) (P : Nat → Value → Prop) (bt : Nat → Nat → Bool) (h₀ : Heap) : Prop :=
  ∀ (i j : Nat) (x y : Value) (z : Shared) (Q : Value → Shared → Prop) (E : Value → Shared → Prop), Up h₀ z.heap → P i x → P j y → Q (.bool (bt i j)) z → wpAny (model prog w) A (richCompare .Gt x y) Q E z
section
variable {prog : Program} {w : World} {A : Around} {R : Result → Shared → Prop} {it S : Addr} {fp wr : List Addr} {n : Nat} {P : Nat → Value → Prop} {St : Nat → Heap → Prop} {bt : Nat → Nat → Bool} {h₀ : Heap}
theorem mx_name : (toString "max" ++ toString ".loop" : String) = "max.loop" := by decide
theorem mx_loop (V : Walks prog w A.in1 it fp wr n P St) (cu : CmpUp prog w A.in1 P bt h₀) (nS : S ∉ fp) (fw : ∀ b ∈ wr, h₀.get? b = none) (fS : h₀.get? S = none) :
    ∀ (f j : Nat) (z : Shared) (best : Value) (ep : Nat), n = j + 1 + f → St (j + 1) z.heap → P (argBest bt j) best → Up h₀ z.heap →
    z.heap.get? S = some { cls := .type "list", dict := none, data := .seq #[best, best] ep, slots := #[] } →
    (∀ v h' tk, P (argBest bt (n - 1)) v → Up h₀ h' → R (.ok (.ret v)) { z with heap := h', toks := tk }) →
    codeAny (model prog w) A (.builtin "max.loop" ⟨[.ref it, .none, .ref S], []⟩) R z := by
  have sw : S ∉ wr := fun q => nS (V.sub _ q)
  intro f
  induction f with
  | zero =>
    intro j z best ep ej st pb up oS goal
    have ej : j + 1 = n := by omega
    refine codeAny_builtin F.entry_max_loop ?_
    rw [Around.under_plainId F.plain_max_loop _]
    show wpAny _ A.in1 (seqItems? (.ref S) >>= _) _ _ z
    refine wpAny_bind (wpAny_seqItems oS rfl ?_)
    show wpAny _ A.in1 (tryCatch (pyNext (.ref it)) _ >>= _) _ _ z
    refine wpAny_bind (wpAny_tryCatch (V.done z _ _ (ej ▸ st) fun h1 tk1 keep => ?_))
    have oS1 := keep S _ sw oS
    show wpAny _ A.in1 (updateSeq S (fun _ => #[]) >>= _) _ _ _
    refine wpAny_bind (wpAny_updateSeq oS1 rfl (wpAny_bind (wpAny_letGo (wpAny_pure ?_))))
    exact goal best _ tk1 (by rw [← ej]; exact pb) ((up.step fw keep).upd fS)
  | succ f ih =>
    intro j z best ep ej st pb up oS goal
    have lt : j + 1 < n := by omega
    refine codeAny_builtin F.entry_max_loop ?_
    rw [Around.under_plainId F.plain_max_loop _]
    show wpAny _ A.in1 (seqItems? (.ref S) >>= _) _ _ z
    refine wpAny_bind (wpAny_seqItems oS rfl ?_)
    show wpAny _ A.in1 (tryCatch (pyNext (.ref it)) _ >>= _) _ _ z
    refine wpAny_bind (wpAny_tryCatch (V.item (j + 1) z _ _ lt st fun x h1 tk1 px st1 keep => ?_))
    have oS1 := keep S _ sw oS
    have up1 := up.step fw keep
    show wpAny _ A.in1 (tryCatch (holding [x, x] (richCompare .Gt x best >>= _)) _ >>= _) _ _ _
    refine wpAny_bind (wpAny_tryCatch (wpAny_holding (wpAny_bind (cu (j + 1) (argBest bt j) x best _ _ _ up1 px pb ?_))))
    refine wpAny_bind (wpAny_holding (wpAny_truthy_bool (wpAny_bind (wpAny_letGo (wpAny_pure ?_)))))
    cases hb : bt (j + 1) (argBest bt j) with
    | true =>
      simp only [if_true]
      refine wpAny_bind (wpAny_updateSeq oS1 rfl (wpAny_bind (wpAny_letGo ?_)))
      rw [mx_name]
      refine wpAny_pure ⟨plainId_quiet F.plain_max_loop _, ih (j + 1) _ x _ (by omega) (V.frame _ _ _ st1 fun b hbf o e => ?_) (by simp only [argBest, hb, if_true]; exact px) (up1.upd fS) (Heap.get?_update_self _ oS1 rfl) fun v h2 tk2 pv up2 => goal v h2 tk2 pv up2⟩
      have ne : S ≠ b := fun q => nS (by rw [q]; exact hbf)
      exact (Heap.get?_update_other _ _ ne).trans e
    | false =>
      simp only [Bool.false_eq_true, if_false]
      refine wpAny_bind (wpAny_letGo ?_)
      rw [mx_name]
      exact wpAny_pure ⟨plainId_quiet F.plain_max_loop _, ih (j + 1) _ best ep (by omega) st1 (by simp only [argBest, hb, Bool.false_eq_true, if_false]; exact pb) up1 oS1 fun v h2 tk2 pv up2 => goal v h2 tk2 pv up2⟩
theorem mx_first (V : Walks prog w A.in1 it fp wr n P St) (cu : CmpUp prog w A.in1 P bt h₀) (nS : S ∉ fp) (fw : ∀ b ∈ wr, h₀.get? b = none) (fS : h₀.get? S = none) (n0 : 0 < n) {z : Shared} {ep : Nat} (st : St 0 z.heap) (up : Up h₀ z.heap)
    (oS : z.heap.get? S = some { cls := .type "list", dict := none, data := .seq #[] ep, slots := #[] })
    (goal : ∀ v h' tk, P (argBest bt (n - 1)) v → Up h₀ h' → R (.ok (.ret v)) { z with heap := h', toks := tk }) :
    codeAny (model prog w) A (.builtin "max.loop" ⟨[.ref it, .none, .ref S], []⟩) R z := by
  have sw : S ∉ wr := fun q => nS (V.sub _ q)
  refine codeAny_builtin F.entry_max_loop ?_
  rw [Around.under_plainId F.plain_max_loop _]
  show wpAny _ A.in1 (seqItems? (.ref S) >>= _) _ _ z
  refine wpAny_bind (wpAny_seqItems oS rfl ?_)
  show wpAny _ A.in1 (tryCatch (pyNext (.ref it)) _ >>= _) _ _ z
  refine wpAny_bind (wpAny_tryCatch (V.item 0 z _ _ n0 st fun x h1 tk1 px st1 keep => ?_))
  have oS1 := keep S _ sw oS
  show wpAny _ A.in1 (updateSeq S (fun _ => #[x, x]) >>= _) _ _ _
  refine wpAny_bind (wpAny_updateSeq oS1 rfl ?_)
  rw [mx_name]
  refine wpAny_pure ⟨plainId_quiet F.plain_max_loop _, mx_loop V cu nS fw fS (n - 1) 0 _ x _ (by omega) (V.frame _ _ _ st1 fun b hbf o e => ?_) px ((up.step fw keep).upd fS) (Heap.get?_update_self _ oS1 rfl) fun v h2 tk2 pv up2 => goal v h2 tk2 pv up2⟩
  have ne : S ≠ b := fun q => nS (by rw [q]; exact hbf)
  exact (Heap.get?_update_other _ _ ne).trans e
/-- max(list) -/
theorem mx_call {E : Value → Shared → Prop} {z : Shared} {l : Addr} {items : Array Value} {Q : Value → Shared → Prop} (hh : A.handled = none) (hl : z.heap.IsList l items) (n0 : 0 < items.size) (cu : CmpUp prog w A.in1 (fun i v => items[i]? = some v) bt z.heap)
    (goal : ∀ v h' tk, items[argBest bt (items.size - 1)]? = some v → Up z.heap h' → Q v { z with heap := h', toks := tk }) :
    wpAny (model prog w) A (call (.builtin "max") [.ref l]) Q E z := by
  have ll : l < z.heap.objs.size := by
    obtain ⟨o, e, _⟩ := id hl
    exact Heap.lt_size e
  refine call_function_tree F.kind_max F.plain_max F.entry_max (F.args_max1 _) ?_
  show wpAny _ A.in1 (Builtin.Builtins.bindParams "max" ["key", "default"] 0 ⟨[], []⟩ >>= _) _ _ z
  refine wpAny_bind (wpAny_of_eq (show Builtin.Builtins.bindParams "max" ["key", "default"] 0 ⟨[], []⟩ = pure [none, none] from rfl) (wpAny_bind (wpAny_pure (wpAny_bind ?_))))
  refine wpAny_pyIter_list hl (wpAny_bind (wpAny_newObj_type ?_))
  have z1 : (z.heap.push { cls := .type "list_iterator", data := .fields #[.ref l, .int 0 0] }).objs.size = z.heap.objs.size + 1 := Heap.size_push ..
  have V := Walks.list (prog := prog) (w := w) (A := A.in1) hh z.heap.objs.size l (Nat.ne_of_lt ll) items
  have nn : ∀ b, z.heap.objs.size ≤ b → z.heap.get? b = none := fun b hb => Heap.get?_none_of_le hb
  rw [mx_name]
  refine wpAny_pure ⟨plainId_quiet F.plain_max_loop _, mx_first (h₀ := z.heap) V cu ?_ ?_ (nn _ (by show _ ≤ (z.heap.push _).objs.size; rw [z1]; omega)) n0 ⟨?_, ?_⟩ ?_ (Heap.get?_push_size _ rfl) fun v h' tk pv up => goal v h' tk pv up⟩
  · intro q
    simp only [List.mem_cons, List.not_mem_nil, or_false] at q
    rcases q with q | q
    · exact absurd (z1.symm.trans q) (Nat.succ_ne_self _)
    · have e := z1.symm.trans q
      rw [← e] at ll
      exact absurd ll (Nat.not_lt_of_le (Nat.le_succ _))
  · intro b hb
    have hb : b = z.heap.objs.size := by simpa using hb
    rw [hb]
    exact nn _ (Nat.le_refl _)
  · exact ⟨_, Heap.get?_push_of_some _ (Heap.get?_push_size _ rfl), rfl, rfl⟩
  · exact (hl.push _).push _
  · exact fun b o e => Heap.get?_push_of_some _ (Heap.get?_push_of_some _ e)
end
abbrev pairD (s : Int × D) : D := .tup [.int s.1, s.2]
theorem reps_pair {K : PySem.W.Frag} {F : Hp} {l : List (Int × D)} {vs : List V} {i : Nat} {v : V} (r : Reps K F vs (l.map pairD)) (h : vs[i]? = some v) : ∃ s, l[i]? = some s ∧ Rep K F v (pairD s) := by
  obtain ⟨d, hd, rd⟩ := r.get' h
  rw [List.getElem?_map] at hd
  cases q : l[i]? with
  | none => rw [q] at hd; cases hd
  | some s => rw [q] at hd; cases hd; exact ⟨s, rfl, rd⟩
def bestP (l : List (Int × D)) : Nat → Nat → Bool := fun i j => decide ((l.getD i (0, .non)).1 > (l.getD j (0, .non)).1)
theorem best_in {l : List (Int × D)} (h : l ≠ []) : ∃ x, l[argBest (bestP l) (l.length - 1)]? = some x ∧ x ∈ l ∧ ∀ y ∈ l, y.1 ≤ x.1 := by
  have b := argBest_gt (fun i => (l.getD i (0, .non)).1) (l.length - 1)
  have hl : 0 < l.length := List.length_pos_iff.mpr h
  have lt : argBest (bestP l) (l.length - 1) < l.length := Nat.lt_of_le_of_lt b.1 (by omega)
  refine ⟨l[argBest (bestP l) (l.length - 1)], List.getElem?_eq_getElem lt, List.getElem_mem lt, fun y hy => ?_⟩
  obtain ⟨j, hj, rfl⟩ := List.getElem_of_mem hy
  have e := b.2 j (by omega)
  have e : (l.getD j (0, .non)).1 ≤ (l.getD (argBest (bestP l) (l.length - 1)) (0, .non)).1 := e
  rw [List.getD_eq_getElem?_getD, List.getD_eq_getElem?_getD, List.getElem?_eq_getElem hj, List.getElem?_eq_getElem lt] at e
  exact e
theorem call_maxP {X : Cx} (hh : X.A.handled = none) (hu : X.A.units + 70 < cLine) : CallR X (.builtin "max") (fun xs H Q => ∃ (F : Hp) (p : Addr) (vs : List V) (l : List (Int × D)), xs = [.ref p] ∧ Same F H ∧ SqL X.K F p vs ∧ Reps X.K F vs (l.map pairD) ∧ l ≠ [] ∧ (∀ s ∈ l, SeqAt.shaped (toPy s.2) = true) ∧ (∀ s ∈ l, ∀ t ∈ l, s.1 = t.1 → eqD s.2 t.2 = true) ∧
    ∀ v s, l[argBest (bestP l) (l.length - 1)]? = some s → Rep X.K F v (pairD s) → Q v H) := by
  intro pins s σ H xs us Q I r h
  obtain ⟨F, p, vs, l, rfl, f, hp, rs, hne, hsh, heq, q⟩ := h
  obtain ⟨u, rfl, ru⟩ := vals1 r
  cases (show u = Value.ref p from ru)
  obtain ⟨its, rv, pl, hz⟩ := I.list (f.seq hp)
  have n1 : vs.length = l.length := by rw [rs.length, List.length_map]
  have n2 := rv.length
  have sz : its.toArray.size = l.length := by rw [List.size_toArray]; omega
  have at_ : ∀ (i : Nat) (u : Value), its.toArray[i]? = some u → ∃ (d : Int × D) (a : Addr) (t : Tok) (y : Value) (v : V), l[i]? = some d ∧ u = .ref a ∧ PyProof.Rows.IsTup s.heap a #[.int d.1 t, y] ∧ (∃ as, Reads s.heap y (toPy d.2) as) ∧ RelV v u ∧ Rep X.K F v (pairD d) := fun i u hu => by
    have hu : its[i]? = some u := by simpa using hu
    have hi : i < vs.length := by
      have := (List.getElem?_eq_some_iff.mp hu).1
      omega
    obtain ⟨u', hu', r'⟩ := rv.get (i := i) (x := vs[i]) (List.getElem?_eq_getElem hi)
    rw [hu] at hu'
    cases hu'
    obtain ⟨d, hd, rd⟩ := reps_pair rs (List.getElem?_eq_getElem hi)
    obtain ⟨a, ws, ev, ht, rw'⟩ := inv_tup rd
    obtain ⟨v1, v2, rfl, r1, r2⟩ := inv2 rw'
    obtain ⟨its', rv', it', _⟩ := I.tuple (sqT_same f ht)
    cases inv_int r1
    have rd' := rd
    rw [ev] at r' rd'
    cases (show u = Value.ref a from r')
    cases rv' with
    | cons c1 c2 =>
      obtain ⟨t, rfl⟩ := c1
      cases c2 with
      | cons c3 c4 =>
        cases c4
        obtain ⟨as, ra⟩ := reads_of I f r2 c3
        exact ⟨d, a, t, _, _, hd, rfl, it', ⟨as, ra⟩, r', rd'⟩
  refine mx_call (bt := bestP l) hh pl.isList (by rw [sz]; exact List.length_pos_iff.mpr hne) (fun i j x y z Q' E' up hx hy hq => ?_) fun v h' tk hv up => ?_
  · obtain ⟨d, a, t, y1, _, hd, rfl, i1, ⟨as, ra⟩, _, _⟩ := at_ i x hx
    obtain ⟨e, b, t2, y2, _, he, rfl, i2, ⟨bs, rb⟩, _, _⟩ := at_ j y hy
    have hb : bestP l i j = decide (e.1 < d.1) := by
      unfold bestP
      rw [List.getD_eq_getElem?_getD, List.getD_eq_getElem?_getD, hd, he]
      rfl
    rw [hb] at hq
    have tu : ∀ {a : Addr} {its : Array Value}, PyProof.Rows.IsTup s.heap a its → PyProof.Rows.IsTup z.heap a its := fun {a its} h => by
      obtain ⟨o, e1, e2, e3⟩ := h
      exact ⟨o, up _ _ e1, e2, e3⟩
    have u1 : X.A.in1.units ≤ X.A.units + 1 := Nat.le_refl _
    have u2 : X.A.in1.in1.units ≤ X.A.units + 2 := Nat.le_refl _
    refine DMX.gt_first (tu i1) (tu i2) (fun eq => ?_) (by omega) hq
    have sd := hsh d (List.mem_of_getElem? hd)
    have se := hsh e (List.mem_of_getElem? he)
    have ev := heq d (List.mem_of_getElem? hd) e (List.mem_of_getElem? he) eq
    have k := SeqAt.eqAt_reads (toPy d.2) (toPy e.2) X.A.in1.in1 z y1 y2 as bs (PyProof.Rows.Reads.keeps up ra) (PyProof.Rows.Reads.keeps up rb) (SeqAt.canLay_of_shaped sd) (SeqAt.canLay_of_shaped se)
    have ev : PyData.eqv (toPy d.2) (toPy e.2) = true := ev
    rw [ev] at k
    refine k ?_
    have := SeqAt.depth_of_shaped sd
    have : min (toPy d.2).depth (toPy e.2).depth ≤ (toPy d.2).depth := Nat.min_le_left _ _
    omega
  · obtain ⟨d, a, t, y1, w, hd, rfl, _, _, rw', rd⟩ := at_ _ v hv
    rw [sz] at hd
    exact ⟨w, H, I.kept (t' := tk) up, rw', q w d hd rd⟩
section
variable {Y : Cy} {T : Tx} {k : Nat} {N G : List Str} {c : List Slot} {e : Expr} {pos : Pos}
theorem ev_maxP (S : Se Y T k N G) (gi : Nat) {l : List (Int × D)} {x : Int × D} {p : Pos} (ha : ArD Y [e] c [.lst (l.map pairD)]) (hne : l ≠ []) (hsh : ∀ s ∈ l, SeqAt.shaped (toPy s.2) = true) (heq : ∀ s ∈ l, ∀ t ∈ l, s.1 = t.1 → eqD s.2 t.2 = true) (hx : l[argBest (bestP l) (l.length - 1)]? = some x)
    (hm : T.mg "max" = none) (hg : G[gi]? = some ("max" : Str) := by rfl) (he : starEach [e] Y.X.env = (false, eval e Y.X.env) :: starEach [] Y.X.env := by rfl) : EvD Y (.Call (.Name "max" p) [e] [] pos) c (pairD x) :=
  ev_callB S gi (call_maxP S.room.hd (by have := S.room.un; omega)) hg hm bt_max ha (fun vs F H Q f r q => by
    obtain ⟨v, rfl, rv⟩ := inv1 r
    obtain ⟨p, ws, rfl, hp, rs⟩ := inv_lst rv
    exact ⟨F, p, ws, l, rfl, f, hp, rs, hne, hsh, heq, fun v s hs rd => by
      rw [hx] at hs
      cases hs
      exact q v F H (Ext.refl f) rd⟩) he rfl
/-- len of our own list -/
theorem ev_lenO (S : Se Y T k N G) (gi i : Nat) {y : Str} {p q1 : Pos} {ds : List D} (hs : slot c i = .own ds) (hm : T.mg "len" = none) (hg : G[gi]? = some ("len" : Str) := by rfl) (hi : N[i]? = some y := by rfl)
    (he : starEach [.Name y q1] Y.X.env = (false, eval (.Name y q1) Y.X.env) :: starEach [] Y.X.env := by rfl) (hpl : (backTo pos (starEach [] Y.X.env)).any (·.1) = false := by rfl) : EvD Y (.Call (.Name "len" p) [.Name y q1] [] pos) c (.int (ds.length : Int)) := by
  have hx := S.loc y (List.mem_of_getElem? hi)
  have gl := S.gl "len" (List.mem_of_getElem? hg)
  rw [← S.n] at hi
  refine PE.imp (pe_callB call_len gl.1 (by rw [S.eM]; exact hm) bt_len (pa_cons (pe_var (pos := q1) hi (hx.1.elim .inl fun h => .inr (.inl h)) hx.2.1 hx.2.2) pa_nil he) gl.2.2 gl.2.1 he hpl) fun σ H Q ⟨F, E, q⟩ => ?_
  obtain ⟨l, vs, hσ, h1, h2, h3, r⟩ := E.own_at hs
  exact ⟨.ref l, hσ, .ref l, vs.length, rfl, .inl ⟨vs, .inl (.inl h1), rfl⟩, by rw [r.length]; exact q _ F H (Ext.refl E.fh) (.int _)⟩
end
end DL

set_option Elab.async false
set_option linter.all false
set_option maxRecDepth 100000
namespace DL
open PySem L2
section
variable {Y : Cy} {T : Tx} {N G : List Str} {c : List Slot} {pos : Pos}
/-! constants of the module -/
def CstS (T : Tx) (x : Str) (z : Str) : Prop := ∃ t, T.mg x = some (.str z t)
def CstI (T : Tx) (x : Str) (i : Int) : Prop := ∃ t, T.mg x = some (.int i t)
theorem ev_cstS (S : Sn Y T N G) (gi : Nat) {x z : Str} (h : CstS T x z) (hg : G[gi]? = some x := by rfl) : EvD Y (.Name x pos) c (.str z) := by
  obtain ⟨t, hm⟩ := h
  have gl := S.gl x (List.mem_of_getElem? hg)
  exact PE.imp (pe_glob (v := .str z) gl.1 (by rw [S.eM]; exact hm) ⟨t, rfl⟩ gl.2.1) fun σ H Q ⟨F, E, q⟩ => q _ F H (Ext.refl E.fh) (.str z)
end
end DL

set_option maxHeartbeats 4000000
namespace R
open PySem L2 DL
theorem gcd_step (x y : Int) : Int.gcd y (x.fmod y) = Int.gcd x y := by
  rw [Int.fmod_def, Int.gcd_sub_mul_left_right, Int.gcd_comm]
theorem fmod_small (x : Int) {y : Int} (h : y ≠ 0) : (x.fmod y).natAbs < y.natAbs := by
  rcases Int.lt_or_gt_of_ne h with h | h
  · have h1 := Int.fmod_def x y
    have e := Int.neg_fmod_neg x y
    have h2 := Int.fmod_nonneg_of_pos (-x) (show 0 < -y by omega)
    have h3 := Int.fmod_lt_of_pos (-x) (show 0 < -y by omega)
    omega
  · have h2 := Int.fmod_nonneg_of_pos x h
    have h3 := Int.fmod_lt_of_pos x h
    omega
def R_shared (ds : List D) (d : D) : Prop := ∃ a b : Int, ds = [.int a, .int b] ∧ d = .int (Int.gcd a b)
def Pr (p : Int) : Prop := p = 2 ∨ p = 3 ∨ p = 5 ∨ p = 7
theorem inv_ex {p n : Int} (hp : Pr p) (hn : ¬ n % p = 0) : ∃ b, 1 ≤ b ∧ b ≤ p - 1 ∧ n * b % p = 1 := by
  rcases hp with rfl | rfl | rfl | rfl
  · exact ⟨1, by omega, by omega, by omega⟩
  · rcases (show n % 3 = 1 ∨ n % 3 = 2 by omega) with h | h
    · exact ⟨1, by omega, by omega, by omega⟩
    · exact ⟨2, by omega, by omega, by omega⟩
  · rcases (show n % 5 = 1 ∨ n % 5 = 2 ∨ n % 5 = 3 ∨ n % 5 = 4 by omega) with h | h | h | h
    · exact ⟨1, by omega, by omega, by omega⟩
    · exact ⟨3, by omega, by omega, by omega⟩
    · exact ⟨2, by omega, by omega, by omega⟩
    · exact ⟨4, by omega, by omega, by omega⟩
  · rcases (show n % 7 = 1 ∨ n % 7 = 2 ∨ n % 7 = 3 ∨ n % 7 = 4 ∨ n % 7 = 5 ∨ n % 7 = 6 by omega) with h | h | h | h | h | h
    · exact ⟨1, by omega, by omega, by omega⟩
    · exact ⟨4, by omega, by omega, by omega⟩
    · exact ⟨5, by omega, by omega, by omega⟩
    · exact ⟨2, by omega, by omega, by omega⟩
    · exact ⟨3, by omega, by omega, by omega⟩
    · exact ⟨6, by omega, by omega, by omega⟩
theorem inv_found {p n a : Int} (hp : Pr p) (hn : ¬ n % p = 0) (h0 : 1 ≤ a) (h1 : a ≤ p - 1) (h : ∀ b, 1 ≤ b → b < a → n * b % p ≠ 1) (he : ¬ a < p - 1 ∨ n * a % p = 1) : n * a % p = 1 := by
  obtain ⟨b, b0, b1, hb⟩ := inv_ex hp hn
  rcases he with he | he
  · have e : a = b := by
      rcases Int.lt_trichotomy a b with l | l | l
      · omega
      · exact l
      · exact absurd hb (h b b0 l)
    rw [e]; exact hb
  · exact he
theorem pow_dvd (p : Int) {m n : Nat} (h : m ≤ n) : p ^ m ∣ p ^ n := ⟨p ^ (n - m), by rw [← Int.pow_add]; congr 1; omega⟩
theorem newton {p n a : Int} {s k : Nat} (h : p ^ (min s k) ∣ n * a - 1) : p ^ (min (2 * s) k) ∣ n * (a * (2 - n * a) % p ^ k) - 1 := by
  have e : a * (2 - n * a) % p ^ k = a * (2 - n * a) - p ^ k * (a * (2 - n * a) / p ^ k) := Int.emod_def _ _
  have e2 : n * (a * (2 - n * a) % p ^ k) - 1 = -((n * a - 1) * (n * a - 1)) - p ^ k * (n * (a * (2 - n * a) / p ^ k)) := by
    rw [e]; grind
  rw [e2]
  have d1 : p ^ (min (2 * s) k) ∣ (n * a - 1) * (n * a - 1) := by
    have q : p ^ (min s k) * p ^ (min s k) ∣ (n * a - 1) * (n * a - 1) := Int.mul_dvd_mul h h
    rw [← Int.pow_add] at q
    exact Int.dvd_trans (pow_dvd p (by omega)) q
  have d2 : p ^ (min (2 * s) k) ∣ p ^ k := pow_dvd p (by omega)
  exact Int.dvd_sub (Int.dvd_neg.mpr d1) (Int.dvd_trans d2 (Int.dvd_mul_right _ _))
theorem Pr.two_le {p : Int} (h : Pr p) : 2 ≤ p ∧ p ≤ 7 := by rcases h with rfl | rfl | rfl | rfl <;> omega
theorem pw_pos {p : Int} (hp : Pr p) (k : Nat) : 0 < p ^ k := Int.pow_pos (by have := hp.two_le; omega)
theorem inv_exists {p n : Int} (hp : Pr p) (hn : ¬ n % p = 0) : ∀ k : Nat, ∃ x, p ^ k ∣ n * x - 1
  | 0 => ⟨0, by simp⟩
  | 1 => by
    obtain ⟨b, _, _, hb⟩ := inv_ex hp hn
    refine ⟨b, ?_⟩
    rw [Int.pow_one]
    have := Int.emod_add_mul_ediv (n * b) p
    exact ⟨n * b / p, by omega⟩
  | k + 2 => by
    obtain ⟨x, hx⟩ := inv_exists hp hn (k + 1)
    have h : p ^ (min (k + 1) (k + 2)) ∣ n * x - 1 := by rw [show min (k + 1) (k + 2) = k + 1 by omega]; exact hx
    have := newton h
    rw [show min (2 * (k + 1)) (k + 2) = k + 2 by omega] at this
    exact ⟨_, this⟩
/-- the number over n by p ^ k -/
def IsOver (p n : Int) (k : Nat) (x : Int) : Prop := 0 ≤ x ∧ x < p ^ k ∧ p ^ k ∣ n * x - 1
theorem over_uniq {p n : Int} {k : Nat} {x y : Int} (hx : IsOver p n k x) (hy : IsOver p n k y) : x = y := by
  obtain ⟨x0, x1, xd⟩ := hx
  obtain ⟨y0, y1, yd⟩ := hy
  have d : p ^ k ∣ x - y := by
    have e : x - y = x * (n * y - 1) * (-1) + y * (n * x - 1) := by grind
    rw [e]
    exact Int.dvd_add (Int.dvd_mul_of_dvd_left (Int.dvd_mul_of_dvd_right yd)) (Int.dvd_mul_of_dvd_right xd)
  have : x - y = 0 := by
    rcases Int.lt_trichotomy (x - y) 0 with h | h | h
    · have := Int.le_of_dvd (show 0 < -(x - y) by omega) (Int.dvd_neg.mpr d); omega
    · exact h
    · have := Int.le_of_dvd h d; omega
  omega
theorem over_ex {p n : Int} (hp : Pr p) (hn : ¬ n % p = 0) (k : Nat) : ∃ x, IsOver p n k x := by
  obtain ⟨x, hx⟩ := inv_exists hp hn k
  have pp := pw_pos hp k
  refine ⟨x % p ^ k, Int.emod_nonneg _ (by omega), Int.emod_lt_of_pos _ pp, ?_⟩
  have e : n * (x % p ^ k) - 1 = (n * x - 1) - p ^ k * (n * (x / p ^ k)) := by rw [Int.emod_def]; grind
  rw [e]
  exact Int.dvd_sub hx (Int.dvd_mul_right _ _)
noncomputable def overBy (p n : Int) (k : Nat) : Int := Classical.epsilon (IsOver p n k)
theorem overBy_is {p n : Int} (hp : Pr p) (hn : ¬ n % p = 0) (k : Nat) : IsOver p n k (overBy p n k) := Classical.epsilon_spec (over_ex hp hn k)

theorem pw_le {p : Int} (hp : Pr p) : ∀ k : Nat, p ^ k < 2 ^ (3 * k + 1)
  | 0 => by rw [Int.pow_zero]; decide
  | k + 1 => by
    have h := pw_le hp k
    have q := pw_pos hp k
    have h7 := hp.two_le
    rw [Int.pow_succ, show 3 * (k + 1) + 1 = 3 * k + 1 + 3 by omega, Int.pow_add]
    have : p ^ k * p ≤ p ^ k * 7 := Int.mul_le_mul_of_nonneg_left h7.2 (by omega)
    have e : (2 : Int) ^ 3 = 8 := by decide
    rw [e]; omega
theorem sq_step {x y p : Int} {k k0 : Nat} (h : x * y ^ k = p ^ k0) : (if k % 2 = 1 then x * y else x) * (y * y) ^ (k / 2) = p ^ k0 := by
  rw [← h, Int.mul_pow, ← Int.pow_add]
  split
  · rw [Int.mul_assoc, ← Int.pow_succ']
    congr 2; omega
  · congr 2; omega
theorem le_self_pow {y : Int} (h : 1 ≤ y) : ∀ {k : Nat}, 1 ≤ k → y ≤ y ^ k
  | 1, _ => by rw [Int.pow_one]; exact Int.le_refl y
  | k + 2, _ => by
    have := le_self_pow h (show 1 ≤ k + 1 by omega)
    rw [Int.pow_succ]
    have q : y ^ (k + 1) * 1 ≤ y ^ (k + 1) * y := Int.mul_le_mul_of_nonneg_left h (by omega)
    omega
theorem le_mul_pos {x y : Int} (hx : 1 ≤ x) (hy : 1 ≤ y) : x ≤ x * y ∧ y ≤ x * y := by
  have h1 : x * 1 ≤ x * y := Int.mul_le_mul_of_nonneg_left hy (by omega)
  have h2 : 1 * y ≤ x * y := Int.mul_le_mul_of_nonneg_right hx (by omega)
  omega

theorem pw_bd {p : Int} (hp : Pr p) (k : Nat) : Bd (3 * k + 1) (p ^ k) := by
  have h := pw_le hp k
  have q := pw_pos hp k
  unfold Bd
  have e : ((2 ^ (3 * k + 1) : Nat) : Int) = (2 : Int) ^ (3 * k + 1) := by simp
  omega
theorem Bd.of_le {n : Nat} {x y : Int} (h0 : 0 ≤ x) (h1 : x ≤ y) (h : Bd n y) : Bd n x := by unfold Bd at *; omega
theorem sq_ok {x y p : Int} {k' k0 : Nat} (hp : Pr p) (hx : 1 ≤ x) (hy : 1 ≤ y) (hk : 1 ≤ k') (h0 : k0 ≤ 1000000) (h : x * y ^ k' = p ^ k0) : IntMulOk x y ∧ IntMulOk y y := by
  have b := pw_bd hp k0
  have y1 := le_self_pow hy hk
  have z := le_mul_pos hx (show 1 ≤ y ^ k' by omega)
  rw [h] at z
  have bx : Bd (3 * k0 + 1) x := Bd.of_le (by omega) z.1 b
  have by' : Bd (3 * k0 + 1) y := Bd.of_le (by omega) (by omega) b
  exact ⟨mulOk bx by' (by omega), mulOk by' by' (by omega)⟩
def R_raised (ds : List D) (d : D) : Prop := ∃ p k : Int, ds = [.int p, .int k] ∧ Pr p ∧ k ≤ 1000000 ∧ d = .int (p ^ k.toNat)
def R_obp (ds : List D) (d : D) : Prop := ∃ p n : Int, ds = [.int p, .int n] ∧ Pr p ∧ ¬ n % p = 0 ∧ Bd 1000000 n ∧ d = .int (overBy p n 1)
def R_over_by (ds : List D) (d : D) : Prop := ∃ p n k : Int, ds = [.int p, .int n, .int k] ∧ Pr p ∧ ¬ n % p = 0 ∧ 0 ≤ k ∧ k ≤ 1000000 ∧ Bd 1000000 n ∧ d = .int (overBy p n k.toNat)
def prime4 (n : Int) : Int := if n % 4 = 0 then 2 else if n % 4 = 1 then 3 else if n % 4 = 2 then 5 else 7
theorem prime4_pr (n : Int) : Pr (prime4 n) := by
  unfold prime4 Pr
  split
  · exact .inl rfl
  · split
    · exact .inr (.inl rfl)
    · split
      · exact .inr (.inr (.inl rfl))
      · exact .inr (.inr (.inr rfl))
def R_prime (ds : List D) (d : D) : Prop := ∃ n : Int, ds = [.int n] ∧ d = .int (prime4 n)
/-! fractions -/
theorem low_num (t : Int) {b : Int} (hb : b ≠ 0) : t.fdiv (if b < 0 then -(Int.gcd t b : Int) else (Int.gcd t b : Int)) = (Rat.divInt t b).num ∧ b.fdiv (if b < 0 then -(Int.gcd t b : Int) else (Int.gcd t b : Int)) = ((Rat.divInt t b).den : Int) := by
  have hg : 0 < Int.gcd t b := Int.gcd_pos_of_ne_zero_right t hb
  have dt := Int.gcd_dvd_left t b
  have db := Int.gcd_dvd_right t b
  rw [Rat.num_divInt, Rat.den_divInt, if_neg hb, Int.gcd_comm b t]
  obtain ⟨u, hu⟩ := dt
  obtain ⟨v, hv⟩ := db
  have g0 : (Int.gcd t b : Int) ≠ 0 := by omega
  generalize hgg : (Int.gcd t b : Int) = g at *
  have hgn : Int.gcd t b = g.toNat := by omega
  have gp : 0 < g := by omega
  rw [hgn]
  have fm : ∀ x : Int, (g * x).fdiv g = x := fun x => by rw [Int.mul_comm]; exact Int.mul_fdiv_cancel x g0
  have fm' : ∀ x : Int, (g * x).fdiv (-g) = -x := fun x => by rw [show g * x = (-x) * (-g) by grind]; exact Int.mul_fdiv_cancel (-x) (by omega)
  have em : ∀ x : Int, (g * x) / g = x := fun x => Int.mul_ediv_cancel_left x g0
  by_cases hb0 : b < 0
  · rw [if_pos hb0]
    have s : b.sign = -1 := Int.sign_eq_neg_one_of_neg hb0
    rw [s]
    constructor
    · rw [hu, fm', show -1 * (g * u) = g * (-u) by grind, em]
    · rw [hv, fm']
      have vn : v < 0 := by
        by_cases h : v < 0
        · exact h
        · have := Int.mul_nonneg (show 0 ≤ g by omega) (show 0 ≤ v by omega); omega
      have : (g * v).natAbs / g.toNat = v.natAbs := by
        rw [Int.natAbs_mul, show g.natAbs = g.toNat by omega]
        exact Nat.mul_div_cancel_left _ (by omega)
      rw [this]; omega
  · rw [if_neg hb0]
    have s : b.sign = 1 := Int.sign_eq_one_of_pos (by omega)
    rw [s]
    constructor
    · rw [hu, fm, Int.one_mul, em]
    · rw [hv, fm]
      have vn : 0 ≤ v := by
        by_cases h : v < 0
        · have := Int.mul_nonneg (show 0 ≤ g by omega) (show 0 ≤ -v by omega)
          rw [show g * -v = -(g * v) by grind] at this; 
          have : g * v = 0 := by omega
          omega
        · omega
      have : (g * v).natAbs / g.toNat = v.natAbs := by
        rw [Int.natAbs_mul, show g.natAbs = g.toNat by omega]
        exact Nat.mul_div_cancel_left _ (by omega)
      rw [this]; omega
/-! powers -/
def vp (p n : Int) : Nat := if h : 2 ≤ p ∧ n ≠ 0 ∧ n % p = 0 then vp p (n / p) + 1 else 0
termination_by n.natAbs
decreasing_by
  have e := Int.emod_add_mul_ediv n p
  rw [h.2.2, Int.zero_add] at e
  have h1 : n / p ≠ 0 := fun z => h.2.1 (by rw [← e, z, Int.mul_zero])
  have : (p * (n / p)).natAbs = n.natAbs := by rw [e]
  rw [Int.natAbs_mul] at this
  have h2 : 2 * (n / p).natAbs ≤ p.natAbs * (n / p).natAbs := Nat.mul_le_mul_right _ (by omega)
  omega
theorem vp_step {p n : Int} (hp : 2 ≤ p) (hn : n ≠ 0) (h : n % p = 0) : vp p n = vp p (n / p) + 1 := by rw [vp, dif_pos ⟨hp, hn, h⟩]
theorem vp_zero {p n : Int} (h : ¬ n % p = 0) : vp p n = 0 := by rw [vp, dif_neg (fun z => h z.2.2)]
theorem div_facts {p n : Int} (hp : 2 ≤ p) (hn : n ≠ 0) (h : n % p = 0) : n = p * (n / p) ∧ n / p ≠ 0 ∧ (n / p).natAbs < n.natAbs := by
  have e := Int.emod_add_mul_ediv n p
  rw [h, Int.zero_add] at e
  have h1 : n / p ≠ 0 := fun z => hn (by rw [← e, z, Int.mul_zero])
  have : (p * (n / p)).natAbs = n.natAbs := by rw [e]
  rw [Int.natAbs_mul] at this
  have h2 : 2 * (n / p).natAbs ≤ p.natAbs * (n / p).natAbs := Nat.mul_le_mul_right _ (by omega)
  exact ⟨e.symm, h1, by omega⟩
theorem vp_mulp {p n : Int} (hp : 2 ≤ p) (hn : n ≠ 0) : vp p (p * n) = vp p n + 1 := by
  rw [vp_step hp (Int.mul_ne_zero (by omega) hn) (Int.mul_emod_right p n), Int.mul_ediv_cancel_left n (by omega)]
theorem vp_pow {p : Int} (hp : 2 ≤ p) : ∀ k : Nat, vp p (p ^ k) = k
  | 0 => by
    rw [Int.pow_zero, vp_zero]
    rw [Int.emod_eq_of_lt (by omega) (by omega)]; decide
  | k + 1 => by
    rw [Int.pow_succ', vp_mulp hp (Int.ne_of_gt (Int.pow_pos (by omega))), vp_pow hp k]
theorem vp_one {p : Int} (hp : 2 ≤ p) : vp p 1 = 0 := by have := vp_pow hp 0; rw [Int.pow_zero] at this; exact this
/-- None or a number -/
def vq (p : Int) (r : Rat) : Option Int := if r.num = 0 then none else some ((vp p r.num : Int) - (vp p r.den : Int))

abbrev frD (r : Rat) : D := .tup [.int r.num, .int (r.den : Int)]
def optI : Option Int → D
  | none => .non
  | some i => .int i
theorem num_le (t : Int) {b : Int} (hb : b ≠ 0) : (Rat.divInt t b).num.natAbs ≤ t.natAbs ∧ (Rat.divInt t b).den ≤ b.natAbs := by
  have h := low_num t hb
  have hg : 0 < Int.gcd t b := Int.gcd_pos_of_ne_zero_right t hb
  rw [Rat.num_divInt, Rat.den_divInt, if_neg hb]
  refine ⟨?_, Nat.div_le_self _ _⟩
  rw [Int.gcd_comm] at hg
  refine Nat.le_trans (Int.natAbs_ediv_le_natAbs _ _) ?_
  rw [Int.natAbs_mul]
  have : b.sign.natAbs ≤ 1 := by
    rcases Int.lt_trichotomy b 0 with h | h | h
    · rw [Int.sign_eq_neg_one_of_neg h]; decide
    · exact absurd h hb
    · rw [Int.sign_eq_one_of_pos h]; decide
  calc b.sign.natAbs * t.natAbs ≤ 1 * t.natAbs := Nat.mul_le_mul_right _ this
    _ = t.natAbs := Nat.one_mul _
/-- a fraction of at most n bits above and below -/
def Fb (n : Nat) (r : Rat) : Prop := Bd n r.num ∧ Bd n (r.den : Int)
theorem Fb.mono {m n : Nat} {r : Rat} (h : Fb m r) (l : m ≤ n) : Fb n r := ⟨h.1.mono l, h.2.mono l⟩
theorem Fb.divInt {m : Nat} {t b : Int} (hb : b ≠ 0) (h1 : Bd m t) (h2 : Bd m b) : Fb m (Rat.divInt t b) := by
  have q := num_le t hb
  refine ⟨Nat.lt_of_le_of_lt q.1 h1, ?_⟩
  show ((Rat.divInt t b).den : Int).natAbs < 2 ^ m
  rw [Int.natAbs_natCast]
  exact Nat.lt_of_le_of_lt q.2 h2
theorem den_ne (r : Rat) : (r.den : Int) ≠ 0 := by have := r.den_nz; omega
theorem den_pos (r : Rat) : 0 < (r.den : Int) := by have := r.den_nz; omega
theorem rat_mul (a b : Rat) : Rat.divInt (a.num * b.num) ((a.den : Int) * (b.den : Int)) = a * b := by
  rw [Rat.mul_def', ← Rat.divInt_ofNat]; simp
theorem rat_add (a b : Rat) : Rat.divInt (a.num * (b.den : Int) + b.num * (a.den : Int)) ((a.den : Int) * (b.den : Int)) = a + b := by
  rw [Rat.add_def', ← Rat.divInt_ofNat]; simp
theorem rat_sub (a b : Rat) : Rat.divInt (a.num * (b.den : Int) - b.num * (a.den : Int)) ((a.den : Int) * (b.den : Int)) = a - b := by
  rw [Rat.sub_def', ← Rat.divInt_ofNat]; simp
theorem Fb.mul {m n : Nat} {a b : Rat} (h1 : Fb m a) (h2 : Fb n b) : Fb (m + n) (a * b) := by
  rw [← rat_mul]
  exact Fb.divInt (Int.mul_ne_zero (den_ne a) (den_ne b)) (h1.1.mul h2.1) (h1.2.mul h2.2)
theorem Fb.add {m n : Nat} {a b : Rat} (h1 : Fb m a) (h2 : Fb n b) : Fb (m + n + 1) (a + b) := by
  rw [← rat_add]
  refine Fb.divInt (Int.mul_ne_zero (den_ne a) (den_ne b)) ?_ ((h1.2.mul h2.2).mono (by omega))
  have q := (h1.1.mul h2.2).add (h2.1.mul h1.2)
  rw [show max (m + n) (n + m) + 1 = m + n + 1 by omega] at q
  exact q
theorem Fb.sub {m n : Nat} {a b : Rat} (h1 : Fb m a) (h2 : Fb n b) : Fb (m + n + 1) (a - b) := by
  rw [← rat_sub]
  refine Fb.divInt (Int.mul_ne_zero (den_ne a) (den_ne b)) ?_ ((h1.2.mul h2.2).mono (by omega))
  have q := (h1.1.mul h2.2).sub (h2.1.mul h1.2)
  rw [show max (m + n) (n + m) + 1 = m + n + 1 by omega] at q
  exact q
/-- p to a power of either sign -/
def ppw (p k : Int) : Rat := (p : Rat) ^ k
theorem ppw_nn {p k : Int} (h : 0 ≤ k) : (ppw p k).num = p ^ k.toNat ∧ (ppw p k).den = 1 := by
  unfold ppw
  have e : k = ((k.toNat : Nat) : Int) := by omega
  rw [e, Rat.zpow_natCast, Rat.num_pow, Rat.den_pow]
  constructor
  · rfl
  · show (1 : Nat) ^ _ = 1
    simp
theorem ppw_neg {p k : Int} (hp : 0 < p) (h : k < 0) : (ppw p k).num = 1 ∧ ((ppw p k).den : Int) = p ^ (-k).toNat := by
  have q := ppw_nn (p := p) (k := -k) (by omega)
  have e : ppw p k = (ppw p (-k))⁻¹ := by
    unfold ppw
    rw [Rat.zpow_neg, Rat.inv_inv]
  have pp : 0 < p ^ (-k).toNat := Int.pow_pos hp
  rw [e, Rat.num_inv, Rat.den_inv, q.1, q.2, Int.sign_eq_one_of_pos pp, if_neg (by omega)]
  constructor
  · rfl
  · omega
theorem vq_ppw {p k : Int} (hp : Pr p) : vq p (ppw p k) = some k := by
  have p2 := hp.two_le
  unfold vq
  by_cases h : 0 ≤ k
  · have q := ppw_nn (p := p) h
    have pp : 0 < p ^ k.toNat := Int.pow_pos (by omega)
    rw [q.1, q.2, if_neg (by omega), vp_pow p2.1, show ((1 : Nat) : Int) = 1 from rfl, vp_one p2.1]
    congr 1; omega
  · have q := ppw_neg (p := p) (k := k) (by omega) (by omega)
    rw [q.1, q.2, if_neg (by decide), vp_pow p2.1, vp_one p2.1]
    congr 1; omega
def R_power_of (ds : List D) (d : D) : Prop := ∃ p n : Int, ds = [.int p, .int n] ∧ Pr p ∧ d = (if n = 0 then .non else .int (vp p n : Int))
def R_power (ds : List D) (d : D) : Prop := ∃ p n : Int, ds = [.int p, .int n] ∧ Pr p ∧ n ≠ 0 ∧ d = .int (vp p n : Int)
def R_power_in (ds : List D) (d : D) : Prop := ∃ (p : Int) (a : Rat), ds = [.int p, frD a] ∧ Pr p ∧ d = optI (vq p a)
def R_ppw (ds : List D) (d : D) : Prop := ∃ p k : Int, ds = [.int p, .int k] ∧ Pr p ∧ -1000000 ≤ k ∧ k ≤ 1000000 ∧ d = frD (ppw p k)
def R_low (ds : List D) (d : D) : Prop := ∃ t b : Int, ds = [.int t, .int b] ∧ b ≠ 0 ∧ Bd 8900 b ∧ d = frD (Rat.divInt t b)
def R_isfr (ds : List D) (d : D) : Prop := ∃ r : Rat, ds = [frD r] ∧ d = .bl true
def R_qmul (ds : List D) (d : D) : Prop := ∃ a b : Rat, ds = [frD a, frD b] ∧ Fb 4400 a ∧ Fb 4400 b ∧ d = frD (a * b)
def R_qadd (ds : List D) (d : D) : Prop := ∃ a b : Rat, ds = [frD a, frD b] ∧ Fb 4400 a ∧ Fb 4400 b ∧ d = frD (a + b)
def R_qsub (ds : List D) (d : D) : Prop := ∃ a b : Rat, ds = [frD a, frD b] ∧ Fb 4400 a ∧ Fb 4400 b ∧ d = frD (a - b)
theorem low_bd {t b : Int} (hb : b ≠ 0) (h : Bd 8900 b) : (if b < 0 then -(Int.gcd t b : Int) else (Int.gcd t b : Int)) ≠ 0 ∧ Bd 9000 (if b < 0 then -(Int.gcd t b : Int) else (Int.gcd t b : Int)) := by
  have hg : 0 < Int.gcd t b := Int.gcd_pos_of_ne_zero_right t hb
  have hl := Int.gcd_le_natAbs_right t hb
  have h' := h.mono (show 8900 ≤ 9000 by decide)
  unfold Bd at *
  refine ⟨by split <;> omega, ?_⟩
  refine Nat.lt_of_le_of_lt ?_ h'
  split <;> omega
def nTop (n : Int) : Int := if decide (n % 4 = 1) = true then n / 4 % (2 * 10 ^ Int.toNat 20 + 1) - 10 ^ Int.toNat 20 else n / 4 % 41 - 20
def nPow (n : Int) : Int := if decide (n % 4 = 3) = true then n / 4 / 500 % 81 - 40 else n / 4 / 500 % 13 - 6
def nBot (n : Int) : Int := 1 + n / 4 / 41 % 12
def numb (p n : Int) : Rat := if nPow n < 0 then Rat.divInt (nTop n) (nBot n * p ^ (-nPow n).toNat) else Rat.divInt (nTop n * p ^ (nPow n).toNat) (nBot n)
theorem nTop_bd (n : Int) : Bd 68 (nTop n) := by
  unfold nTop
  have h1 := Int.emod_nonneg (n / 4) (show (41 : Int) ≠ 0 by decide)
  have h2 := Int.emod_lt_of_pos (n / 4) (show (0 : Int) < 41 by decide)
  have h3 := Int.emod_nonneg (n / 4) (show (2 * 10 ^ 20 + 1 : Int) ≠ 0 by decide)
  have h4 := Int.emod_lt_of_pos (n / 4) (show (0 : Int) < 2 * 10 ^ 20 + 1 by decide)
  split
  · exact Bd.of (2 * 10 ^ 20) (by show _ < n / 4 % (2 * 10 ^ 20 + 1) - 10 ^ 20; omega) (by show n / 4 % (2 * 10 ^ 20 + 1) - 10 ^ 20 < _; omega) (by decide +kernel)
  · exact Bd.of 50 (by omega) (by omega) (by decide +kernel)
theorem nPow_bd (n : Int) : -40 ≤ nPow n ∧ nPow n ≤ 40 := by
  unfold nPow
  split <;> omega
theorem nBot_bd (n : Int) : 1 ≤ nBot n ∧ nBot n ≤ 12 := by unfold nBot; omega
theorem numb_bd {p : Int} (hp : Pr p) (n : Int) : Fb 200 (numb p n) := by
  have t := nTop_bd n
  have w := nPow_bd n
  have b := nBot_bd n
  have p2 := hp.two_le
  have b' : Bd 4 (nBot n) := Bd.of 13 (by omega) (by omega) (by decide)
  unfold numb
  split
  · have q := (pw_bd hp (-nPow n).toNat).mono (show 3 * (-nPow n).toNat + 1 ≤ 121 by omega)
    have pp := pw_pos hp (-nPow n).toNat
    exact Fb.divInt (Int.mul_ne_zero (by omega) (by omega)) (t.mono (by decide)) ((b'.mul q).mono (by decide))
  · have q := (pw_bd hp (nPow n).toNat).mono (show 3 * (nPow n).toNat + 1 ≤ 121 by omega)
    exact Fb.divInt (by omega) ((t.mul q).mono (by decide)) (b'.mono (by decide))
def R_number (ds : List D) (d : D) : Prop := ∃ p n : Int, ds = [.int p, .int n] ∧ Pr p ∧ d = frD (numb p n)
def R_fractionX (ds : List D) (r : Rs) : Prop := ∃ t b : Int, ds = [.int t, .int b] ∧ ((b ≠ 0 ∧ Bd 8900 b ∧ r = .ok (frD (Rat.divInt t b))) ∨ (b = 0 ∧ r = .ex "NoFraction"))
def R_over (ds : List D) (r : Rs) : Prop := ∃ a b : Rat, ds = [frD a, frD b] ∧ Fb 4400 a ∧ Fb 4400 b ∧ ((b.num ≠ 0 ∧ r = .ok (frD (Rat.divInt (a.num * (b.den : Int)) ((a.den : Int) * b.num)))) ∨ (b.num = 0 ∧ r = .ex "NoFraction"))
def R_less (ds : List D) (d : D) : Prop := ∃ a b : Rat, ds = [frD a, frD b] ∧ Fb 4400 a ∧ Fb 4400 b ∧ d = .bl (decide (a.num * (b.den : Int) < b.num * (a.den : Int)))
def R_refused4 (ds : List D) (d : D) : Prop := ∃ (a : Rat) (k : Int), ds = [frD a, .int k] ∧ Fb 4400 a ∧ d = .bl true
def R_is (ds : List D) (d : D) : Prop := ∃ (r : Rat) (t b : Int), ds = [frD r, .int t, .int b] ∧ Fb 100000 r ∧ Bd 100000 t ∧ Bd 100000 b ∧ r.num * b = t * (r.den : Int) ∧ d = .bl true
def R_right (ds : List D) (d : D) : Prop := ∃ a b : Rat, ds = [frD a, frD b] ∧ Fb 4400 a ∧ Fb 4400 b ∧ d = .bl true
theorem eqD_bl (a b : Bool) : eqD (.bl a) (.bl b) = (a == b) := by cases a <;> cases b <;> rfl
theorem pr_mul {p a b : Int} (hp : Pr p) (ha : ¬ a % p = 0) (hb : ¬ b % p = 0) : ¬ a * b % p = 0 := by
  intro h
  obtain ⟨c, _, _, hc⟩ := inv_ex hp hb
  have h1 := Int.dvd_of_emod_eq_zero h
  have h2 : p ∣ a * (b * c) := by rw [← Int.mul_assoc]; exact Int.dvd_mul_of_dvd_left h1
  have e : b * c = 1 + p * (b * c / p) := by have := Int.emod_add_mul_ediv (b * c) p; omega
  rw [e, Int.mul_add, Int.mul_one, Int.mul_left_comm] at h2
  have h3 : p ∣ a := (Int.dvd_add_left (Int.dvd_mul_right p _)).mp h2
  exact ha (Int.emod_eq_zero_of_dvd h3)
/-- a number's part without p -/
theorem vp_split {p : Int} (hp : Pr p) : ∀ (m : Nat) (n : Int), n.natAbs ≤ m → n ≠ 0 → ∃ u, n = p ^ (vp p n) * u ∧ ¬ u % p = 0
  | 0, n, hm, hn => by omega
  | m + 1, n, hm, hn => by
    have p2 := hp.two_le
    by_cases h : n % p = 0
    · have f := div_facts p2.1 hn h
      obtain ⟨u, hu, hup⟩ := vp_split hp m (n / p) (by omega) f.2.1
      refine ⟨u, ?_, hup⟩
      rw [vp_step p2.1 hn h, Int.pow_succ', Int.mul_assoc, ← hu]
      exact f.1
    · exact ⟨n, by rw [vp_zero h, Int.pow_zero, Int.one_mul], h⟩
theorem vp_ex {p : Int} (hp : Pr p) {n : Int} (hn : n ≠ 0) : ∃ u, n = p ^ (vp p n) * u ∧ ¬ u % p = 0 := vp_split hp _ n (Nat.le_refl _) hn
/-- p ^ n divides m * w, p does not divide w -/
theorem pw_gauss {p w : Int} (hp : Pr p) (hw : ¬ w % p = 0) : ∀ (n : Nat) (m : Int), p ^ n ∣ m * w → p ^ n ∣ m
  | 0, m, _ => by rw [Int.pow_zero]; exact Int.one_dvd m
  | n + 1, m, h => by
    have p2 := hp.two_le
    have hm : p ∣ m := by
      have h1 : p ∣ m * w := Int.dvd_trans (by rw [Int.pow_succ']; exact Int.dvd_mul_right _ _) h
      by_cases z : m % p = 0
      · exact Int.dvd_of_emod_eq_zero z
      · exact absurd (Int.emod_eq_zero_of_dvd h1) (pr_mul hp z hw)
    obtain ⟨q, rfl⟩ := hm
    rw [Int.pow_succ', Int.mul_assoc] at h
    have h2 : p ^ n ∣ q * w := Int.dvd_of_mul_dvd_mul_left (by omega) h
    rw [Int.pow_succ']
    exact Int.mul_dvd_mul_left p (pw_gauss hp hw n q h2)
theorem vp_of {p u : Int} (hp : Pr p) (hu : ¬ u % p = 0) (n : Nat) : vp p (p ^ n * u) = n := by
  have p2 := hp.two_le
  have u0 : u ≠ 0 := fun z => hu (by rw [z]; simp)
  induction n with
  | zero => rw [Int.pow_zero, Int.one_mul, vp_zero hu]
  | succ n ih =>
    have e : p ^ (n + 1) * u = p * (p ^ n * u) := by rw [Int.pow_succ', Int.mul_assoc]
    have pp := pw_pos hp n
    rw [e, vp_step p2.1 (Int.mul_ne_zero (by omega) (Int.mul_ne_zero (by omega) u0)) (Int.mul_emod_right p _), Int.mul_ediv_cancel_left _ (by omega), ih]
theorem ppw_add {p : Int} (hp : Pr p) (a b : Int) : ppw p (a + b) = ppw p a * ppw p b := by
  have p2 := hp.two_le
  exact Rat.zpow_add (by intro z; have : p = 0 := by exact_mod_cast z
                         omega) a b
theorem ppw_nat (p : Int) (n : Nat) : ppw p (n : Int) = ((p ^ n : Int) : Rat) := by
  have q := ppw_nn (p := p) (k := (n : Int)) (by omega)
  apply Rat.ext
  · rw [q.1]; simp
  · rw [q.2]; simp
theorem ppw_zero (p : Int) : ppw p 0 = 1 := by have := ppw_nat p 0; simpa using this
theorem ppw_ne {p : Int} (hp : Pr p) (k : Int) : ppw p k ≠ 0 := by
  intro z
  have h := ppw_add hp k (-k)
  rw [z, Rat.zero_mul, show k + -k = 0 by omega, ppw_zero] at h
  exact absurd h (by decide)
theorem ppw_inv {p : Int} (hp : Pr p) (k : Int) : ppw p (-k) * ppw p k = 1 := by
  rw [← ppw_add hp, show -k + k = 0 by omega, ppw_zero]
theorem rat_pos_of {a : Rat} (h : 0 < a.num) : 0 < a := by
  rw [Rat.lt_iff]; simpa using h
theorem ppw_pos {p : Int} (hp : Pr p) (k : Int) : 0 < ppw p k := by
  have p2 := hp.two_le
  have nat : ∀ n : Nat, 0 < ppw p (n : Int) := fun n => by
    apply rat_pos_of
    rw [(ppw_nn (p := p) (k := (n : Int)) (by omega)).1]
    exact pw_pos hp _
  by_cases h : 0 ≤ k
  · have := nat k.toNat
    rw [show ((k.toNat : Nat) : Int) = k by omega] at this
    exact this
  · have h1 := nat (-k).toNat
    rw [show (((-k).toNat : Nat) : Int) = -k by omega] at h1
    have e := ppw_inv hp k
    by_cases z : 0 < ppw p k
    · exact z
    · exfalso
      have z' : ppw p k ≤ 0 := Rat.not_lt.mp z
      have : ppw p (-k) * ppw p k ≤ ppw p (-k) * 0 := Rat.mul_le_mul_of_nonneg_left z' (Rat.le_of_lt h1)
      rw [e, Rat.mul_zero] at this
      exact absurd this (by decide)
/-- r is p ^ k times a fraction that is whole by p -/
def Dv (p k : Int) (r : Rat) : Prop := ∃ u w : Int, ¬ w % p = 0 ∧ r * (w : Rat) = (u : Rat) * ppw p k

theorem dv_zero (p k : Int) (hp : Pr p) : Dv p k 0 := ⟨0, 1, by rcases hp with rfl | rfl | rfl | rfl <;> decide, by simp⟩
theorem dv_add {p k : Int} (hp : Pr p) {r s : Rat} (hr : Dv p k r) (hs : Dv p k s) : Dv p k (r + s) := by
  obtain ⟨u, w, hw, h⟩ := hr
  obtain ⟨u', w', hw', h'⟩ := hs
  refine ⟨u * w' + u' * w, w * w', pr_mul hp hw hw', ?_⟩
  push_cast
  grind
theorem dv_neg {p k : Int} {r : Rat} (hr : Dv p k r) : Dv p k (-r) := by
  obtain ⟨u, w, hw, h⟩ := hr
  refine ⟨-u, w, hw, ?_⟩
  push_cast
  grind
theorem dv_sub {p k : Int} (hp : Pr p) {r s : Rat} (hr : Dv p k r) (hs : Dv p k s) : Dv p k (r - s) := by
  rw [Rat.sub_eq_add_neg]; exact dv_add hp hr (dv_neg hs)
theorem dv_comm {p k : Int} {r s : Rat} (h : Dv p k (r - s)) : Dv p k (s - r) := by
  have := dv_neg h
  rw [show -(r - s) = s - r by grind] at this
  exact this
theorem dv_trans {p k : Int} (hp : Pr p) {r s t : Rat} (h : Dv p k (r - s)) (h' : Dv p k (s - t)) : Dv p k (r - t) := by
  have := dv_add hp h h'
  rw [show r - s + (s - t) = r - t by grind] at this
  exact this
theorem rat_split (r : Rat) : r * (r.den : Rat) = (r.num : Rat) := by
  have h := Rat.num_divInt_den r
  rw [Rat.divInt_eq_div] at h
  have d0 : ((r.den : Int) : Rat) ≠ 0 := by
    intro z
    have : (r.den : Int) = 0 := by exact_mod_cast z
    exact den_ne r this
  conv => lhs; lhs; rw [← h]
  exact Rat.div_mul_cancel d0
theorem vq_dv {p k : Int} (hp : Pr p) (r : Rat) : Dv p k r ↔ (match vq p r with | none => True | some v => k ≤ v) := by
  by_cases h0 : r.num = 0
  · have z : r = 0 := Rat.num_eq_zero.mp h0
    have e : vq p r = none := by unfold vq; rw [if_pos h0]
    rw [e, z]
    exact ⟨fun _ => trivial, fun _ => dv_zero p k hp⟩
  · have e : vq p r = some ((vp p r.num : Int) - (vp p r.den : Int)) := by unfold vq; rw [if_neg h0]
    rw [e]
    obtain ⟨n, hn, np⟩ := vp_ex hp h0
    obtain ⟨d, hd, dp⟩ := vp_ex hp (den_ne r)
    generalize vp p r.num = a at *
    generalize vp p r.den = b at *
    have s := rat_split r
    have hn' : (r.num : Rat) = ppw p (a : Int) * (n : Rat) := by rw [ppw_nat, hn]; push_cast; rfl
    have hd' : (r.den : Rat) = ppw p (b : Int) * (d : Rat) := by
      rw [ppw_nat]
      have : ((r.den : Int) : Rat) = ((p ^ b * d : Int) : Rat) := by rw [← hd]
      push_cast at this ⊢
      exact this
    rw [hn', hd'] at s
    have pb := ppw_ne hp (b : Int)
    have key : r * (d : Rat) = (n : Rat) * ppw p ((a : Int) - (b : Int)) := by
      have e2 : ppw p (a : Int) = ppw p ((a : Int) - (b : Int)) * ppw p (b : Int) := by rw [← ppw_add hp]; congr 1; omega
      rw [e2] at s
      grind
    constructor
    · rintro ⟨u, w, hw, h⟩
      show k ≤ (a : Int) - (b : Int)
      by_cases z : k ≤ (a : Int) - (b : Int)
      · exact z
      · exfalso
        have e3 : ppw p k = ppw p (k - ((a : Int) - (b : Int))) * ppw p ((a : Int) - (b : Int)) := by rw [← ppw_add hp]; congr 1; omega
        have pk := ppw_ne hp ((a : Int) - (b : Int))
        obtain ⟨m, hm⟩ : ∃ m : Nat, k - ((a : Int) - (b : Int)) = ((m + 1 : Nat) : Int) := ⟨(k - ((a : Int) - (b : Int))).toNat - 1, by omega⟩
        have e4 : (n : Rat) * (w : Rat) = (u : Rat) * (d : Rat) * ppw p (k - ((a : Int) - (b : Int))) := by
          rw [e3] at h
          grind
        rw [hm, ppw_nat] at e4
        have e5 : n * w = u * d * p ^ (m + 1) := by exact_mod_cast e4
        have : n * w % p = 0 := Int.emod_eq_zero_of_dvd (by rw [e5, Int.pow_succ', Int.mul_left_comm]; exact Int.dvd_mul_right _ _)
        exact pr_mul hp np hw this
    · intro h
      have h : k ≤ (a : Int) - (b : Int) := h
      obtain ⟨m, hm⟩ : ∃ m : Nat, (a : Int) - (b : Int) - k = (m : Int) := ⟨((a : Int) - (b : Int) - k).toNat, by omega⟩
      refine ⟨n * p ^ m, d, dp, ?_⟩
      rw [key]
      have e3 : ppw p ((a : Int) - (b : Int)) = ppw p (m : Int) * ppw p k := by rw [← ppw_add hp]; congr 1; omega
      rw [e3, ppw_nat]
      push_cast
      grind

theorem dv_mono {p j k : Int} (hp : Pr p) (h : j ≤ k) {r : Rat} (hr : Dv p k r) : Dv p j r := by
  obtain ⟨u, w, hw, e⟩ := hr
  obtain ⟨m, hm⟩ : ∃ m : Nat, k - j = (m : Int) := ⟨(k - j).toNat, by omega⟩
  refine ⟨u * p ^ m, w, hw, ?_⟩
  rw [e, show k = (m : Int) + j by omega, ppw_add hp, ppw_nat]
  push_cast
  grind
/-- the bottom is a power of p -/
def PDen (p : Int) (r : Rat) : Prop := ∃ n : Nat, (r.den : Int) = p ^ n
theorem pden_scale {p : Int} (hp : Pr p) {r : Rat} (h : PDen p r) : ∃ (n : Nat) (m : Int), r * ppw p (n : Int) = (m : Rat) := by
  obtain ⟨n, hn⟩ := h
  refine ⟨n, r.num, ?_⟩
  rw [ppw_nat, ← hn, ← rat_split r]
  first | rfl | norm_cast
theorem scale_more {p : Int} (hp : Pr p) {r : Rat} {n : Nat} {m : Int} (h : r * ppw p (n : Int) = (m : Rat)) {l : Nat} (hl : n ≤ l) : ∃ m' : Int, r * ppw p (l : Int) = (m' : Rat) := by
  refine ⟨m * p ^ (l - n), ?_⟩
  have e : ppw p (l : Int) = ppw p (n : Int) * ppw p ((l - n : Nat) : Int) := by rw [← ppw_add hp]; congr 1; omega
  rw [e, ← Rat.mul_assoc, h, ppw_nat]
  push_cast
  rfl
/-- a divisor of a power of p is one -/
theorem dvd_pw {p : Int} (hp : Pr p) : ∀ (n : Nat) (d : Int), 0 < d → d ∣ p ^ n → ∃ m : Nat, d = p ^ m
  | 0, d, h0, h => ⟨0, by
    rw [Int.pow_zero] at h ⊢
    have := Int.le_of_dvd (by decide) h
    omega⟩
  | n + 1, d, h0, h => by
    have p2 := hp.two_le
    by_cases z : d % p = 0
    · obtain ⟨q, rfl⟩ := Int.dvd_of_emod_eq_zero z
      rw [Int.pow_succ'] at h
      have q0 : 0 < q := by
        by_cases hq : 0 < q
        · exact hq
        · have := Int.mul_nonneg (show 0 ≤ p by omega) (show 0 ≤ -q by omega)
          rw [Int.mul_neg] at this
          omega
      obtain ⟨m, rfl⟩ := dvd_pw hp n q q0 (Int.dvd_of_mul_dvd_mul_left (by omega) h)
      exact ⟨m + 1, by rw [Int.pow_succ']⟩
    · obtain ⟨c, hc⟩ := h
      have h1 : p ^ (n + 1) ∣ c * d := ⟨1, by rw [Int.mul_one, Int.mul_comm]; exact hc.symm⟩
      have h2 := pw_gauss hp z (n + 1) c h1
      obtain ⟨e, rfl⟩ := h2
      have pp := pw_pos hp (n + 1)
      have : d * e = 1 := by
        have h3 : p ^ (n + 1) * (d * e) = p ^ (n + 1) * 1 := by rw [Int.mul_one]; grind
        exact Int.eq_of_mul_eq_mul_left (by omega) h3
      have : d ∣ 1 := ⟨e, this.symm⟩
      have := Int.le_of_dvd (by decide) this
      exact ⟨0, by rw [Int.pow_zero]; omega⟩
theorem pden_of {p : Int} (hp : Pr p) {r : Rat} {n : Nat} {m : Int} (h : r * ppw p (n : Int) = (m : Rat)) : PDen p r := by
  have e : r.num * p ^ n = m * (r.den : Int) := by
    have s := rat_split r
    rw [ppw_nat] at h
    have q : (r.num : Rat) * ((p ^ n : Int) : Rat) = (m : Rat) * ((r.den : Int) : Rat) := by
      rw [← s, ← h]
      push_cast
      grind
    exact_mod_cast q
  have hc : Int.gcd (r.den : Int) r.num = 1 := by
    rw [Int.gcd_comm, Int.gcd_eq_natAbs_gcd_natAbs, Int.natAbs_natCast]; exact r.reduced
  have d : (r.den : Int) ∣ r.num * p ^ n := ⟨m, by rw [e, Int.mul_comm]⟩
  have d2 : (r.den : Int) ∣ p ^ n := by
    have g := Int.gcd_mul_right_right_of_gcd_eq_one (k := p ^ n) hc
    have : (Int.gcd (r.den : Int) (r.num * p ^ n) : Int) = (r.den : Int) := by
      rw [Int.gcd_eq_left (by omega) d]
    rw [g] at this
    have h3 := Int.gcd_dvd_right (r.den : Int) (p ^ n)
    rw [this] at h3
    exact h3
  obtain ⟨k, hk⟩ := dvd_pw hp n _ (den_pos r) d2
  exact ⟨k, hk⟩
structure IsRest (p k : Int) (a r : Rat) : Prop where
  den : PDen p r
  nn : 0 ≤ r
  lt : r < ppw p k
  dv : Dv p k (a - r)
theorem rat_lt_int {a b : Int} : (a : Rat) < (b : Rat) ↔ a < b := by
  rw [Rat.lt_iff]; simp
theorem rat_le_int {a b : Int} : (a : Rat) ≤ (b : Rat) ↔ a ≤ b := by
  rw [Rat.le_iff]; simp
theorem mul_lt {a b c : Rat} (h : a < b) (hc : 0 < c) : a * c < b * c := (Rat.mul_lt_mul_right hc).mpr h
theorem rest_uniq {p k : Int} (hp : Pr p) {a b r s : Rat} (hr : IsRest p k a r) (hs : IsRest p k b s) (h : Dv p k (a - b)) : r = s := by
  have d : Dv p k (r - s) := dv_trans hp (dv_comm hr.dv) (dv_trans hp h hs.dv)
  obtain ⟨n1, m1, e1⟩ := pden_scale hp hr.den
  obtain ⟨n2, m2, e2⟩ := pden_scale hp hs.den
  obtain ⟨L, hL⟩ : ∃ L : Nat, n1 ≤ L ∧ n2 ≤ L ∧ -k ≤ (L : Int) := ⟨n1 + n2 + (-k).toNat, by omega, by omega, by omega⟩
  obtain ⟨x, hx⟩ := scale_more hp e1 hL.1
  obtain ⟨y, hy⟩ := scale_more hp e2 hL.2.1
  obtain ⟨K, hK⟩ : ∃ K : Nat, k + (L : Int) = (K : Int) := ⟨(k + L).toNat, by omega⟩
  have pL := ppw_pos hp (L : Int)
  have eK : ppw p k * ppw p (L : Int) = ((p ^ K : Int) : Rat) := by rw [← ppw_add hp, hK, ppw_nat]
  have bd : ∀ {t : Rat} {z : Int}, 0 ≤ t → t < ppw p k → t * ppw p (L : Int) = (z : Rat) → 0 ≤ z ∧ z < p ^ K := fun {t z} h0 h1 hz => by
    constructor
    · have : (0 : Rat) ≤ (z : Rat) := by rw [← hz]; exact Rat.mul_nonneg h0 (Rat.le_of_lt pL)
      exact rat_le_int.mp (by simpa using this)
    · have := mul_lt h1 pL
      rw [hz, eK] at this
      exact rat_lt_int.mp this
  have bx := bd hr.nn hr.lt hx
  have by' := bd hs.nn hs.lt hy
  obtain ⟨u, w, hw, hd⟩ := d
  have e : (x - y) * w = u * p ^ K := by
    have q : ((x : Rat) - (y : Rat)) * (w : Rat) = (u : Rat) * ((p ^ K : Int) : Rat) := by
      rw [← hx, ← hy, ← eK]
      grind
    exact_mod_cast q
  have dd := pw_gauss hp hw K (x - y) ⟨u, by rw [e, Int.mul_comm]⟩
  have : x - y = 0 := by
    rcases Int.lt_trichotomy (x - y) 0 with h | h | h
    · have := Int.le_of_dvd (show 0 < -(x - y) by omega) (Int.dvd_neg.mpr dd); omega
    · exact h
    · have := Int.le_of_dvd h dd; omega
  have exy : x = y := by omega
  rw [exy, ← hy] at hx
  have pn := ppw_ne hp (L : Int)
  grind
noncomputable def restQ (p k : Int) (a : Rat) : Rat := if k + (vp p a.den : Int) ≤ 0 then 0 else
  Rat.divInt (a.num * overBy p ((a.den : Int) / p ^ (vp p a.den)) (k + (vp p a.den : Int)).toNat % p ^ (k + (vp p a.den : Int)).toNat) (p ^ (vp p a.den))
theorem rest_is {p : Int} (hp : Pr p) (k : Int) (a : Rat) : IsRest p k a (restQ p k a) := by
  obtain ⟨d, hd, dp⟩ := vp_ex hp (den_ne a)
  unfold restQ
  have s := rat_split a
  generalize vp p a.den = e at *
  have pe := pw_pos hp e
  have hdiv : (a.den : Int) / p ^ e = d := by rw [hd]; exact Int.mul_ediv_cancel_left d (by omega)
  have hd' : (a.den : Rat) = ppw p (e : Int) * (d : Rat) := by
    rw [ppw_nat]
    have : ((a.den : Int) : Rat) = ((p ^ e * d : Int) : Rat) := by rw [← hd]
    push_cast at this ⊢
    exact this
  rw [hd'] at s
  have pne := ppw_ne hp (e : Int)
  split
  · rename_i h
    refine ⟨⟨0, by simp⟩, Rat.le_refl, ppw_pos hp k, ?_⟩
    obtain ⟨m, hm⟩ : ∃ m : Nat, -(e : Int) - k = (m : Int) := ⟨(-(e : Int) - k).toNat, by omega⟩
    refine ⟨a.num * p ^ m, d, dp, ?_⟩
    have e1 : ppw p (-(e : Int)) * ppw p (e : Int) = 1 := ppw_inv hp _
    have e2 : ppw p (-(e : Int)) = ppw p (m : Int) * ppw p k := by rw [← ppw_add hp]; congr 1; omega
    rw [ppw_nat] at e2
    push_cast at e2 ⊢
    grind
  · rename_i h
    obtain ⟨K, hK⟩ : ∃ K : Nat, k + (e : Int) = (K : Int) := ⟨(k + e).toNat, by omega⟩
    rw [hdiv, hK, Int.toNat_natCast]
    have ov := overBy_is hp dp K
    generalize overBy p d K = x at ov
    have pK := pw_pos hp K
    have w0 := Int.emod_nonneg (a.num * x) (show p ^ K ≠ 0 by omega)
    have w1 := Int.emod_lt_of_pos (a.num * x) pK
    have dw : p ^ K ∣ a.num - (a.num * x % p ^ K) * d := by
      have e1 : a.num - (a.num * x % p ^ K) * d = -(a.num * (d * x - 1)) + p ^ K * (a.num * x / p ^ K * d) := by rw [Int.emod_def]; grind
      rw [e1]
      exact Int.dvd_add (Int.dvd_neg.mpr (Int.dvd_mul_of_dvd_right ov.2.2)) (Int.dvd_mul_right _ _)
    generalize a.num * x % p ^ K = W at *
    have hr : Rat.divInt W (p ^ e) * ppw p (e : Int) = (W : Rat) := by
      rw [Rat.divInt_eq_div, ppw_nat]
      refine Rat.div_mul_cancel ?_
      intro z
      have : p ^ e = 0 := by exact_mod_cast z
      omega
    generalize Rat.divInt W (p ^ e) = r at hr
    have pp := ppw_pos hp (e : Int)
    refine ⟨pden_of hp hr, ?_, ?_, ?_⟩
    · by_cases z : 0 ≤ r
      · exact z
      · exfalso
        have := mul_lt (Rat.not_le.mp z) pp
        rw [hr, Rat.zero_mul] at this
        have := rat_lt_int.mp (by simpa using this : (W : Rat) < ((0 : Int) : Rat))
        omega
    · by_cases z : r < ppw p k
      · exact z
      · exfalso
        have h1 : ppw p k * ppw p (e : Int) ≤ r * ppw p (e : Int) := Rat.mul_le_mul_of_nonneg_right (Rat.not_lt.mp z) (Rat.le_of_lt pp)
        rw [hr, ← ppw_add hp, hK, ppw_nat] at h1
        have := rat_le_int.mp h1
        omega
    · obtain ⟨t, ht⟩ := dw
      refine ⟨t, d, dp, ?_⟩
      have e1 : ppw p (e : Int) * ppw p k = ((p ^ K : Int) : Rat) := by rw [← ppw_add hp, show (e : Int) + k = (K : Int) by omega, ppw_nat]
      have e2 : (a.num : Rat) - (W : Rat) * (d : Rat) = ((p ^ K : Int) : Rat) * (t : Rat) := by exact_mod_cast ht
      grind

theorem vp_le {p : Int} (hp : Pr p) {n : Int} (hn : n ≠ 0) {m : Nat} (h : Bd m n) : vp p n < m := by
  obtain ⟨u, hu, up⟩ := vp_ex hp hn
  have p2 := hp.two_le
  have u0 : u ≠ 0 := fun z => up (by rw [z]; simp)
  unfold Bd at h
  by_cases z : vp p n < m
  · exact z
  · exfalso
    have e : n.natAbs = (p ^ vp p n).natAbs * u.natAbs := by rw [← Int.natAbs_mul, ← hu]
    have h1 : 2 ^ m ≤ (p ^ vp p n).natAbs := by
      rw [Int.natAbs_pow]
      exact Nat.le_trans (Nat.pow_le_pow_right (by decide) (by omega)) (Nat.pow_le_pow_left (by omega) _)
    have h2 : (p ^ vp p n).natAbs * 1 ≤ (p ^ vp p n).natAbs * u.natAbs := Nat.mul_le_mul_left _ (by omega)
    omega
/-- alike by p ^ k -/
def alk (p k : Int) (a b : Rat) : Bool := match vq p (a - b) with
  | none => true
  | some v => decide (k ≤ v)
theorem alk_dv {p k : Int} (hp : Pr p) (a b : Rat) : alk p k a b = true ↔ Dv p k (a - b) := by
  rw [vq_dv hp]
  unfold alk
  cases vq p (a - b) with
  | none => simp
  | some v => simp
def R_alike (ds : List D) (d : D) : Prop := ∃ (p k : Int) (a b : Rat), ds = [.int p, .int k, frD a, frD b] ∧ Pr p ∧ Fb 4400 a ∧ Fb 4400 b ∧ d = .bl (alk p k a b)
def R_rest (ds : List D) (d : D) : Prop := ∃ (p k : Int) (a : Rat), ds = [.int p, .int k, frD a] ∧ Pr p ∧ k ≤ 900000 ∧ -900000 ≤ k ∧ Fb 4400 a ∧ d = frD (restQ p k a)
theorem rest_fb {p : Int} (hp : Pr p) {k : Int} {K m : Nat} (hk : k ≤ K) {a : Rat} (ha : Fb m a) : Fb (3 * (K + m) + 1) (restQ p k a) := by
  have hv := vp_le hp (den_ne a) ha.2
  have p2 := hp.two_le
  unfold restQ
  split
  · refine ⟨?_, ?_⟩
    · show (0 : Int).natAbs < _
      exact Nat.pow_pos (by decide)
    · show ((1 : Nat) : Int).natAbs < _
      have : 1 < 2 ^ (3 * (K + m) + 1) := Nat.one_lt_two_pow (by omega)
      simpa using this
  · have pe := pw_pos hp (vp p a.den)
    have pk := pw_pos hp (k + (vp p a.den : Int)).toNat
    have w0 := Int.emod_nonneg (a.num * overBy p ((a.den : Int) / p ^ (vp p a.den)) (k + (vp p a.den : Int)).toNat) (show p ^ (k + (vp p a.den : Int)).toNat ≠ 0 by omega)
    have w1 := Int.emod_lt_of_pos (a.num * overBy p ((a.den : Int) / p ^ (vp p a.den)) (k + (vp p a.den : Int)).toNat) pk
    exact Fb.divInt (by omega) (Bd.of_le w0 (Int.le_of_lt w1) ((pw_bd hp (k + (vp p a.den : Int)).toNat).mono (by omega))) ((pw_bd hp (vp p a.den)).mono (by omega))
def R_rest_right (ds : List D) (d : D) : Prop := ∃ (p k : Int) (a r : Rat), ds = [.int p, .int k, frD a, frD r] ∧ Pr p ∧ k ≤ 300 ∧ -300 ≤ k ∧ Fb 4400 a ∧ Fb 4400 r ∧ IsRest p k a r ∧ d = .bl true
@[ext] structure Tb where
  a : Rat
  b : Rat
  c : Rat
  d : Rat
abbrev tbD (t : Tb) : D := .tup [frD t.a, frD t.b, frD t.c, frD t.d]
def Tb.det (t : Tb) : Rat := t.a * t.d - t.b * t.c
def Tb.mul (s t : Tb) : Tb := ⟨s.a * t.a + s.b * t.c, s.a * t.b + s.b * t.d, s.c * t.a + s.d * t.c, s.c * t.b + s.d * t.d⟩
def Tb.scale (t : Tb) (r : Rat) : Tb := ⟨t.a * r, t.b * r, t.c * r, t.d * r⟩
def Tb.turn (t : Tb) : Tb := ⟨t.d, 0 - t.b, 0 - t.c, t.a⟩
def Tb.one : Tb := ⟨1, 0, 0, 1⟩
def Tb.inv (t : Tb) : Tb := t.turn.scale (t.det⁻¹)
/-- at most n bits in each part -/
structure Tbb (n : Nat) (t : Tb) : Prop where
  a : Fb n t.a
  b : Fb n t.b
  c : Fb n t.c
  d : Fb n t.d
theorem Tbb.mono {m n : Nat} {t : Tb} (h : Tbb m t) (l : m ≤ n) : Tbb n t := ⟨h.a.mono l, h.b.mono l, h.c.mono l, h.d.mono l⟩
theorem Fb.neg {m : Nat} {a : Rat} (h : Fb m a) : Fb m (-a) := ⟨by show Bd m (-a.num); exact h.1.neg, h.2⟩
theorem Fb.inv {m : Nat} {a : Rat} (h : Fb m a) (h0 : a ≠ 0) : Fb m a⁻¹ := by
  have hn : a.num ≠ 0 := fun z => h0 (Rat.num_eq_zero.mp z)
  refine ⟨?_, ?_⟩
  · rw [Rat.num_inv]
    have q := h.2
    unfold Bd at *
    rw [Int.natAbs_mul]
    have : a.num.sign.natAbs ≤ 1 := by
      rcases Int.lt_trichotomy a.num 0 with h | h | h
      · rw [Int.sign_eq_neg_one_of_neg h]; decide
      · exact absurd h hn
      · rw [Int.sign_eq_one_of_pos h]; decide
    calc a.num.sign.natAbs * (a.den : Int).natAbs ≤ 1 * (a.den : Int).natAbs := Nat.mul_le_mul_right _ this
      _ = (a.den : Int).natAbs := Nat.one_mul _
      _ < 2 ^ m := q
  · rw [Rat.den_inv, if_neg hn]
    have q := h.1
    unfold Bd at *
    rw [Int.natAbs_natCast]
    exact q
theorem fb_zero : Fb 1 0 := ⟨by decide +kernel, by decide +kernel⟩
theorem fb_one : Fb 1 1 := ⟨by decide +kernel, by decide +kernel⟩
theorem Fb.zsub {m : Nat} {a : Rat} (h : Fb m a) : Fb m (0 - a) := by rw [Rat.sub_eq_add_neg, Rat.zero_add]; exact h.neg
theorem Tbb.turn {m : Nat} {t : Tb} (h : Tbb m t) : Tbb m t.turn := ⟨h.d, h.b.zsub, h.c.zsub, h.a⟩
theorem Tbb.scale {m n : Nat} {t : Tb} {r : Rat} (h : Tbb m t) (hr : Fb n r) : Tbb (m + n) (t.scale r) := ⟨h.a.mul hr, h.b.mul hr, h.c.mul hr, h.d.mul hr⟩
theorem Tbb.det {m : Nat} {t : Tb} (h : Tbb m t) : Fb (4 * m + 1) t.det := ((h.a.mul h.d).sub (h.b.mul h.c)).mono (by omega)
theorem Tbb.mul {m n : Nat} {s t : Tb} (h : Tbb m s) (h' : Tbb n t) : Tbb (2 * (m + n) + 1) (s.mul t) :=
  ⟨((h.a.mul h'.a).add (h.b.mul h'.c)).mono (by omega), ((h.a.mul h'.b).add (h.b.mul h'.d)).mono (by omega), ((h.c.mul h'.a).add (h.d.mul h'.c)).mono (by omega), ((h.c.mul h'.b).add (h.d.mul h'.d)).mono (by omega)⟩
/-- what the measure of t and the product of s and t reckon on the way is not too long -/
structure MOk (t : Tb) : Prop where
  ht : Tbb 4400 t
  ad : Fb 4400 (t.a * t.d)
  bc : Fb 4400 (t.b * t.c)
structure POk (s t : Tb) : Prop where
  hs : Tbb 4400 s
  ht : Tbb 4400 t
  aa : Fb 4400 (s.a * t.a)
  bc : Fb 4400 (s.b * t.c)
  ab : Fb 4400 (s.a * t.b)
  bd : Fb 4400 (s.b * t.d)
  ca : Fb 4400 (s.c * t.a)
  dc : Fb 4400 (s.d * t.c)
  cb : Fb 4400 (s.c * t.b)
  dd : Fb 4400 (s.d * t.d)
theorem Tbb.mok {m : Nat} {t : Tb} (h : Tbb m t) (l : m + m ≤ 4400) : MOk t := ⟨h.mono (by omega), (h.a.mul h.d).mono l, (h.b.mul h.c).mono l⟩
theorem Tbb.pok {m n : Nat} {s t : Tb} (h : Tbb m s) (h' : Tbb n t) (l : m + n ≤ 4400) : POk s t :=
  ⟨h.mono (by omega), h'.mono (by omega), (h.a.mul h'.a).mono l, (h.b.mul h'.c).mono l, (h.a.mul h'.b).mono l, (h.b.mul h'.d).mono l, (h.c.mul h'.a).mono l, (h.d.mul h'.c).mono l, (h.c.mul h'.b).mono l, (h.d.mul h'.d).mono l⟩
def R_measure (ds : List D) (d : D) : Prop := ∃ t : Tb, ds = [tbD t] ∧ MOk t ∧ d = frD t.det
def R_trace (ds : List D) (d : D) : Prop := ∃ t : Tb, ds = [tbD t] ∧ Tbb 4400 t ∧ d = frD (t.a + t.d)
def R_onetab (ds : List D) (d : D) : Prop := ds = [] ∧ d = tbD Tb.one
def R_table_of (ds : List D) (r : Rs) : Prop := ∃ t : Tb, ds = [frD t.a, frD t.b, frD t.c, frD t.d] ∧ MOk t ∧ ((t.det ≠ 0 ∧ r = .ok (tbD t)) ∨ (t.det = 0 ∧ r = .ex "NoTable"))
def R_rowcol (ds : List D) (d : D) : Prop := ∃ a b c e : Rat, ds = [.tup [frD a, frD b], .tup [frD c, frD e]] ∧ Fb 4400 a ∧ Fb 4400 b ∧ Fb 4400 c ∧ Fb 4400 e ∧ Fb 4400 (a * c) ∧ Fb 4400 (b * e) ∧ d = frD (a * c + b * e)
def R_product (ds : List D) (d : D) : Prop := ∃ s t : Tb, ds = [tbD s, tbD t] ∧ POk s t ∧ d = tbD (s.mul t)
def R_stretched (ds : List D) (r : Rs) : Prop := ∃ (t : Tb) (q : Rat), ds = [tbD t, frD q] ∧ Tbb 4400 t ∧ Fb 4400 q ∧ ((q ≠ 0 ∧ r = .ok (tbD (t.scale q))) ∨ (q = 0 ∧ r = .ex "NoTable"))
def R_turned (ds : List D) (d : D) : Prop := ∃ t : Tb, ds = [tbD t] ∧ MOk t ∧ t.det ≠ 0 ∧ Fb 4400 t.det ∧ d = tbD t.inv
def R_neg (ds : List D) (d : D) : Prop := ∃ a : Rat, ds = [frD a] ∧ d = frD (-a)
def R_isfr2 (ds : List D) (d : D) : Prop := ∃ r : Rat, ds = [frD r, frD r] ∧ d = .bl true
def R_istab (ds : List D) (d : D) : Prop := ∃ t : Tb, ds = [tbD t, tbD t] ∧ d = .bl true
theorem over_eq (a : Rat) {b : Rat} (h0 : b ≠ 0) : Rat.divInt (a.num * (b.den : Int)) ((a.den : Int) * b.num) = a * b⁻¹ := by
  have hn : b.num ≠ 0 := fun z => h0 (Rat.num_eq_zero.mp z)
  have e : b⁻¹ = Rat.divInt (b.den : Int) b.num := by rw [Rat.inv_def]
  have ea : a = Rat.divInt a.num (a.den : Int) := by rw [Rat.divInt_ofNat]; exact (Rat.mkRat_self a).symm
  rw [e]
  conv => rhs; rw [ea]
  rw [Rat.divInt_mul_divInt]
theorem over_one {b : Rat} (h0 : b ≠ 0) : Rat.divInt ((1 : Rat).num * (b.den : Int)) (((1 : Rat).den : Int) * b.num) = b⁻¹ := by rw [over_eq 1 h0, Rat.one_mul]
theorem inv_ne {b : Rat} (h : b ≠ 0) : b⁻¹ ≠ 0 := fun z => by
  have := Rat.mul_inv_cancel _ h
  rw [z, Rat.mul_zero] at this
  exact absurd this (by decide)

theorem eqD_fq (a b : Rat) : eqD (frD a) (frD b) = decide (a = b) := by
  have e : eqD (frD a) (frD b) = ((a.num == b.num) && (((a.den : Int) == (b.den : Int)) && true)) := rfl
  rw [e, Bool.eq_iff_iff]
  simp only [Bool.and_true, Bool.and_eq_true, beq_iff_eq, decide_eq_true_eq]
  constructor
  · intro h; exact Rat.ext h.1 (by omega)
  · rintro rfl; exact ⟨rfl, rfl⟩
theorem inv_i {t : Tb} (h : t.det ≠ 0) : ∃ i : Rat, (t.a * t.d - t.b * t.c) * i = 1 ∧ t.inv = ⟨t.d * i, (0 - t.b) * i, (0 - t.c) * i, t.a * i⟩ := ⟨t.det⁻¹, Rat.mul_inv_cancel _ h, rfl⟩
theorem det_mul (s t : Tb) : (s.mul t).det = s.det * t.det := by
  unfold Tb.mul Tb.det
  simp only []
  grind
theorem det_inv {t : Tb} (h : t.det ≠ 0) : t.inv.det ≠ 0 := by
  obtain ⟨i, e, q⟩ := inv_i h
  rw [q]
  unfold Tb.det
  simp only []
  intro z
  have : (1 : Rat) = 0 := by grind
  exact absurd this (by decide)
theorem inv_mul {t : Tb} (h : t.det ≠ 0) : t.inv.mul t = Tb.one := by
  obtain ⟨i, e, q⟩ := inv_i h
  rw [q]
  unfold Tb.mul Tb.one
  simp only [Tb.mk.injEq]
  refine ⟨?_, ?_, ?_, ?_⟩ <;> grind
theorem mul_inv {t : Tb} (h : t.det ≠ 0) : t.mul t.inv = Tb.one := by
  obtain ⟨i, e, q⟩ := inv_i h
  rw [q]
  unfold Tb.mul Tb.one
  simp only [Tb.mk.injEq]
  refine ⟨?_, ?_, ?_, ?_⟩ <;> grind
theorem inv_inv {t : Tb} (h : t.det ≠ 0) : t.inv.inv = t := by
  obtain ⟨i, e, q⟩ := inv_i h
  obtain ⟨j, f, r⟩ := inv_i (det_inv h)
  rw [r]
  rw [q] at f ⊢
  simp only [] at f
  rcases t with ⟨a, b, c, d⟩
  simp only [] at e f
  simp only [Tb.mk.injEq]
  have k : i * j = 1 := by grind
  refine ⟨?_, ?_, ?_, ?_⟩ <;> grind
theorem mul_assoc' (r s t : Tb) : (r.mul s).mul t = r.mul (s.mul t) := by
  unfold Tb.mul
  simp only [Tb.mk.injEq]
  refine ⟨?_, ?_, ?_, ?_⟩ <;> grind
theorem mul_one' (t : Tb) : t.mul Tb.one = t := by
  rcases t with ⟨a, b, c, d⟩
  unfold Tb.mul Tb.one
  simp only [Tb.mk.injEq]
  refine ⟨?_, ?_, ?_, ?_⟩ <;> grind
theorem Tbb.inv {m : Nat} {t : Tb} (h : Tbb m t) (h0 : t.det ≠ 0) : Tbb (5 * m + 1) t.inv := (h.turn.scale (h.det.inv h0)).mono (by omega)
theorem scale_scale {t : Tb} {q r : Rat} (h : q * r = 1) : (t.scale q).scale r = t := by
  rcases t with ⟨a, b, c, d⟩
  unfold Tb.scale
  simp only [Tb.mk.injEq]
  refine ⟨?_, ?_, ?_, ?_⟩ <;> grind
theorem scale_mul (s t : Tb) (q : Rat) : (s.scale q).mul t = (s.mul t).scale q := by
  unfold Tb.scale Tb.mul
  simp only [Tb.mk.injEq]
  refine ⟨?_, ?_, ?_, ?_⟩ <;> grind
theorem vq_none {p : Int} {r : Rat} : vq p r = none ↔ r = 0 := by
  unfold vq
  rw [← Rat.num_eq_zero]
  split <;> simp [*]
theorem vq_iff {p : Int} (hp : Pr p) {r : Rat} {v : Int} : vq p r = some v ↔ (r ≠ 0 ∧ ∀ k, Dv p k r ↔ k ≤ v) := by
  constructor
  · intro h
    refine ⟨fun z => ?_, fun k => ?_⟩
    · rw [vq_none.mpr z] at h; cases h
    · rw [vq_dv hp, h]
  · rintro ⟨h0, h⟩
    cases e : vq p r with
    | none => exact absurd (vq_none.mp e) h0
    | some w =>
      have q : ∀ k, Dv p k r ↔ k ≤ w := fun k => by rw [vq_dv hp, e]
      have h1 := (h w).mp ((q w).mpr (Int.le_refl _))
      have h2 := (q v).mp ((h v).mpr (Int.le_refl _))
      congr 1; omega
theorem dv_ppw {p k j : Int} (hp : Pr p) {r : Rat} : Dv p k (r * ppw p j) ↔ Dv p (k - j) r := by
  have hj := ppw_ne hp j
  have e : ppw p k = ppw p (k - j) * ppw p j := by rw [← ppw_add hp]; congr 1; omega
  constructor
  · rintro ⟨u, w, hw, h⟩
    refine ⟨u, w, hw, ?_⟩
    rw [e] at h
    grind
  · rintro ⟨u, w, hw, h⟩
    refine ⟨u, w, hw, ?_⟩
    rw [e]
    grind
theorem vq_mul_ppw {p : Int} (hp : Pr p) (r : Rat) (j : Int) : vq p (r * ppw p j) = (vq p r).map (· + j) := by
  cases e : vq p r with
  | none => rw [vq_none.mp e, Rat.zero_mul]; exact vq_none.mpr rfl
  | some v =>
    obtain ⟨h0, h⟩ := (vq_iff hp).mp e
    refine (vq_iff hp).mpr ⟨fun z => (Rat.mul_eq_zero.mp z).elim h0 (ppw_ne hp j), fun k => ?_⟩
    rw [dv_ppw hp, h]
    show k - j ≤ v ↔ k ≤ v + j
    omega
theorem vq_neg {p : Int} (hp : Pr p) (r : Rat) : vq p (-r) = vq p r := by
  cases e : vq p r with
  | none => rw [vq_none.mp e]; exact vq_none.mpr rfl
  | some v =>
    obtain ⟨h0, h⟩ := (vq_iff hp).mp e
    refine (vq_iff hp).mpr ⟨fun z => h0 (by grind), fun k => ?_⟩
    rw [← h k]
    exact ⟨fun z => by have := dv_neg z; rwa [Rat.neg_neg] at this, dv_neg⟩
theorem vq_one {p : Int} (hp : Pr p) : vq p 1 = some 0 := by have := vq_ppw (k := 0) hp; rwa [ppw_zero] at this
/-- the least power of those that are not nought -/
def leastV (p : Int) (rs : List Rat) : Int := match rs.filterMap (vq p) with
  | [] => 0
  | x :: xs => xs.foldl min x
/-- low: of the spot (k2, q2) in the spot (k1, q1) -/
def lowS (p k1 : Int) (q1 : Rat) (k2 : Int) (q2 : Rat) : Int := match vq p (q2 - q1) with
  | none => min 0 (k2 - k1)
  | some v => min (min 0 (k2 - k1)) (v - k1)
abbrev spotD (k : Int) (q : Rat) : D := .tup [.int k, frD q]
def tabS (p k : Int) (q : Rat) : Tb := ⟨ppw p k, q, 0, 1⟩
theorem tabS_det (p k : Int) (q : Rat) : (tabS p k q).det = ppw p k := by unfold tabS Tb.det; simp only []; grind
theorem inv_ppw {p : Int} (hp : Pr p) (k : Int) : (ppw p k)⁻¹ = ppw p (-k) := by
  have h := ppw_inv hp k
  have h0 := ppw_ne hp k
  have := Rat.mul_inv_cancel _ h0
  grind
theorem tabS_inv {p : Int} (hp : Pr p) (k : Int) (q : Rat) : (tabS p k q).inv = ⟨ppw p (-k), -q * ppw p (-k), 0, 1⟩ := by
  unfold Tb.inv
  rw [tabS_det, inv_ppw hp]
  have h := ppw_inv hp k
  unfold tabS Tb.turn Tb.scale
  simp only [Tb.mk.injEq]
  refine ⟨?_, ?_, ?_, ?_⟩ <;> grind
theorem tabS_mul {p : Int} (hp : Pr p) (k1 k2 : Int) (q1 q2 : Rat) : (tabS p k1 q1).inv.mul (tabS p k2 q2) = ⟨ppw p (k2 - k1), (q2 - q1) * ppw p (-k1), 0, 1⟩ := by
  rw [tabS_inv hp]
  have e : ppw p (k2 - k1) = ppw p (-k1) * ppw p k2 := by rw [← ppw_add hp]; congr 1; omega
  unfold tabS Tb.mul
  simp only [Tb.mk.injEq]
  refine ⟨?_, ?_, ?_, ?_⟩ <;> grind
theorem least_two {p : Int} (hp : Pr p) (k1 k2 : Int) (q1 q2 : Rat) : leastV p [ppw p (k2 - k1), (q2 - q1) * ppw p (-k1), 0, 1] = lowS p k1 q1 k2 q2 := by
  unfold leastV lowS
  have h0 : vq p 0 = none := vq_none.mpr rfl
  cases e : vq p (q2 - q1) with
  | none =>
    have h : [ppw p (k2 - k1), (q2 - q1) * ppw p (-k1), 0, 1].filterMap (vq p) = [k2 - k1, 0] := by
      simp [List.filterMap_cons, vq_ppw hp, vq_mul_ppw hp, e, h0, vq_one hp]
    rw [h]
    show min (k2 - k1) 0 = min 0 (k2 - k1)
    omega
  | some v =>
    have h : [ppw p (k2 - k1), (q2 - q1) * ppw p (-k1), 0, 1].filterMap (vq p) = [k2 - k1, v + -k1, 0] := by
      simp [List.filterMap_cons, vq_ppw hp, vq_mul_ppw hp, e, h0, vq_one hp]
    rw [h]
    show min (min (k2 - k1) (v + -k1)) 0 = min (min 0 (k2 - k1)) (v - k1)
    omega
/-- p ^ M times r is a whole number of at most B bits -/
def Sz (p : Int) (M B : Nat) (r : Rat) : Prop := ∃ m : Int, r * ppw p (M : Int) = (m : Rat) ∧ Bd B m
theorem Sz.fb {p : Int} (hp : Pr p) {M B n : Nat} {r : Rat} (h : Sz p M B r) (h1 : 3 * M + 1 ≤ n) (h2 : B ≤ n) : Fb n r := by
  obtain ⟨m, e, b⟩ := h
  have e2 : r = Rat.divInt m (p ^ M) := by
    have pp := pw_pos hp M
    have hne : ((p ^ M : Int) : Rat) ≠ 0 := by
      have := ppw_ne hp (M : Int)
      rwa [ppw_nat] at this
    rw [ppw_nat] at e
    rw [Rat.divInt_eq_div, ← e, Rat.div_def, Rat.mul_assoc, Rat.mul_inv_cancel _ hne, Rat.mul_one]
  rw [e2]
  exact Fb.divInt (by have := pw_pos hp M; omega) (b.mono h2) ((pw_bd hp M).mono h1)
theorem Sz.mul {p : Int} (hp : Pr p) {M N B C : Nat} {r s : Rat} (h : Sz p M B r) (h' : Sz p N C s) : Sz p (M + N) (B + C) (r * s) := by
  obtain ⟨m, e, b⟩ := h
  obtain ⟨m', e', b'⟩ := h'
  refine ⟨m * m', ?_, b.mul b'⟩
  have : ppw p ((M + N : Nat) : Int) = ppw p (M : Int) * ppw p (N : Int) := by rw [← ppw_add hp]; congr 1
  rw [this]
  push_cast
  grind
theorem Sz.add {p : Int} {M B : Nat} {r s : Rat} (h : Sz p M B r) (h' : Sz p M B s) : Sz p M (B + 1) (r + s) := by
  obtain ⟨m, e, b⟩ := h
  obtain ⟨m', e', b'⟩ := h'
  refine ⟨m + m', ?_, (b.add b').mono (by omega)⟩
  push_cast
  grind
theorem Sz.neg {p : Int} {M B : Nat} {r : Rat} (h : Sz p M B r) : Sz p M B (-r) := by
  obtain ⟨m, e, b⟩ := h
  refine ⟨-m, ?_, b.neg⟩
  push_cast
  grind
theorem Sz.sub {p : Int} {M B : Nat} {r s : Rat} (h : Sz p M B r) (h' : Sz p M B s) : Sz p M (B + 1) (r - s) := by rw [Rat.sub_eq_add_neg]; exact h.add h'.neg
theorem Sz.ppw {p : Int} (hp : Pr p) {k : Int} {M : Nat} (h0 : -(M : Int) ≤ k) {B : Nat} (h1 : 3 * (k + M) + 1 ≤ B) : Sz p M B (ppw p k) := by
  refine ⟨p ^ (k + M).toNat, ?_, (pw_bd hp _).mono (by omega)⟩
  rw [← ppw_add hp, ← ppw_nat]
  congr 1
  omega
theorem Sz.zero {p : Int} (M B : Nat) : Sz p M B 0 := ⟨0, by simp, by unfold Bd; exact Nat.pow_pos (by decide)⟩
theorem Sz.one {p : Int} (hp : Pr p) (M : Nat) : Sz p M (3 * M + 1) 1 := by
  have := Sz.ppw hp (k := 0) (M := M) (by omega) (B := 3 * M + 1) (by omega)
  rwa [ppw_zero] at this
theorem Sz.mono {p : Int} {M B C : Nat} {r : Rat} (h : Sz p M B r) (l : B ≤ C) : Sz p M C r := by
  obtain ⟨m, e, b⟩ := h
  exact ⟨m, e, b.mono l⟩
/-- a spot of no great size -/
structure Sp (p : Int) (k : Int) (q : Rat) : Prop where
  k0 : -310 ≤ k
  k1 : k ≤ 310
  q : Sz p 310 1862 q
theorem Sp.tab {p : Int} (hp : Pr p) {k : Int} {q : Rat} (h : Sp p k q) : MOk (tabS p k q) ∧ (tabS p k q).det ≠ 0 ∧ Fb 4400 (tabS p k q).det := by
  have hk := h.k0
  have hk1 := h.k1
  have a : Fb 4400 (ppw p k) := (Sz.ppw hp (M := 310) (k := k) (by omega) (B := 1862) (by omega)).fb hp (by decide) (by decide)
  have b : Fb 4400 q := h.q.fb hp (by decide) (by decide)
  have z : Fb 4400 0 := fb_zero.mono (by decide)
  have o : Fb 4400 1 := fb_one.mono (by decide)
  refine ⟨⟨⟨a, b, z, o⟩, ?_, ?_⟩, ?_, ?_⟩
  · show Fb 4400 (ppw p k * 1); rw [Rat.mul_one]; exact a
  · show Fb 4400 (q * 0); rw [Rat.mul_zero]; exact z
  · rw [tabS_det]; exact ppw_ne hp k
  · rw [tabS_det]; exact a
theorem Sp.pok {p : Int} (hp : Pr p) {k1 k2 : Int} {q1 q2 : Rat} (h1 : Sp p k1 q1) (h2 : Sp p k2 q2) : POk (tabS p k1 q1).inv (tabS p k2 q2) := by
  have ha := h1.k0; have hb := h1.k1; have hc := h2.k0; have hd := h2.k1
  rw [tabS_inv hp]
  have i1 := Sz.ppw hp (M := 310) (k := -k1) (by omega) (B := 1862) (by omega)
  have p2 := Sz.ppw hp (M := 310) (k := k2) (by omega) (B := 1862) (by omega)
  have f : ∀ {r : Rat}, Sz p 310 1862 r → Fb 4400 r := fun h => h.fb hp (by decide) (by decide)
  have g : ∀ {r : Rat}, Sz p 620 3724 r → Fb 4400 r := fun h => h.fb hp (by decide) (by decide)
  have z : Fb 4400 0 := fb_zero.mono (by decide)
  have o : Fb 4400 1 := fb_one.mono (by decide)
  have b1 : Fb 4400 (-q1 * ppw p (-k1)) := g (h1.q.neg.mul hp i1)
  refine ⟨⟨f i1, b1, z, o⟩, ⟨f p2, f h2.q, z, o⟩, g (i1.mul hp p2), ?_, g (i1.mul hp h2.q), ?_, ?_, ?_, ?_, ?_⟩
  · show Fb 4400 (-q1 * ppw p (-k1) * 0); rw [Rat.mul_zero]; exact z
  · show Fb 4400 (-q1 * ppw p (-k1) * 1); rw [Rat.mul_one]; exact b1
  · show Fb 4400 (0 * ppw p k2); rw [Rat.zero_mul]; exact z
  · show Fb 4400 (1 * 0); rw [Rat.mul_zero]; exact z
  · show Fb 4400 (0 * q2); rw [Rat.zero_mul]; exact z
  · show Fb 4400 (1 * 1); rw [Rat.mul_one]; exact o
theorem Sp.mok {p : Int} (hp : Pr p) {k1 k2 : Int} {q1 q2 : Rat} (h1 : Sp p k1 q1) (h2 : Sp p k2 q2) : MOk ⟨ppw p (k2 - k1), (q2 - q1) * ppw p (-k1), 0, 1⟩ := by
  have ha := h1.k0; have hb := h1.k1; have hc := h2.k0; have hd := h2.k1
  have i1 := Sz.ppw hp (M := 310) (k := -k1) (by omega) (B := 1862) (by omega)
  have a : Fb 4400 (ppw p (k2 - k1)) := (Sz.ppw hp (M := 620) (k := k2 - k1) (by omega) (B := 3724) (by omega)).fb hp (by decide) (by decide)
  have b : Fb 4400 ((q2 - q1) * ppw p (-k1)) := ((h2.q.sub h1.q).mul hp i1).fb hp (by decide) (by decide)
  have z : Fb 4400 0 := fb_zero.mono (by decide)
  have o : Fb 4400 1 := fb_one.mono (by decide)
  refine ⟨⟨a, b, z, o⟩, ?_, ?_⟩
  · show Fb 4400 (ppw p (k2 - k1) * 1); rw [Rat.mul_one]; exact a
  · show Fb 4400 ((q2 - q1) * ppw p (-k1) * 0); rw [Rat.mul_zero]; exact z
theorem two_det {p : Int} (k1 k2 : Int) (q1 q2 : Rat) : Tb.det ⟨ppw p (k2 - k1), (q2 - q1) * ppw p (-k1), 0, 1⟩ = ppw p (k2 - k1) := by unfold Tb.det; simp only []; grind
def R_least (ds : List D) (d : D) : Prop := ∃ (p : Int) (rs : List Rat), ds = [.int p, .tup (rs.map frD)] ∧ Pr p ∧ rs.length ≤ 10 ∧ (∃ r ∈ rs, r ≠ 0) ∧ d = .int (leastV p rs)
def R_two (ds : List D) (d : D) : Prop := ∃ (p : Int) (t : Tb) (v : Int), ds = [.int p, tbD t] ∧ Pr p ∧ MOk t ∧ vq p t.det = some v ∧ d = .tup [.int (leastV p [t.a, t.b, t.c, t.d]), .int (v - leastV p [t.a, t.b, t.c, t.d])]
def R_tabat (ds : List D) (d : D) : Prop := ∃ (p k : Int) (q : Rat), ds = [.int p, spotD k q] ∧ Pr p ∧ -1000000 ≤ k ∧ k ≤ 1000000 ∧ d = tbD (tabS p k q)
def R_lies (ds : List D) (d : D) : Prop := ∃ (p k1 : Int) (q1 : Rat) (k2 : Int) (q2 : Rat), ds = [.int p, spotD k1 q1, spotD k2 q2] ∧ Pr p ∧ Sp p k1 q1 ∧ Sp p k2 q2 ∧ d = .tup [.int (lowS p k1 q1 k2 q2), .int (k2 - k1 - lowS p k1 q1 k2 q2)]
def wayS (p k1 : Int) (q1 : Rat) (k2 : Int) (q2 : Rat) : Int := k2 - k1 - lowS p k1 q1 k2 q2 - lowS p k1 q1 k2 q2
def R_way (ds : List D) (d : D) : Prop := ∃ (p k1 : Int) (q1 : Rat) (k2 : Int) (q2 : Rat), ds = [.int p, spotD k1 q1, spotD k2 q2] ∧ Pr p ∧ Sp p k1 q1 ∧ Sp p k2 q2 ∧ d = .int (wayS p k1 q1 k2 q2)
theorem det_of {t : Tb} {p v : Int} (h : vq p t.det = some v) : ∃ r ∈ [t.a, t.b, t.c, t.d], r ≠ 0 := by
  by_cases ha : t.a = 0
  · by_cases hb : t.b = 0
    · exfalso
      have : t.det = 0 := by unfold Tb.det; rw [ha, hb]; grind
      rw [vq_none.mpr this] at h; cases h
    · exact ⟨t.b, by simp, hb⟩
  · exact ⟨t.a, by simp, ha⟩
theorem vq_symm {p : Int} (hp : Pr p) (a b : Rat) : vq p (a - b) = vq p (b - a) := by
  rw [← vq_neg hp]; congr 1; grind
theorem low_self (p k : Int) (q : Rat) : lowS p k q k q = 0 := by
  unfold lowS
  rw [vq_none.mpr (by grind)]
  show min 0 (k - k) = 0
  omega
def cellOf (ns : List Int) (k : Int) : Int := if k < (ns.length : Int) then ns.getD k.toNat 0 % 10 ^ 60 else 0
def drawn (ns : List Int) (k : Int) : Int := if 0 < (ns.length : Int) ∧ ns.getD 0 0 % 2 = 1 then cellOf ns k / (1 + if k = 0 then 1 else 0)
  else cellOf ns k * 2147483629 + (cellOf ns k + 7919 * k + 13) * 48271 % 2147483647 * 69621 % 2147483629
def R_drawn (ds : List D) (d : D) : Prop := ∃ (ns : List Int) (k : Int), ds = [.lst (ns.map D.int), .int k] ∧ ns.length ≤ 63 ∧ 0 ≤ k ∧ k < 1000 ∧ d = .int (drawn ns k)
theorem cell_at {ns : List Int} {k : Int} (h0 : 0 ≤ k) (h : k < (ns.length : Int)) : atI (ns.map D.int) k = some (.int (ns.getD k.toNat 0)) := by
  have hk : k.toNat < ns.length := by omega
  have ek : k = ((k.toNat : Nat) : Int) := by omega
  have q : atI (ns.map D.int) ((k.toNat : Nat) : Int) = some (.int (ns.getD k.toNat 0)) := atI_nat (by
    rw [List.getElem?_map, List.getElem?_eq_getElem hk]
    simp [hk])
  rw [← ek] at q
  exact q
theorem cell_bd (ns : List Int) (k : Int) : 0 ≤ cellOf ns k ∧ cellOf ns k < 10 ^ 60 := by
  unfold cellOf
  split
  · exact ⟨Int.emod_nonneg _ (by decide), Int.emod_lt_of_pos _ (by decide)⟩
  · exact ⟨Int.le_refl 0, by decide⟩
def enD : Option Rat → D
  | none => .str "far"
  | some q => frD q
theorem fa_sh : SeqAt.shaped (toPy (.str "far")) = true := by decide +kernel
theorem en_sh (e : Option Rat) : SeqAt.shaped (toPy (enD e)) = true := by
  cases e with
  | none => exact fa_sh
  | some q => rfl
theorem en_far (e : Option Rat) : eqD (enD e) (.str "far") = decide (e = none) := by
  cases e with
  | none => exact (by decide +kernel : eqD (.str "far") (.str "far") = true)
  | some q =>
    have h : eqD (frD q) (.str "far") = false := rfl
    show eqD (frD q) (.str "far") = _
    rw [h]
    simp
theorem en_self (e : Option Rat) : eqD (enD e) (enD e) = true := by
  cases e with
  | none => exact (by decide +kernel : eqD (.str "far") (.str "far") = true)
  | some q =>
    show eqD (frD q) (frD q) = true
    rw [eqD_fq]
    simp
def ovf (u l : Rat) : Option Rat := if l = 0 then none else some (u * l⁻¹)
def ledQ (t : Tb) : Option Rat → Option Rat
  | none => ovf t.a t.c
  | some x => ovf (t.a * x + t.b) (t.c * x + t.d)
def EFb (n : Nat) (e : Option Rat) : Prop := ∀ x, e = some x → Fb n x
def R_ovf (ds : List D) (d : D) : Prop := ∃ u l : Rat, ds = [frD u, frD l] ∧ Fb 4400 u ∧ Fb 4400 l ∧ d = enD (ovf u l)
def R_led (ds : List D) (d : D) : Prop := ∃ (t : Tb) (e : Option Rat) (m n : Nat), ds = [tbD t, enD e] ∧ Tbb m t ∧ EFb n e ∧ 2 * m + n + 1 ≤ 4400 ∧ d = enD (ledQ t e)
def smT (n : Int) : Int := n % 41 - 20
def smW (n : Int) : Int := n / 500 % 13 - 6
def smB (n : Int) : Int := 1 + n / 41 % 12
def smq (p n : Int) : Rat := if smW n < 0 then Rat.divInt (smT n) (smB n * p ^ (-smW n).toNat) else Rat.divInt (smT n * p ^ (smW n).toNat) (smB n)
theorem smT_bd (n : Int) : Bd 5 (smT n) := Bd.of 25 (by unfold smT; omega) (by unfold smT; omega) (by decide)
theorem smW_bd (n : Int) : -6 ≤ smW n ∧ smW n ≤ 6 := by unfold smW; omega
theorem smB_bd (n : Int) : 1 ≤ smB n ∧ smB n ≤ 12 := by unfold smB; omega
theorem smq_bd {p : Int} (hp : Pr p) (n : Int) : Fb 40 (smq p n) := by
  have t := smT_bd n
  have w := smW_bd n
  have b := smB_bd n
  have b' : Bd 4 (smB n) := Bd.of 13 (by omega) (by omega) (by decide)
  unfold smq
  split
  · have q := (pw_bd hp (-smW n).toNat).mono (show 3 * (-smW n).toNat + 1 ≤ 19 by omega)
    have pp := pw_pos hp (-smW n).toNat
    exact Fb.divInt (Int.mul_ne_zero (by omega) (by omega)) (t.mono (by decide)) ((b'.mul q).mono (by decide))
  · have q := (pw_bd hp (smW n).toNat).mono (show 3 * (smW n).toNat + 1 ≤ 19 by omega)
    exact Fb.divInt (by omega) ((t.mul q).mono (by decide)) (b'.mono (by decide))
def R_small (ds : List D) (d : D) : Prop := ∃ p n : Int, ds = [.int p, .int n] ∧ Pr p ∧ d = frD (smq p n)
def tabE (p n : Int) (a b c d : Rat) : Tb := if a * d = b * (if n % 7 = 1 then 0 else c) then ⟨1, b, 0, (p : Rat)⟩ else ⟨a, b, if n % 7 = 1 then 0 else c, d⟩
def R_tabE (ds : List D) (d : D) : Prop := ∃ (p : Int) (ns : List Int) (k : Int), ds = [.int p, .lst (ns.map D.int), .int k] ∧ Pr p ∧ ns.length ≤ 63 ∧ 0 ≤ k ∧ k < 900 ∧
  d = tbD (tabE p (drawn ns k) (smq p (drawn ns (k + (0 + ((0 : Nat) : Int) * 1)))) (smq p (drawn ns (k + (0 + ((1 : Nat) : Int) * 1)))) (smq p (drawn ns (k + (0 + ((2 : Nat) : Int) * 1)))) (smq p (drawn ns (k + (0 + ((3 : Nat) : Int) * 1)))))
abbrev spE (k : Int) (q : Rat) : D := .tup [.int k, frD q]
/-- figure by figure: what is told so far, and what is left -/
def figR (p B c A : Int) : Nat → Int × Int
  | 0 => (0, A)
  | m + 1 => ((figR p B c A m).1 + (figR p B c A m).2 * c % p * p ^ m, ((figR p B c A m).2 - (figR p B c A m).2 * c % p * B) / p)
theorem figR_is {p B c : Int} (hp : Pr p) (hc : B * c % p = 1) (A : Int) : ∀ m : Nat, A = (figR p B c A m).1 * B + (figR p B c A m).2 * p ^ m ∧ 0 ≤ (figR p B c A m).1 ∧ (figR p B c A m).1 < p ^ m
  | 0 => by simp [figR]
  | m + 1 => by
    obtain ⟨h1, h2, h3⟩ := figR_is hp hc A m
    have p2 := hp.two_le
    show A = ((figR p B c A m).1 + (figR p B c A m).2 * c % p * p ^ m) * B + ((figR p B c A m).2 - (figR p B c A m).2 * c % p * B) / p * p ^ (m + 1) ∧ 0 ≤ (figR p B c A m).1 + (figR p B c A m).2 * c % p * p ^ m ∧ (figR p B c A m).1 + (figR p B c A m).2 * c % p * p ^ m < p ^ (m + 1)
    generalize (figR p B c A m).1 = w at *
    generalize (figR p B c A m).2 = t at *
    have f0 := Int.emod_nonneg (t * c) (show p ≠ 0 by omega)
    have f1 := Int.emod_lt_of_pos (t * c) (show 0 < p by omega)
    have pm := pw_pos hp m
    have dv : p ∣ t - t * c % p * B := by
      have e1 : t - t * c % p * B = -(t * (B * c - 1)) + p * (t * c / p * B) := by rw [Int.emod_def]; grind
      have e2 : p ∣ B * c - 1 := ⟨B * c / p, by have := Int.mul_ediv_add_emod (B * c) p; omega⟩
      rw [e1]
      exact Int.dvd_add (Int.dvd_neg.mpr (Int.dvd_mul_of_dvd_right e2)) (Int.dvd_mul_right _ _)
    obtain ⟨s, hs⟩ := dv
    have es : (t - t * c % p * B) / p = s := by rw [hs]; exact Int.mul_ediv_cancel_left s (by omega)
    rw [es]
    generalize t * c % p = f at *
    refine ⟨?_, ?_, ?_⟩
    · rw [Int.pow_succ]
      have : t = f * B + p * s := by omega
      rw [h1, this]
      grind
    · have := Int.mul_nonneg f0 (Int.le_of_lt pm); omega
    · rw [Int.pow_succ]
      have : f * p ^ m ≤ (p - 1) * p ^ m := Int.mul_le_mul_of_nonneg_right (by omega) (Int.le_of_lt pm)
      have e : (p - 1) * p ^ m = p ^ m * p - p ^ m := by grind
      omega
theorem rest_of {p : Int} (hp : Pr p) (k : Int) (a : Rat) {W : Int} (h : 0 < k + (vp p a.den : Int)) (w0 : 0 ≤ W) (w1 : W < p ^ (k + (vp p a.den : Int)).toNat) (dw : p ^ (k + (vp p a.den : Int)).toNat ∣ a.num - W * ((a.den : Int) / p ^ vp p a.den)) : Rat.divInt W (p ^ vp p a.den) = restQ p k a := by
  have ri := rest_is hp k a
  obtain ⟨d, hd, dp⟩ := vp_ex hp (den_ne a)
  have s := rat_split a
  generalize vp p a.den = e at *
  have pe := pw_pos hp e
  have hdiv : (a.den : Int) / p ^ e = d := by rw [hd]; exact Int.mul_ediv_cancel_left d (by omega)
  have hd' : (a.den : Rat) = ppw p (e : Int) * (d : Rat) := by
    rw [ppw_nat]
    have : ((a.den : Int) : Rat) = ((p ^ e * d : Int) : Rat) := by rw [← hd]
    push_cast at this ⊢
    exact this
  rw [hd'] at s
  have pne := ppw_ne hp (e : Int)
  obtain ⟨K, hK⟩ : ∃ K : Nat, k + (e : Int) = (K : Int) := ⟨(k + e).toNat, by omega⟩
  rw [hdiv] at dw
  rw [hK, Int.toNat_natCast] at dw w1
  have hr : Rat.divInt W (p ^ e) * ppw p (e : Int) = (W : Rat) := by
    rw [Rat.divInt_eq_div, ppw_nat]
    refine Rat.div_mul_cancel ?_
    intro z
    have : p ^ e = 0 := by exact_mod_cast z
    omega
  generalize Rat.divInt W (p ^ e) = r at hr
  have pp := ppw_pos hp (e : Int)
  have dz : Dv p k (a - a) := by rw [show a - a = 0 by grind]; exact dv_zero p k hp
  refine rest_uniq hp ⟨pden_of hp hr, ?_, ?_, ?_⟩ ri dz
  · by_cases z : 0 ≤ r
    · exact z
    · exfalso
      have := mul_lt (Rat.not_le.mp z) pp
      rw [hr, Rat.zero_mul] at this
      have := rat_lt_int.mp (by simpa using this : (W : Rat) < ((0 : Int) : Rat))
      omega
  · by_cases z : r < ppw p k
    · exact z
    · exfalso
      have h1 : ppw p k * ppw p (e : Int) ≤ r * ppw p (e : Int) := Rat.mul_le_mul_of_nonneg_right (Rat.not_lt.mp z) (Rat.le_of_lt pp)
      rw [hr, ← ppw_add hp, hK, ppw_nat] at h1
      have := rat_le_int.mp h1
      omega
  · obtain ⟨t, ht⟩ := dw
    refine ⟨t, d, dp, ?_⟩
    have e1 : ppw p (e : Int) * ppw p k = ((p ^ K : Int) : Rat) := by rw [← ppw_add hp, show (e : Int) + k = (K : Int) by omega, ppw_nat]
    have e2 : (a.num : Rat) - (W : Rat) * (d : Rat) = ((p ^ K : Int) : Rat) * (t : Rat) := by exact_mod_cast ht
    grind
theorem den_part {p : Int} (hp : Pr p) (a : Rat) : ¬ (a.den : Int) / p ^ vp p a.den % p = 0 := by
  obtain ⟨d, hd, dp⟩ := vp_ex hp (den_ne a)
  generalize vp p a.den = e at *
  have pe := pw_pos hp e
  have hdiv : (a.den : Int) / p ^ e = d := by rw [hd]; exact Int.mul_ediv_cancel_left d (by omega)
  rw [hdiv]
  exact dp
theorem fig_rest {p : Int} (hp : Pr p) (k : Int) (a : Rat) {c : Int} (hc : (a.den : Int) / p ^ vp p a.den * c % p = 1) :
    Rat.divInt (figR p ((a.den : Int) / p ^ vp p a.den) c a.num (k + (vp p a.den : Int)).toNat).1 (p ^ vp p a.den) = restQ p k a := by
  by_cases h : k + (vp p a.den : Int) ≤ 0
  · have e : (k + (vp p a.den : Int)).toNat = 0 := by omega
    rw [e]
    unfold restQ
    rw [if_pos h]
    exact Rat.zero_divInt _
  · have f := figR_is hp hc a.num (k + (vp p a.den : Int)).toNat
    refine rest_of hp k a (by omega) f.2.1 f.2.2 ⟨(figR p ((a.den : Int) / p ^ vp p a.den) c a.num (k + (vp p a.den : Int)).toNat).2, ?_⟩
    have := f.1
    grind
theorem by_list {p B : Int} (hp : Pr p) (hB : ¬ B % p = 0) : ∃ (c : Int) (l : List D), ((List.range (p - 1).toNat).map fun (m : Nat) => if B * (1 + (m : Int) * 1) % p = 1 then some (D.int (1 + (m : Int) * 1)) else none).filterMap id = D.int c :: l ∧ B * c % p = 1 ∧ 1 ≤ c ∧ c < p := by
  have p2 := hp.two_le
  obtain ⟨x, x1, x2, hx⟩ := inv_ex hp hB
  have mem : D.int x ∈ ((List.range (p - 1).toNat).map fun (m : Nat) => if B * (1 + (m : Int) * 1) % p = 1 then some (D.int (1 + (m : Int) * 1)) else none).filterMap id := by
    rw [List.mem_filterMap]
    refine ⟨some (D.int x), ?_, rfl⟩
    rw [List.mem_map]
    refine ⟨(x - 1).toNat, List.mem_range.mpr (by omega), ?_⟩
    rw [show (1 : Int) + (((x - 1).toNat : Nat) : Int) * 1 = x by omega, if_pos hx]
  have all : ∀ d ∈ ((List.range (p - 1).toNat).map fun (m : Nat) => if B * (1 + (m : Int) * 1) % p = 1 then some (D.int (1 + (m : Int) * 1)) else none).filterMap id, ∃ c : Int, d = D.int c ∧ B * c % p = 1 ∧ 1 ≤ c ∧ c < p := by
    intro d hd
    rw [List.mem_filterMap] at hd
    obtain ⟨o, ho, e⟩ := hd
    rw [List.mem_map] at ho
    obtain ⟨m, hm, e2⟩ := ho
    have hm := List.mem_range.mp hm
    have e : o = some d := e
    subst e
    split at e2
    · rename_i h
      cases e2
      exact ⟨_, rfl, h, by omega, by omega⟩
    · cases e2
  generalize ((List.range (p - 1).toNat).map fun (m : Nat) => if B * (1 + (m : Int) * 1) % p = 1 then some (D.int (1 + (m : Int) * 1)) else none).filterMap id = L at *
  cases L with
  | nil => cases mem
  | cons d l =>
    obtain ⟨c, rfl, h⟩ := all d (List.mem_cons_self ..)
    exact ⟨c, l, rfl, h⟩
/-- the next spot towards an end -/
noncomputable def nxt (p k : Int) (q : Rat) : Option Rat → Int × Rat
  | none => (k - 1, restQ p (k - 1) q)
  | some x => if alk p k x q = true then (k + 1, restQ p (k + 1) x) else (k - 1, restQ p (k - 1) q)
def R_next (ds : List D) (d : D) : Prop := ∃ (p k : Int) (q : Rat) (e : Option Rat), ds = [.int p, spE k q, enD e] ∧ Pr p ∧ -10000 ≤ k ∧ k ≤ 10000 ∧ Fb 4400 q ∧ EFb 4400 e ∧ d = spE (nxt p k q e).1 (nxt p k q e).2
def R_restE (ds : List D) (d : D) : Prop := ∃ (p k : Int) (a : Rat), ds = [.int p, .int k, frD a] ∧ Pr p ∧ -20000 ≤ k ∧ k ≤ 20000 ∧ Fb 4400 a ∧ d = frD (restQ p k a)
def R_aboveE (ds : List D) (d : D) : Prop := ∃ (p j : Int) (q : Rat) (k : Int), ds = [.int p, spE j q, .int k] ∧ Pr p ∧ Fb 4400 q ∧ -900000 ≤ k ∧ k ≤ 900000 ∧ d = spE k (restQ p k q)
def R_overE (ds : List D) (d : D) : Prop := ∃ (p t : Int) (e : Nat), ds = [.int p, .int t, .int (e : Int)] ∧ Pr p ∧ e ≤ 10000 ∧ d = frD (Rat.divInt t (p ^ e))
theorem low_coE {t b : Int} (hb : 0 < b) (hg : Int.gcd t b = 1) : D.tup [.int t, .int b] = frD (Rat.divInt t b) := by
  have l := low_num t (show b ≠ 0 by omega)
  rw [if_neg (by omega), hg] at l
  obtain ⟨l1, l2⟩ := l
  show D.tup [.int t, .int b] = D.tup [.int (Rat.divInt t b).num, .int ((Rat.divInt t b).den : Int)]
  rw [← l1, ← l2]
  simp
theorem co_pwE {p m : Int} (hp : Pr p) {f : Nat} (h : f = 0 ∨ ¬ m % p = 0) : Int.gcd m (p ^ f) = 1 := by
  rcases h with rfl | h
  · simp
  · have hpos : 0 < (Int.gcd m (p ^ f) : Int) := by
      have := Int.gcd_pos_of_ne_zero_right m (show p ^ f ≠ 0 by have := pw_pos hp f; omega)
      omega
    obtain ⟨j, hj⟩ := dvd_pw hp f (Int.gcd m (p ^ f) : Int) hpos (Int.gcd_dvd_right ..)
    cases j with
    | zero => rw [Int.pow_zero] at hj; omega
    | succ j =>
      have d1 : p ∣ (Int.gcd m (p ^ f) : Int) := by rw [hj, Int.pow_succ]; exact Int.dvd_mul_left ..
      exact absurd (Int.emod_eq_zero_of_dvd (Int.dvd_trans d1 (Int.gcd_dvd_left ..))) h
def eK (n : Int) : Int := if decide (n / 25 % 8 = 1) = true then n / 200 % 401 - 200 else n % 25 - 12
def eQ (p n m : Int) : Rat := if eK n + m % 11 ≤ 0 then 0 else Rat.divInt (m / 11 % (if p ^ (eK n + m % 11).toNat ≤ 10 ^ 40 then p ^ (eK n + m % 11).toNat else 10 ^ 40)) (p ^ (m % 11).toNat)
def R_spotE (ds : List D) (d : D) : Prop := ∃ p n m : Int, ds = [.int p, .int n, .int m] ∧ Pr p ∧ d = spE (eK n) (eQ p n m)
def end62 (p k : Int) (q : Rat) (s n : Int) : Option Rat := if s = 1 then none else if s = 2 then some q else if s = 3 then some (q + smq p n * ppw p (max (-12) (min k 12))) else some (numb p n)
theorem ppw_fbE {p : Int} (hp : Pr p) {k : Int} (n : Nat) (h0 : -(n : Int) ≤ k) (h1 : k ≤ n) : Fb (3 * n + 1) (ppw p k) := by
  by_cases h : 0 ≤ k
  · have q := ppw_nn (p := p) h
    refine ⟨?_, ?_⟩
    · rw [q.1]; exact (pw_bd hp _).mono (by omega)
    · rw [q.2]
      have : 1 < 2 ^ (3 * n + 1) := Nat.one_lt_two_pow (by omega)
      unfold Bd; simpa using this
  · have q := ppw_neg (p := p) (k := k) (by have := hp.two_le; omega) (by omega)
    refine ⟨?_, ?_⟩
    · rw [q.1]
      have : 1 < 2 ^ (3 * n + 1) := Nat.one_lt_two_pow (by omega)
      unfold Bd; simpa using this
    · rw [q.2]; exact (pw_bd hp _).mono (by omega)
theorem end62_bd {p : Int} (hp : Pr p) (k : Int) {q : Rat} (hq : Fb 140 q) (s n : Int) : EFb 220 (end62 p k q s n) := by
  intro x hx
  unfold end62 at hx
  split at hx
  · cases hx
  · split at hx
    · cases hx; exact hq.mono (by decide)
    · split at hx
      · cases hx
        exact (hq.add ((smq_bd hp n).mul (ppw_fbE hp 12 (by omega) (by omega)))).mono (by decide)
      · cases hx; exact (numb_bd hp n).mono (by decide)
def R_end62 (ds : List D) (d : D) : Prop := ∃ (p k : Int) (q : Rat) (s n : Int), ds = [.int p, spE k q, .int s, .int n] ∧ Pr p ∧ Fb 140 q ∧ d = enD (end62 p k q s n)
def R_isE (ds : List D) (d : D) : Prop := ∃ (k : Int) (q : Rat), ds = [spE k q, spE k q] ∧ d = .bl true
theorem eqD_spE (k1 k2 : Int) (q1 q2 : Rat) : eqD (spE k1 q1) (spE k2 q2) = decide ((k1, q1) = (k2, q2)) := by
  have e : eqD (spE k1 q1) (spE k2 q2) = ((k1 == k2) && (eqD (frD q1) (frD q2) && true)) := rfl
  rw [e, eqD_fq, Bool.eq_iff_iff]
  simp

theorem at_hd (d : D) (l : List D) : atI (d :: l) 0 = some d := by
  have h := atI_nat (xs := d :: l) (j := 0) (v := d) rfl
  exact h
theorem te_to {Y : Cy} {a : Expr} {c : List Slot} {v w : Bool} (h : TeD Y a c v) (e : v = w) : TeD Y a c w := e ▸ h
def mix60 (x k : Int) : Int := ((x % 2147483646 + 1) * 48271 % 2147483647 + k * k * 7919 + 1) * 69621 % 2147483647 * 48271 ^ 12 % 10 ^ 60
def num60 (ns : List Int) (k : Int) : Int := if k < (ns.length : Int) ∧ ns.getD 0 0 % 2 = 0 then cellOf ns k else mix60 (cellOf ns k) k
def R_num60 (ds : List D) (d : D) : Prop := ∃ (ns : List Int) (k : Int), ds = [.lst (ns.map D.int), .int k] ∧ ns.length ≤ 63 ∧ 0 ≤ k ∧ k < 1000 ∧ d = .int (num60 ns k)
/-- a spot: its fraction is its own rest, and not too long -/
structure Spt (p K k : Int) (q : Rat) : Prop where
  k0 : -K ≤ k
  k1 : k ≤ K
  nn : 0 ≤ q
  lt : q < ppw p k
  sc : ∃ m : Int, q * ppw p ((310 : Nat) : Int) = (m : Rat)
theorem Spt.mono {p K L k : Int} {q : Rat} (h : Spt p K k q) (l : K ≤ L) : Spt p L k q := ⟨by have := h.k0; omega, by have := h.k1; omega, h.nn, h.lt, h.sc⟩
theorem Spt.sz {p K k : Int} (hp : Pr p) {q : Rat} (h : Spt p K k q) (l : K ≤ 310) : Sz p 310 1862 q := by
  obtain ⟨m, e⟩ := h.sc
  refine ⟨m, e, ?_⟩
  have hk := h.k0
  have hk1 := h.k1
  have pp := ppw_pos hp ((310 : Nat) : Int)
  have m0 : (0 : Int) ≤ m := by
    have := Rat.mul_le_mul_of_nonneg_right h.nn (Rat.le_of_lt pp)
    rw [e, Rat.zero_mul] at this
    exact_mod_cast this
  have m1 : m < p ^ (k + 310).toNat := by
    have := mul_lt h.lt pp
    rw [e, ← ppw_add hp, show k + ((310 : Nat) : Int) = (((k + 310).toNat : Nat) : Int) by omega, ppw_nat] at this
    exact_mod_cast this
  exact Bd.of_le m0 (Int.le_of_lt m1) ((pw_bd hp _).mono (by omega))
theorem Spt.sp {p K k : Int} (hp : Pr p) {q : Rat} (h : Spt p K k q) (l : K ≤ 310) : Sp p k q := ⟨by have := h.k0; omega, by have := h.k1; omega, h.sz hp l⟩
theorem Spt.fb {p K k : Int} (hp : Pr p) {q : Rat} (h : Spt p K k q) (l : K ≤ 310) : Fb 1862 q := (h.sz hp l).fb hp (by decide) (by decide)
/-! spots as the laws draw them -/
def spK (M h n : Int) : Int := if n / 25 % 8 = 1 then n / 200 % M - h else n % 25 - 12
def spR (M n : Int) : Int := if n / 25 % 8 = 1 then n / 200 / M else n / 200
def spQ0 (p k r : Int) : Rat := if k + r % 5 ≤ 0 then 0 else Rat.divInt (r / 5 % (ppw p (k + r % 5)).num) (ppw p (r % 5)).num
/-! the whole part taken off -/
def wholeP (a f : Rat) : Int := a.num * (f.den : Int) / ((a.den : Int) * f.num)
def R_raisedQ (ds : List D) (d : D) : Prop := ∃ p k : Int, ds = [.int p, .int k] ∧ Pr p ∧ -1000 ≤ k ∧ k ≤ 1000 ∧ d = frD (ppw p k)
def R_lvq (ds : List D) (d : D) : Prop := ∃ (p : Int) (a : Rat) (v : Int), ds = [.int p, frD a] ∧ Pr p ∧ vq p a = some v ∧ d = .int v
def R_spotN (M h : Int) (ds : List D) (d : D) : Prop := ∃ p n : Int, ds = [.int p, .int n] ∧ Pr p ∧ d = spotD (spK M h n) (spQ0 p (spK M h n) (spR M n))
abbrev R_spot401 := R_spotN 401 200
abbrev R_spot601 := R_spotN 601 300
abbrev R_spot61 := R_spotN 61 30
theorem low_iff {p : Int} (hp : Pr p) (k1 k2 n : Int) (q1 q2 : Rat) : n ≤ lowS p k1 q1 k2 q2 + k1 ↔ n ≤ k1 ∧ n ≤ k2 ∧ Dv p n (q2 - q1) := by
  rw [vq_dv hp]
  unfold lowS
  cases vq p (q2 - q1) with
  | none => show n ≤ min 0 (k2 - k1) + k1 ↔ n ≤ k1 ∧ n ≤ k2 ∧ True; rw [and_true]; omega
  | some v => simp only []; omega
theorem Spt.dv {p K k : Int} (hp : Pr p) {q : Rat} (h : Spt p K k q) : Dv p (-310) q := by
  obtain ⟨m, e⟩ := h.sc
  have i := ppw_inv hp 310
  refine ⟨m, 1, by rcases hp with rfl | rfl | rfl | rfl <;> decide, ?_⟩
  rw [← e, Rat.mul_assoc, show ((310 : Nat) : Int) = 310 from rfl, Rat.mul_comm (ppw p 310), i]
  push_cast
  rfl
def nearK26 (k n : Int) : Int := k + n % 7 - 3
def nearQ26 (p k : Int) (q : Rat) (n : Int) : Rat := q + -((wholeP q (ppw p (nearK26 k n)) : Rat) * ppw p (nearK26 k n))
def R_near26 (ds : List D) (d : D) : Prop := ∃ (p k : Int) (q : Rat) (n : Int), ds = [.int p, spotD k q, .int n] ∧ Pr p ∧ Spt p 300 k q ∧ d = spotD (nearK26 k n) (nearQ26 p k q n)
def R_holds (ds : List D) (d : D) : Prop := ∃ (p k1 : Int) (q1 : Rat) (k2 : Int) (q2 : Rat) (k3 : Int) (q3 : Rat), ds = [.int p, spotD k1 q1, spotD k2 q2, spotD k3 q3] ∧ Pr p ∧ Spt p 300 k1 q1 ∧ Spt p 300 k2 q2 ∧ Spt p 300 k3 q3 ∧ d = .bl true
/-- the rest of a fraction whose bottom is a power of p -/
def lrest (p j : Int) (q : Rat) : Rat := if j + (vp p q.den : Int) ≤ 0 then 0 else Rat.divInt (q.num % p ^ (j + (vp p q.den : Int)).toNat) q.den
theorem den_vp {p : Int} (hp : Pr p) {q : Rat} (h : PDen p q) : (q.den : Int) = p ^ vp p q.den := by
  obtain ⟨n, e⟩ := h
  have p2 := hp.two_le
  have h1 : ¬ (1 : Int) % p = 0 := by rcases hp with rfl | rfl | rfl | rfl <;> decide
  have := vp_of hp h1 n
  rw [Int.mul_one] at this
  rw [e, this]
theorem lrest_is {p : Int} (hp : Pr p) (j : Int) {q : Rat} (h : PDen p q) : lrest p j q = restQ p j q := by
  have p2 := hp.two_le
  have hd := den_vp hp h
  have dn : (q.den : Rat) ≠ 0 := by
    have := den_ne q
    exact_mod_cast this
  have rs := rat_split q
  have hnn : ((q.den : Int) : Rat) = ppw p (vp p q.den : Int) := by rw [ppw_nat, ← hd]
  generalize hv : vp p q.den = v at *
  have one : ¬ (1 : Int) % p = 0 := by rcases hp with rfl | rfl | rfl | rfl <;> decide
  have key : IsRest p j q (lrest p j q) := by
    unfold lrest
    rw [hv]
    split
    · rename_i hle
      refine ⟨⟨0, by simp⟩, by decide, ppw_pos hp j, ?_⟩
      rw [Rat.sub_eq_add_neg, Rat.neg_zero, Rat.add_zero]
      refine ⟨q.num * p ^ (-(j + v)).toNat, 1, one, ?_⟩
      have e : ppw p j * ppw p (v : Int) = ppw p (j + v) := by rw [← ppw_add hp]
      have e2 : ((p ^ (-(j + (v : Int))).toNat : Int) : Rat) * ppw p (j + v) = 1 := by
        rw [← ppw_nat, ← ppw_add hp, show (((-(j + (v : Int))).toNat : Nat) : Int) + (j + v) = 0 by omega, ppw_zero]
      have hq : q * ppw p (v : Int) = (q.num : Rat) := by rw [← hnn]; exact_mod_cast rs
      have i1 := ppw_inv hp (v : Int)
      have c : ((q.num * p ^ (-(j + (v : Int))).toNat : Int) : Rat) = (q.num : Rat) * ((p ^ (-(j + (v : Int))).toNat : Int) : Rat) := by push_cast; rfl
      rw [c]
      have one' : ((1 : Int) : Rat) = 1 := rfl
      rw [one', ← hq]
      rw [← e] at e2
      grind
    · rename_i hgt
      have hn : (((j + (v : Int)).toNat : Nat) : Int) = j + v := by omega
      generalize (j + (v : Int)).toNat = n at *
      have pp := pw_pos hp n
      have m0 := Int.emod_nonneg q.num (show p ^ n ≠ 0 by omega)
      have m1 := Int.emod_lt_of_pos q.num pp
      have dm := Int.mul_ediv_add_emod q.num (p ^ n)
      have er : Rat.divInt (q.num % p ^ n) q.den * ((q.den : Int) : Rat) = ((q.num % p ^ n : Int) : Rat) := by
        rw [Rat.divInt_eq_div]
        have : (((q.den : Int)) : Rat) ≠ 0 := by exact_mod_cast den_ne q
        rw [Rat.div_mul_cancel this]
      generalize Rat.divInt (q.num % p ^ n) q.den = r at *
      rw [hnn] at er
      have vp0 := ppw_pos hp (v : Int)
      have jn : ppw p j * ppw p (v : Int) = ((p ^ n : Int) : Rat) := by rw [← ppw_add hp, ← hn, ppw_nat]
      refine ⟨pden_of hp (n := v) er, ?_, ?_, ?_⟩
      · have : (0 : Rat) * ppw p (v : Int) ≤ r * ppw p (v : Int) := by
          rw [er, Rat.zero_mul]; exact_mod_cast m0
        exact Rat.le_of_mul_le_mul_right this vp0
      · have : r * ppw p (v : Int) < ppw p j * ppw p (v : Int) := by
          rw [er, jn]; exact_mod_cast m1
        exact (Rat.mul_lt_mul_right vp0).mp this
      · refine ⟨q.num / p ^ n, 1, one, ?_⟩
        have hq : q * ppw p (v : Int) = (q.num : Rat) := by rw [← hnn]; exact_mod_cast rs
        have i1 := ppw_inv hp (v : Int)
        have dm' : (q.num : Rat) = ((p ^ n : Int) : Rat) * ((q.num / p ^ n : Int) : Rat) + ((q.num % p ^ n : Int) : Rat) := by exact_mod_cast dm.symm
        have one' : ((1 : Int) : Rat) = 1 := rfl
        rw [one']
        rw [← hq, ← er, ← jn] at dm'
        grind
  exact rest_uniq hp key (rest_is hp j q) (by rw [Rat.sub_self]; exact dv_zero p _ hp)
theorem rest_sc {p : Int} (hp : Pr p) (j : Int) {q : Rat} (h : ∃ m : Int, q * ppw p ((310 : Nat) : Int) = (m : Rat)) : ∃ m : Int, restQ p j q * ppw p ((310 : Nat) : Int) = (m : Rat) := by
  rw [← lrest_is hp j (by obtain ⟨m, e⟩ := h; exact pden_of hp e)]
  unfold lrest
  split
  · exact ⟨0, by simp⟩
  · obtain ⟨m, h⟩ := h
    have e : q.num * p ^ 310 = m * (q.den : Int) := by
      have s := rat_split q
      rw [ppw_nat] at h
      have q : (q.num : Rat) * ((p ^ 310 : Int) : Rat) = (m : Rat) * ((q.den : Int) : Rat) := by
        rw [← s, ← h]
        push_cast
        grind
      exact_mod_cast q
    have hc : Int.gcd (q.den : Int) q.num = 1 := by
      rw [Int.gcd_comm, Int.gcd_eq_natAbs_gcd_natAbs, Int.natAbs_natCast]; exact q.reduced
    have d : (q.den : Int) ∣ q.num * p ^ 310 := ⟨m, by rw [e, Int.mul_comm]⟩
    have d2 : (q.den : Int) ∣ p ^ 310 := by
      have g := Int.gcd_mul_right_right_of_gcd_eq_one (k := p ^ 310) hc
      have : (Int.gcd (q.den : Int) (q.num * p ^ 310) : Int) = (q.den : Int) := by
        rw [Int.gcd_eq_left (by omega) d]
      rw [g] at this
      have h3 := Int.gcd_dvd_right (q.den : Int) (p ^ 310)
      rw [this] at h3
      exact h3
    obtain ⟨z, hz⟩ := d2
    generalize q.num % p ^ (j + (vp p q.den : Int)).toNat = w
    refine ⟨w * z, ?_⟩
    have dn : (((q.den : Int)) : Rat) ≠ 0 := by exact_mod_cast den_ne q
    rw [ppw_nat, hz, Rat.divInt_eq_div]
    push_cast
    push_cast at dn
    rw [← Rat.mul_assoc, Rat.div_mul_cancel dn]
theorem Spt.up {p K k : Int} (hp : Pr p) {q : Rat} (h : Spt p K k q) : Spt p (K + 1) (k - 1) (restQ p (k - 1) q) := by
  have r := rest_is hp (k - 1) q
  exact ⟨by have := h.k0; omega, by have := h.k1; omega, r.nn, r.lt, rest_sc hp _ h.sc⟩
def downQ (p k : Int) (q : Rat) (c : Int) : Rat := q + (c : Rat) * ppw p k
theorem Spt.down {p K k c : Int} (hp : Pr p) {q : Rat} (h : Spt p K k q) (hK : K ≤ 309) (c0 : 0 ≤ c) (c1 : c < p) : Spt p (K + 1) (k + 1) (downQ p k q c) := by
  have a0 := h.k0
  have a1 := h.k1
  have pk := ppw_pos hp k
  unfold downQ
  have c0' : (0 : Rat) ≤ (c : Rat) := by exact_mod_cast c0
  have c1' : ((c + 1 : Int) : Rat) ≤ (p : Rat) := by exact_mod_cast (show c + 1 ≤ p by omega)
  refine ⟨by omega, by omega, ?_, ?_, ?_⟩
  · have := Rat.mul_nonneg c0' (Rat.le_of_lt pk)
    have := h.nn
    grind
  · have e : ppw p (k + 1) = ppw p k * (p : Rat) := by
      rw [ppw_add hp]
      congr 1
      have := ppw_nat p 1
      simpa using this
    have l := h.lt
    have m : ((c + 1 : Int) : Rat) * ppw p k ≤ (p : Rat) * ppw p k := Rat.mul_le_mul_of_nonneg_right c1' (Rat.le_of_lt pk)
    push_cast at m
    rw [e]
    grind
  · obtain ⟨m, e⟩ := h.sc
    refine ⟨m + c * p ^ (k + 310).toNat, ?_⟩
    have e2 : ppw p k * ppw p ((310 : Nat) : Int) = ((p ^ (k + 310).toNat : Int) : Rat) := by
      rw [← ppw_add hp, ← ppw_nat]
      congr 1
      omega
    have c2 : ((m + c * p ^ (k + 310).toNat : Int) : Rat) = (m : Rat) + (c : Rat) * ((p ^ (k + 310).toNat : Int) : Rat) := by push_cast; rfl
    rw [c2, ← e, ← e2]
    grind
/-! the level at which two spots part -/
def lvS (p k1 : Int) (q1 : Rat) (k2 : Int) (q2 : Rat) : Int := lowS p k1 q1 k2 q2 + k1
theorem way_lv (p k1 : Int) (q1 : Rat) (k2 : Int) (q2 : Rat) : k1 + k2 - 2 * lvS p k1 q1 k2 q2 = wayS p k1 q1 k2 q2 := by
  unfold wayS lvS
  omega
/-! drawn spots -/
def fK (n : Int) : Int := if n / 25 % 8 = 1 then n / 25 / 8 % 401 - 200 else n % 25 - 12
def fDeep (n : Int) : Int := max 0 (-(fK n)) + n / 25 / 3208 % 7
def fNum (n : Int) : Int := if n / 25 / 3208 / 7 < 2 ^ 61 then (if n / 25 / 3208 / 7 % 5 = 1 then n / 25 / 3208 / 7 / 5 % 9 else (n / 25 / 3208 / 7 + 1) * 1442695040888963407 ^ 12 + n / 25 / 3208 / 7) else n / 25 / 3208 / 7
def fQ (p n : Int) : Rat := Rat.divInt (fNum n % p ^ (fK n + fDeep n).toNat) (p ^ (fDeep n).toNat)
/-! near spots: some ways up, some ways down -/
noncomputable def upsN (p : Int) : Nat → Int × Rat → Int × Rat
  | 0, s => s
  | n + 1, s => ((upsN p n s).1 - 1, restQ p ((upsN p n s).1 - 1) (upsN p n s).2)
def dnsN (p : Int) : Nat → Int → Int × Rat → Int × Rat
  | 0, _, s => s
  | n + 1, c, s => ((dnsN p n c s).1 + 1, downQ p (dnsN p n c s).1 (dnsN p n c s).2 (c / p ^ n % p))
noncomputable def nearS (p : Int) (s : Int × Rat) (n : Int) : Int × Rat := dnsN p (n / 6 % 6).toNat (n / 36) (upsN p (n % 6).toNat s)
def fmix (x k : Int) : Int := (x % 2305843009213693951 + 7919 * k * k + 104729 * k + 17) * 1442695040888963407 % 2305843009213693951 * 1181783497276652981 % 2305843009213693921
def fcell (ns : List Int) (k : Int) : Int := if k < (ns.length : Int) then (if 0 < k ∧ ns.getD 0 0 % 2 = 1 then ((ns.getD k.toNat 0).natAbs : Int) else fmix (ns.getD k.toNat 0) k) else fmix 0 k
def R_fcell (ds : List D) (d : D) : Prop := ∃ (ns : List Int) (k : Int), ds = [.lst (ns.map D.int), .int k] ∧ ns.length ≤ 63 ∧ 0 ≤ k ∧ k < 1000 ∧ d = .int (fcell ns k)
def R_fpw (ds : List D) (d : D) : Prop := ∃ p n : Int, ds = [.int p, .int n] ∧ Pr p ∧ 0 ≤ n ∧ n ≤ 3000 ∧ d = .int (p ^ n.toNat)
def R_frest (ds : List D) (d : D) : Prop := ∃ (p j : Int) (q : Rat), ds = [.int p, .int j, frD q] ∧ Pr p ∧ PDen p q ∧ Fb 1862 q ∧ j ≤ 400 ∧ d = frD (restQ p j q)
def R_fup (ds : List D) (d : D) : Prop := ∃ (p k : Int) (q : Rat), ds = [.int p, spotD k q] ∧ Pr p ∧ Spt p 309 k q ∧ d = spotD (k - 1) (restQ p (k - 1) q)
def R_fdown (ds : List D) (d : D) : Prop := ∃ (p k : Int) (q : Rat) (c : Int), ds = [.int p, spotD k q, .int c] ∧ Pr p ∧ Spt p 309 k q ∧ 0 ≤ c ∧ c < p ∧ d = spotD (k + 1) (downQ p k q c)
def R_flevel (ds : List D) (d : D) : Prop := ∃ (p k1 : Int) (q1 : Rat) (k2 : Int) (q2 : Rat), ds = [.int p, spotD k1 q1, spotD k2 q2] ∧ Pr p ∧ Fb 4400 q1 ∧ Fb 4400 q2 ∧ d = .int (lvS p k1 q1 k2 q2)
def R_ffar (ds : List D) (d : D) : Prop := ∃ (p k1 : Int) (q1 : Rat) (k2 : Int) (q2 : Rat), ds = [.int p, spotD k1 q1, spotD k2 q2] ∧ Pr p ∧ Fb 4400 q1 ∧ Fb 4400 q2 ∧ d = .int (wayS p k1 q1 k2 q2)
def R_fspot (ds : List D) (d : D) : Prop := ∃ p n : Int, ds = [.int p, .int n] ∧ Pr p ∧ 0 ≤ n ∧ d = spotD (fK n) (fQ p n)
def R_fnear (ds : List D) (d : D) : Prop := ∃ (p : Int) (s : Int × Rat) (n : Int), ds = [.int p, spotD s.1 s.2, .int n] ∧ Pr p ∧ Spt p 290 s.1 s.2 ∧ d = spotD (nearS p s n).1 (nearS p s n).2
def R_tied (ds : List D) (d : D) : Prop := ∃ (p k1 : Int) (q1 : Rat) (k2 : Int) (q2 : Rat), ds = [.int p, spotD k1 q1, spotD k2 q2] ∧ Pr p ∧ Sp p k1 q1 ∧ Sp p k2 q2 ∧ d = .bl (decide (wayS p k1 q1 k2 q2 = 1))

def R_flow (ds : List D) (d : D) : Prop := ∃ t b : Int, ds = [.int t, .int b] ∧ 0 < b ∧ Bd 8900 b ∧ d = frD (Rat.divInt t b)


theorem lv_iff {p : Int} (hp : Pr p) (k1 k2 n : Int) (q1 q2 : Rat) : n ≤ lvS p k1 q1 k2 q2 ↔ n ≤ k1 ∧ n ≤ k2 ∧ Dv p n (q2 - q1) := low_iff hp k1 k2 n q1 q2
def wy (p : Int) (a b : Int × Rat) : Int := wayS p a.1 a.2 b.1 b.2
abbrev stD (s : Int × Rat) : D := spotD s.1 s.2
noncomputable def fourX (p n j : Int) (l : List (Int × Rat)) : Int × Rat :=
  if n % 4 = 0 then (fK (n / 4), fQ p (n / 4)) else if n % 32 = 1 then l.getD (n / 32 % j).toNat (0, 0) else nearS p (l.getD (n / 4 % j).toNat (0, 0)) (n / 12)
noncomputable def fourL (p : Int) (ns : List Int) (k : Int) : Nat → List (Int × Rat)
  | 0 => [(fK (fcell ns k), fQ p (fcell ns k))]
  | m + 1 => fourL p ns k m ++ [fourX p (fcell ns (k + ((m + 1 : Nat) : Int))) ((m + 1 : Nat) : Int) (fourL p ns k m)]
def R_four (ds : List D) (d : D) : Prop := ∃ (p : Int) (ns : List Int) (k : Int), ds = [.int p, .lst (ns.map D.int), .int k] ∧ Pr p ∧ ns.length ≤ 63 ∧ 0 ≤ k ∧ k < 900 ∧ d = .lst ((fourL p ns k 3).map stD)
def R_sums (ds : List D) (d : D) : Prop := ∃ (p : Int) (a b c e : Int × Rat), ds = [.int p, .lst [stD a, stD b, stD c, stD e]] ∧ Pr p ∧ Sp p a.1 a.2 ∧ Sp p b.1 b.2 ∧ Sp p c.1 c.2 ∧ Sp p e.1 e.2 ∧ d = .lst [.int (wy p a b + wy p c e), .int (wy p a c + wy p b e), .int (wy p a e + wy p b c)]
def R_above (ds : List D) (d : D) : Prop := ∃ (p j : Int) (q : Rat) (k : Int), ds = [.int p, spotD j q, .int k] ∧ Pr p ∧ Fb 4400 q ∧ -900000 ≤ k ∧ k ≤ 900000 ∧ d = spotD k (restQ p k q)
def R_turn (ds : List D) (d : D) : Prop := ∃ (p k1 : Int) (q1 : Rat) (k2 : Int) (q2 : Rat), ds = [.int p, spotD k1 q1, spotD k2 q2] ∧ Pr p ∧ Spt p 310 k1 q1 ∧ Spt p 310 k2 q2 ∧ d = spotD (lvS p k1 q1 k2 q2) (restQ p (lvS p k1 q1 k2 q2) q1)
/-- where the roads to two spots part -/
noncomputable def trn (p : Int) (a b : Int × Rat) : Int × Rat := (lvS p a.1 a.2 b.1 b.2, restQ p (lvS p a.1 a.2 b.1 b.2) a.2)
theorem lv_self {p : Int} (hp : Pr p) (k : Int) (q : Rat) : lvS p k q k q = k := by unfold lvS; rw [low_self]; omega
noncomputable def mtL (p : Int) (a b c : Int × Rat) : List (Int × Rat) := [trn p a b, trn p a c, trn p b c]
abbrev prS (s : Int × Rat) : Int × D := (s.1, frD s.2)
noncomputable def meetS (p : Int) (a b c : Int × Rat) : Int × Rat := (mtL p a b c).getD (argBest (bestP ((mtL p a b c).map prS)) 2) (0, 0)
def R_meeting (ds : List D) (d : D) : Prop := ∃ (p : Int) (a b c : Int × Rat), ds = [.int p, stD a, stD b, stD c] ∧ Pr p ∧ Spt p 310 a.1 a.2 ∧ Spt p 310 b.1 b.2 ∧ Spt p 310 c.1 c.2 ∧ d = stD (meetS p a b c)
def R_right45 (ds : List D) (d : D) : Prop := ∃ (p : Int) (a b c : Int × Rat), ds = [.int p, stD a, stD b, stD c] ∧ Pr p ∧ Spt p 310 a.1 a.2 ∧ Spt p 310 b.1 b.2 ∧ Spt p 310 c.1 c.2 ∧ d = .bl true
noncomputable def sp45x (p n : Int) (l : List (Int × Rat)) : Int × Rat :=
  if 250 < (((nearS p (l.getD (max 0 ((l.length : Int) - 1 - n % 3)).toNat (0, 0)) (n / 3)).1.natAbs : Nat) : Int) then l.getD 0 (0, 0) else nearS p (l.getD (max 0 ((l.length : Int) - 1 - n % 3)).toNat (0, 0)) (n / 3)
noncomputable def sp45 (p : Int) (ns : List Int) (s : Int × Rat) : Nat → List (Int × Rat)
  | 0 => [s]
  | m + 1 => sp45 p ns s m ++ [sp45x p (fcell ns (2 + (m : Int) * 1)) (sp45 p ns s m)]
theorem dv_mul {p j k : Int} (hp : Pr p) {r s : Rat} (h : Dv p j r) (h' : Dv p k s) : Dv p (j + k) (r * s) := by
  obtain ⟨u, w, hw, e⟩ := h
  obtain ⟨u', w', hw', e'⟩ := h'
  refine ⟨u * u', w * w', pr_mul hp hw hw', ?_⟩
  rw [ppw_add hp]
  push_cast
  grind
/-- a unit times a power -/
theorem vq_unit {p k u w : Int} (hp : Pr p) {r : Rat} (hu : ¬ u % p = 0) (hw : ¬ w % p = 0) (h : r * (w : Rat) = (u : Rat) * ppw p k) : vq p r = some k := by
  have w0 : (w : Rat) ≠ 0 := fun z => hw (by have : w = 0 := by exact_mod_cast z
                                             rw [this]; simp)
  have u0 : (u : Rat) ≠ 0 := fun z => hu (by have : u = 0 := by exact_mod_cast z
                                             rw [this]; simp)
  have pk := ppw_ne hp k
  refine (vq_iff hp).mpr ⟨fun z => ?_, fun j => ⟨fun hd => ?_, fun hj => dv_mono hp hj ⟨u, w, hw, h⟩⟩⟩
  · rw [z, Rat.zero_mul] at h
    exact (Rat.mul_eq_zero.mp h.symm).elim u0 pk
  · by_cases z : j ≤ k
    · exact z
    exfalso
    obtain ⟨u', w', hw', e'⟩ := dv_mono hp (show k + 1 ≤ j by omega) hd
    have e1 : ppw p (k + 1) = ppw p k * (p : Rat) := by
      rw [ppw_add hp]
      congr 1
      have := ppw_nat p 1
      simpa using this
    rw [e1] at e'
    have e2 : (u : Rat) * (w' : Rat) = (u' : Rat) * (w : Rat) * (p : Rat) := by grind
    have e3 : u * w' = u' * w * p := by exact_mod_cast e2
    exact pr_mul hp hu hw' (by rw [e3]; exact Int.mul_emod_left _ _)
theorem vq_split {p k : Int} (hp : Pr p) {r : Rat} (h : vq p r = some k) : ∃ u w : Int, ¬ u % p = 0 ∧ ¬ w % p = 0 ∧ r * (w : Rat) = (u : Rat) * ppw p k := by
  obtain ⟨h0, hk⟩ := (vq_iff hp).mp h
  obtain ⟨u, w, hw, e⟩ := (hk k).mpr (Int.le_refl _)
  refine ⟨u, w, fun z => ?_, hw, e⟩
  have e1 : ppw p (k + 1) = ppw p k * (p : Rat) := by
    rw [ppw_add hp]
    congr 1
    have := ppw_nat p 1
    simpa using this
  have p2 := hp.two_le
  have : Dv p (k + 1) r := ⟨u / p, w, hw, by
    have hu : u = u / p * p := by have := Int.emod_add_mul_ediv u p; rw [z, Int.zero_add, Int.mul_comm] at this; exact this.symm
    rw [e, e1]
    have hu' : (u : Rat) = ((u / p : Int) : Rat) * (p : Rat) := by exact_mod_cast hu
    rw [hu']
    grind⟩
  have := (hk (k + 1)).mp this
  omega
theorem vq_mul {p j k : Int} (hp : Pr p) {r s : Rat} (h : vq p r = some j) (h' : vq p s = some k) : vq p (r * s) = some (j + k) := by
  obtain ⟨u, w, hu, hw, e⟩ := vq_split hp h
  obtain ⟨u', w', hu', hw', e'⟩ := vq_split hp h'
  refine vq_unit hp (pr_mul hp hu hu') (pr_mul hp hw hw') ?_
  rw [ppw_add hp]
  push_cast
  grind
theorem vq_inv {p j : Int} (hp : Pr p) {r : Rat} (h : vq p r = some j) : vq p r⁻¹ = some (-j) := by
  obtain ⟨u, w, hu, hw, e⟩ := vq_split hp h
  have h0 := ((vq_iff hp).mp h).1
  have i := Rat.mul_inv_cancel _ h0
  have pi := ppw_inv hp j
  refine vq_unit hp hw hu ?_
  grind
theorem dv_of_vq {p k v : Int} (hp : Pr p) {r : Rat} (h : vq p r = some v) (hk : k ≤ v) : Dv p k r := by rw [vq_dv hp, h]; exact hk
/-- all four parts are whole by p to k -/
structure Dv4 (p k : Int) (t : Tb) : Prop where
  a : Dv p k t.a
  b : Dv p k t.b
  c : Dv p k t.c
  d : Dv p k t.d
/-- whole by p, with a measure of the power 0 -/
structure Glp (p : Int) (t : Tb) : Prop where
  w : Dv4 p 0 t
  d : vq p t.det = some 0
theorem Dv4.mul {p j k : Int} (hp : Pr p) {s t : Tb} (h : Dv4 p j s) (h' : Dv4 p k t) : Dv4 p (j + k) (s.mul t) :=
  ⟨dv_add hp (dv_mul hp h.a h'.a) (dv_mul hp h.b h'.c), dv_add hp (dv_mul hp h.a h'.b) (dv_mul hp h.b h'.d), dv_add hp (dv_mul hp h.c h'.a) (dv_mul hp h.d h'.c), dv_add hp (dv_mul hp h.c h'.b) (dv_mul hp h.d h'.d)⟩
theorem Glp.mul {p : Int} (hp : Pr p) {s t : Tb} (h : Glp p s) (h' : Glp p t) : Glp p (s.mul t) := ⟨h.w.mul hp h'.w, by rw [det_mul]; exact vq_mul hp h.d h'.d⟩
theorem Glp.ne {p : Int} (hp : Pr p) {t : Tb} (h : Glp p t) : t.det ≠ 0 := ((vq_iff hp).mp h.d).1
theorem Glp.inv {p : Int} (hp : Pr p) {t : Tb} (h : Glp p t) : Glp p t.inv := by
  have h0 := h.ne hp
  have i := vq_inv hp h.d
  have di := dv_of_vq hp i (show (0 : Int) ≤ -0 by decide)
  refine ⟨⟨?_, ?_, ?_, ?_⟩, ?_⟩
  · exact dv_mul hp h.w.d di
  · refine dv_mul hp (j := 0) (k := 0) (r := 0 - t.b) (s := t.det⁻¹) ?_ di; rw [Rat.sub_eq_add_neg, Rat.zero_add]; exact dv_neg h.w.b
  · refine dv_mul hp (j := 0) (k := 0) (r := 0 - t.c) (s := t.det⁻¹) ?_ di; rw [Rat.sub_eq_add_neg, Rat.zero_add]; exact dv_neg h.w.c
  · exact dv_mul hp h.w.a di
  · have e : t.inv.det * t.det = 1 := by
      rw [← det_mul, inv_mul h0]
      decide +kernel
    have e2 : t.inv.det = t.det⁻¹ := by
      have := Rat.mul_inv_cancel _ h0
      grind
    rw [e2]
    exact i
theorem eq_of_le_iff {a b : Int} (h : ∀ n, n ≤ a ↔ n ≤ b) : a = b := by
  have h1 := (h a).mp (Int.le_refl _)
  have h2 := (h b).mpr (Int.le_refl _)
  omega
/-- r is a whole number of at most m bits, divided by N -/
def Qn (N : Int) (m : Nat) (r : Rat) : Prop := ∃ x : Int, r * (N : Rat) = (x : Rat) ∧ Bd m x
theorem Qn.fb {N : Int} {m n k : Nat} {r : Rat} (hN : N ≠ 0) (hb : Bd n N) (h : Qn N m r) (h1 : m ≤ k) (h2 : n ≤ k) : Fb k r := by
  obtain ⟨x, e, b⟩ := h
  have hne : (N : Rat) ≠ 0 := fun z => hN (by exact_mod_cast z)
  have e2 : r = Rat.divInt x N := by rw [Rat.divInt_eq_div, ← e, Rat.div_def, Rat.mul_assoc, Rat.mul_inv_cancel _ hne, Rat.mul_one]
  rw [e2]
  exact Fb.divInt hN (b.mono h1) (hb.mono h2)
theorem Qn.mul {N M : Int} {m n : Nat} {r s : Rat} (h : Qn N m r) (h' : Qn M n s) : Qn (N * M) (m + n) (r * s) := by
  obtain ⟨x, e, b⟩ := h
  obtain ⟨y, f, c⟩ := h'
  refine ⟨x * y, ?_, b.mul c⟩
  push_cast
  grind
theorem Qn.add {N : Int} {m : Nat} {r s : Rat} (h : Qn N m r) (h' : Qn N m s) : Qn N (m + 1) (r + s) := by
  obtain ⟨x, e, b⟩ := h
  obtain ⟨y, f, c⟩ := h'
  refine ⟨x + y, ?_, (b.add c).mono (by omega)⟩
  push_cast
  grind
theorem Qn.mono {N : Int} {m n : Nat} {r : Rat} (h : Qn N m r) (l : m ≤ n) : Qn N n r := by
  obtain ⟨x, e, b⟩ := h
  exact ⟨x, e, b.mono l⟩
theorem Qn.neg {N : Int} {m : Nat} {r : Rat} (h : Qn N m r) : Qn N m (-r) := by
  obtain ⟨x, e, b⟩ := h
  refine ⟨-x, ?_, b.neg⟩
  push_cast
  grind
/-- whole numbers of at most m bits, all divided by one number of at most n bits -/
def Cb (m n : Nat) (t : Tb) : Prop := ∃ N : Int, N ≠ 0 ∧ Bd n N ∧ Qn N m t.a ∧ Qn N m t.b ∧ Qn N m t.c ∧ Qn N m t.d
theorem Cb.mono {m n m' n' : Nat} {t : Tb} (h : Cb m n t) (l : m ≤ m') (l' : n ≤ n') : Cb m' n' t := by
  obtain ⟨N, h0, hb, a, b, c, d⟩ := h
  exact ⟨N, h0, hb.mono l', a.mono l, b.mono l, c.mono l, d.mono l⟩
theorem Cb.mul {m n m' n' : Nat} {s t : Tb} (h : Cb m n s) (h' : Cb m' n' t) : Cb (m + m' + 1) (n + n') (s.mul t) := by
  obtain ⟨N, h0, hb, a, b, c, d⟩ := h
  obtain ⟨M, g0, gb, a', b', c', d'⟩ := h'
  exact ⟨N * M, Int.mul_ne_zero h0 g0, hb.mul gb, (a.mul a').add (b.mul c'), (a.mul b').add (b.mul d'), (c.mul a').add (d.mul c'), (c.mul b').add (d.mul d')⟩
theorem Cb.tbb {m n k : Nat} {t : Tb} (h : Cb m n t) (h1 : m ≤ k) (h2 : n ≤ k) : Tbb k t := by
  obtain ⟨N, h0, hb, a, b, c, d⟩ := h
  exact ⟨a.fb h0 hb h1 h2, b.fb h0 hb h1 h2, c.fb h0 hb h1 h2, d.fb h0 hb h1 h2⟩
theorem Cb.mok {m n : Nat} {t : Tb} (h : Cb m n t) (h1 : m + m ≤ 4400) (h2 : n + n ≤ 4400) : MOk t := by
  obtain ⟨N, h0, hb, a, b, c, d⟩ := id h
  have hn := Int.mul_ne_zero h0 h0
  exact ⟨h.tbb (by omega) (by omega), (a.mul d).fb hn (hb.mul hb) h1 h2, (b.mul c).fb hn (hb.mul hb) h1 h2⟩
theorem Cb.pok {m n m' n' : Nat} {s t : Tb} (h : Cb m n s) (h' : Cb m' n' t) (h1 : m + m' ≤ 4400) (h2 : n + n' ≤ 4400) : POk s t := by
  obtain ⟨N, h0, hb, a, b, c, d⟩ := id h
  obtain ⟨M, g0, gb, a', b', c', d'⟩ := id h'
  have hn := Int.mul_ne_zero h0 g0
  have f : ∀ {r : Rat}, Qn (N * M) (m + m') r → Fb 4400 r := fun q => q.fb hn (hb.mul gb) h1 h2
  exact ⟨h.tbb (by omega) (by omega), h'.tbb (by omega) (by omega), f (a.mul a'), f (b.mul c'), f (a.mul b'), f (b.mul d'), f (c.mul a'), f (d.mul c'), f (c.mul b'), f (d.mul d')⟩
theorem Cb.det {m n : Nat} {t : Tb} (h : Cb m n t) : Fb (max (m + m + 1) (n + n)) t.det := by
  obtain ⟨N, h0, hb, a, b, c, d⟩ := h
  have q := (a.mul d).add (b.mul c).neg
  have e : t.det = t.a * t.d + -(t.b * t.c) := Rat.sub_eq_add_neg _ _
  rw [e]
  exact q.fb (Int.mul_ne_zero h0 h0) (hb.mul hb) (Nat.le_max_left _ _) (Nat.le_max_right _ _)
theorem Cb.scale {m n m' : Nat} {N : Int} {t : Tb} {r : Rat} (h : Cb m n t) {n' : Nat} (h0 : N ≠ 0) (hb : Bd n' N) (hr : Qn N m' r) : Cb (m + m') (n + n') (t.scale r) := by
  obtain ⟨M, g0, gb, a, b, c, d⟩ := h
  exact ⟨M * N, Int.mul_ne_zero g0 h0, gb.mul hb, a.mul hr, b.mul hr, c.mul hr, d.mul hr⟩
theorem Qn.self {m : Nat} {r : Rat} (h : Fb m r) : Qn (r.den : Int) m r := ⟨r.num, by have := rat_split r; push_cast; exact this, h.1⟩
theorem Qn.zero (N : Int) (m : Nat) : Qn N m 0 := ⟨0, by simp, by unfold Bd; exact Nat.pow_pos (by decide)⟩
theorem Qn.one {N : Int} {m : Nat} (h : Bd m N) : Qn N m 1 := ⟨N, by simp, h⟩
def R_spotof (ds : List D) (d : D) : Prop := ∃ (p : Int) (t : Tb) (v : Int), ds = [.int p, tbD t] ∧ Pr p ∧ MOk t ∧ vq p t.det = some v ∧ -900000 ≤ v - 2 * leastV p [t.c, t.d] ∧ v - 2 * leastV p [t.c, t.d] ≤ 900000 ∧
  (vq p t.c = some (leastV p [t.c, t.d]) → Fb 4400 (t.a * t.c⁻¹)) ∧ (¬ vq p t.c = some (leastV p [t.c, t.d]) → t.d ≠ 0 ∧ Fb 4400 (t.b * t.d⁻¹)) ∧
  d = spotD (v - 2 * leastV p [t.c, t.d]) (if vq p t.c = some (leastV p [t.c, t.d]) then restQ p (v - 2 * leastV p [t.c, t.d]) (t.a * t.c⁻¹) else restQ p (v - 2 * leastV p [t.c, t.d]) (t.b * t.d⁻¹))
theorem Spt.rest {p K k : Int} (hp : Pr p) {q a : Rat} (h : Spt p K k q) (hd : Dv p k (a - q)) : restQ p k a = q := by
  obtain ⟨m, e⟩ := h.sc
  have z : Dv p k (q - q) := by rw [Rat.sub_self]; exact dv_zero p k hp
  have r2 : IsRest p k q q := ⟨pden_of hp e, h.nn, h.lt, z⟩
  exact rest_uniq hp (rest_is hp k a) r2 hd
/-! a table that is a spot's, times a firm one, times a fraction -/
/-- alike but for a firm table behind it and a number -/
def Sim (p : Int) (s t : Tb) : Prop := ∃ (u : Tb) (r : Rat) (j : Int), Glp p u ∧ vq p r = some j ∧ s = (t.mul u).scale r
theorem scale_inv (t : Tb) {r : Rat} (h : r ≠ 0) : (t.scale r).scale r⁻¹ = t := scale_scale (Rat.mul_inv_cancel _ h)
theorem scale2 (t : Tb) (q r : Rat) : (t.scale q).scale r = t.scale (q * r) := by
  unfold Tb.scale
  simp only [Tb.mk.injEq]
  refine ⟨?_, ?_, ?_, ?_⟩ <;> grind
theorem glp_one {p : Int} (hp : Pr p) : Glp p Tb.one := by
  have d1 : Dv p 0 1 := ⟨1, 1, by rcases hp with rfl | rfl | rfl | rfl <;> decide, by rw [ppw_zero]; simp⟩
  have e : Tb.one.det = 1 := by decide +kernel
  exact ⟨⟨d1, dv_zero p 0 hp, dv_zero p 0 hp, d1⟩, by rw [e]; exact vq_one hp⟩
theorem Sim.symm {p : Int} (hp : Pr p) {s t : Tb} (h : Sim p s t) : Sim p t s := by
  obtain ⟨u, r, j, hu, hr, e⟩ := h
  have r0 := ((vq_iff hp).mp hr).1
  refine ⟨u.inv, r⁻¹, -j, hu.inv hp, vq_inv hp hr, ?_⟩
  rw [e, scale_mul, scale_inv _ r0, mul_assoc', mul_inv (hu.ne hp), mul_one']
theorem Sim.trans {p : Int} (hp : Pr p) {s t w : Tb} (h : Sim p s t) (h' : Sim p t w) : Sim p s w := by
  obtain ⟨u, r, j, hu, hr, e⟩ := h
  obtain ⟨u', r', j', hu', hr', e'⟩ := h'
  refine ⟨u'.mul u, r' * r, j' + j, hu'.mul hp hu, vq_mul hp hr' hr, ?_⟩
  rw [e, e', scale_mul, scale2, mul_assoc']
/-- a spot's fraction is its own rest -/
def Own (p k : Int) (q : Rat) : Prop := IsRest p k q q
theorem own_rest {p : Int} (hp : Pr p) (k : Int) (a : Rat) : Own p k (restQ p k a) := by
  have r := rest_is hp k a
  refine ⟨r.den, r.nn, r.lt, ?_⟩
  rw [Rat.sub_self]
  exact dv_zero p k hp
/-- the spot of a table -/
noncomputable def spotS (p : Int) (t : Tb) : Int × Rat := ((vq p t.det).getD 0 - 2 * leastV p [t.c, t.d], if vq p t.c = some (leastV p [t.c, t.d]) then restQ p ((vq p t.det).getD 0 - 2 * leastV p [t.c, t.d]) (t.a * t.c⁻¹) else restQ p ((vq p t.det).getD 0 - 2 * leastV p [t.c, t.d]) (t.b * t.d⁻¹))
/-- M's column by f, towards an end: μ times (x, 1), or μ times (1, 0) -/
def ToE (n : Tb) (μ : Rat) : Option Rat → Prop
  | none => n.a = μ ∧ n.c = 0
  | some x => n.a = μ * x ∧ n.c = μ
def Tb.dg (p : Int) : Tb := ⟨1, 0, 0, (p : Rat)⟩
/-- t is the next towards e from m -/
def To (p : Int) (m : Tb) (e : Option Rat) (t : Tb) : Prop := ∃ (f : Tb) (μ : Rat), Glp p f ∧ μ ≠ 0 ∧ ToE (m.mul f) μ e ∧ Sim p ((m.mul f).mul (Tb.dg p)) t
theorem ppw_one (p : Int) : ppw p 1 = (p : Rat) := by have := ppw_nat p 1; simpa using this
theorem dv_w {p : Int} (hp : Pr p) {k : Int} {r : Rat} (h : Dv p k r) : Dv p 0 (r * ppw p (-k)) := by rw [dv_ppw hp]; rwa [show 0 - -k = k by omega]
theorem dv_one0 {p : Int} (hp : Pr p) : Dv p 0 1 := dv_of_vq hp (vq_one hp) (Int.le_refl 0)
theorem To.low {p : Int} (hp : Pr p) (k : Int) (q : Rat) {e : Option Rat} (h : ∀ x, e = some x → ¬ Dv p k (x - q)) : To p (tabS p k q) e (tabS p (k - 1) (restQ p (k - 1) q)) := by
  have rd := (rest_is hp (k - 1) q).dv
  generalize restQ p (k - 1) q = r at rd
  have p1 := ppw_inv hp (k - 1)
  have p2 : ppw p k = ppw p (k - 1) * (p : Rat) := by rw [← ppw_one, ← ppw_add hp]; congr 1; omega
  have wq := dv_w hp rd
  have pv : vq p (p : Rat) = some 1 := by rw [← ppw_one]; exact vq_ppw hp
  cases e with
  | none =>
    refine ⟨Tb.one, ppw p k, glp_one hp, ppw_ne hp k, ⟨?_, ?_⟩, ⟨⟨1, (q - r) * ppw p (-(k - 1)), 0, 1⟩, (p : Rat), 1, ⟨⟨dv_one0 hp, wq, dv_zero p 0 hp, dv_one0 hp⟩, ?_⟩, pv, ?_⟩⟩
    · rw [mul_one']; rfl
    · rw [mul_one']; rfl
    · have e2 : (Tb.mk 1 ((q - r) * ppw p (-(k - 1))) 0 1).det = 1 := by unfold Tb.det; simp only []; grind
      rw [e2]; exact vq_one hp
    · rw [mul_one']
      unfold tabS Tb.dg Tb.mul Tb.scale
      simp only [Tb.mk.injEq]
      refine ⟨?_, ?_, ?_, ?_⟩ <;> grind
  | some x =>
    have hx := h x rfl
    obtain ⟨v, hv⟩ : ∃ v, vq p (x - q) = some v := by
      cases ev : vq p (x - q) with
      | none => exact absurd (by rw [vq_dv hp, ev]; trivial) hx
      | some v => exact ⟨v, rfl⟩
    have vk : v < k := by
      by_cases z : k ≤ v
      · exact absurd (dv_of_vq hp hv z) hx
      · omega
    -- the column (u, p ^ j), u of the power 0
    have uv : vq p ((x - q) * ppw p (-v)) = some 0 := by
      have := vq_mul hp hv (vq_ppw (k := -v) hp)
      rwa [show v + -v = 0 by omega] at this
    have uw := dv_of_vq hp uv (Int.le_refl 0)
    have p3 : ppw p (k - v) = ppw p (k - 1 - v) * (p : Rat) := by rw [← ppw_one, ← ppw_add hp]; congr 1; omega
    have p4 : ppw p (k - v) = ppw p k * ppw p (-v) := by rw [← ppw_add hp]; congr 1
    have p5 : ppw p (k - 1 - v) = ppw p (k - 1) * ppw p (-v) := by rw [← ppw_add hp]; congr 1
    have wj : Dv p 0 (ppw p (k - v)) := dv_of_vq hp (vq_ppw hp) (by omega)
    have wi : Dv p 0 (ppw p (k - 1 - v)) := dv_of_vq hp (vq_ppw hp) (by omega)
    refine ⟨⟨(x - q) * ppw p (-v), 0, ppw p (k - v), 1⟩, ppw p (k - v), ⟨⟨uw, dv_zero p 0 hp, wj, dv_one0 hp⟩, ?_⟩, ppw_ne hp _, ⟨?_, ?_⟩, ⟨⟨(x - q) * ppw p (-v) + (q - r) * ppw p (-(k - 1)) * ppw p (k - 1 - v), (q - r) * ppw p (-(k - 1)), ppw p (k - 1 - v), 1⟩, (p : Rat), 1, ⟨⟨?_, wq, wi, dv_one0 hp⟩, ?_⟩, pv, ?_⟩⟩
    · have e2 : (Tb.mk ((x - q) * ppw p (-v)) 0 (ppw p (k - v)) 1).det = (x - q) * ppw p (-v) := by unfold Tb.det; simp only []; grind
      rw [e2]; exact uv
    · show ppw p k * ((x - q) * ppw p (-v)) + q * ppw p (k - v) = ppw p (k - v) * x
      rw [p4]; grind
    · show 0 * ((x - q) * ppw p (-v)) + 1 * ppw p (k - v) = ppw p (k - v)
      grind
    · exact dv_add hp uw (by have := dv_mul hp wq wi; rwa [Int.add_zero] at this)
    · have e2 : (Tb.mk ((x - q) * ppw p (-v) + (q - r) * ppw p (-(k - 1)) * ppw p (k - 1 - v)) ((q - r) * ppw p (-(k - 1))) (ppw p (k - 1 - v)) 1).det = (x - q) * ppw p (-v) := by unfold Tb.det; simp only []; grind
      rw [e2]; exact uv
    · unfold tabS Tb.dg Tb.mul Tb.scale
      simp only [Tb.mk.injEq]
      refine ⟨?_, ?_, ?_, ?_⟩ <;> grind
theorem To.high {p : Int} (hp : Pr p) (k : Int) (q : Rat) {x : Rat} (h : Dv p k (x - q)) : To p (tabS p k q) (some x) (tabS p (k + 1) (restQ p (k + 1) x)) := by
  have rd := (rest_is hp (k + 1) x).dv
  generalize restQ p (k + 1) x = r at rd
  have p1 := ppw_inv hp k
  have p2 : ppw p (k + 1) = ppw p k * (p : Rat) := by rw [← ppw_one, ← ppw_add hp]
  have p6 := ppw_inv hp (k + 1)
  have w1 := dv_w hp h
  have w2 := dv_w hp rd
  refine ⟨⟨(x - q) * ppw p (-k), 1, 1, 0⟩, 1, ⟨⟨w1, dv_one0 hp, dv_one0 hp, dv_zero p 0 hp⟩, ?_⟩, by decide, ⟨?_, ?_⟩, ⟨⟨(x - r) * ppw p (-(k + 1)), 1, 1, 0⟩, 1, 0, ⟨⟨w2, dv_one0 hp, dv_one0 hp, dv_zero p 0 hp⟩, ?_⟩, vq_one hp, ?_⟩⟩
  · have e2 : (Tb.mk ((x - q) * ppw p (-k)) 1 1 0).det = -1 := by unfold Tb.det; simp only []; grind
    rw [e2, vq_neg hp]; exact vq_one hp
  · show ppw p k * ((x - q) * ppw p (-k)) + q * 1 = 1 * x
    grind
  · show 0 * ((x - q) * ppw p (-k)) + 1 * 1 = 1
    grind
  · have e2 : (Tb.mk ((x - r) * ppw p (-(k + 1))) 1 1 0).det = -1 := by unfold Tb.det; simp only []; grind
    rw [e2, vq_neg hp]; exact vq_one hp
  · unfold tabS Tb.dg Tb.mul Tb.scale
    simp only [Tb.mk.injEq]
    refine ⟨?_, ?_, ?_, ?_⟩ <;> grind
theorem To.next {p : Int} (hp : Pr p) (k : Int) (q : Rat) (e : Option Rat) : To p (tabS p k q) e (tabS p (nxt p k q e).1 (nxt p k q e).2) := by
  cases e with
  | none => exact To.low hp k q (fun x hx => nomatch hx)
  | some x =>
    by_cases h : alk p k x q = true
    · have e1 : nxt p k q (some x) = (k + 1, restQ p (k + 1) x) := if_pos h
      rw [e1]
      exact To.high hp k q ((alk_dv hp x q).mp h)
    · have e1 : nxt p k q (some x) = (k - 1, restQ p (k - 1) q) := if_neg h
      rw [e1]
      exact To.low hp k q (fun y hy => by cases hy; exact fun z => h ((alk_dv hp x q).mpr z))
theorem nxt_own {p : Int} (hp : Pr p) (k : Int) (q : Rat) (e : Option Rat) : Own p (nxt p k q e).1 (nxt p k q e).2 := by
  cases e with
  | none => exact own_rest hp _ _
  | some x =>
    by_cases h : alk p k x q = true
    · have e1 : nxt p k q (some x) = (k + 1, restQ p (k + 1) x) := if_pos h
      rw [e1]
      exact own_rest hp _ _
    · have e1 : nxt p k q (some x) = (k - 1, restQ p (k - 1) q) := if_neg h
      rw [e1]
      exact own_rest hp _ _
/-- a spot moved -/
noncomputable def movS (p : Int) (a : Tb) (s : Int × Rat) : Int × Rat := spotS p (a.mul (tabS p s.1 s.2))
noncomputable def road (p : Int) (e : Option Rat) (s : Int × Rat) : Nat → Int × Rat
  | 0 => s
  | n + 1 => nxt p (road p e s n).1 (road p e s n).2 e
/-- where a road's fractions come from -/
def Form (p : Int) (y : Rat) (e : Option Rat) (s : Int × Rat) : Prop := s.2 = y ∨ s.2 = restQ p s.1 y ∨ ∃ x, e = some x ∧ s.2 = restQ p s.1 x
theorem rest_rest {p : Int} (hp : Pr p) {j k : Int} (h : j ≤ k) (a : Rat) : restQ p j (restQ p k a) = restQ p j a :=
  rest_uniq hp (rest_is hp j _) (rest_is hp j a) (dv_comm (dv_mono hp h (rest_is hp k a).dv))
theorem Form.step {p : Int} (hp : Pr p) {y : Rat} {e : Option Rat} {s : Int × Rat} (h : Form p y e s) : Form p y e (nxt p s.1 s.2 e) := by
  have low : Form p y e (s.1 - 1, restQ p (s.1 - 1) s.2) := by
    rcases h with h | h | ⟨x, hx, h⟩
    · exact .inr (.inl (by show restQ p (s.1 - 1) s.2 = restQ p (s.1 - 1) y; rw [h]))
    · exact .inr (.inl (by show restQ p (s.1 - 1) s.2 = restQ p (s.1 - 1) y; rw [h, rest_rest hp (by omega)]))
    · exact .inr (.inr ⟨x, hx, by show restQ p (s.1 - 1) s.2 = restQ p (s.1 - 1) x; rw [h, rest_rest hp (by omega)]⟩)
  cases e with
  | none => exact low
  | some x =>
    by_cases g : alk p s.1 x s.2 = true
    · have e1 : nxt p s.1 s.2 (some x) = (s.1 + 1, restQ p (s.1 + 1) x) := if_pos g
      rw [e1]
      exact .inr (.inr ⟨x, rfl, rfl⟩)
    · have e1 : nxt p s.1 s.2 (some x) = (s.1 - 1, restQ p (s.1 - 1) s.2) := if_neg g
      rw [e1]
      exact low
theorem Form.fb {p : Int} (hp : Pr p) {y : Rat} {e : Option Rat} {s : Int × Rat} (h : Form p y e s) {m K : Nat} (hy : Fb m y) (he : EFb m e) (hk : s.1 ≤ K) : Fb (3 * (K + m) + 1) s.2 := by
  rcases h with h | h | ⟨x, hx, h⟩
  · rw [h]; exact hy.mono (by omega)
  · rw [h]; exact rest_fb hp hk hy
  · rw [h]; exact rest_fb hp hk (he x hx)
theorem nxt_k (p k : Int) (q : Rat) (e : Option Rat) : k - 1 ≤ (nxt p k q e).1 ∧ (nxt p k q e).1 ≤ k + 1 := by
  cases e with
  | none => exact ⟨Int.le_refl _, by show k - 1 ≤ k + 1; omega⟩
  | some x =>
    by_cases g : alk p k x q = true
    · have e1 : nxt p k q (some x) = (k + 1, restQ p (k + 1) x) := if_pos g
      rw [e1]
      exact ⟨by show k - 1 ≤ k + 1; omega, Int.le_refl _⟩
    · have e1 : nxt p k q (some x) = (k - 1, restQ p (k - 1) q) := if_neg g
      rw [e1]
      exact ⟨Int.le_refl _, by show k - 1 ≤ k + 1; omega⟩
def R_moved (ds : List D) (d : D) : Prop := ∃ (p : Int) (a : Tb) (k : Int) (q : Rat) (n K m : Nat), ds = [.int p, tbD a, spotD k q] ∧ Pr p ∧ a.det ≠ 0 ∧ Tbb n a ∧ Fb m q ∧ -(K : Int) ≤ k ∧ k ≤ K ∧ 3 * K + 1 ≤ m ∧ 2 * n + m ≤ 2000 ∧ d = spotD (movS p a (k, q)).1 (movS p a (k, q)).2
def R_roadto (ds : List D) (d : D) : Prop := ∃ (p : Int) (s : Int × Rat) (e : Option Rat) (n : Nat) (y : Rat) (K m : Nat), ds = [.int p, spotD s.1 s.2, enD e, .int (n : Int)] ∧ Pr p ∧ Form p y e s ∧ Fb m y ∧ EFb m e ∧ n ≤ 300 ∧ -(K : Int) ≤ s.1 ∧ s.1 ≤ K ∧ K + n ≤ 10000 ∧ 3 * (K + n + m) + 1 ≤ 4400 ∧
  d = .lst ((List.range (n + 1)).map fun i => spotD (road p e s i).1 (road p e s i).2)
def gK (n : Int) : Int := n % 25 - 12
def gQ (p n m : Int) : Rat := if gK n + m % 11 ≤ 0 then 0 else Rat.divInt (m / 11 % (if p ^ (gK n + m % 11).toNat ≤ 10 ^ 20 then p ^ (gK n + m % 11).toNat else 10 ^ 20)) (p ^ (m % 11).toNat)
def R_spotG (ds : List D) (d : D) : Prop := ∃ p n m : Int, ds = [.int p, .int n, .int m] ∧ Pr p ∧ d = spE (gK n) (gQ p n m)
def end69 (p k : Int) (q : Rat) (s n : Int) : Option Rat := if s = 1 then none else if s = 2 then some q else if s = 3 then some (q + smq p n * ppw p k) else some (smq p n)
def R_end69 (ds : List D) (d : D) : Prop := ∃ (p k : Int) (q : Rat) (s n : Int), ds = [.int p, spE k q, .int s, .int n] ∧ Pr p ∧ -12 ≤ k ∧ k ≤ 12 ∧ Fb 70 q ∧ d = enD (end69 p k q s n)
def bump (p b : Int) : Int := if b % p = 0 then b + 1 else b
def roundq (p n : Int) : Rat := Rat.divInt (n % 41 - 20) (bump p (1 + n / 41 % 6))
def unitq (p n : Int) : Rat := Rat.divInt (bump p (1 + n % 30) * (1 - 2 * (n / 270 % 2))) (bump p (1 + n / 30 % 9))
theorem divInt_mul {a b : Int} (h : b ≠ 0) : Rat.divInt a b * (b : Rat) = (a : Rat) := by
  have hb : (b : Rat) ≠ 0 := fun z => h (by exact_mod_cast z)
  rw [Rat.divInt_eq_div, Rat.div_def, Rat.mul_assoc, Rat.mul_comm (b : Rat)⁻¹, Rat.mul_inv_cancel _ hb, Rat.mul_one]
def firmA (p n : Int) : Tb := ((Tb.mk 1 (roundq p n) 0 1).mul (Tb.mk 1 0 (roundq p (n / 246)) 1)).mul (Tb.mk (unitq p (n / 246 / 246)) 0 0 (unitq p (n / 246 / 246 / 540)))
def firmB (p n : Int) : Tb := if n / 246 / 246 / 540 / 540 % 2 = 1 then (firmA p n).mul ⟨0, 1, 1, 0⟩ else firmA p n
def firmq (p n : Int) : Tb := (firmB p n).mul (Tb.mk 1 (roundq p (n / 246 / 246 / 540 / 540 / 2)) 0 1)
def R_round (ds : List D) (d : D) : Prop := ∃ n p : Int, ds = [.int n, .int p] ∧ Pr p ∧ d = frD (roundq p n)
def R_unit (ds : List D) (d : D) : Prop := ∃ n p : Int, ds = [.int n, .int p] ∧ Pr p ∧ d = frD (unitq p n)
def R_firm (ds : List D) (d : D) : Prop := ∃ p n : Int, ds = [.int p, .int n] ∧ Pr p ∧ d = tbD (firmq p n)
def R_isspot (ds : List D) (d : D) : Prop := ∃ (k : Int) (q : Rat), ds = [spotD k q, spotD k q] ∧ d = .bl true
def R_are (ds : List D) (d : D) : Prop := ∃ a b : Int, ds = [.tup [.int a, .int b], .int a, .int b] ∧ d = .bl true
theorem Spt.cb {p K k : Int} (hp : Pr p) {q : Rat} (h : Spt p K k q) (l : K ≤ 310) : Cb 1862 931 (tabS p k q) := by
  have k0 := h.k0
  have k1 := h.k1
  have pp := pw_pos hp 310
  have f : ∀ {r : Rat}, Sz p 310 1862 r → Qn (p ^ 310) 1862 r := fun ⟨m, e, b⟩ => ⟨m, by rw [← ppw_nat]; exact e, b⟩
  exact ⟨p ^ 310, by omega, (pw_bd hp 310).mono (by decide), f (Sz.ppw hp (by omega) (by omega)), f (h.sz hp l), f (Sz.zero _ _), f ((Sz.one hp 310).mono (by decide))⟩
theorem vq_bd82 {p : Int} (hp : Pr p) {m : Nat} {r : Rat} (h : Fb m r) {v : Int} (hv : vq p r = some v) : -(m : Int) < v ∧ v < m := by
  have r0 := ((vq_iff hp).mp hv).1
  have n0 : r.num ≠ 0 := fun z => r0 (Rat.num_eq_zero.mp z)
  have a := vp_le hp n0 h.1
  have b := vp_le hp (den_ne r) h.2
  unfold vq at hv
  rw [if_neg n0] at hv
  have := Option.some.inj hv
  omega
theorem bd_part82 {m : Nat} {n a b : Int} (h : Bd m n) (e : n = a * b) (ha : a ≠ 0) (hb : b ≠ 0) : Bd m a ∧ Bd m b := by
  unfold Bd at *
  rw [e, Int.natAbs_mul] at h
  have h1 : 1 ≤ a.natAbs := by omega
  have h2 : 1 ≤ b.natAbs := by omega
  constructor
  · exact Nat.lt_of_le_of_lt (Nat.le_mul_of_pos_right _ h2) h
  · exact Nat.lt_of_le_of_lt (Nat.le_mul_of_pos_left _ h1) h
/-- a fraction's power of the prime, and what is left of it, are no greater -/
theorem fb_part82 {p : Int} (hp : Pr p) {m : Nat} {r : Rat} (h : Fb m r) {v : Int} (hv : vq p r = some v) : Fb m (ppw p v) ∧ Fb m (r * (ppw p v)⁻¹) := by
  have r0 := ((vq_iff hp).mp hv).1
  have n0 : r.num ≠ 0 := fun z => r0 (Rat.num_eq_zero.mp z)
  have d0 := den_ne r
  obtain ⟨u, eu, hu⟩ := vp_ex hp n0
  obtain ⟨w, ew, hw⟩ := vp_ex hp d0
  unfold vq at hv
  rw [if_neg n0] at hv
  have hv' : (vp p r.num : Int) - (vp p (r.den : Int) : Int) = v := Option.some.inj hv
  generalize vp p r.num = a at eu hv'
  generalize vp p (r.den : Int) = b at ew hv'
  have p2 := hp.two_le
  have pa : p ^ a ≠ 0 := Int.pow_ne_zero (by omega)
  have pb : p ^ b ≠ 0 := Int.pow_ne_zero (by omega)
  have u0 : u ≠ 0 := fun z => hu (by rw [z]; simp)
  have w0 : w ≠ 0 := fun z => hw (by rw [z]; simp)
  have ba := bd_part82 h.1 eu pa u0
  have bb := bd_part82 h.2 ew pb w0
  have pv : ppw p v = Rat.divInt (p ^ a) (p ^ b) := by
    have h1 : ppw p v * ((p ^ b : Int) : Rat) = ((p ^ a : Int) : Rat) := by
      rw [← ppw_nat, ← ppw_nat, ← ppw_add hp]
      congr 1
      omega
    have h2 := divInt_mul (a := p ^ a) pb
    have h3 : ((p ^ b : Int) : Rat) ≠ 0 := fun z => pb (by exact_mod_cast z)
    have h4 := Rat.mul_inv_cancel _ h3
    grind
  have rv : r * (ppw p v)⁻¹ = Rat.divInt u w := by
    have h2 := divInt_mul (a := u) w0
    have h3 : (w : Rat) ≠ 0 := fun z => w0 (by exact_mod_cast z)
    have h4 := Rat.mul_inv_cancel _ h3
    have h5 := Rat.mul_inv_cancel _ (ppw_ne hp v)
    have h6 : r * (r.den : Rat) = (r.num : Rat) := by
      have := divInt_mul (a := r.num) d0
      rw [Rat.divInt_ofNat, Rat.mkRat_self] at this
      exact_mod_cast this
    have h7 : ppw p v * ((p ^ b : Int) : Rat) = ((p ^ a : Int) : Rat) := by
      rw [pv]; exact divInt_mul pb
    have e1 : (r.num : Rat) = ((p ^ a : Int) : Rat) * (u : Rat) := by exact_mod_cast eu
    have e2 : (r.den : Rat) = ((p ^ b : Int) : Rat) * (w : Rat) := by
      have : ((r.den : Int) : Rat) = ((p ^ b : Int) : Rat) * (w : Rat) := by exact_mod_cast ew
      exact_mod_cast this
    have h8 : ((p ^ b : Int) : Rat) ≠ 0 := fun z => pb (by exact_mod_cast z)
    have h9 := Rat.mul_inv_cancel _ h8
    rw [e1, e2, ← h7] at h6
    generalize ((p ^ b : Int) : Rat) = B at *
    generalize ppw p v = V at *
    have q : (r * (w : Rat) - V * (u : Rat)) * B = 0 := by grind
    have q2 : r * (w : Rat) = V * (u : Rat) := by
      have : r * (w : Rat) - V * (u : Rat) = 0 := by
        rcases Rat.mul_eq_zero.mp q with z | z
        · exact z
        · exact absurd z h8
      grind
    grind
  exact ⟨by rw [pv]; exact Fb.divInt pb ba.1 bb.1, by rw [rv]; exact Fb.divInt w0 ba.2 bb.2⟩
theorem dv_i83 {p : Int} (hp : Pr p) (c : Int) : Dv p 0 (c : Rat) := ⟨c, 1, by rcases hp with rfl | rfl | rfl | rfl <;> decide, by rw [ppw_zero]; simp⟩
theorem sc83 {p : Int} (hp : Pr p) {q : Rat} (h : PDen p q) (hd : Dv p (-310) q) : ∃ m : Int, q * ppw p ((310 : Nat) : Int) = (m : Rat) := by
  by_cases q0 : q = 0
  · exact ⟨0, by rw [q0]; simp⟩
  have n0 : q.num ≠ 0 := fun z => q0 (Rat.num_eq_zero.mp z)
  obtain ⟨n, hn⟩ := h
  have p2 := hp.two_le
  have nle : n ≤ 310 := by
    refine Classical.byContradiction fun hc => ?_
    have np : ¬ q.num % p = 0 := fun z => by
      have d1 : p ∣ q.num := Int.dvd_of_emod_eq_zero z
      have d2 : p ∣ (q.den : Int) := by
        rw [hn]
        obtain ⟨m, rfl⟩ : ∃ m, n = m + 1 := ⟨n - 1, by omega⟩
        exact ⟨p ^ m, by rw [Int.pow_succ, Int.mul_comm]⟩
      have c := q.reduced
      have g1 : p.natAbs ∣ q.num.natAbs := Int.natAbs_dvd_natAbs.mpr d1
      have g2 : p.natAbs ∣ q.den := by have := Int.natAbs_dvd_natAbs.mpr d2; simpa using this
      have g := Nat.dvd_gcd g1 g2
      rw [c] at g
      have := Nat.le_of_dvd (by decide) g
      omega
    have hv : vq p q = some (-(n : Int)) := by
      unfold vq
      rw [if_neg n0, vp_zero np, hn, vp_pow p2.1]
      congr 1
      omega
    rw [vq_dv hp, hv] at hd
    have hd : (-310 : Int) ≤ -(n : Int) := hd
    omega
  refine ⟨q.num * p ^ (310 - n), ?_⟩
  have e1 : q * (q.den : Rat) = (q.num : Rat) := by
    have := divInt_mul (a := q.num) (den_ne q)
    rw [Rat.divInt_ofNat, Rat.mkRat_self] at this
    exact_mod_cast this
  have e2 : (q.den : Rat) = ppw p (n : Int) := by
    rw [ppw_nat]
    have : ((q.den : Int) : Rat) = ((p ^ n : Int) : Rat) := by rw [hn]
    exact_mod_cast this
  have e3 : ppw p ((310 : Nat) : Int) = ppw p (n : Int) * ppw p ((310 - n : Nat) : Int) := by rw [← ppw_add hp]; congr 1; omega
  rw [e3, ← Rat.mul_assoc, ← e2, e1, ppw_nat]
  push_cast
  rfl
/-- the level at which the road to a fraction turns -/
def levE (p k : Int) (q x : Rat) : Int := match vq p (q - x) with
  | none => k
  | some v => min k v
theorem lev_iff {p : Int} (hp : Pr p) (k n : Int) (q x : Rat) : n ≤ levE p k q x ↔ n ≤ k ∧ Dv p n (x - q) := by
  have e : Dv p n (x - q) ↔ Dv p n (q - x) := ⟨dv_comm, dv_comm⟩
  rw [e, vq_dv hp]
  unfold levE
  cases vq p (q - x) with
  | none => simp
  | some v => show n ≤ min k v ↔ n ≤ k ∧ n ≤ v; omega
def lvX (p : Int) (x y : Rat) : Int := (vq p (x - y)).getD 0
theorem lvX_iff {p : Int} (hp : Pr p) {x y : Rat} (h : x ≠ y) (n : Int) : n ≤ lvX p x y ↔ Dv p n (x - y) := by
  unfold lvX
  rw [vq_dv hp]
  cases hv : vq p (x - y) with
  | none => exact absurd (by have := vq_none.mp hv; grind) h
  | some v => exact Iff.rfl
theorem own_self {p : Int} (hp : Pr p) {k : Int} {q : Rat} (o : Own p k q) : restQ p k q = q := rest_uniq hp (rest_is hp k q) o (by rw [show q - q = 0 by grind]; exact dv_zero p k hp)
theorem rest_dvE {p : Int} (hp : Pr p) {n k : Int} (h : n ≤ k) (x y : Rat) : Dv p n (restQ p k x - y) ↔ Dv p n (x - y) := by
  have d := dv_mono hp h (rest_is hp k x).dv
  constructor
  · intro a
    have := dv_add hp d a
    rwa [show x - restQ p k x + (restQ p k x - y) = x - y by grind] at this
  · intro a
    have := dv_sub hp a d
    rwa [show x - y - (x - restQ p k x) = restQ p k x - y by grind] at this
theorem rest_dvE' {p : Int} (hp : Pr p) {n k : Int} (h : n ≤ k) (x y : Rat) : Dv p n (y - restQ p k x) ↔ Dv p n (y - x) :=
  ⟨fun a => dv_comm ((rest_dvE hp h x y).mp (dv_comm a)), fun a => dv_comm ((rest_dvE hp h x y).mpr (dv_comm a))⟩
theorem rest_eqE {p : Int} (hp : Pr p) (n : Int) (x y : Rat) : restQ p n x = restQ p n y ↔ Dv p n (x - y) := by
  constructor
  · intro e
    have a := (rest_is hp n x).dv
    have b := (rest_is hp n y).dv
    rw [e] at a
    have := dv_sub hp a b
    rwa [show x - restQ p n y - (y - restQ p n y) = x - y by grind] at this
  · exact fun d => rest_uniq hp (rest_is hp n x) (rest_is hp n y) d
theorem rest2E {p : Int} (hp : Pr p) {j k : Int} (h : j ≤ k) (a : Rat) : restQ p j (restQ p k a) = restQ p j a := (rest_eqE hp j _ _).mpr (dv_comm (dv_mono hp h (rest_is hp k a).dv))
/-- the nearest spot of a line -/
noncomputable def nearE (p : Int) (s : Int × Rat) : Option Rat → Option Rat → Int × Rat
  | some x, some y => if max (levE p s.1 s.2 x) (levE p s.1 s.2 y) ≤ lvX p x y then (lvX p x y, restQ p (lvX p x y) x) else (max (levE p s.1 s.2 x) (levE p s.1 s.2 y), restQ p (max (levE p s.1 s.2 x) (levE p s.1 s.2 y)) s.2)
  | some x, none => (levE p s.1 s.2 x, restQ p (levE p s.1 s.2 x) s.2)
  | none, some y => (levE p s.1 s.2 y, restQ p (levE p s.1 s.2 y) s.2)
  | none, none => s
/-- one step up -/
noncomputable abbrev upE (p : Int) (s : Int × Rat) : Int × Rat := (s.1 - 1, restQ p (s.1 - 1) s.2)
theorem lev_up {p : Int} (hp : Pr p) {k : Int} {q x : Rat} (h : ¬ Dv p k (x - q)) : levE p (k - 1) (restQ p (k - 1) q) x = levE p k q x ∧ levE p k q x ≤ k - 1 := by
  have a : levE p k q x ≤ k - 1 := by
    refine Classical.byContradiction fun c => h ?_
    exact ((lev_iff hp k k q x).mp (by omega)).2
  refine ⟨eq_of_le_iff fun n => ?_, a⟩
  rw [lev_iff hp]
  constructor
  · rintro ⟨b, d⟩
    exact (lev_iff hp k n q x).mpr ⟨by omega, (rest_dvE' hp b q x).mp d⟩
  · intro b
    have d := (lev_iff hp k n q x).mp b
    exact ⟨by omega, (rest_dvE' hp (by omega) q x).mpr d.2⟩
theorem way_up {p : Int} (hp : Pr p) {s t : Int × Rat} (h : s.1 ≤ t.1 → ¬ Dv p s.1 (t.2 - s.2)) : wy p s t = wy p (upE p s) t + 1 := by
  have e : lvS p (upE p s).1 (upE p s).2 t.1 t.2 = lvS p s.1 s.2 t.1 t.2 := by
    refine eq_of_le_iff fun n => ?_
    rw [lv_iff hp, lv_iff hp]
    constructor
    · rintro ⟨a, b, c⟩
      have a : n ≤ s.1 - 1 := a
      exact ⟨by omega, b, (rest_dvE' hp a s.2 t.2).mp c⟩
    · rintro ⟨a, b, c⟩
      have ne : n ≠ s.1 := fun z => h (by omega) (by rw [← z]; exact c)
      exact ⟨by show n ≤ s.1 - 1; omega, b, (rest_dvE' hp (by omega) s.2 t.2).mpr c⟩
  unfold wy
  rw [← way_lv, ← way_lv, e]
  show s.1 + t.1 - _ = s.1 - 1 + t.1 - _ + 1
  omega
theorem nxt_up {p : Int} (hp : Pr p) (s : Int × Rat) (e : Option Rat) (h : ∀ x, e = some x → ¬ Dv p s.1 (x - s.2)) : nxt p s.1 s.2 e = upE p s := by
  cases e with
  | none => rfl
  | some x => exact if_neg (fun z => h x rfl ((alk_dv hp _ _).mp z))
theorem nxt_down {p : Int} (hp : Pr p) (s : Int × Rat) {x : Rat} (h : Dv p s.1 (x - s.2)) : nxt p s.1 s.2 (some x) = (s.1 + 1, restQ p (s.1 + 1) x) := if_pos ((alk_dv hp _ _).mpr h)
theorem way_down {p : Int} (hp : Pr p) {s : Int × Rat} {x : Rat} {w : Int} (h : Dv p s.1 (x - s.2)) (hw : s.1 ≤ w) : wy p s (w, restQ p w x) = w - s.1 := by
  have e : lvS p s.1 s.2 w (restQ p w x) = s.1 := by
    refine eq_of_le_iff fun n => ?_
    rw [lv_iff hp]
    exact ⟨fun a => a.1, fun a => ⟨a, by omega, (rest_dvE hp (by omega) x s.2).mpr (dv_mono hp a h)⟩⟩
  unfold wy
  rw [← way_lv, e]
  show s.1 + w - _ = _
  omega
theorem wy_self {p : Int} (hp : Pr p) (s : Int × Rat) : wy p s s = 0 := by
  have := lv_self hp s.1 s.2
  unfold wy
  rw [← way_lv]
  omega
/-- where the next spots are unlike, the spot is its own nearest -/
theorem near_at {p : Int} (hp : Pr p) {s : Int × Rat} (o : Own p s.1 s.2) {e f : Option Rat} (hef : e ≠ f) (h : nxt p s.1 s.2 e ≠ nxt p s.1 s.2 f) : nearE p s e f = s := by
  have os := own_self hp o
  have top : ∀ x, Dv p s.1 (x - s.2) → levE p s.1 s.2 x = s.1 := fun x d => by
    have a := (lev_iff hp s.1 s.1 s.2 x).mpr ⟨Int.le_refl _, d⟩
    have b := ((lev_iff hp s.1 _ s.2 x).mp (Int.le_refl (levE p s.1 s.2 x))).1
    omega
  have low : ∀ x, ¬ Dv p s.1 (x - s.2) → levE p s.1 s.2 x ≤ s.1 - 1 := fun x d => (lev_up hp d).2
  have sr : (s.1, restQ p s.1 s.2) = s := by rw [os]
  cases e with
  | none =>
    cases f with
    | none => exact absurd rfl hef
    | some y =>
      by_cases hy : Dv p s.1 (y - s.2)
      · show (levE p s.1 s.2 y, restQ p (levE p s.1 s.2 y) s.2) = s
        rw [top y hy, sr]
      · exact absurd (by rw [nxt_up hp s (some y) (fun x e => by cases e; exact hy)]; rfl) h
  | some x =>
    cases f with
    | none =>
      by_cases hx : Dv p s.1 (x - s.2)
      · show (levE p s.1 s.2 x, restQ p (levE p s.1 s.2 x) s.2) = s
        rw [top x hx, sr]
      · exact absurd (by rw [nxt_up hp s (some x) (fun x e => by cases e; exact hx)]; rfl) h
    | some y =>
      have xy : x ≠ y := fun z => hef (by rw [z])
      have W := lvX_iff hp xy
      by_cases hx : Dv p s.1 (x - s.2)
      · by_cases hy : Dv p s.1 (y - s.2)
        · rw [nxt_down hp s hx, nxt_down hp s hy] at h
          have d : Dv p s.1 (x - y) := by have := dv_sub hp hx hy; rwa [show x - s.2 - (y - s.2) = x - y by grind] at this
          have w1 := (W s.1).mpr d
          have w2 : ¬ s.1 + 1 ≤ lvX p x y := fun z => h (by rw [(rest_eqE hp (s.1 + 1) x y).mpr ((W _).mp z)])
          show (if max (levE p s.1 s.2 x) (levE p s.1 s.2 y) ≤ lvX p x y then _ else _) = s
          rw [top x hx, top y hy, if_pos (by omega), show lvX p x y = s.1 by omega, (rest_eqE hp s.1 x s.2).mpr hx, sr]
        · have w2 : ¬ s.1 ≤ lvX p x y := fun z => hy (by
            have := dv_sub hp hx ((W _).mp z)
            rwa [show x - s.2 - (x - y) = y - s.2 by grind] at this)
          have ly := low y hy
          show (if max (levE p s.1 s.2 x) (levE p s.1 s.2 y) ≤ lvX p x y then _ else _) = s
          rw [top x hx, if_neg (by omega), show max s.1 (levE p s.1 s.2 y) = s.1 by omega, sr]
      · by_cases hy : Dv p s.1 (y - s.2)
        · have w2 : ¬ s.1 ≤ lvX p x y := fun z => hx (by
            have := dv_add hp hy ((W _).mp z)
            rwa [show y - s.2 + (x - y) = x - s.2 by grind] at this)
          have lx := low x hx
          show (if max (levE p s.1 s.2 x) (levE p s.1 s.2 y) ≤ lvX p x y then _ else _) = s
          rw [top y hy, if_neg (by omega), show max (levE p s.1 s.2 x) s.1 = s.1 by omega, sr]
        · exact absurd (by rw [nxt_up hp s (some x) (fun x e => by cases e; exact hx), nxt_up hp s (some y) (fun x e => by cases e; exact hy)]) h
/-- where they are alike, the nearest spot stays and the way is one less -/
theorem near_on {p : Int} (hp : Pr p) {s : Int × Rat} {e f : Option Rat} (hef : e ≠ f) (h : nxt p s.1 s.2 e = nxt p s.1 s.2 f) :
    nearE p (nxt p s.1 s.2 e) e f = nearE p s e f ∧ wy p s (nearE p s e f) = wy p (nxt p s.1 s.2 e) (nearE p s e f) + 1 := by
  have one : ∀ x, ¬ Dv p s.1 (x - s.2) → (levE p (s.1 - 1) (restQ p (s.1 - 1) s.2) x, restQ p (levE p (s.1 - 1) (restQ p (s.1 - 1) s.2) x) (restQ p (s.1 - 1) s.2)) = (levE p s.1 s.2 x, restQ p (levE p s.1 s.2 x) s.2) := fun x d => by
    have l := lev_up hp d
    rw [l.1, rest2E hp l.2]
  have way1 : ∀ n, n ≤ s.1 - 1 → wy p s (n, restQ p n s.2) = wy p (upE p s) (n, restQ p n s.2) + 1 := fun n hn => way_up hp fun z => by
    have z : s.1 ≤ n := z
    omega
  cases e with
  | none =>
    cases f with
    | none => exact absurd rfl hef
    | some y =>
      have hy : ¬ Dv p s.1 (y - s.2) := fun d => by
        rw [nxt_down hp s d] at h
        have := congrArg Prod.fst h
        have : s.1 - 1 = s.1 + 1 := this
        omega
      exact ⟨one y hy, way1 _ (lev_up hp hy).2⟩
  | some x =>
    cases f with
    | none =>
      have hx : ¬ Dv p s.1 (x - s.2) := fun d => by
        rw [nxt_down hp s d] at h
        have := congrArg Prod.fst h
        have : s.1 + 1 = s.1 - 1 := this
        omega
      rw [nxt_up hp s (some x) (fun x e => by cases e; exact hx)]
      exact ⟨one x hx, way1 _ (lev_up hp hx).2⟩
    | some y =>
      have xy : x ≠ y := fun z => hef (by rw [z])
      have W := lvX_iff hp xy
      by_cases hx : Dv p s.1 (x - s.2)
      · have hy : Dv p s.1 (y - s.2) := Classical.byContradiction fun d => by
          rw [nxt_down hp s hx, nxt_up hp s (some y) (fun x e => by cases e; exact d)] at h
          have := congrArg Prod.fst h
          have : s.1 + 1 = s.1 - 1 := this
          omega
        rw [nxt_down hp s hx] at h ⊢
        rw [nxt_down hp s hy] at h
        have e2 : restQ p (s.1 + 1) x = restQ p (s.1 + 1) y := congrArg Prod.snd h
        have w1 := (W _).mpr ((rest_eqE hp (s.1 + 1) x y).mp e2)
        have top : ∀ z, Dv p s.1 (z - s.2) → levE p s.1 s.2 z = s.1 := fun z d => by
          have a := (lev_iff hp s.1 s.1 s.2 z).mpr ⟨Int.le_refl _, d⟩
          have b := ((lev_iff hp s.1 _ s.2 z).mp (Int.le_refl (levE p s.1 s.2 z))).1
          omega
        have top2 : ∀ z, Dv p (s.1 + 1) (z - restQ p (s.1 + 1) x) → levE p (s.1 + 1) (restQ p (s.1 + 1) x) z = s.1 + 1 := fun z d => by
          have a := (lev_iff hp (s.1 + 1) (s.1 + 1) (restQ p (s.1 + 1) x) z).mpr ⟨Int.le_refl _, d⟩
          have b := ((lev_iff hp (s.1 + 1) _ (restQ p (s.1 + 1) x) z).mp (Int.le_refl _)).1
          omega
        have tx := (rest_is hp (s.1 + 1) x).dv
        have ty : Dv p (s.1 + 1) (y - restQ p (s.1 + 1) x) := by rw [e2]; exact (rest_is hp (s.1 + 1) y).dv
        have n1 : nearE p s (some x) (some y) = (lvX p x y, restQ p (lvX p x y) x) := by
          show (if max (levE p s.1 s.2 x) (levE p s.1 s.2 y) ≤ lvX p x y then _ else _) = _
          rw [top x hx, top y hy, if_pos (by omega)]
        have n2 : nearE p (s.1 + 1, restQ p (s.1 + 1) x) (some x) (some y) = (lvX p x y, restQ p (lvX p x y) x) := by
          show (if max (levE p (s.1 + 1) (restQ p (s.1 + 1) x) x) (levE p (s.1 + 1) (restQ p (s.1 + 1) x) y) ≤ lvX p x y then _ else _) = _
          rw [top2 x tx, top2 y ty, if_pos (by omega)]
        rw [n1, n2]
        refine ⟨rfl, ?_⟩
        rw [way_down hp hx (by omega), way_down (s := (s.1 + 1, restQ p (s.1 + 1) x)) hp tx w1]
        show lvX p x y - s.1 = lvX p x y - (s.1 + 1) + 1
        omega
      · have hy : ¬ Dv p s.1 (y - s.2) := fun d => by
          rw [nxt_up hp s (some x) (fun x e => by cases e; exact hx), nxt_down hp s d] at h
          have := congrArg Prod.fst h
          have : s.1 - 1 = s.1 + 1 := this
          omega
        rw [nxt_up hp s (some x) (fun x e => by cases e; exact hx)]
        have lx := lev_up hp hx
        have ly := lev_up hp hy
        constructor
        · show (if max (levE p (s.1 - 1) (restQ p (s.1 - 1) s.2) x) (levE p (s.1 - 1) (restQ p (s.1 - 1) s.2) y) ≤ lvX p x y then _ else _) = (if max (levE p s.1 s.2 x) (levE p s.1 s.2 y) ≤ lvX p x y then _ else _)
          rw [lx.1, ly.1, rest2E hp (show max (levE p s.1 s.2 x) (levE p s.1 s.2 y) ≤ s.1 - 1 by omega)]
        · by_cases hm : max (levE p s.1 s.2 x) (levE p s.1 s.2 y) ≤ lvX p x y
          · have n1 : nearE p s (some x) (some y) = (lvX p x y, restQ p (lvX p x y) x) := if_pos hm
            rw [n1]
            refine way_up hp fun z d => hx ?_
            exact (rest_dvE hp z x s.2).mp d
          · have n1 : nearE p s (some x) (some y) = (max (levE p s.1 s.2 x) (levE p s.1 s.2 y), restQ p (max (levE p s.1 s.2 x) (levE p s.1 s.2 y)) s.2) := if_neg hm
            rw [n1]
            exact way1 _ (by omega)
theorem lvX_symm {p : Int} (hp : Pr p) (x y : Rat) : lvX p x y = lvX p y x := by unfold lvX; rw [vq_symm hp]
theorem near_symm {p : Int} (hp : Pr p) (s : Int × Rat) {e f : Option Rat} (hef : e ≠ f) : nearE p s e f = nearE p s f e := by
  cases e with
  | none => cases f <;> rfl
  | some x =>
    cases f with
    | none => rfl
    | some y =>
      have xy : x ≠ y := fun z => hef (by rw [z])
      show (if max (levE p s.1 s.2 x) (levE p s.1 s.2 y) ≤ lvX p x y then _ else _) = (if max (levE p s.1 s.2 y) (levE p s.1 s.2 x) ≤ lvX p y x then _ else _)
      rw [lvX_symm hp y x, show max (levE p s.1 s.2 y) (levE p s.1 s.2 x) = max (levE p s.1 s.2 x) (levE p s.1 s.2 y) by omega, (rest_eqE hp (lvX p x y) x y).mpr ((lvX_iff hp xy _).mp (Int.le_refl _))]
theorem wy_nn {p : Int} (hp : Pr p) (s t : Int × Rat) : 0 ≤ wy p s t := by
  have l := (lv_iff hp s.1 t.1 _ s.2 t.2).mp (Int.le_refl _)
  unfold wy
  rw [← way_lv]
  omega
/-- what the nearest spot is the deepest of -/
noncomputable def nl67 (p : Int) (s : Int × Rat) : Option Rat → Option Rat → List (Int × Rat)
  | some x, some y => [(levE p s.1 s.2 x, restQ p (levE p s.1 s.2 x) s.2), (levE p s.1 s.2 y, restQ p (levE p s.1 s.2 y) s.2), (lvX p x y, restQ p (lvX p x y) x)]
  | some x, none => [(levE p s.1 s.2 x, restQ p (levE p s.1 s.2 x) s.2)]
  | none, some y => [(levE p s.1 s.2 y, restQ p (levE p s.1 s.2 y) s.2)]
  | none, none => []
theorem nl_same67 {p : Int} (hp : Pr p) (s : Int × Rat) {e f : Option Rat} (hef : e ≠ f) : ∀ a ∈ nl67 p s e f, ∀ b ∈ nl67 p s e f, a.1 = b.1 → a.2 = b.2 := by
  have key : ∀ x y : Rat, x ≠ y → (levE p s.1 s.2 x = lvX p x y → restQ p (levE p s.1 s.2 x) s.2 = restQ p (lvX p x y) x) ∧ (levE p s.1 s.2 y = lvX p x y → restQ p (levE p s.1 s.2 y) s.2 = restQ p (lvX p x y) x) := fun x y xy => by
    have dx := ((lev_iff hp s.1 _ s.2 x).mp (Int.le_refl _)).2
    have dy := ((lev_iff hp s.1 _ s.2 y).mp (Int.le_refl _)).2
    have dw := (lvX_iff hp xy _).mp (Int.le_refl _)
    constructor
    · intro h
      rw [h] at dx ⊢
      exact ((rest_eqE hp _ x s.2).mpr dx).symm
    · intro h
      rw [h] at dy ⊢
      exact ((rest_eqE hp _ x s.2).mpr (by have := dv_add hp dy dw; rwa [show y - s.2 + (x - y) = x - s.2 by grind] at this)).symm
  intro a ha b hb h
  cases e with
  | none =>
    cases f with
    | none => cases ha
    | some y => cases List.mem_singleton.mp ha; cases List.mem_singleton.mp hb; rfl
  | some x =>
    cases f with
    | none => cases List.mem_singleton.mp ha; cases List.mem_singleton.mp hb; rfl
    | some y =>
      have k := key x y fun z => hef (by rw [z])
      simp only [nl67, List.mem_cons, List.not_mem_nil, or_false] at ha hb
      rcases ha with rfl | rfl | rfl <;> rcases hb with rfl | rfl | rfl
      · rfl
      · have h : levE p s.1 s.2 x = levE p s.1 s.2 y := h
        show restQ p _ _ = restQ p _ _
        rw [h]
      · exact k.1 h
      · have h : levE p s.1 s.2 y = levE p s.1 s.2 x := h
        show restQ p _ _ = restQ p _ _
        rw [h]
      · rfl
      · exact k.2 h
      · exact (k.1 h.symm).symm
      · exact (k.2 h.symm).symm
      · rfl
theorem nl_max67 {p : Int} (hp : Pr p) (s : Int × Rat) {e f : Option Rat} (hef : e ≠ f) {c : Int × Rat} (hc : c ∈ nl67 p s e f) (hm : ∀ d ∈ nl67 p s e f, d.1 ≤ c.1) : c = nearE p s e f := by
  have sm := nl_same67 hp s hef
  have fin : ∀ d ∈ nl67 p s e f, d.1 = c.1 → c = d := fun d hd h => Prod.ext h.symm (sm c hc d hd h.symm)
  cases e with
  | none =>
    cases f with
    | none => cases hc
    | some y => exact List.mem_singleton.mp hc
  | some x =>
    cases f with
    | none => exact List.mem_singleton.mp hc
    | some y =>
      have hc2 := hc
      simp only [nl67, List.mem_cons, List.not_mem_nil, or_false] at hc
      have m1 := hm (levE p s.1 s.2 x, restQ p (levE p s.1 s.2 x) s.2) (by simp [nl67])
      have m2 := hm (levE p s.1 s.2 y, restQ p (levE p s.1 s.2 y) s.2) (by simp [nl67])
      have m3 := hm (lvX p x y, restQ p (lvX p x y) x) (by simp [nl67])
      have m1 : levE p s.1 s.2 x ≤ c.1 := m1
      have m2 : levE p s.1 s.2 y ≤ c.1 := m2
      have m3 : lvX p x y ≤ c.1 := m3
      have lv : c.1 = levE p s.1 s.2 x ∨ c.1 = levE p s.1 s.2 y ∨ c.1 = lvX p x y := by
        rcases hc with rfl | rfl | rfl
        · exact .inl rfl
        · exact .inr (.inl rfl)
        · exact .inr (.inr rfl)
      by_cases h : max (levE p s.1 s.2 x) (levE p s.1 s.2 y) ≤ lvX p x y
      · have e1 : nearE p s (some x) (some y) = (lvX p x y, restQ p (lvX p x y) x) := if_pos h
        rw [e1]
        exact fin _ (by simp [nl67]) (by show lvX p x y = c.1; omega)
      · have e1 : nearE p s (some x) (some y) = (max (levE p s.1 s.2 x) (levE p s.1 s.2 y), restQ p (max (levE p s.1 s.2 x) (levE p s.1 s.2 y)) s.2) := if_neg h
        rw [e1]
        by_cases g : levE p s.1 s.2 x ≤ levE p s.1 s.2 y
        · rw [show max (levE p s.1 s.2 x) (levE p s.1 s.2 y) = levE p s.1 s.2 y by omega]
          exact fin _ (by simp [nl67]) (by show levE p s.1 s.2 y = c.1; omega)
        · rw [show max (levE p s.1 s.2 x) (levE p s.1 s.2 y) = levE p s.1 s.2 x by omega]
          exact fin _ (by simp [nl67]) (by show levE p s.1 s.2 x = c.1; omega)
theorem nl_ne67 (p : Int) (s : Int × Rat) {e f : Option Rat} (hef : e ≠ f) : nl67 p s e f ≠ [] := by
  cases e <;> cases f
  · exact absurd rfl hef
  · exact List.cons_ne_nil _ _
  · exact List.cons_ne_nil _ _
  · exact List.cons_ne_nil _ _
theorem nl_at67 {p : Int} (hp : Pr p) (s : Int × Rat) {e f : Option Rat} (hef : e ≠ f) : ((nl67 p s e f).map prS)[argBest (bestP ((nl67 p s e f).map prS)) (((nl67 p s e f).map prS).length - 1)]? = some (prS (nearE p s e f)) := by
  obtain ⟨x, h1, h2, h3⟩ := best_in (l := (nl67 p s e f).map prS) (fun z => nl_ne67 p s hef (List.map_eq_nil_iff.mp z))
  obtain ⟨c, hc, rfl⟩ := List.mem_map.mp h2
  rw [h1, nl_max67 hp s hef hc fun d hd => h3 (prS d) (List.mem_map_of_mem hd)]
/-- refused, or not -/
def lin67 (e f : Option Rat) (d : D) (r : Rs) : Prop := (e ≠ f ∧ r = .ok d) ∨ (e = f ∧ r = .ex "NoLine")
def R_unlike (ds : List D) (r : Rs) : Prop := ∃ e f : Option Rat, ds = [enD e, enD f] ∧ lin67 e f .non r
def R_online (ds : List D) (r : Rs) : Prop := ∃ (p k : Int) (q : Rat) (e f : Option Rat), ds = [.int p, spE k q, enD e, enD f] ∧ Pr p ∧ -10000 ≤ k ∧ k ≤ 10000 ∧ Fb 4400 q ∧ EFb 4400 e ∧ EFb 4400 f ∧ lin67 e f (.bl (!decide (nxt p k q e = nxt p k q f))) r
def R_ttw (ds : List D) (d : D) : Prop := ∃ (p k : Int) (q x : Rat), ds = [.int p, spE k q, frD x] ∧ Pr p ∧ Own p k q ∧ Fb 1862 q ∧ Fb 1862 x ∧ d = spE (levE p k q x) (restQ p (levE p k q x) q)
def R_toe (ds : List D) (d : D) : Prop := ∃ (p : Int) (x y : Rat), ds = [.int p, frD x, frD y] ∧ Pr p ∧ x ≠ y ∧ Fb 1862 x ∧ Fb 1862 y ∧ d = spE (lvX p x y) (restQ p (lvX p x y) x)
def R_nearest (ds : List D) (r : Rs) : Prop := ∃ (p : Int) (s : Int × Rat) (e f : Option Rat), ds = [.int p, spE s.1 s.2, enD e, enD f] ∧ Pr p ∧ (e ≠ f → Own p s.1 s.2 ∧ Spt p 310 s.1 s.2 ∧ EFb 1862 e ∧ EFb 1862 f ∧ Spt p 310 (nearE p s e f).1 (nearE p s e f).2) ∧ lin67 e f (.tup [spE (nearE p s e f).1 (nearE p s e f).2, .int (wy p s (nearE p s e f))]) r
theorem EFb.mono67 {m n : Nat} {e : Option Rat} (h : EFb m e) (l : m ≤ n) : EFb n e := fun x hx => (h x hx).mono l

theorem en_eq67 (e f : Option Rat) : eqD (enD e) (enD f) = decide (e = f) := by
  cases e with
  | none =>
    cases f with
    | none => rw [en_self]; rfl
    | some y => rfl
  | some x =>
    cases f with
    | none => rw [show eqD (enD (some x)) (enD none) = decide (some x = none) from en_far (some x)]
    | some y =>
      show eqD (frD x) (frD y) = _
      rw [eqD_fq]
      by_cases h : x = y <;> simp [h]
def R_whole (ds : List D) (d : D) : Prop := ∃ i : Int, ds = [.int i] ∧ d = .bl true
def sK67 (n : Int) : Int := if decide (n / 25 % 8 = 1) = true then n / 200 % 81 - 40 else n % 25 - 12
def sQ67 (p n m : Int) : Rat := if sK67 n + m % 11 ≤ 0 then 0 else Rat.divInt (m / 11 % (if p ^ (sK67 n + m % 11).toNat ≤ 10 ^ 40 then p ^ (sK67 n + m % 11).toNat else 10 ^ 40)) (p ^ (m % 11).toNat)
theorem sK67_bd (n : Int) : -40 ≤ sK67 n ∧ sK67 n ≤ 40 := by unfold sK67; split <;> omega
def R_spot67 (ds : List D) (d : D) : Prop := ∃ p n m : Int, ds = [.int p, .int n, .int m] ∧ Pr p ∧ d = spE (sK67 n) (sQ67 p n m)
theorem sQ67_form {p : Int} (hp : Pr p) (n m : Int) : sQ67 p n m = 0 ∨ ∃ t : Int, 0 ≤ t ∧ t < 10 ^ 40 ∧ t < p ^ (sK67 n + m % 11).toNat ∧ 0 < sK67 n + m % 11 ∧ sQ67 p n m = Rat.divInt t (p ^ (m % 11).toNat) := by
  unfold sQ67
  split
  · exact .inl rfl
  · rename_i h
    right
    have pk := pw_pos hp (sK67 n + m % 11).toNat
    have hmod : ∀ M : Int, 0 < M → 0 ≤ m / 11 % M ∧ m / 11 % M < M := fun M hM => ⟨Int.emod_nonneg _ (by omega), Int.emod_lt_of_pos _ hM⟩
    refine ⟨_, ?_, ?_, ?_, by omega, rfl⟩
    · split
      · exact (hmod _ pk).1
      · exact (hmod (10 ^ 40) (by decide +kernel)).1
    · split
      · have := (hmod _ pk).2; omega
      · exact (hmod (10 ^ 40) (by decide +kernel)).2
    · split
      · exact (hmod _ pk).2
      · have := (hmod (10 ^ 40) (by decide +kernel)).2; omega
theorem pw2_67 (k : Nat) : Bd (k + 1) ((2 : Int) ^ k) := by
  unfold Bd
  rw [Int.natAbs_pow]
  exact Nat.pow_lt_pow_right (by decide) (by omega)
theorem sQ67_bd {p : Int} (hp : Pr p) (n m : Int) : Fb 140 (sQ67 p n m) ∧ (p = 2 → Fb 60 (sQ67 p n m)) := by
  have kb := sK67_bd n
  have pe := pw_pos hp (m % 11).toNat
  rcases sQ67_form hp n m with e | ⟨t, t0, t1, t2, hk, e⟩
  · rw [e]; exact ⟨fb_zero.mono (by decide), fun _ => fb_zero.mono (by decide)⟩
  · rw [e]
    refine ⟨Fb.divInt (by omega) (Bd.of (10 ^ 40) (by omega) t1 (by decide +kernel)) ((pw_bd hp _).mono (by omega)), fun h2 => ?_⟩
    subst h2
    have b2 := (pw2_67 (sK67 n + m % 11).toNat).mono (show (sK67 n + m % 11).toNat + 1 ≤ 60 by omega)
    refine Fb.divInt (by omega) ?_ ((pw2_67 _).mono (by omega))
    unfold Bd at b2 ⊢
    omega
theorem sQ67_own {p : Int} (hp : Pr p) (n m : Int) : Own p (sK67 n) (sQ67 p n m) := by
  have z : Dv p (sK67 n) (sQ67 p n m - sQ67 p n m) := by rw [show sQ67 p n m - sQ67 p n m = 0 by grind]; exact dv_zero _ _ hp
  rcases sQ67_form hp n m with e | ⟨t, t0, t1, t2, hk, e⟩
  · rw [e] at z ⊢
    exact ⟨⟨0, by simp⟩, by decide, ppw_pos hp _, z⟩
  · have pe := pw_pos hp (m % 11).toNat
    have e0 : sQ67 p n m * ppw p ((m % 11).toNat : Int) = (t : Rat) := by rw [e, ppw_nat]; exact divInt_mul (by omega)
    refine ⟨pden_of hp e0, ?_, ?_, z⟩
    · rw [e]
      have := ppw_pos hp ((m % 11).toNat : Int)
      rw [e] at e0
      refine Classical.byContradiction fun c => ?_
      have c : Rat.divInt t (p ^ (m % 11).toNat) < 0 := Rat.not_le.mp c
      have h := Rat.mul_lt_mul_of_pos_right c this
      rw [e0, Rat.zero_mul] at h
      have : t < 0 := by exact_mod_cast h
      omega
    · have pp := ppw_pos hp ((m % 11).toNat : Int)
      refine Classical.byContradiction fun c => ?_
      have c := Rat.not_lt.mp c
      have h := Rat.mul_le_mul_of_nonneg_right c (Rat.le_of_lt pp)
      rw [e0, ← ppw_add hp, show sK67 n + ((m % 11).toNat : Int) = ((sK67 n + m % 11).toNat : Int) by omega, ppw_nat] at h
      have : p ^ (sK67 n + m % 11).toNat ≤ t := by exact_mod_cast h
      omega
theorem dv_fb67 {p : Int} (hp : Pr p) {m : Nat} {x : Rat} (h : Fb m x) {n : Int} (hn : n ≤ -(m : Int)) : Dv p n x := by
  rw [vq_dv hp]
  cases hv : vq p x with
  | none => trivial
  | some v =>
    have := vq_bd82 hp h hv
    show n ≤ v
    omega
theorem vq3_67 {p : Int} (hp : Pr p) (h3 : p ≠ 2) {m a : Nat} {r : Rat} (h : Fb m r) {v : Int} (hv : vq p r = some v) (ha : m ≤ 3 * a) : v < 2 * (a : Int) := by
  have f := (fb_part82 hp h hv).1
  refine Classical.byContradiction fun c => ?_
  have q := ppw_nn (p := p) (k := v) (by omega)
  have f1 := f.1
  rw [q.1] at f1
  unfold Bd at f1
  rw [Int.natAbs_pow] at f1
  have p3 : 3 ≤ p.natAbs := by rcases hp with rfl | rfl | rfl | rfl <;> first | exact absurd rfl h3 | decide
  have h1 : 3 ^ (2 * a) ≤ p.natAbs ^ v.toNat := Nat.le_trans (Nat.pow_le_pow_left p3 _) (Nat.pow_le_pow_right (by omega) (by omega))
  have h2 : 2 ^ (3 * a) ≤ 3 ^ (2 * a) := by rw [Nat.pow_mul, Nat.pow_mul]; exact Nat.pow_le_pow_left (by decide) _
  have h4 : 2 ^ m ≤ 2 ^ (3 * a) := Nat.pow_le_pow_right (by decide) ha
  omega
theorem numb2_67 (n : Int) : Fb 120 (numb 2 n) := by
  have t := nTop_bd n
  have w := nPow_bd n
  have b := nBot_bd n
  have b' : Bd 4 (nBot n) := Bd.of 13 (by omega) (by omega) (by decide)
  unfold numb
  split
  · have q := (pw2_67 (-nPow n).toNat).mono (show (-nPow n).toNat + 1 ≤ 41 by omega)
    have pp := pw_pos (.inl rfl : Pr 2) (-nPow n).toNat
    exact Fb.divInt (Int.mul_ne_zero (by omega) (by omega)) (t.mono (by decide)) ((b'.mul q).mono (by decide))
  · have q := (pw2_67 (nPow n).toNat).mono (show (nPow n).toNat + 1 ≤ 41 by omega)
    exact Fb.divInt (by omega) ((t.mul q).mono (by decide)) (b'.mono (by decide))
theorem end67_bd {p : Int} (hp : Pr p) (k : Int) {q : Rat} (hq : Fb 140 q) (h2 : p = 2 → Fb 60 q) (s n : Int) : EFb 220 (end62 p k q s n) ∧ (p = 2 → EFb 150 (end62 p k q s n)) := by
  refine ⟨end62_bd hp k hq s n, fun e => ?_⟩
  have hq2 := h2 e
  intro x hx
  unfold end62 at hx
  split at hx
  · cases hx
  · split at hx
    · cases hx; exact hq2.mono (by decide)
    · split at hx
      · cases hx
        exact (hq2.add ((smq_bd hp n).mul (ppw_fbE hp 12 (by omega) (by omega)))).mono (by decide)
      · cases hx; subst e; exact (numb2_67 n).mono (by decide)
/-- ends that are not too great -/
def Ed67 (p : Int) (e : Option Rat) : Prop := EFb 220 e ∧ (p = 2 → EFb 150 e)
theorem lvX_bd67 {p : Int} (hp : Pr p) {x y : Rat} (hx : Ed67 p (some x)) (hy : Ed67 p (some y)) (h : x ≠ y) : -310 ≤ lvX p x y ∧ lvX p x y ≤ 310 := by
  constructor
  · exact (lvX_iff hp h _).mpr (dv_sub hp (dv_fb67 hp (hx.1 x rfl) (by decide)) (dv_fb67 hp (hy.1 y rfl) (by decide)))
  · unfold lvX
    cases hv : vq p (x - y) with
    | none => decide
    | some v =>
      show v ≤ 310
      by_cases e : p = 2
      · have := vq_bd82 hp ((hx.2 e x rfl).sub (hy.2 e y rfl)) hv
        omega
      · have := vq3_67 hp e (a := 147) ((hx.1 x rfl).sub (hy.1 y rfl)) hv (by decide)
        omega
theorem lev_bd67 {p k : Int} (hp : Pr p) {q x : Rat} (k0 : -310 ≤ k) (hq : Fb 220 q) (hx : Fb 220 x) : -310 ≤ levE p k q x ∧ levE p k q x ≤ k := by
  constructor
  · exact (lev_iff hp k _ q x).mpr ⟨k0, dv_sub hp (dv_fb67 hp hx (by decide)) (dv_fb67 hp hq (by decide))⟩
  · exact ((lev_iff hp k _ q x).mp (Int.le_refl _)).1
theorem rest_spt67 {p L : Int} (hp : Pr p) {y : Rat} (h0 : -310 ≤ L) (h1 : L ≤ 310) (hy : Fb 220 y) : Spt p 310 L (restQ p L y) := by
  have r := rest_is hp L y
  refine ⟨h0, h1, r.nn, r.lt, sc83 hp r.den ?_⟩
  exact (by have := (rest_dvE hp (n := -310) h0 y 0); rw [show restQ p L y - 0 = restQ p L y by grind, show y - 0 = y by grind] at this; exact this.mpr (dv_fb67 hp hy (by decide)))
/-- what is known of the nearest spot -/
theorem near_spt67 {p : Int} (hp : Pr p) {s : Int × Rat} (k0 : -40 ≤ s.1) (k1 : s.1 ≤ 40) (hq : Fb 220 s.2) {e f : Option Rat} (hef : e ≠ f) (he : Ed67 p e) (hf : Ed67 p f) : Spt p 310 (nearE p s e f).1 (nearE p s e f).2 := by
  cases e with
  | none =>
    cases f with
    | none => exact absurd rfl hef
    | some y =>
      have l := lev_bd67 hp (k := s.1) (by omega) hq (hf.1 y rfl)
      show Spt p 310 (levE p s.1 s.2 y) (restQ p (levE p s.1 s.2 y) s.2)
      exact rest_spt67 hp l.1 (by omega) hq
  | some x =>
    have lx := lev_bd67 hp (k := s.1) (by omega) hq (he.1 x rfl)
    cases f with
    | none =>
      show Spt p 310 (levE p s.1 s.2 x) (restQ p (levE p s.1 s.2 x) s.2)
      exact rest_spt67 hp lx.1 (by omega) hq
    | some y =>
      have ly := lev_bd67 hp (k := s.1) (by omega) hq (hf.1 y rfl)
      have w := lvX_bd67 hp he hf (fun z => hef (by rw [z]))
      by_cases h : max (levE p s.1 s.2 x) (levE p s.1 s.2 y) ≤ lvX p x y
      · have e1 : nearE p s (some x) (some y) = (lvX p x y, restQ p (lvX p x y) x) := if_pos h
        rw [e1]
        exact rest_spt67 hp w.1 w.2 (he.1 x rfl)
      · have e1 : nearE p s (some x) (some y) = (max (levE p s.1 s.2 x) (levE p s.1 s.2 y), restQ p (max (levE p s.1 s.2 x) (levE p s.1 s.2 y)) s.2) := if_neg h
        rw [e1]
        exact rest_spt67 hp (by omega) (by omega) hq
theorem own_spt67 {p : Int} (hp : Pr p) {s : Int × Rat} (k0 : -40 ≤ s.1) (k1 : s.1 ≤ 40) (hq : Fb 220 s.2) (o : Own p s.1 s.2) : Spt p 310 s.1 s.2 := by
  have := rest_spt67 hp (L := s.1) (by omega) (by omega) hq
  rwa [own_self hp o] at this
theorem wy_bd67 {p : Int} (hp : Pr p) {s t : Int × Rat} (k0 : -40 ≤ s.1) (k1 : s.1 ≤ 40) (hs : Spt p 310 s.1 s.2) (ht : Spt p 310 t.1 t.2) : wy p s t ≤ 970 := by
  have dvs : ∀ {k : Int} {q : Rat}, Spt p 310 k q → Dv p (-310) q := fun h => by
    obtain ⟨m, e⟩ := h.sc
    have d := dv_i83 hp m
    rw [← e, dv_ppw hp] at d
    exact d
  have l := (lv_iff hp s.1 t.1 (-310) s.2 t.2).mpr ⟨by omega, ht.k0, dv_sub hp (dvs ht) (dvs hs)⟩
  have := ht.k1
  unfold wy
  rw [← way_lv]
  omega
def R_refused67 (ds : List D) (d : D) : Prop := ∃ (p : Int) (s : Int × Rat) (e : Option Rat) (k : Int), ds = [.int p, spE s.1 s.2, enD e, .int k] ∧ Pr p ∧ -40 ≤ s.1 ∧ s.1 ≤ 40 ∧ Fb 220 s.2 ∧ EFb 220 e ∧ d = .bl true
def R_due67 (ds : List D) (d : D) : Prop := ∃ (p : Int) (s : Int × Rat) (e f : Option Rat), ds = [.int p, spE s.1 s.2, enD e, enD f] ∧ Pr p ∧ Own p s.1 s.2 ∧ e ≠ f ∧ -40 ≤ s.1 ∧ s.1 ≤ 40 ∧ Fb 220 s.2 ∧ Ed67 p e ∧ Ed67 p f ∧ d = .tup [spE (nearE p s e f).1 (nearE p s e f).2, .int (wy p s (nearE p s e f))]
def R_marks (y : Str) (d : D) : Prop := (y = "NoFraction" ∧ d = .lst (onlyL 3)) ∨ (y = "NoTable" ∧ d = .lst (onlyL 6)) ∨ (y = "NoLine" ∧ d = .lst (onlyL 8))
def R_only (ds : List D) (d : D) : Prop := ∃ i : Int, ds = [.int i] ∧ d = .lst (onlyL i)
def top (i : Nat) : Stmt := PySem.Challenge.pw_primetree_k67_lines_looked_at.main.body.getD i (.Pass ⟨0, 0, 0, 0⟩)
structure Mo (T : Tx) : Prop where
  b_abs : T.mg "abs" = none
  b_min : T.mg "min" = none
  b_max : T.mg "max" = none
  b_len : T.mg "len" = none
  b_int : T.mg "int" = none
  b_isinstance : T.mg "isinstance" = none
  b_bool : T.mg "bool" = none
  b_range : T.mg "range" = none
  b_ValueError : T.mg "ValueError" = none
  b_tuple : T.mg "tuple" = none
  F_shared : At T "shared" (top 13)
  F_power_of : At T "power_of" (top 14)
  F_raised : At T "raised" (top 15)
  F_over_by : At T "over_by" (top 16)
  F_obp : At T "over_by_prime" (top 17)
  F_fraction : AtV T "fraction" (top 21) 1
  F_plus : At T "plus" (top 22)
  F_minus : At T "minus" (top 23)
  F_times : At T "times" (top 24)
  F_over : At T "over" (top 25)
  F_power_in : At T "power_in" (top 26)
  F_prime_power : At T "prime_power" (top 27)
  F_alike : At T "alike" (top 28)
  F_rest_byN : At T "rest_by" (top 29)
  F_measure : At T "measure" (top 31)
  F_product : At T "product" (top 32)
  F_row_by_column : At T "row_by_column" (top 33)
  F_turned_over : At T "turned_over" (top 34)
  F_stretched : At T "stretched" (top 35)
  F_table_at : At T "table_at" (top 37)
  F_aboveE : At T "spot_above" (top 38)
  F_least_power : At T "least_power" (top 39)
  F_two_numbers : At T "two_numbers" (top 40)
  F_lies_in : At T "lies_in" (top 41)
  F_way : At T "way" (top 42)
  F_next_to : At T "next_to" (top 45)
  F_on_line : At T "on_line" (top 47)
  F_check_unlike : At T "check_unlike" (top 48)
  F_nearest : At T "nearest" (top 49)
  F_turn_towards : At T "turn_towards" (top 50)
  F_turn_of_ends : At T "turn_of_ends" (top 51)
  F_up : At T "_law_up" (top 53)
  F_drawn : At T "_law_drawn" (top 54)
  F_whole : At T "_law_whole" (top 55)
  F_divisor : At T "_law_divisor" (top 56)
  F_lowest : At T "_law_lowest" (top 57)
  F_prime : At T "_law_prime" (top 58)
  F_number : At T "_law_number" (top 59)
  F_lsmall : At T "_law_small" (top 60)
  F_power : At T "_law_power" (top 61)
  F_lsum : At T "_law_sum" (top 62)
  F_lproduct : At T "_law_product" (top 63)
  F_pp : At T "_law_pp" (top 64)
  F_over_pE : At T "_law_over_p" (top 65)
  F_restE : At T "_law_rest" (top 66)
  F_spot67 : At T "_law_spot" (top 67)
  F_lend62 : At T "_law_end" (top 68)
  F_lnext : At T "_law_next" (top 69)
  F_marks : At T "_law_marks" (top 70)
  F_only : At T "_law_only" (top 71)
  F_refused67 : At T "_law_refused" (top 72)
  F_due67 : At T "_law_due" (top 73)
  g_TreeError : ∃ C, T.mg "TreeError" = some (.ref C)
  g_NoPrime : ∃ C, T.mg "NoPrime" = some (.ref C)
  g_NoFraction : ∃ C, T.mg "NoFraction" = some (.ref C)
  g_NoText : ∃ C, T.mg "NoText" = some (.ref C)
  g_NoSpot : ∃ C, T.mg "NoSpot" = some (.ref C)
  g_NoTable : ∃ C, T.mg "NoTable" = some (.ref C)
  g_TooMany : ∃ C, T.mg "TooMany" = some (.ref C)
  g_NoLine : ∃ C, T.mg "NoLine" = some (.ref C)
  g_NoRow : ∃ C, T.mg "NoRow" = some (.ref C)
  g_NothingDone : ∃ C, T.mg "NothingDone" = some (.ref C)
  g_TooFar : ∃ C, T.mg "TooFar" = some (.ref C)
  c_NoFraction : ClsX T "NoFraction"
  e_NoFraction : ∀ C, T.mg "NoFraction" = some (.ref C) → ExcK T.K C
  v_NoFraction : ∀ C, T.mg "NoFraction" = some (.ref C) → PySem.W.kitOne T.K (.ref C) (.type "ValueError") = some true
  i_NoFraction_TreeError : ∀ C C', T.mg "NoFraction" = some (.ref C) → T.mg "TreeError" = some (.ref C') → PySem.W.kitOne T.K (.ref C) (.ref C') = some true
  i_NoFraction_NoPrime : ∀ C C', T.mg "NoFraction" = some (.ref C) → T.mg "NoPrime" = some (.ref C') → PySem.W.kitOne T.K (.ref C) (.ref C') = some false
  i_NoFraction_NoFraction : ∀ C C', T.mg "NoFraction" = some (.ref C) → T.mg "NoFraction" = some (.ref C') → PySem.W.kitOne T.K (.ref C) (.ref C') = some true
  i_NoFraction_NoText : ∀ C C', T.mg "NoFraction" = some (.ref C) → T.mg "NoText" = some (.ref C') → PySem.W.kitOne T.K (.ref C) (.ref C') = some false
  i_NoFraction_NoSpot : ∀ C C', T.mg "NoFraction" = some (.ref C) → T.mg "NoSpot" = some (.ref C') → PySem.W.kitOne T.K (.ref C) (.ref C') = some false
  i_NoFraction_NoTable : ∀ C C', T.mg "NoFraction" = some (.ref C) → T.mg "NoTable" = some (.ref C') → PySem.W.kitOne T.K (.ref C) (.ref C') = some false
  i_NoFraction_TooMany : ∀ C C', T.mg "NoFraction" = some (.ref C) → T.mg "TooMany" = some (.ref C') → PySem.W.kitOne T.K (.ref C) (.ref C') = some false
  i_NoFraction_NoLine : ∀ C C', T.mg "NoFraction" = some (.ref C) → T.mg "NoLine" = some (.ref C') → PySem.W.kitOne T.K (.ref C) (.ref C') = some false
  i_NoFraction_NoRow : ∀ C C', T.mg "NoFraction" = some (.ref C) → T.mg "NoRow" = some (.ref C') → PySem.W.kitOne T.K (.ref C) (.ref C') = some false
  i_NoFraction_NothingDone : ∀ C C', T.mg "NoFraction" = some (.ref C) → T.mg "NothingDone" = some (.ref C') → PySem.W.kitOne T.K (.ref C) (.ref C') = some false
  i_NoFraction_TooFar : ∀ C C', T.mg "NoFraction" = some (.ref C) → T.mg "TooFar" = some (.ref C') → PySem.W.kitOne T.K (.ref C) (.ref C') = some false
  m_NoFraction_TreeError : ∀ C C', T.mg "NoFraction" = some (.ref C) → T.mg "TreeError" = some (.ref C') → PySem.W.exmOne T.K (.ref C) (.ref C') = some true
  c_NoTable : ClsX T "NoTable"
  e_NoTable : ∀ C, T.mg "NoTable" = some (.ref C) → ExcK T.K C
  v_NoTable : ∀ C, T.mg "NoTable" = some (.ref C) → PySem.W.kitOne T.K (.ref C) (.type "ValueError") = some true
  i_NoTable_TreeError : ∀ C C', T.mg "NoTable" = some (.ref C) → T.mg "TreeError" = some (.ref C') → PySem.W.kitOne T.K (.ref C) (.ref C') = some true
  i_NoTable_NoPrime : ∀ C C', T.mg "NoTable" = some (.ref C) → T.mg "NoPrime" = some (.ref C') → PySem.W.kitOne T.K (.ref C) (.ref C') = some false
  i_NoTable_NoFraction : ∀ C C', T.mg "NoTable" = some (.ref C) → T.mg "NoFraction" = some (.ref C') → PySem.W.kitOne T.K (.ref C) (.ref C') = some false
  i_NoTable_NoText : ∀ C C', T.mg "NoTable" = some (.ref C) → T.mg "NoText" = some (.ref C') → PySem.W.kitOne T.K (.ref C) (.ref C') = some false
  i_NoTable_NoSpot : ∀ C C', T.mg "NoTable" = some (.ref C) → T.mg "NoSpot" = some (.ref C') → PySem.W.kitOne T.K (.ref C) (.ref C') = some false
  i_NoTable_NoTable : ∀ C C', T.mg "NoTable" = some (.ref C) → T.mg "NoTable" = some (.ref C') → PySem.W.kitOne T.K (.ref C) (.ref C') = some true
  i_NoTable_TooMany : ∀ C C', T.mg "NoTable" = some (.ref C) → T.mg "TooMany" = some (.ref C') → PySem.W.kitOne T.K (.ref C) (.ref C') = some false
  i_NoTable_NoLine : ∀ C C', T.mg "NoTable" = some (.ref C) → T.mg "NoLine" = some (.ref C') → PySem.W.kitOne T.K (.ref C) (.ref C') = some false
  i_NoTable_NoRow : ∀ C C', T.mg "NoTable" = some (.ref C) → T.mg "NoRow" = some (.ref C') → PySem.W.kitOne T.K (.ref C) (.ref C') = some false
  i_NoTable_NothingDone : ∀ C C', T.mg "NoTable" = some (.ref C) → T.mg "NothingDone" = some (.ref C') → PySem.W.kitOne T.K (.ref C) (.ref C') = some false
  i_NoTable_TooFar : ∀ C C', T.mg "NoTable" = some (.ref C) → T.mg "TooFar" = some (.ref C') → PySem.W.kitOne T.K (.ref C) (.ref C') = some false
  m_NoTable_TreeError : ∀ C C', T.mg "NoTable" = some (.ref C) → T.mg "TreeError" = some (.ref C') → PySem.W.exmOne T.K (.ref C) (.ref C') = some true
  c_NoLine : ClsX T "NoLine"
  e_NoLine : ∀ C, T.mg "NoLine" = some (.ref C) → ExcK T.K C
  v_NoLine : ∀ C, T.mg "NoLine" = some (.ref C) → PySem.W.kitOne T.K (.ref C) (.type "ValueError") = some true
  i_NoLine_TreeError : ∀ C C', T.mg "NoLine" = some (.ref C) → T.mg "TreeError" = some (.ref C') → PySem.W.kitOne T.K (.ref C) (.ref C') = some true
  i_NoLine_NoPrime : ∀ C C', T.mg "NoLine" = some (.ref C) → T.mg "NoPrime" = some (.ref C') → PySem.W.kitOne T.K (.ref C) (.ref C') = some false
  i_NoLine_NoFraction : ∀ C C', T.mg "NoLine" = some (.ref C) → T.mg "NoFraction" = some (.ref C') → PySem.W.kitOne T.K (.ref C) (.ref C') = some false
  i_NoLine_NoText : ∀ C C', T.mg "NoLine" = some (.ref C) → T.mg "NoText" = some (.ref C') → PySem.W.kitOne T.K (.ref C) (.ref C') = some false
  i_NoLine_NoSpot : ∀ C C', T.mg "NoLine" = some (.ref C) → T.mg "NoSpot" = some (.ref C') → PySem.W.kitOne T.K (.ref C) (.ref C') = some false
  i_NoLine_NoTable : ∀ C C', T.mg "NoLine" = some (.ref C) → T.mg "NoTable" = some (.ref C') → PySem.W.kitOne T.K (.ref C) (.ref C') = some false
  i_NoLine_TooMany : ∀ C C', T.mg "NoLine" = some (.ref C) → T.mg "TooMany" = some (.ref C') → PySem.W.kitOne T.K (.ref C) (.ref C') = some false
  i_NoLine_NoLine : ∀ C C', T.mg "NoLine" = some (.ref C) → T.mg "NoLine" = some (.ref C') → PySem.W.kitOne T.K (.ref C) (.ref C') = some true
  i_NoLine_NoRow : ∀ C C', T.mg "NoLine" = some (.ref C) → T.mg "NoRow" = some (.ref C') → PySem.W.kitOne T.K (.ref C) (.ref C') = some false
  i_NoLine_NothingDone : ∀ C C', T.mg "NoLine" = some (.ref C) → T.mg "NothingDone" = some (.ref C') → PySem.W.kitOne T.K (.ref C) (.ref C') = some false
  i_NoLine_TooFar : ∀ C C', T.mg "NoLine" = some (.ref C) → T.mg "TooFar" = some (.ref C') → PySem.W.kitOne T.K (.ref C) (.ref C') = some false
  m_NoLine_TreeError : ∀ C C', T.mg "NoLine" = some (.ref C) → T.mg "TreeError" = some (.ref C') → PySem.W.exmOne T.K (.ref C) (.ref C') = some true
  k_NOUGHT : CstT T "NOUGHT" [0, 1]
  k_ONE : CstT T "ONE" [1, 1]
  k_FAR : CstS T "FAR" "far"
abbrev s_shared : Stmt := top 13
theorem sc_shared : ScB ["one", "other", "left"] ["one", "other"] ["abs"] (defScope s_shared) := ⟨⟨rfl, rfl, rfl, by decide +kernel, rfl, by decide +kernel, by decide +kernel⟩, by decide +kernel, by decide +kernel⟩
theorem ok_shared {T : Tx} (M : Mo T) : FnD T 1 "shared" R_shared := by
  refine fn_D M.F_shared sc_shared (fun f fd F => F.binds fun _ _ _ _ _ _ us hl => match us, hl with | [_, _], _ => rfl) (by rintro _ _ ⟨a, b, rfl, rfl⟩; rfl) fun Y S Z ds d h => ?_
  have Se := S.toSe
  obtain ⟨a, b, rfl, rfl⟩ := h
  refine ss_while S (fun c => ∃ x y z, c = [.val (.int x), .val (.int y), z] ∧ Int.gcd x y = Int.gcd a b) (fun c => match c with | [_, .val (.int y), _] => y.natAbs | _ => 0) ⟨a, b, _, rfl, rfl⟩ ?_
  rintro _ ⟨x, y, z, rfl, hg⟩
  refine ⟨_, te_neI (ev_var Se 1) ev_int, fun h => ?_, fun h => ?_⟩
  · have h0 : y ≠ 0 := by simpa using h
    refine ss_set S 2 (ev_mod (ev_var Se 0) (ev_var Se 1) h0) ?_
    refine ss_set S 0 (ev_var Se 1) ?_
    refine ss_set S 1 (ev_var Se 2) ?_
    refine ss_nil ⟨⟨y, x.fmod y, _, rfl, ?_⟩, ?_⟩
    · rw [gcd_step]; exact hg
    · exact fmod_small x h0
  · have h0 : y = 0 := by simpa using h
    refine ss_ret (ev_abs Se 0 (ar_cons (ev_var Se 0) ar_nil) M.b_abs) ?_
    subst h0
    rw [Int.gcd_zero_right] at hg
    show D.int _ = D.int _
    rw [hg]
abbrev s_power_of : Stmt := top 14
theorem sc_power_of : ScB ["p", "n", "power"] ["p", "n"] [] (defScope s_power_of) := ⟨⟨rfl, rfl, rfl, by decide +kernel, rfl, by decide +kernel, by decide +kernel⟩, by decide +kernel, by decide +kernel⟩
theorem ok_power_of {T : Tx} (M : Mo T) : FnD T 1 "power_of" R_power_of := by
  refine fn_D M.F_power_of sc_power_of (fun f fd F => F.binds fun _ _ _ _ _ _ us hl => match us, hl with | [_, _], _ => rfl) (by rintro _ _ ⟨a, b, rfl, _, rfl⟩; rfl) fun Y S Z ds d h => ?_
  have Se := S.toSe
  obtain ⟨p, n, rfl, hp, rfl⟩ := h
  have p2 := hp.two_le
  refine ss_if (te_eqI (ev_var Se 1) ev_int) (fun h => ?_) (fun h => ss_nil ?_)
  · refine ss_ret ev_non ?_
    show D.non = _
    rw [if_pos (by simpa using h)]
  have h0 : ¬ n = 0 := by simpa using h
  rw [if_neg h0]
  refine ss_set S 2 ev_int ?_
  refine ss_while S (fun c => ∃ m w : Int, c = [.val (.int p), .val (.int m), .val (.int w)] ∧ m ≠ 0 ∧ (vp p n : Int) = w + (vp p m : Int)) (fun c => match c with | [_, .val (.int m), _] => m.natAbs | _ => 0) ⟨n, 0, rfl, h0, by omega⟩ ?_
  rintro _ ⟨m, w, rfl, hm, hv⟩
  refine ⟨_, te_eqI (ev_modP (ev_var Se 1) (ev_var Se 0) (by omega)) ev_int, fun h => ?_, fun h => ?_⟩
  · have h1 : m % p = 0 := by simpa using h
    have f := div_facts p2.1 hm h1
    have s := vp_step p2.1 hm h1
    refine ss_set S 1 (ev_fdivP (ev_var Se 1) (ev_var Se 0) (by omega) (Bd.of 8 (by omega) (by omega) (by decide +kernel))) ?_
    refine ss_set S 2 (ev_add (ev_var Se 2) ev_int) ?_
    exact ss_nil ⟨⟨m / p, w + 1, rfl, f.2.1, by omega⟩, f.2.2⟩
  · have h1 : ¬ m % p = 0 := by simpa using h
    have s := vp_zero h1
    refine ss_ret (ev_var Se 2) ?_
    show D.int _ = D.int _
    congr 1
    omega
abbrev s_raised : Stmt := top 15
theorem sc_raised : ScB ["p", "k", "product", "square"] ["p", "k"] [] (defScope s_raised) := ⟨⟨rfl, rfl, rfl, by decide +kernel, rfl, by decide +kernel, by decide +kernel⟩, by decide +kernel, by decide +kernel⟩
theorem ok_raised {T : Tx} (M : Mo T) : FnD T 1 "raised" R_raised := by
  refine fn_D M.F_raised sc_raised (fun f fd F => F.binds fun _ _ _ _ _ _ us hl => match us, hl with | [_, _], _ => rfl) (by rintro _ _ ⟨a, b, rfl, _, _, rfl⟩; rfl) fun Y S Z ds d h => ?_
  have Se := S.toSe
  obtain ⟨p, k, rfl, hp, hk, rfl⟩ := h
  have p2 := hp.two_le
  refine ss_set S 2 ev_int ?_
  refine ss_set S 3 (ev_var Se 0) ?_
  refine ss_while S (fun c => ∃ k' x y : Int, c = [.val (.int p), .val (.int k'), .val (.int x), .val (.int y)] ∧ k' ≤ k ∧ 1 ≤ x ∧ 1 ≤ y ∧ x * y ^ k'.toNat = p ^ k.toNat) (fun c => match c with | [_, .val (.int y), _, _] => y.toNat | _ => 0) ⟨_, _, _, rfl, Int.le_refl _, by decide, by omega, by rw [Int.one_mul]⟩ ?_
  rintro _ ⟨k', x, y, rfl, hk', hx, hy, he⟩
  refine ⟨_, te_gt (ev_var Se 1) ev_int, fun h => ?_, fun h => ?_⟩
  · have h0 : 0 < k' := by simpa using h
    have ok := sq_ok hp hx hy (show 1 ≤ k'.toNat by omega) (by omega) he
    have xy := le_mul_pos hx hy
    have yy := le_mul_pos hy hy
    refine ss_ifI S 2 (te_eqI (ev_modP (ev_var Se 1) ev_int (by decide)) ev_int) (fun _ => ev_mul (ev_var Se 2) (ev_var Se 3) ok.1) ?_
    refine ss_set S 3 (ev_mul (ev_var Se 3) (ev_var Se 3) ok.2) ?_
    refine ss_set S 1 (ev_fdivP (ev_var Se 1) ev_int (by decide) (by decide +kernel)) ?_
    refine ss_nil ⟨⟨k' / 2, _, y * y, rfl, by omega, ?_, by omega, ?_⟩, ?_⟩
    · split <;> omega
    · have e := sq_step he
      have e1 : (k' / 2).toNat = k'.toNat / 2 := by omega
      rw [e1, ← e]
      by_cases h2 : k' % 2 = 1
      · rw [if_pos (by simpa using h2), if_pos (show k'.toNat % 2 = 1 by omega)]
      · rw [if_neg (by simpa using h2), if_neg (show ¬ k'.toNat % 2 = 1 by omega)]
    · show (k' / 2).toNat < k'.toNat
      omega
  · have h0 : k'.toNat = 0 := by
      have : ¬ 0 < k' := by simpa using h
      omega
    refine ss_ret (ev_var Se 2) ?_
    rw [h0, Int.pow_zero, Int.mul_one] at he
    show D.int _ = D.int _
    rw [he]
abbrev s_obp : Stmt := top 17
theorem sc_obp : ScB ["p", "n", "answer"] ["p", "n"] [] (defScope s_obp) := ⟨⟨rfl, rfl, rfl, by decide +kernel, rfl, by decide +kernel, by decide +kernel⟩, by decide +kernel, by decide +kernel⟩
theorem ok_obp {T : Tx} (M : Mo T) : FnD T 1 "over_by_prime" R_obp := by
  refine fn_D M.F_obp sc_obp (fun f fd F => F.binds fun _ _ _ _ _ _ us hl => match us, hl with | [_, _], _ => rfl) (by rintro _ _ ⟨a, b, rfl, _, _, _, rfl⟩; rfl) fun Y S Z ds d h => ?_
  have Se := S.toSe
  obtain ⟨p, n, rfl, hp, hn, hb, rfl⟩ := h
  have p2 := hp.two_le
  refine ss_set S 2 ev_int ?_
  refine ss_while S (fun c => ∃ a : Int, c = [.val (.int p), .val (.int n), .val (.int a)] ∧ 1 ≤ a ∧ a ≤ p - 1 ∧ ∀ b, 1 ≤ b → b < a → n * b % p ≠ 1) (fun c => match c with | [_, _, .val (.int y)] => (p - y).toNat | _ => 0) ⟨1, rfl, by omega, by omega, fun b h1 h2 => by omega⟩ ?_
  rintro _ ⟨a, rfl, a1, a2, hs⟩
  refine ⟨_, (te_and (te_lt (ev_var Se 2) (ev_sub (ev_var Se 0) ev_int)) fun _ => te_and1 (te_neI (ev_modP (ev_mul (ev_var Se 1) (ev_var Se 2) (mulOk hb (Bd.of (n := 3) 8 (by omega) (by omega) (by decide)) (by decide))) (ev_var Se 0) (by omega)) ev_int)).pt, fun h => ?_, fun h => ?_⟩
  · have h' : a < p - 1 ∧ ¬ n * a % p = 1 := by simpa using h
    refine ss_set S 2 (ev_add (ev_var Se 2) ev_int) ?_
    refine ss_nil ⟨⟨a + 1, rfl, by omega, by omega, fun b h1 h2 => ?_⟩, ?_⟩
    · by_cases e : b = a
      · rw [e]; exact h'.2
      · exact hs b h1 (by omega)
    · show (p - (a + 1)).toNat < (p - a).toNat
      omega
  · have h' : ¬ a < p - 1 ∨ n * a % p = 1 := by
      by_cases z : a < p - 1
      · right
        simpa [z] using h
      · exact .inl z
    have e := inv_found hp hn a1 a2 hs h'
    refine ss_ret (ev_var Se 2) ?_
    show D.int _ = D.int _
    congr 1
    refine over_uniq (k := 1) ⟨by omega, by rw [Int.pow_one]; omega, ?_⟩ (overBy_is hp hn 1)
    rw [Int.pow_one]
    have := Int.emod_add_mul_ediv (n * a) p
    exact ⟨n * a / p, by omega⟩
abbrev s_over_by : Stmt := top 16
theorem sc_over_by : ScB ["p", "n", "k", "modulus", "answer", "settled"] ["p", "n", "k"] ["raised", "over_by_prime"] (defScope s_over_by) := ⟨⟨rfl, rfl, rfl, by decide +kernel, rfl, by decide +kernel, by decide +kernel⟩, by decide +kernel, by decide +kernel⟩
theorem ok_over_by {T : Tx} (M : Mo T) : FnD T 2 "over_by" R_over_by := by
  refine fn_D M.F_over_by sc_over_by (fun f fd F => F.binds fun _ _ _ _ _ _ us hl => match us, hl with | [_, _, _], _ => rfl) (by rintro _ _ ⟨a, b, c, rfl, _, _, _, _, _, rfl⟩; rfl) fun Y S Z ds d h => ?_
  have Se := S.toSe
  obtain ⟨p, n, k, rfl, hp, hn, k0, k1, hb, rfl⟩ := h
  have p2 := hp.two_le
  refine ss_if (te_eqI (ev_var Se 2) ev_int) (fun h => ?_) (fun h => ss_nil ?_)
  · have h0 : k = 0 := by simpa using h
    refine ss_ret ev_int ?_
    subst h0
    show D.int _ = D.int _
    congr 1
    exact over_uniq (k := 0) ⟨by omega, by rw [Int.pow_zero]; omega, by rw [Int.pow_zero]; exact Int.one_dvd _⟩ (overBy_is hp hn 0)
  have h0 : ¬ k = 0 := by simpa using h
  have pp := pw_pos hp k.toNat
  have pb := pw_bd hp k.toNat
  refine ss_set S 3 (ev_call Se 0 (ok_raised M) (by decide) (ar_cons (ev_var Se 0) (ar_cons (ev_var Se 2) ar_nil)) ⟨p, k, rfl, hp, k1, rfl⟩) ?_
  refine ss_set S 4 (ev_call Se 1 (ok_obp M) (by decide) (ar_cons (ev_var Se 0) (ar_cons (ev_var Se 1) ar_nil)) ⟨p, n, rfl, hp, hn, hb, rfl⟩) ?_
  refine ss_set S 5 ev_int ?_
  have i1 := overBy_is hp hn 1
  refine ss_while S (fun c => ∃ a s : Int, c = [.val (.int p), .val (.int n), .val (.int k), .val (.int (p ^ k.toNat)), .val (.int a), .val (.int s)] ∧ 0 ≤ a ∧ a < p ^ k.toNat ∧ 1 ≤ s ∧ p ^ (min s.toNat k.toNat) ∣ n * a - 1) (fun c => match c with | [_, _, _, _, _, .val (.int s)] => (k - s).toNat | _ => 0) ⟨_, 1, rfl, i1.1, ?_, by omega, ?_⟩ ?_
  · have := i1.2.1
    have q := le_self_pow (show 1 ≤ p by omega) (show 1 ≤ k.toNat by omega)
    rw [Int.pow_one] at this
    omega
  · rw [show min (1 : Int).toNat k.toNat = 1 by omega]
    exact i1.2.2
  rintro _ ⟨a, s, rfl, a0, a1, s1, hd⟩
  refine ⟨_, te_lt (ev_var Se 5) (ev_var Se 2), fun h => ?_, fun h => ?_⟩
  · have h' : s < k := by simpa using h
    have ba : Bd (3 * k.toNat + 1) a := Bd.of_le a0 (by omega) pb
    have bn := hb.mul ba
    have b2 := Bd.sub (n := 1000000 + (3 * k.toNat + 1)) (show Bd 2 2 by decide) bn
    refine ss_set S 4 (ev_modP (ev_mul (ev_var Se 4) (ev_sub ev_int (ev_mul (ev_var Se 1) (ev_var Se 4) (mulOk hb ba (by omega)))) (mulOk ba b2 (by omega))) (ev_var Se 3) pp) ?_
    refine ss_set S 5 (ev_mul ev_int (ev_var Se 5) (.of_left (intBits_le_64 (by decide) (by decide)))) ?_
    refine ss_nil ⟨⟨_, 2 * s, rfl, Int.emod_nonneg _ (by omega), Int.emod_lt_of_pos _ pp, by omega, ?_⟩, ?_⟩
    · have e := newton hd
      rw [show (2 * s).toNat = 2 * s.toNat by omega]
      exact e
    · show (k - 2 * s).toNat < (k - s).toNat
      omega
  · have h' : ¬ s < k := by simpa using h
    refine ss_ret (ev_var Se 4) ?_
    show D.int _ = D.int _
    congr 1
    rw [show min s.toNat k.toNat = k.toNat by omega] at hd
    exact over_uniq ⟨a0, a1, hd⟩ (overBy_is hp hn _)
abbrev s_fraction : Stmt := top 21
theorem sc_fraction : ScB ["top", "bottom", "factor"] ["top", "bottom"] ["shared", "NoFraction"] (defScope s_fraction) := ⟨⟨rfl, rfl, rfl, by decide +kernel, rfl, by decide +kernel, by decide +kernel⟩, by decide +kernel, by decide +kernel⟩
theorem okv_fraction {T : Tx} (M : Mo T) : FnX T 2 "fraction" R_fractionX ∧ FnXd T 2 "fraction" 1 R_fractionX := by
  refine fn_XV M.F_fraction sc_fraction (fun Td kV doc pm an cdv ct tk o n lt hs => ⟨fun s us X hl => match us, (show us.length = 2 by simpa using hl) with | [_, _], _ => PySem.W.binds_K X rfl lt hs rfl rfl, fun s us X hl => match us, (show us.length = 1 by simpa using hl) with | [_], _ => PySem.W.binds_K X rfl lt hs rfl rfl⟩) (by rintro _ _ ⟨a, b, rfl, _⟩; rfl) fun Y S Z ds r h hz => ?_
  have Se := S.toSe
  obtain ⟨t, b, rfl, h⟩ := h
  rcases h with ⟨hb, bb, rfl⟩ | ⟨hb, rfl⟩
  · refine ss_if (te_eqI (ev_var Se 1) ev_int) (fun h => absurd (by simpa using h) hb) (fun _ => ss_nil ?_)
    refine ss_set S 2 (ev_call Se 0 (ok_shared M) (by decide) (ar_cons (ev_var Se 0) (ar_cons (ev_var Se 1) ar_nil)) ⟨_, _, rfl, rfl⟩) ?_
    refine ss_ifI S 2 (te_lt (ev_var Se 1) ev_int) (fun _ => ev_neg (ev_var Se 2)) ?_
    have q := low_bd (t := t) hb bb
    have l := low_num t hb
    have e : (if decide (b < 0) = true then -(Int.gcd t b : Int) else (Int.gcd t b : Int)) = (if b < 0 then -(Int.gcd t b : Int) else (Int.gcd t b : Int)) := by simp
    rw [e]
    refine ss_ret (ev_tup (ar_cons (ev_fdiv (ev_var Se 0) (ev_var Se 2) q.1 q.2) (ar_cons (ev_fdiv (ev_var Se 1) (ev_var Se 2) q.1 q.2) ar_nil))) ?_
    show D.tup _ = D.tup _
    rw [l.1, l.2]
  · refine ss_if (te_eqI (ev_var Se 1) ev_int) (fun _ => ?_) (fun h => absurd hb (by simpa using h))
    exact ss_raise S 1 M.c_NoFraction (ar_cons ev_str ar_nil) (hz _ rfl _).2
theorem okx_fraction {T : Tx} (M : Mo T) : FnX T 2 "fraction" R_fractionX := (okv_fraction M).1
theorem ok_fraction {T : Tx} (M : Mo T) : FnD T 2 "fraction" R_low := (okx_fraction M).toD fun ds d h => by
  obtain ⟨t, b, rfl, hb, bb, rfl⟩ := h; exact ⟨t, b, rfl, .inl ⟨hb, bb, rfl⟩⟩
theorem okd_fraction {T : Tx} (M : Mo T) : FnDd T 2 "fraction" 1 R_low := (okv_fraction M).2.toD fun ds d h => by
  obtain ⟨t, b, rfl, hb, bb, rfl⟩ := h; exact ⟨t, b, rfl, .inl ⟨hb, bb, rfl⟩⟩
abbrev s_plus : Stmt := top 22
theorem sc_plus : ScB ["a", "b"] ["a", "b"] ["fraction"] (defScope s_plus) := ⟨⟨rfl, rfl, rfl, by decide +kernel, rfl, by decide +kernel, by decide +kernel⟩, by decide +kernel, by decide +kernel⟩
theorem ok_plus {T : Tx} (M : Mo T) : FnD T 3 "plus" R_qadd := by
  refine fn_D M.F_plus sc_plus (fun f fd F => F.binds fun _ _ _ _ _ _ us hl => match us, hl with | [_, _], _ => rfl) (by rintro _ _ ⟨a, b, rfl, _, _, rfl⟩; rfl) fun Y S Z ds d h => ?_
  have Se := S.toSe
  obtain ⟨a, b, rfl, ha, hb, rfl⟩ := h
  rw [← rat_add a b]
  exact ss_ret (ev_call Se 0 (ok_fraction M) (by decide) (ar_cons (ev_add (ev_mul (ev_ixT (ev_var Se 0) ev_int rfl) (ev_ixT (ev_var Se 1) ev_int rfl) (mulOk ha.1 hb.2 (by decide))) (ev_mul (ev_ixT (ev_var Se 1) ev_int rfl) (ev_ixT (ev_var Se 0) ev_int rfl) (mulOk hb.1 ha.2 (by decide)))) (ar_cons (ev_mul (ev_ixT (ev_var Se 0) ev_int rfl) (ev_ixT (ev_var Se 1) ev_int rfl) (mulOk ha.2 hb.2 (by decide))) ar_nil)) ⟨_, _, rfl, Int.mul_ne_zero (den_ne a) (den_ne b), (ha.2.mul hb.2).mono (by decide), rfl⟩) rfl
abbrev s_minus : Stmt := top 23
theorem sc_minus : ScB ["a", "b"] ["a", "b"] ["fraction"] (defScope s_minus) := ⟨⟨rfl, rfl, rfl, by decide +kernel, rfl, by decide +kernel, by decide +kernel⟩, by decide +kernel, by decide +kernel⟩
theorem ok_minus {T : Tx} (M : Mo T) : FnD T 3 "minus" R_qsub := by
  refine fn_D M.F_minus sc_minus (fun f fd F => F.binds fun _ _ _ _ _ _ us hl => match us, hl with | [_, _], _ => rfl) (by rintro _ _ ⟨a, b, rfl, _, _, rfl⟩; rfl) fun Y S Z ds d h => ?_
  have Se := S.toSe
  obtain ⟨a, b, rfl, ha, hb, rfl⟩ := h
  rw [← rat_sub a b]
  exact ss_ret (ev_call Se 0 (ok_fraction M) (by decide) (ar_cons (ev_sub (ev_mul (ev_ixT (ev_var Se 0) ev_int rfl) (ev_ixT (ev_var Se 1) ev_int rfl) (mulOk ha.1 hb.2 (by decide))) (ev_mul (ev_ixT (ev_var Se 1) ev_int rfl) (ev_ixT (ev_var Se 0) ev_int rfl) (mulOk hb.1 ha.2 (by decide)))) (ar_cons (ev_mul (ev_ixT (ev_var Se 0) ev_int rfl) (ev_ixT (ev_var Se 1) ev_int rfl) (mulOk ha.2 hb.2 (by decide))) ar_nil)) ⟨_, _, rfl, Int.mul_ne_zero (den_ne a) (den_ne b), (ha.2.mul hb.2).mono (by decide), rfl⟩) rfl
abbrev s_times : Stmt := top 24
theorem sc_times : ScB ["a", "b"] ["a", "b"] ["fraction"] (defScope s_times) := ⟨⟨rfl, rfl, rfl, by decide +kernel, rfl, by decide +kernel, by decide +kernel⟩, by decide +kernel, by decide +kernel⟩
theorem ok_times {T : Tx} (M : Mo T) : FnD T 3 "times" R_qmul := by
  refine fn_D M.F_times sc_times (fun f fd F => F.binds fun _ _ _ _ _ _ us hl => match us, hl with | [_, _], _ => rfl) (by rintro _ _ ⟨a, b, rfl, _, _, rfl⟩; rfl) fun Y S Z ds d h => ?_
  have Se := S.toSe
  obtain ⟨a, b, rfl, ha, hb, rfl⟩ := h
  rw [← rat_mul a b]
  exact ss_ret (ev_call Se 0 (ok_fraction M) (by decide) (ar_cons (ev_mul (ev_ixT (ev_var Se 0) ev_int rfl) (ev_ixT (ev_var Se 1) ev_int rfl) (mulOk ha.1 hb.1 (by decide))) (ar_cons (ev_mul (ev_ixT (ev_var Se 0) ev_int rfl) (ev_ixT (ev_var Se 1) ev_int rfl) (mulOk ha.2 hb.2 (by decide))) ar_nil)) ⟨_, _, rfl, Int.mul_ne_zero (den_ne a) (den_ne b), (ha.2.mul hb.2).mono (by decide), rfl⟩) rfl
abbrev s_over : Stmt := top 25
theorem sc_over : ScB ["a", "b"] ["a", "b"] ["fraction"] (defScope s_over) := ⟨⟨rfl, rfl, rfl, by decide +kernel, rfl, by decide +kernel, by decide +kernel⟩, by decide +kernel, by decide +kernel⟩
theorem okx_over {T : Tx} (M : Mo T) : FnX T 3 "over" R_over := by
  refine fn_X M.F_over sc_over (fun f fd F => F.binds fun _ _ _ _ _ _ us hl => match us, hl with | [_, _], _ => rfl) (by rintro _ _ ⟨a, b, rfl, _⟩; rfl) fun Y S Z ds r h hz => ?_
  have Se := S.toSe
  obtain ⟨a, b, rfl, ha, hb, h⟩ := h
  rcases h with ⟨h0, rfl⟩ | ⟨h0, rfl⟩
  · exact ss_ret (ev_callO Se 0 (okx_fraction M) (by decide) (ar_cons (ev_mul (ev_ixT (ev_var Se 0) ev_int rfl) (ev_ixT (ev_var Se 1) ev_int rfl) (mulOk ha.1 hb.2 (by decide))) (ar_cons (ev_mul (ev_ixT (ev_var Se 0) ev_int rfl) (ev_ixT (ev_var Se 1) ev_int rfl) (mulOk ha.2 hb.1 (by decide))) ar_nil)) ⟨_, _, rfl, .inl ⟨Int.mul_ne_zero (den_ne a) h0, (ha.2.mul hb.1).mono (by decide), rfl⟩⟩) rfl
  · exact ss_retX (ev_callX Se 0 (okx_fraction M) (by decide) (ar_cons (ev_mul (ev_ixT (ev_var Se 0) ev_int rfl) (ev_ixT (ev_var Se 1) ev_int rfl) (mulOk ha.1 hb.2 (by decide))) (ar_cons (ev_mul (ev_ixT (ev_var Se 0) ev_int rfl) (ev_ixT (ev_var Se 1) ev_int rfl) (mulOk ha.2 hb.1 (by decide))) ar_nil)) ⟨_, _, rfl, .inr ⟨by rw [h0]; simp, rfl⟩⟩ (hz _ rfl _).1)
abbrev s_power_in : Stmt := top 26
theorem sc_power_in : ScB ["p", "a"] ["p", "a"] ["power_of"] (defScope s_power_in) := ⟨⟨rfl, rfl, rfl, by decide +kernel, rfl, by decide +kernel, by decide +kernel⟩, by decide +kernel, by decide +kernel⟩
theorem ok_power_in {T : Tx} (M : Mo T) : FnD T 2 "power_in" R_power_in := by
  refine fn_D M.F_power_in sc_power_in (fun f fd F => F.binds fun _ _ _ _ _ _ us hl => match us, hl with | [_, _], _ => rfl) (by rintro _ _ ⟨a, b, rfl, _, rfl⟩; rfl) fun Y S Z ds d h => ?_
  have Se := S.toSe
  obtain ⟨p, a, rfl, hp, rfl⟩ := h
  refine ss_if (te_eqI (ev_ixT (ev_var Se 1) ev_int rfl) ev_int) (fun h => ?_) (fun h => ss_nil ?_)
  · refine ss_ret ev_non ?_
    show D.non = _
    unfold vq
    rw [if_pos (by simpa using h)]
    rfl
  have h0 : ¬ a.num = 0 := by simpa using h
  refine ss_ret (ev_sub (ev_call Se 0 (ok_power_of M) (by decide) (ar_cons (ev_var Se 0) (ar_cons (ev_ixT (ev_var Se 1) ev_int rfl) ar_nil)) ⟨p, _, rfl, hp, (if_neg h0).symm⟩) (ev_call Se 0 (ok_power_of M) (by decide) (ar_cons (ev_var Se 0) (ar_cons (ev_ixT (ev_var Se 1) ev_int rfl) ar_nil)) ⟨p, _, rfl, hp, (if_neg (den_ne a)).symm⟩)) ?_
  show D.int _ = _
  unfold vq
  rw [if_neg h0]
  rfl
abbrev s_prime_power : Stmt := top 27
theorem sc_prime_power : ScB ["p", "k"] ["p", "k"] ["raised"] (defScope s_prime_power) := ⟨⟨rfl, rfl, rfl, by decide +kernel, rfl, by decide +kernel, by decide +kernel⟩, by decide +kernel, by decide +kernel⟩
theorem ok_prime_power {T : Tx} (M : Mo T) : FnD T 2 "prime_power" R_ppw := by
  refine fn_D M.F_prime_power sc_prime_power (fun f fd F => F.binds fun _ _ _ _ _ _ us hl => match us, hl with | [_, _], _ => rfl) (by rintro _ _ ⟨a, b, rfl, _, _, _, rfl⟩; rfl) fun Y S Z ds d h => ?_
  have Se := S.toSe
  obtain ⟨p, k, rfl, hp, k0, k1, rfl⟩ := h
  have p2 := hp.two_le
  refine ss_if (te_lt (ev_var Se 1) ev_int) (fun h => ?_) (fun h => ss_nil ?_)
  · have h0 : k < 0 := by simpa using h
    have q := ppw_neg (p := p) (by omega) h0
    refine ss_ret (ev_tup (ar_cons ev_int (ar_cons (ev_call Se 0 (ok_raised M) (by decide) (ar_cons (ev_var Se 0) (ar_cons (ev_neg (ev_var Se 1)) ar_nil)) ⟨p, -k, rfl, hp, by omega, rfl⟩) ar_nil))) ?_
    show D.tup _ = D.tup _
    rw [q.1, q.2]
  · have h0 : ¬ k < 0 := by simpa using h
    have q := ppw_nn (p := p) (k := k) (by omega)
    refine ss_ret (ev_tup (ar_cons (ev_call Se 0 (ok_raised M) (by decide) (ar_cons (ev_var Se 0) (ar_cons (ev_var Se 1) ar_nil)) ⟨p, k, rfl, hp, by omega, rfl⟩) (ar_cons ev_int ar_nil))) ?_
    show D.tup _ = D.tup _
    rw [q.1, q.2]
    rfl
abbrev s_alike : Stmt := top 28
theorem sc_alike : ScB ["p", "k", "a", "b", "power"] ["p", "k", "a", "b"] ["power_in", "minus"] (defScope s_alike) := ⟨⟨rfl, rfl, rfl, by decide +kernel, rfl, by decide +kernel, by decide +kernel⟩, by decide +kernel, by decide +kernel⟩
theorem ok_alike {T : Tx} (M : Mo T) : FnD T 4 "alike" R_alike := by
  refine fn_D M.F_alike sc_alike (fun f fd F => F.binds fun _ _ _ _ _ _ us hl => match us, hl with | [_, _, _, _], _ => rfl) (by rintro _ _ ⟨_, _, _, _, rfl, _, _, _, rfl⟩; rfl) fun Y S Z ds d h => ?_
  have Se := S.toSe
  obtain ⟨p, k, a, b, rfl, hp, ha, hb, rfl⟩ := h
  refine ss_set S 4 (ev_call Se 0 (ok_power_in M) (by decide) (ar_cons (ev_var Se 0) (ar_cons (ev_call Se 1 (ok_minus M) (by decide) (ar_cons (ev_var Se 2) (ar_cons (ev_var Se 3) ar_nil)) ⟨_, _, rfl, ha, hb, rfl⟩) ar_nil)) ⟨_, _, rfl, hp, rfl⟩) ?_
  unfold alk

  generalize vq p (a - b) = o
  cases o with
  | none => exact ss_ret (ev_or (d := .bl true) (ev_isN (d := .non) (ev_var Se 4)) fun h => absurd h (by simp [isNon])) rfl
  | some v => exact ss_ret (ev_or (ev_isN (d := .int v) (ev_var Se 4)) fun h => ev_one (ev_ge (i := v) (ev_var Se 4) (ev_var Se 1))) rfl
abbrev s_rest_byN : Stmt := top 29
theorem sc_rest_byN : ScB ["p", "k", "a", "sunk", "settled", "scale", "whole"] ["p", "k", "a"] ["power_of", "NOUGHT", "raised", "fraction", "over_by"] (defScope s_rest_byN) := ⟨⟨rfl, rfl, rfl, by decide +kernel, rfl, by decide +kernel, by decide +kernel⟩, by decide +kernel, by decide +kernel⟩
theorem ok_rest_byN {T : Tx} (M : Mo T) : FnD T 3 "rest_by" R_rest := by
  refine fn_D M.F_rest_byN sc_rest_byN (fun f fd F => F.binds fun _ _ _ _ _ _ us hl => match us, hl with | [_, _, _], _ => rfl) (by rintro _ _ ⟨_, _, _, rfl, _, _, _, _, rfl⟩; rfl) fun Y S Z ds d h => ?_
  have Se := S.toSe
  obtain ⟨p, k, a, rfl, hp, k1, k0, ha, rfl⟩ := h
  have p2 := hp.two_le
  have hv := vp_le hp (den_ne a) ha.2
  obtain ⟨u, hu, up⟩ := vp_ex hp (den_ne a)
  refine ss_set S 3 (ev_call Se 0 (ok_power_of M) (by decide) (ar_cons (ev_var Se 0) (ar_cons (ev_ixT (ev_var Se 2) ev_int rfl) ar_nil)) ⟨p, _, rfl, hp, (if_neg (den_ne a)).symm⟩) ?_
  refine ss_set S 4 (ev_add (ev_var Se 1) (ev_var Se 3)) ?_
  unfold restQ
  generalize vp p a.den = e at *
  refine ss_if (te_le (ev_var Se 4) ev_int) (fun h => ?_) (fun h => ss_nil ?_)
  · have h0 : k + (e : Int) ≤ 0 := by simpa using h
    rw [if_pos h0]
    exact ss_ret (ev_cstT Se.toSn 1 M.k_NOUGHT) rfl
  have h0 : ¬ k + (e : Int) ≤ 0 := by simpa using h
  rw [if_neg h0]
  have pe := pw_pos hp e
  have bpe : Bd 4400 (p ^ e) := by
    refine Bd.of_le (by omega) (?_ : p ^ e ≤ (a.den : Int)) ha.2
    have := den_pos a
    exact Int.le_of_dvd this ⟨u, hu⟩
  have hdiv : (a.den : Int) / p ^ e = u := by rw [hu]; exact Int.mul_ediv_cancel_left u (by omega)
  have bu : Bd 4400 u := by
    have q := ha.2
    rw [hu] at q
    unfold Bd at *
    rw [Int.natAbs_mul] at q
    have : 1 * u.natAbs ≤ (p ^ e).natAbs * u.natAbs := Nat.mul_le_mul_right _ (by omega)
    omega
  refine ss_set S 5 (ev_call Se 2 (ok_raised M) (by decide) (ar_cons (ev_var Se 0) (ar_cons (ev_var Se 3) ar_nil)) ⟨p, (e : Int), rfl, hp, by omega, by rw [Int.toNat_natCast]⟩) ?_
  rw [hdiv]
  have ov := overBy_is hp up (k + (e : Int)).toNat
  have pk := pw_pos hp (k + (e : Int)).toNat
  have bk := pw_bd hp (k + (e : Int)).toNat
  refine ss_set S 6 (ev_modP (ev_mul (ev_ixT (ev_var Se 2) ev_int rfl) (ev_call Se 4 (ok_over_by M) (by decide) (ar_cons (ev_var Se 0) (ar_cons (ev_fdivP (ev_ixT (ev_var Se 2) ev_int rfl) (ev_var Se 5) pe (bpe.mono (by decide))) (ar_cons (ev_var Se 4) ar_nil))) ⟨p, u, k + (e : Int), by rw [hdiv], hp, up, by omega, by omega, bu.mono (by decide), rfl⟩) (mulOk ha.1 (Bd.of_le ov.1 (Int.le_of_lt ov.2.1) bk) (by omega))) (ev_call Se 2 (ok_raised M) (by decide) (ar_cons (ev_var Se 0) (ar_cons (ev_var Se 4) ar_nil)) ⟨p, k + (e : Int), rfl, hp, by omega, rfl⟩) pk) ?_
  exact ss_ret (ev_call Se 3 (ok_fraction M) (by decide) (ar_cons (ev_var Se 6) (ar_cons (ev_var Se 5) ar_nil)) ⟨_, _, rfl, by omega, bpe.mono (by decide), rfl⟩) rfl
abbrev s_measure : Stmt := top 31
theorem sc_measure : ScB ["table"] ["table"] ["minus", "times"] (defScope s_measure) := ⟨⟨rfl, rfl, rfl, by decide +kernel, rfl, by decide +kernel, by decide +kernel⟩, by decide +kernel, by decide +kernel⟩
theorem ok_measure {T : Tx} (M : Mo T) : FnD T 4 "measure" R_measure := by
  refine fn_D M.F_measure sc_measure (fun f fd F => F.binds fun _ _ _ _ _ _ us hl => match us, hl with | [_], _ => rfl) (by rintro _ _ ⟨_, rfl, _, rfl⟩; rfl) fun Y S Z ds d h => ?_
  have Se := S.toSe
  obtain ⟨t, rfl, hm, rfl⟩ := h
  exact ss_ret (ev_call Se 0 (ok_minus M) (by decide) (ar_cons (ev_call Se 1 (ok_times M) (by decide) (ar_cons (ev_ixT (ev_var Se 0) ev_int rfl) (ar_cons (ev_ixT (ev_var Se 0) ev_int rfl) ar_nil)) ⟨t.a, t.d, rfl, hm.ht.a, hm.ht.d, rfl⟩) (ar_cons (ev_call Se 1 (ok_times M) (by decide) (ar_cons (ev_ixT (ev_var Se 0) ev_int rfl) (ar_cons (ev_ixT (ev_var Se 0) ev_int rfl) ar_nil)) ⟨t.b, t.c, rfl, hm.ht.b, hm.ht.c, rfl⟩) ar_nil)) ⟨_, _, rfl, hm.ad, hm.bc, rfl⟩) rfl
abbrev s_row_by_column : Stmt := top 33
theorem sc_row_by_column : ScB ["row", "column"] ["row", "column"] ["plus", "times"] (defScope s_row_by_column) := ⟨⟨rfl, rfl, rfl, by decide +kernel, rfl, by decide +kernel, by decide +kernel⟩, by decide +kernel, by decide +kernel⟩
theorem ok_row_by_column {T : Tx} (M : Mo T) : FnD T 4 "row_by_column" R_rowcol := by
  refine fn_D M.F_row_by_column sc_row_by_column (fun f fd F => F.binds fun _ _ _ _ _ _ us hl => match us, hl with | [_, _], _ => rfl) (by rintro _ _ ⟨_, _, _, _, rfl, _, _, _, _, _, _, rfl⟩; rfl) fun Y S Z ds d h => ?_
  have Se := S.toSe
  obtain ⟨a, b, c, e, rfl, ha, hb, hc, he, h1, h2, rfl⟩ := h
  exact ss_ret (ev_call Se 0 (ok_plus M) (by decide) (ar_cons (ev_call Se 1 (ok_times M) (by decide) (ar_cons (ev_ixT (ev_var Se 0) ev_int rfl) (ar_cons (ev_ixT (ev_var Se 1) ev_int rfl) ar_nil)) ⟨a, c, rfl, ha, hc, rfl⟩) (ar_cons (ev_call Se 1 (ok_times M) (by decide) (ar_cons (ev_ixT (ev_var Se 0) ev_int rfl) (ar_cons (ev_ixT (ev_var Se 1) ev_int rfl) ar_nil)) ⟨b, e, rfl, hb, he, rfl⟩) ar_nil)) ⟨_, _, rfl, h1, h2, rfl⟩) rfl
abbrev s_product : Stmt := top 32
theorem sc_product : ScB ["one", "other", "left", "right", "upper", "lower"] ["one", "other"] ["row_by_column"] (defScope s_product) := ⟨⟨rfl, rfl, rfl, by decide +kernel, rfl, by decide +kernel, by decide +kernel⟩, by decide +kernel, by decide +kernel⟩
theorem ok_product {T : Tx} (M : Mo T) : FnD T 5 "product" R_product := by
  refine fn_D M.F_product sc_product (fun f fd F => F.binds fun _ _ _ _ _ _ us hl => match us, hl with | [_, _], _ => rfl) (by rintro _ _ ⟨_, _, rfl, _, rfl⟩; rfl) fun Y S Z ds d h => ?_
  have Se := S.toSe
  obtain ⟨s, t, rfl, hp, rfl⟩ := h
  refine ss_set S 2 (ev_tup (ar_cons (ev_ixT (ev_var Se 1) ev_int rfl) (ar_cons (ev_ixT (ev_var Se 1) ev_int rfl) ar_nil))) ?_
  refine ss_set S 3 (ev_tup (ar_cons (ev_ixT (ev_var Se 1) ev_int rfl) (ar_cons (ev_ixT (ev_var Se 1) ev_int rfl) ar_nil))) ?_
  refine ss_set S 4 (ev_tup (ar_cons (ev_ixT (ev_var Se 0) ev_int rfl) (ar_cons (ev_ixT (ev_var Se 0) ev_int rfl) ar_nil))) ?_
  refine ss_set S 5 (ev_tup (ar_cons (ev_ixT (ev_var Se 0) ev_int rfl) (ar_cons (ev_ixT (ev_var Se 0) ev_int rfl) ar_nil))) ?_
  exact ss_ret (ev_tup (ar_cons (ev_call Se 0 (ok_row_by_column M) (by decide) (ar_cons (ev_var Se 4) (ar_cons (ev_var Se 2) ar_nil)) ⟨s.a, s.b, t.a, t.c, rfl, hp.hs.a, hp.hs.b, hp.ht.a, hp.ht.c, hp.aa, hp.bc, rfl⟩) (ar_cons (ev_call Se 0 (ok_row_by_column M) (by decide) (ar_cons (ev_var Se 4) (ar_cons (ev_var Se 3) ar_nil)) ⟨s.a, s.b, t.b, t.d, rfl, hp.hs.a, hp.hs.b, hp.ht.b, hp.ht.d, hp.ab, hp.bd, rfl⟩) (ar_cons (ev_call Se 0 (ok_row_by_column M) (by decide) (ar_cons (ev_var Se 5) (ar_cons (ev_var Se 2) ar_nil)) ⟨s.c, s.d, t.a, t.c, rfl, hp.hs.c, hp.hs.d, hp.ht.a, hp.ht.c, hp.ca, hp.dc, rfl⟩) (ar_cons (ev_call Se 0 (ok_row_by_column M) (by decide) (ar_cons (ev_var Se 5) (ar_cons (ev_var Se 3) ar_nil)) ⟨s.c, s.d, t.b, t.d, rfl, hp.hs.c, hp.hs.d, hp.ht.b, hp.ht.d, hp.cb, hp.dd, rfl⟩) ar_nil))))) rfl
abbrev s_stretched : Stmt := top 35
theorem sc_stretched : ScB ["table", "a"] ["table", "a"] ["NOUGHT", "NoTable", "times"] (defScope s_stretched) := ⟨⟨rfl, rfl, rfl, by decide +kernel, rfl, by decide +kernel, by decide +kernel⟩, by decide +kernel, by decide +kernel⟩
theorem okx_stretched {T : Tx} (M : Mo T) : FnX T 4 "stretched" R_stretched := by
  refine fn_X M.F_stretched sc_stretched (fun f fd F => F.binds fun _ _ _ _ _ _ us hl => match us, hl with | [_, _], _ => rfl) (by rintro _ _ ⟨_, _, rfl, _⟩; rfl) fun Y S Z ds r h hz => ?_
  have Se := S.toSe
  obtain ⟨t, q, rfl, ht, hq, h⟩ := h
  have e0 : eqD (frD q) (.tup ([0, 1].map D.int)) = decide (q = 0) := eqD_fq q 0

  rcases h with ⟨h0, rfl⟩ | ⟨h0, rfl⟩
  · refine ss_if (te_eqD Se (ev_var Se 1) (ev_cstT Se.toSn 0 M.k_NOUGHT)) (fun h => absurd (by rw [e0] at h; simpa using h) h0) (fun _ => ss_nil ?_)
    exact ss_ret (ev_tup (ar_cons (ev_call Se 2 (ok_times M) (by decide) (ar_cons (ev_ixT (ev_var Se 0) ev_int rfl) (ar_cons (ev_var Se 1) ar_nil)) ⟨t.a, q, rfl, ht.a, hq, rfl⟩) (ar_cons (ev_call Se 2 (ok_times M) (by decide) (ar_cons (ev_ixT (ev_var Se 0) ev_int rfl) (ar_cons (ev_var Se 1) ar_nil)) ⟨t.b, q, rfl, ht.b, hq, rfl⟩) (ar_cons (ev_call Se 2 (ok_times M) (by decide) (ar_cons (ev_ixT (ev_var Se 0) ev_int rfl) (ar_cons (ev_var Se 1) ar_nil)) ⟨t.c, q, rfl, ht.c, hq, rfl⟩) (ar_cons (ev_call Se 2 (ok_times M) (by decide) (ar_cons (ev_ixT (ev_var Se 0) ev_int rfl) (ar_cons (ev_var Se 1) ar_nil)) ⟨t.d, q, rfl, ht.d, hq, rfl⟩) ar_nil))))) rfl
  · exact ss_if (te_eqD Se (ev_var Se 1) (ev_cstT Se.toSn 0 M.k_NOUGHT)) (fun _ => ss_raise S 1 M.c_NoTable (ar_cons ev_str ar_nil) (hz _ rfl _).2) (fun h => absurd h0 (by rw [e0] at h; simpa using h))
abbrev s_turned_over : Stmt := top 34
theorem sc_turned_over : ScB ["table", "swapped"] ["table"] ["stretched", "minus", "NOUGHT", "over", "ONE", "measure"] (defScope s_turned_over) := ⟨⟨rfl, rfl, rfl, by decide +kernel, rfl, by decide +kernel, by decide +kernel⟩, by decide +kernel, by decide +kernel⟩
theorem ok_turned_over {T : Tx} (M : Mo T) : FnD T 5 "turned_over" R_turned := by
  refine fn_D M.F_turned_over sc_turned_over (fun f fd F => F.binds fun _ _ _ _ _ _ us hl => match us, hl with | [_], _ => rfl) (by rintro _ _ ⟨_, rfl, _, _, _, rfl⟩; rfl) fun Y S Z ds d h => ?_
  have Se := S.toSe
  obtain ⟨t, rfl, hm, h0, hd, rfl⟩ := h
  have z4 : Fb 4400 0 := fb_zero.mono (by decide)
  have o4 : Fb 4400 1 := fb_one.mono (by decide)
  have n0 : t.det.num ≠ 0 := fun z => h0 (Rat.num_eq_zero.mp z)
  refine ss_set S 1 (ev_tup (ar_cons (ev_ixT (ev_var Se 0) ev_int rfl) (ar_cons (ev_call Se 1 (ok_minus M) (by decide) (ar_cons (ev_cstT Se.toSn 2 M.k_NOUGHT) (ar_cons (ev_ixT (ev_var Se 0) ev_int rfl) ar_nil)) ⟨0, t.b, rfl, z4, hm.ht.b, rfl⟩) (ar_cons (ev_call Se 1 (ok_minus M) (by decide) (ar_cons (ev_cstT Se.toSn 2 M.k_NOUGHT) (ar_cons (ev_ixT (ev_var Se 0) ev_int rfl) ar_nil)) ⟨0, t.c, rfl, z4, hm.ht.c, rfl⟩) (ar_cons (ev_ixT (ev_var Se 0) ev_int rfl) ar_nil))))) ?_
  refine ss_ret (ev_callO Se 0 (okx_stretched M) (by decide) (ar_cons (ev_var Se 1) (ar_cons (ev_callO Se 3 (okx_over M) (by decide) (ar_cons (ev_cstT Se.toSn 4 M.k_ONE) (ar_cons (ev_call Se 5 (ok_measure M) (by decide) (ar_cons (ev_var Se 0) ar_nil) ⟨t, rfl, hm, rfl⟩) ar_nil)) ⟨1, t.det, rfl, o4, hd, .inl ⟨n0, rfl⟩⟩) ar_nil)) ⟨t.turn, t.det⁻¹, ?e, hm.ht.turn, hd.inv h0, .inl ⟨inv_ne h0, rfl⟩⟩) rfl
  case e => rw [over_one h0]; rfl
abbrev s_table_at : Stmt := top 37
theorem sc_table_at : ScB ["p", "spot"] ["p", "spot"] ["NOUGHT", "ONE", "prime_power"] (defScope s_table_at) := ⟨⟨rfl, rfl, rfl, by decide +kernel, rfl, by decide +kernel, by decide +kernel⟩, by decide +kernel, by decide +kernel⟩
theorem ok_table_at {T : Tx} (M : Mo T) : FnD T 3 "table_at" R_tabat := by
  refine fn_D M.F_table_at sc_table_at (fun f fd F => F.binds fun _ _ _ _ _ _ us hl => match us, hl with | [_, _], _ => rfl) (by rintro _ _ ⟨_, _, _, rfl, _, _, _, rfl⟩; rfl) fun Y S Z ds d h => ?_
  have Se := S.toSe
  obtain ⟨p, k, q, rfl, hp, k0, k1, rfl⟩ := h
  exact ss_ret (ev_tup (ar_cons (ev_call Se 2 (ok_prime_power M) (by decide) (ar_cons (ev_var Se 0) (ar_cons (ev_ixT (ev_var Se 1) ev_int rfl) ar_nil)) ⟨p, k, rfl, hp, k0, k1, rfl⟩) (ar_cons (ev_ixT (ev_var Se 1) ev_int rfl) (ar_cons (ev_cstT Se.toSn 0 M.k_NOUGHT) (ar_cons (ev_cstT Se.toSn 1 M.k_ONE) ar_nil))))) rfl
abbrev s_aboveE : Stmt := top 38
theorem sc_aboveE : ScB ["p", "spot", "k"] ["p", "spot", "k"] ["rest_by"] (defScope s_aboveE) := ⟨⟨rfl, rfl, rfl, by decide +kernel, rfl, by decide +kernel, by decide +kernel⟩, by decide +kernel, by decide +kernel⟩
theorem ok_aboveE {T : Tx} (M : Mo T) : FnD T 4 "spot_above" R_aboveE := by
  refine fn_D M.F_aboveE sc_aboveE (fun f fd F => F.binds fun _ _ _ _ _ _ us hl => match us, hl with | [_, _, _], _ => rfl) (by rintro _ _ ⟨_, _, _, _, rfl, _, _, _, _, rfl⟩; rfl) fun Y S Z ds d h => ?_
  have Se := S.toSe
  obtain ⟨p, j, q, k, rfl, hp, fb, k0, k1, rfl⟩ := h
  exact ss_ret (ev_tup (ar_cons (ev_var Se 2) (ar_cons (ev_call Se 0 (ok_rest_byN M) (by decide) (ar_cons (ev_var Se 0) (ar_cons (ev_var Se 2) (ar_cons (ev_ixT (ev_var Se 1) ev_int rfl) ar_nil))) ⟨p, k, q, rfl, hp, k1, k0, fb, rfl⟩) ar_nil))) rfl
abbrev s_least_power : Stmt := top 39
theorem sc_least_power : ScB ["p", "numbers"] ["p", "numbers"] ["min"] (defScope s_least_power) := ⟨⟨rfl, rfl, rfl, by decide +kernel, rfl, by decide +kernel, by decide +kernel⟩, by decide +kernel, by decide +kernel⟩
theorem ok_least_power {T : Tx} (M : Mo T) : FnD T 3 "least_power" R_least := by
  refine fn_D M.F_least_power sc_least_power (fun f fd F => F.binds fun _ _ _ _ _ _ us hl => match us, hl with | [_, _], _ => rfl) (by rintro _ _ ⟨_, _, rfl, _, _, _, rfl⟩; rfl) fun Y S Z ds d h => ?_
  have Se := S.toSe
  obtain ⟨p, rs, rfl, hp, hl10, ⟨r0, hr0, hn0⟩, rfl⟩ := h
  have e : (rs.map fun r => (vq p r).map D.int).filterMap id = (rs.filterMap (vq p)).map D.int := by
    rw [List.filterMap_map, List.map_filterMap]
    rfl
  obtain ⟨i, l, hil⟩ : ∃ i l, rs.filterMap (vq p) = i :: l := by
    cases h : rs.filterMap (vq p) with
    | nil => exact absurd (vq_none.mp (List.filterMap_eq_nil_iff.mp h r0 hr0)) hn0
    | cons i l => exact ⟨i, l, rfl⟩
  have hd0 : leastV p rs = l.foldl min i := by unfold leastV; rw [hil]
  rw [hd0]
  rw [hil] at e
  refine ss_ret (ev_minL Se 0 (ar_cons (ev_lto (ev_comp (tn := ["a"]) (fs := ["p"]) (ix := [0]) (G' := ["power_in", "NOUGHT"]) Se Z.sc ?B (it_tup (ev_var Se 1)) (rs.map fun r => (vq p r).map D.int) (by simp) (by rw [List.length_map]; omega) ?T) e) ar_nil) M.b_min) rfl
  case B => exact ⟨rfl, rfl, by decide +kernel, by decide +kernel, by decide +kernel, by decide +kernel, by decide +kernel, by decide +kernel, rfl, by decide +kernel⟩
  case T =>
    intro Y' S' hl m d r hd hr ts hts
    obtain ⟨t1, rfl⟩ : ∃ t1, ts = [t1] := List.length_eq_one_iff.mp hts
    rw [List.getElem?_map] at hd hr
    cases hq : rs[m]? with
    | none => rw [hq] at hd; cases hd
    | some q =>
      rw [hq] at hd hr
      cases hd
      have hr2 : (vq p q).map D.int = r := by simpa using hr
      have e0 : eqD (frD q) (.tup ([0, 1].map D.int)) = decide (q = 0) := eqD_fq q 0
      cases hv : vq p q with
      | none =>
        rw [hv] at hr2
        subst hr2
        refine ⟨[.val (frD q)], rfl, rfl, tg_name0 S'.toSn 0 (.inr (hl _ (by simp))), ?_⟩
        have h2 : (!eqD (frD q) (.tup ([0, 1].map D.int))) = false := by rw [e0, vq_none.mp hv]; simp
        show TeD Y' _ _ false
        rw [← h2]
        exact te_neD S' (ev_var S' 0) (ev_cstT S'.toSn 1 M.k_NOUGHT)
      | some v =>
        rw [hv] at hr2
        subst hr2
        refine ⟨[.val (frD q)], rfl, rfl, tg_name0 S'.toSn 0 (.inr (hl _ (by simp))), ?_, ?_⟩
        · have h2 : (!eqD (frD q) (.tup ([0, 1].map D.int))) = true := by
            rw [e0]
            have : q ≠ 0 := fun z => by rw [vq_none.mpr z] at hv; cases hv
            simp [this]
          show TeD Y' _ _ true
          rw [← h2]
          exact te_neD S' (ev_var S' 0) (ev_cstT S'.toSn 1 M.k_NOUGHT)
        · exact ev_call S' 0 (ok_power_in M) (by decide) (ar_cons (ev_var S' 1) (ar_cons (ev_var S' 0) ar_nil)) ⟨p, q, rfl, hp, by rw [hv]; rfl⟩
abbrev s_two_numbers : Stmt := top 40
theorem sc_two_numbers : ScB ["p", "table", "low"] ["p", "table"] ["least_power", "power_in", "measure"] (defScope s_two_numbers) := ⟨⟨rfl, rfl, rfl, by decide +kernel, rfl, by decide +kernel, by decide +kernel⟩, by decide +kernel, by decide +kernel⟩
theorem ok_two_numbers {T : Tx} (M : Mo T) : FnD T 5 "two_numbers" R_two := by
  refine fn_D M.F_two_numbers sc_two_numbers (fun f fd F => F.binds fun _ _ _ _ _ _ us hl => match us, hl with | [_, _], _ => rfl) (by rintro _ _ ⟨_, _, _, rfl, _, _, _, rfl⟩; rfl) fun Y S Z ds d h => ?_
  have Se := S.toSe
  obtain ⟨p, t, v, rfl, hp, hm, hv, rfl⟩ := h
  refine ss_set S 2 (ev_call Se 0 (ok_least_power M) (by decide) (ar_cons (ev_var Se 0) (ar_cons (ev_var Se 1) ar_nil)) ⟨p, [t.a, t.b, t.c, t.d], rfl, hp, by simp, det_of hv, rfl⟩) ?_
  exact ss_ret (ev_tup (ar_cons (ev_var Se 2) (ar_cons (ev_sub (i := v) (ev_call Se 1 (ok_power_in M) (by decide) (ar_cons (ev_var Se 0) (ar_cons (ev_call Se 2 (ok_measure M) (by decide) (ar_cons (ev_var Se 1) ar_nil) ⟨t, rfl, hm, rfl⟩) ar_nil)) ⟨p, t.det, rfl, hp, by rw [hv]; rfl⟩) (ev_var Se 2)) ar_nil))) rfl
abbrev s_lies_in : Stmt := top 41
theorem sc_lies_in : ScB ["p", "one", "other"] ["p", "one", "other"] ["two_numbers", "product", "turned_over", "table_at"] (defScope s_lies_in) := ⟨⟨rfl, rfl, rfl, by decide +kernel, rfl, by decide +kernel, by decide +kernel⟩, by decide +kernel, by decide +kernel⟩
theorem ok_lies_in {T : Tx} (M : Mo T) : FnD T 6 "lies_in" R_lies := by
  refine fn_D M.F_lies_in sc_lies_in (fun f fd F => F.binds fun _ _ _ _ _ _ us hl => match us, hl with | [_, _, _], _ => rfl) (by rintro _ _ ⟨_, _, _, _, _, rfl, _, _, _, rfl⟩; rfl) fun Y S Z ds d h => ?_
  have Se := S.toSe
  obtain ⟨p, k1, q1, k2, q2, rfl, hp, h1, h2, rfl⟩ := h
  have et := tabS_mul hp k1 k2 q1 q2
  have ta := h1.tab hp
  have hm : MOk ((tabS p k1 q1).inv.mul (tabS p k2 q2)) := by rw [et]; exact h1.mok hp h2
  have hv : vq p ((tabS p k1 q1).inv.mul (tabS p k2 q2)).det = some (k2 - k1) := by rw [et, two_det]; exact vq_ppw hp
  have a0 := h1.k0; have a1 := h1.k1; have b0 := h2.k0; have b1 := h2.k1
  refine ss_ret (ev_call Se 0 (ok_two_numbers M) (by decide) (ar_cons (ev_var Se 0) (ar_cons (ev_call Se 1 (ok_product M) (by decide) (ar_cons (ev_call Se 2 (ok_turned_over M) (by decide) (ar_cons (ev_call Se 3 (ok_table_at M) (by decide) (ar_cons (ev_var Se 0) (ar_cons (ev_var Se 1) ar_nil)) ⟨p, k1, q1, rfl, hp, by omega, by omega, rfl⟩) ar_nil) ⟨_, rfl, ta.1, ta.2.1, ta.2.2, rfl⟩) (ar_cons (ev_call Se 3 (ok_table_at M) (by decide) (ar_cons (ev_var Se 0) (ar_cons (ev_var Se 2) ar_nil)) ⟨p, k2, q2, rfl, hp, by omega, by omega, rfl⟩) ar_nil)) ⟨_, _, rfl, h1.pok hp h2, rfl⟩) ar_nil)) ⟨p, _, k2 - k1, rfl, hp, hm, hv, rfl⟩) ?_
  have el : leastV p [((tabS p k1 q1).inv.mul (tabS p k2 q2)).a, ((tabS p k1 q1).inv.mul (tabS p k2 q2)).b, ((tabS p k1 q1).inv.mul (tabS p k2 q2)).c, ((tabS p k1 q1).inv.mul (tabS p k2 q2)).d] = lowS p k1 q1 k2 q2 := by
    rw [et]
    exact least_two hp k1 k2 q1 q2
  show D.tup _ = D.tup _
  rw [el]
abbrev s_way : Stmt := top 42
theorem sc_way : ScB ["p", "one", "other", "numbers"] ["p", "one", "other"] ["lies_in"] (defScope s_way) := ⟨⟨rfl, rfl, rfl, by decide +kernel, rfl, by decide +kernel, by decide +kernel⟩, by decide +kernel, by decide +kernel⟩
theorem ok_way {T : Tx} (M : Mo T) : FnD T 7 "way" R_way := by
  refine fn_D M.F_way sc_way (fun f fd F => F.binds fun _ _ _ _ _ _ us hl => match us, hl with | [_, _, _], _ => rfl) (by rintro _ _ ⟨_, _, _, _, _, rfl, _, _, _, rfl⟩; rfl) fun Y S Z ds d h => ?_
  have Se := S.toSe
  obtain ⟨p, k1, q1, k2, q2, rfl, hp, h1, h2, rfl⟩ := h
  refine ss_set S 3 (ev_call Se 0 (ok_lies_in M) (by decide) (ar_cons (ev_var Se 0) (ar_cons (ev_var Se 1) (ar_cons (ev_var Se 2) ar_nil))) ⟨p, k1, q1, k2, q2, rfl, hp, h1, h2, rfl⟩) ?_
  exact ss_ret (ev_sub (ev_ixT (ev_var Se 3) ev_int rfl) (ev_ixT (ev_var Se 3) ev_int rfl)) rfl
abbrev s_next_to : Stmt := top 45
theorem sc_next_to : ScB ["p", "spot", "end", "k"] ["p", "spot", "end"] ["spot_above", "FAR", "alike", "rest_by"] (defScope s_next_to) := ⟨⟨rfl, rfl, rfl, by decide +kernel, rfl, by decide +kernel, by decide +kernel⟩, by decide +kernel, by decide +kernel⟩
theorem ok_next_to {T : Tx} (M : Mo T) : FnD T 5 "next_to" R_next := by
  refine fn_D M.F_next_to sc_next_to (fun f fd F => F.binds fun _ _ _ _ _ _ us hl => match us, hl with | [_, _, _], _ => rfl) (by rintro _ _ ⟨_, _, _, _, rfl, _⟩; rfl) fun Y S Z ds d h => ?_
  have Se := S.toSe
  obtain ⟨p, k, q, e, rfl, hp, k0, k1, fq, fe, rfl⟩ := h
  refine ss_set S 3 (ev_ixT (ev_var Se 1) ev_int rfl) ?_
  have low : SsD Y ((defBody s_next_to).drop 2) [.val (.int p), .val (spE k q), .val (enD e), .val (.int k)] (Ret (spE (k - 1) (restQ p (k - 1) q))) := by
    exact ss_ret (ev_call Se 0 (ok_aboveE M) (by decide) (ar_cons (ev_var Se 0) (ar_cons (ev_var Se 1) (ar_cons (ev_sub (ev_var Se 3) ev_int) ar_nil))) ⟨p, k, q, k - 1, rfl, hp, fq, by omega, by omega, rfl⟩) rfl
  cases e with
  | none =>
    refine ss_if (te_and (w := false) (te_neD Se (d1 := .str "far") (d2 := .str "far") (ev_var Se 2) (ev_cstS Se.toSn 1 M.k_FAR) fa_sh fa_sh) (fun h => ?_)).pt (fun h => ?_) (fun _ => ss_nil low)
    · exfalso
      rw [show eqD (.str "far") (.str "far") = true from en_self none] at h
      cases h
    · exfalso
      rw [show eqD (.str "far") (.str "far") = true from en_self none] at h
      cases h
  | some x =>
    have fx := fe x rfl
    have en : eqD (frD x) (.str "far") = false := rfl
    refine ss_if (te_and (te_neD Se (d1 := frD x) (d2 := .str "far") (ev_var Se 2) (ev_cstS Se.toSn 1 M.k_FAR) rfl fa_sh) (fun _ => te_and1 (te_val (ev_call Se 2 (ok_alike M) (by decide) (ar_cons (ev_var Se 0) (ar_cons (ev_var Se 3) (ar_cons (ev_var Se 2) (ar_cons (ev_ixT (ev_var Se 1) ev_int rfl) ar_nil)))) ⟨p, k, x, q, rfl, hp, fx, fq, rfl⟩)))).pt (fun h => ?_) (fun h => ss_nil ?_)
    · have h : alk p k x q = true := by rw [en] at h; simpa using h
      have e1 : nxt p k q (some x) = (k + 1, restQ p (k + 1) x) := if_pos h
      rw [e1]
      exact ss_ret (ev_tup (ar_cons (ev_add (ev_var Se 3) ev_int) (ar_cons (ev_call Se 3 (ok_rest_byN M) (by decide) (ar_cons (ev_var Se 0) (ar_cons (ev_add (ev_var Se 3) ev_int) (ar_cons (ev_var Se 2) ar_nil))) ⟨p, k + 1, x, rfl, hp, by omega, by omega, fx, rfl⟩) ar_nil))) rfl
    · have h : ¬ alk p k x q = true := by rw [en] at h; simpa using h
      have e1 : nxt p k q (some x) = (k - 1, restQ p (k - 1) q) := if_neg h
      rw [e1]
      exact low
abbrev s_check_unlike : Stmt := top 48
theorem sc_check_unlike : ScB ["one", "other"] ["one", "other"] ["NoLine"] (defScope s_check_unlike) := ⟨⟨rfl, rfl, rfl, by decide +kernel, rfl, by decide +kernel, by decide +kernel⟩, by decide +kernel, by decide +kernel⟩
theorem okx_check_unlike {T : Tx} (M : Mo T) : FnX T 1 "check_unlike" R_unlike := by
  refine fn_X M.F_check_unlike sc_check_unlike (fun f fd F => F.binds fun _ _ _ _ _ _ us hl => match us, hl with | [_, _], _ => rfl) (by rintro _ _ ⟨_, _, rfl, _⟩; rfl) fun Y S Z ds r h hz => ?_
  have Se := S.toSe
  obtain ⟨e, f, rfl, h⟩ := h
  rcases h with ⟨h0, rfl⟩ | ⟨h0, rfl⟩
  · refine ss_if (te_eqD Se (d1 := enD e) (d2 := enD f) (ev_var Se 0) (ev_var Se 1) (en_sh e) (en_sh f)) (fun h => absurd (by rw [en_eq67] at h; simpa using h) h0) (fun _ => ss_nil (ss_nil rfl))
  · exact ss_if (te_eqD Se (d1 := enD e) (d2 := enD f) (ev_var Se 0) (ev_var Se 1) (en_sh e) (en_sh f)) (fun _ => ss_raise S 0 M.c_NoLine (ar_cons ev_str ar_nil) (hz _ rfl _).2) (fun h => absurd h0 (by rw [en_eq67] at h; simpa using h))
abbrev s_on_line : Stmt := top 47
theorem sc_on_line : ScB ["p", "spot", "one", "other"] ["p", "spot", "one", "other"] ["check_unlike", "next_to"] (defScope s_on_line) := ⟨⟨rfl, rfl, rfl, by decide +kernel, rfl, by decide +kernel, by decide +kernel⟩, by decide +kernel, by decide +kernel⟩
theorem okx_on_line {T : Tx} (M : Mo T) : FnX T 6 "on_line" R_online := by
  refine fn_X M.F_on_line sc_on_line (fun f fd F => F.binds fun _ _ _ _ _ _ us hl => match us, hl with | [_, _, _, _], _ => rfl) (by rintro _ _ ⟨_, _, _, _, _, rfl, _⟩; rfl) fun Y S Z ds r h hz => ?_
  have Se := S.toSe
  obtain ⟨p, k, q, e, f, rfl, hp, k0, k1, fq, fe, ff, h⟩ := h
  rcases h with ⟨h0, rfl⟩ | ⟨h0, rfl⟩
  · refine ss_expr (d := .non) (ev_callO Se 0 (okx_check_unlike M) (by decide) (ar_cons (ev_var Se 2) (ar_cons (ev_var Se 3) ar_nil)) ⟨e, f, rfl, .inl ⟨h0, rfl⟩⟩) ?_
    refine ss_ret (ev_neD Se (ev_call Se 1 (ok_next_to M) (by decide) (ar_cons (ev_var Se 0) (ar_cons (ev_var Se 1) (ar_cons (ev_var Se 2) ar_nil))) ⟨p, k, q, e, rfl, hp, k0, k1, fq, fe, rfl⟩) (ev_call Se 1 (ok_next_to M) (by decide) (ar_cons (ev_var Se 0) (ar_cons (ev_var Se 1) (ar_cons (ev_var Se 3) ar_nil))) ⟨p, k, q, f, rfl, hp, k0, k1, fq, ff, rfl⟩)) ?_
    show D.bl _ = D.bl _
    rw [eqD_spE]
  · exact ss_exprX (ev_callX Se 0 (okx_check_unlike M) (by decide) (ar_cons (ev_var Se 2) (ar_cons (ev_var Se 3) ar_nil)) ⟨e, f, rfl, .inr ⟨h0, rfl⟩⟩ (hz _ rfl _).1)
abbrev s_turn_towards : Stmt := top 50
theorem sc_turn_towards : ScB ["p", "spot", "end", "power"] ["p", "spot", "end"] ["power_in", "spot_above", "minus"] (defScope s_turn_towards) := ⟨⟨rfl, rfl, rfl, by decide +kernel, rfl, by decide +kernel, by decide +kernel⟩, by decide +kernel, by decide +kernel⟩
theorem ok_turn_towards {T : Tx} (M : Mo T) : FnD T 5 "turn_towards" R_ttw := by
  refine fn_D M.F_turn_towards sc_turn_towards (fun f fd F => F.binds fun _ _ _ _ _ _ us hl => match us, hl with | [_, _, _], _ => rfl) (by rintro _ _ ⟨_, _, _, _, rfl, _⟩; rfl) fun Y S Z ds d h => ?_
  have Se := S.toSe
  obtain ⟨p, k, q, x, rfl, hp, o, fq, fx, rfl⟩ := h
  have os := own_self hp o
  refine ss_set S 3 (d := optI (vq p (q - x))) (ev_call Se 0 (ok_power_in M) (by decide) (ar_cons (ev_var Se 0) (ar_cons (ev_call Se 2 (ok_minus M) (by decide) (ar_cons (ev_ixT (ev_var Se 1) ev_int rfl) (ar_cons (ev_var Se 2) ar_nil)) ⟨q, x, rfl, fq.mono (by decide), fx.mono (by decide), rfl⟩) ar_nil)) ⟨p, q - x, rfl, hp, rfl⟩) ?_
  cases hv : vq p (q - x) with
  | none =>
    have e : levE p k q x = k := by unfold levE; rw [hv]
    rw [e, os]
    exact ss_if (te_or (w := true) (te_isN (d := .non) (ev_var Se 3)) fun h => absurd h (by decide)).pt (fun _ => ss_ret (ev_var Se 1) rfl) (fun h => absurd h (by decide))
  | some v =>
    have e : levE p k q x = min k v := by unfold levE; rw [hv]
    rw [e]
    refine ss_if (te_or (te_isN (d := .int v) (ev_var Se 3)) fun _ => te_or1 (te_ge (i := v) (ev_var Se 3) (ev_ixT (ev_var Se 1) ev_int rfl))).pt (fun h => ?_) (fun h => ss_nil ?_)
    · have h : k ≤ v := of_decide_eq_true (by simpa [isNon] using h)
      rw [show min k v = k by omega, os]
      exact ss_ret (ev_var Se 1) rfl
    · have h : ¬ k ≤ v := of_decide_eq_false (by simpa [isNon] using h)
      rw [show min k v = v by omega]
      have vb := vq_bd82 hp (fq.sub fx) hv
      exact ss_ret (ev_call Se 1 (ok_aboveE M) (by decide) (ar_cons (ev_var Se 0) (ar_cons (ev_var Se 1) (ar_cons (ev_var Se 3) ar_nil))) ⟨p, k, q, v, rfl, hp, fq.mono (by decide), by omega, by omega, rfl⟩) rfl
abbrev s_turn_of_ends : Stmt := top 51
theorem sc_turn_of_ends : ScB ["p", "one", "other", "k"] ["p", "one", "other"] ["power_in", "minus", "rest_by"] (defScope s_turn_of_ends) := ⟨⟨rfl, rfl, rfl, by decide +kernel, rfl, by decide +kernel, by decide +kernel⟩, by decide +kernel, by decide +kernel⟩
theorem ok_turn_of_ends {T : Tx} (M : Mo T) : FnD T 4 "turn_of_ends" R_toe := by
  refine fn_D M.F_turn_of_ends sc_turn_of_ends (fun f fd F => F.binds fun _ _ _ _ _ _ us hl => match us, hl with | [_, _, _], _ => rfl) (by rintro _ _ ⟨_, _, _, rfl, _⟩; rfl) fun Y S Z ds d h => ?_
  have Se := S.toSe
  obtain ⟨p, x, y, rfl, hp, xy, fx, fy, rfl⟩ := h
  have hv : vq p (x - y) = some (lvX p x y) := by
    unfold lvX
    cases h : vq p (x - y) with
    | none => exact absurd (by have := vq_none.mp h; grind) xy
    | some v => rfl
  have vb := vq_bd82 hp (fx.sub fy) hv
  generalize lvX p x y = w at hv vb
  refine ss_set S 3 (d := .int w) (ev_call Se 0 (ok_power_in M) (by decide) (ar_cons (ev_var Se 0) (ar_cons (ev_call Se 1 (ok_minus M) (by decide) (ar_cons (ev_var Se 1) (ar_cons (ev_var Se 2) ar_nil)) ⟨x, y, rfl, fx.mono (by decide), fy.mono (by decide), rfl⟩) ar_nil)) ⟨p, x - y, rfl, hp, by rw [hv]; rfl⟩) ?_
  exact ss_ret (ev_tup (ar_cons (ev_var Se 3) (ar_cons (ev_call Se 2 (ok_rest_byN M) (by decide) (ar_cons (ev_var Se 0) (ar_cons (ev_var Se 3) (ar_cons (ev_var Se 1) ar_nil))) ⟨p, w, x, rfl, hp, by omega, by omega, fx.mono (by decide), rfl⟩) ar_nil))) rfl
abbrev s_nearest : Stmt := top 49
theorem sc_nearest : ScB ["p", "spot", "one", "other", "turns", "there"] ["p", "spot", "one", "other"] ["check_unlike", "max", "len", "way", "turn_of_ends"] (defScope s_nearest) := ⟨⟨rfl, rfl, rfl, by decide +kernel, rfl, by decide +kernel, by decide +kernel⟩, by decide +kernel, by decide +kernel⟩
theorem okx_nearest {T : Tx} (M : Mo T) : FnX T 8 "nearest" R_nearest := by
  refine fn_X M.F_nearest sc_nearest (fun f fd F => F.binds fun _ _ _ _ _ _ us hl => match us, hl with | [_, _, _, _], _ => rfl) (by rintro _ _ ⟨_, _, _, _, rfl, _⟩; rfl) fun Y S Z ds r h hz => ?_
  have Se := S.toSe
  obtain ⟨p, s, e, f, rfl, hp, hh, h⟩ := h
  rcases h with ⟨h0, rfl⟩ | ⟨h0, rfl⟩
  case inr =>
    exact ss_exprX (ev_callX Se 0 (okx_check_unlike M) (by decide) (ar_cons (ev_var Se 2) (ar_cons (ev_var Se 3) ar_nil)) ⟨e, f, rfl, .inr ⟨h0, rfl⟩⟩ (hz _ rfl _).1)

  obtain ⟨o, ss, fe, ff, st⟩ := hh h0
  have fs : Fb 1862 s.2 := ss.fb hp (by decide)
  refine ss_expr (d := .non) (ev_callO Se 0 (okx_check_unlike M) (by decide) (ar_cons (ev_var Se 2) (ar_cons (ev_var Se 3) ar_nil)) ⟨e, f, rfl, .inl ⟨h0, rfl⟩⟩) ?_
  refine ss_ownC S 4 (tn := ["end"]) (fs := ["p", "spot"]) (ix := [0, 1]) (G' := ["turn_towards", "FAR"]) Z.sc ?B (it_tup (ev_tup (ar_cons (ev_var Se 2) (ar_cons (ev_var Se 3) ar_nil)))) [(e).map fun x => spE (levE p s.1 s.2 x) (restQ p (levE p s.1 s.2 x) s.2), (f).map fun x => spE (levE p s.1 s.2 x) (restQ p (levE p s.1 s.2 x) s.2)] (by rfl) (by simp) ?T (swapC_at Z.sc fun _ => rfl) ?_
  case B => exact ⟨rfl, rfl, by decide +kernel, by decide +kernel, by decide +kernel, by decide +kernel, by decide +kernel, by decide +kernel, rfl, by decide +kernel⟩
  case T =>
    intro Y' S' hl m d r hd hr ts hts
    obtain ⟨t1, rfl⟩ : ∃ t1, ts = [t1] := List.length_eq_one_iff.mp hts
    obtain ⟨g, rfl, fg, rfl⟩ : ∃ g : Option Rat, d = enD g ∧ EFb 1862 g ∧ r = (g).map fun x => spE (levE p s.1 s.2 x) (restQ p (levE p s.1 s.2 x) s.2) := by
      rcases m with _ | _ | m
      · cases hd; cases hr; exact ⟨e, rfl, fe, rfl⟩
      · cases hd; cases hr; exact ⟨f, rfl, ff, rfl⟩
      · simp at hr
    refine ⟨[.val (enD g)], rfl, rfl, tg_name0 S'.toSn 0 (.inr (hl _ (by simp))), ?_⟩
    cases g with
    | none =>
      have h2 : (!eqD (.str "far") (.str "far")) = false := by rw [show eqD (.str "far") (.str "far") = true from en_self none]; rfl
      show TeD Y' _ _ false
      rw [← h2]
      exact te_neD S' (d1 := .str "far") (d2 := .str "far") (ev_var S' 0) (ev_cstS S'.toSn 1 M.k_FAR) fa_sh fa_sh
    | some x =>
      refine ⟨?_, ?_⟩
      · have h2 : (!eqD (frD x) (.str "far")) = true := rfl
        show TeD Y' _ _ true
        rw [← h2]
        exact te_neD S' (d1 := frD x) (d2 := .str "far") (ev_var S' 0) (ev_cstS S'.toSn 1 M.k_FAR) rfl fa_sh
      · exact ev_call S' 0 (ok_turn_towards M) (by decide) (ar_cons (ev_var S' 1) (ar_cons (ev_var S' 2) (ar_cons (ev_var S' 0) ar_nil))) ⟨p, s.1, s.2, x, rfl, hp, o, fs, fg x rfl, rfl⟩
  have tail : SsD Y ((defBody s_nearest).drop 3) [.val (.int p), .val (spE s.1 s.2), .val (enD e), .val (enD f), .own (((nl67 p s e f).map prS).map pairD), .un] (Ret (.tup [spE (nearE p s e f).1 (nearE p s e f).2, .int (wy p s (nearE p s e f))])) := by
    refine ss_freeze 4 (ds := ((nl67 p s e f).map prS).map pairD) rfl ?_
    refine ss_set S 5 (d := spE (nearE p s e f).1 (nearE p s e f).2) (ev_maxP Se 1 (l := (nl67 p s e f).map prS) (x := prS (nearE p s e f)) (ar_cons (ev_var Se 4) ar_nil) (fun z => nl_ne67 p s h0 (List.map_eq_nil_iff.mp z)) (fun a ha => ?H) ?E (nl_at67 hp s h0) M.b_max) ?_
    case H =>
      obtain ⟨x, _, rfl⟩ := List.mem_map.mp ha
      rfl
    case E =>
      intro a ha b hb hab
      obtain ⟨x, hx, rfl⟩ := List.mem_map.mp ha
      obtain ⟨y, hy, rfl⟩ := List.mem_map.mp hb
      have : x.2 = y.2 := nl_same67 hp s h0 x hx y hy hab
      show eqD (frD x.2) (frD y.2) = true
      rw [this, eqD_fq]
      simp
    exact ss_ret (ev_tup (ar_cons (ev_var Se 5) (ar_cons (ev_call Se 3 (ok_way M) (by decide) (ar_cons (ev_var Se 0) (ar_cons (ev_var Se 1) (ar_cons (ev_var Se 5) ar_nil))) ⟨p, s.1, s.2, _, _, rfl, hp, ss.sp hp (by decide), st.sp hp (by decide), rfl⟩) ar_nil))) rfl
  cases e with
  | none =>
    cases f with
    | none => exact absurd rfl h0
    | some y => exact ss_if (te_eqI (ev_lenO Se 2 4 (ds := [spE (levE p s.1 s.2 y) (restQ p (levE p s.1 s.2 y) s.2)]) rfl M.b_len) ev_int) (fun h => absurd h (by simp)) (fun _ => ss_nil tail)
  | some x =>
    cases f with
    | none => exact ss_if (te_eqI (ev_lenO Se 2 4 (ds := [spE (levE p s.1 s.2 x) (restQ p (levE p s.1 s.2 x) s.2)]) rfl M.b_len) ev_int) (fun h => absurd h (by simp)) (fun _ => ss_nil tail)
    | some y =>
      refine ss_if (te_eqI (ev_lenO Se 2 4 (ds := [spE (levE p s.1 s.2 x) (restQ p (levE p s.1 s.2 x) s.2), spE (levE p s.1 s.2 y) (restQ p (levE p s.1 s.2 y) s.2)]) rfl M.b_len) ev_int) (fun _ => ?_) (fun h => absurd h (by simp))
      refine ss_app S 4 (ds := [spE (levE p s.1 s.2 x) (restQ p (levE p s.1 s.2 x) s.2), spE (levE p s.1 s.2 y) (restQ p (levE p s.1 s.2 y) s.2)]) rfl (ev_call Se 4 (ok_turn_of_ends M) (by decide) (ar_cons (ev_var Se 0) (ar_cons (ev_var Se 2) (ar_cons (ev_var Se 3) ar_nil))) ⟨p, x, y, rfl, hp, fun z => h0 (by rw [z]), fe x rfl, ff y rfl, rfl⟩) (ss_nil ?_) (by simp)
      exact tail
abbrev s_up : Stmt := top 53
theorem sc_up : ScB ["_law_p", "_law_k", "_law_found"] ["_law_p", "_law_k"] [] (defScope s_up) := ⟨⟨rfl, rfl, rfl, by decide +kernel, rfl, by decide +kernel, by decide +kernel⟩, by decide +kernel, by decide +kernel⟩
theorem ok_up {T : Tx} (M : Mo T) : FnD T 1 "_law_up" R_raised := by
  refine fn_D M.F_up sc_up (fun f fd F => F.binds fun _ _ _ _ _ _ us hl => match us, hl with | [_, _], _ => rfl) (by rintro _ _ ⟨a, b, rfl, _, _, rfl⟩; rfl) fun Y S Z ds d h => ?_
  have Se := S.toSe
  obtain ⟨p, k, rfl, hp, hk, rfl⟩ := h
  have p2 := hp.two_le
  refine ss_set S 2 ev_int ?_
  refine ss_while S (fun c => ∃ k' x y : Int, c = [.val (.int y), .val (.int k'), .val (.int x)] ∧ k' ≤ k ∧ 1 ≤ x ∧ 1 ≤ y ∧ x * y ^ k'.toNat = p ^ k.toNat) (fun c => match c with | [_, .val (.int y), _] => y.toNat | _ => 0) ⟨_, _, _, rfl, Int.le_refl _, by decide, by omega, by rw [Int.one_mul]⟩ ?_
  rintro _ ⟨k', x, y, rfl, hk', hx, hy, he⟩
  refine ⟨_, te_gt (ev_var Se 1) ev_int, fun h => ?_, fun h => ?_⟩
  · have h0 : 0 < k' := by simpa using h
    have ok := sq_ok hp hx hy (show 1 ≤ k'.toNat by omega) (by omega) he
    have xy := le_mul_pos hx hy
    have yy := le_mul_pos hy hy
    refine ss_ifI S 2 (te_eqI (ev_modP (ev_var Se 1) ev_int (by decide)) ev_int) (fun _ => ev_mul (ev_var Se 2) (ev_var Se 0) ok.1) ?_
    refine ss_set S 0 (ev_mul (ev_var Se 0) (ev_var Se 0) ok.2) ?_
    refine ss_set S 1 (ev_fdivP (ev_var Se 1) ev_int (by decide) (by decide +kernel)) ?_
    refine ss_nil ⟨⟨k' / 2, _, y * y, rfl, by omega, ?_, by omega, ?_⟩, ?_⟩
    · split <;> omega
    · have e := sq_step he
      have e1 : (k' / 2).toNat = k'.toNat / 2 := by omega
      rw [e1, ← e]
      by_cases h2 : k' % 2 = 1
      · rw [if_pos (by simpa using h2), if_pos (show k'.toNat % 2 = 1 by omega)]
      · rw [if_neg (by simpa using h2), if_neg (show ¬ k'.toNat % 2 = 1 by omega)]
    · show (k' / 2).toNat < k'.toNat
      omega
  · have h0 : k'.toNat = 0 := by
      have : ¬ 0 < k' := by simpa using h
      omega
    refine ss_ret (ev_var Se 2) ?_
    rw [h0, Int.pow_zero, Int.mul_one] at he
    show D.int _ = D.int _
    rw [he]
abbrev s_drawn : Stmt := top 54
theorem sc_drawn : ScB ["_law_script", "_law_k", "_law_cell", "_law_small_here"] ["_law_script", "_law_k"] ["len", "int"] (defScope s_drawn) := ⟨⟨rfl, rfl, rfl, by decide +kernel, rfl, by decide +kernel, by decide +kernel⟩, by decide +kernel, by decide +kernel⟩
theorem ok_drawn {T : Tx} (M : Mo T) : FnD T 1 "_law_drawn" R_drawn := by
  refine fn_D M.F_drawn sc_drawn (fun f fd F => F.binds fun _ _ _ _ _ _ us hl => match us, hl with | [_, _], _ => rfl) (by rintro _ _ ⟨a, b, rfl, _, _, _, rfl⟩; rfl) fun Y S Z ds d h => ?_
  have Se := S.toSe
  obtain ⟨ns, k, rfl, h63, h0, h1, rfl⟩ := h
  refine ss_set S 2 ev_int ?_
  have key : SsD Y (((defBody s_drawn).drop 2)) [.val (.lst (ns.map D.int)), .val (.int k), .val (.int (cellOf ns k)), .un] (Ret (.int (drawn ns k))) := by
    have b := cell_bd ns k
    refine ss_if (te_and (te_gt (ev_len Se 0 (ar_cons (ev_var Se 0) ar_nil) rfl M.b_len) ev_int) fun h => te_and1 (te_eqI (ev_modP (ev_ixL (ev_var Se 0) ev_int (cell_at (by decide) (by simpa using h))) ev_int (by decide)) ev_int)).pt (fun h => ?_) (fun h => ?_)
    · refine ss_ret (ev_fdivP (ev_var Se 2) (ev_add ev_int (ev_intOf Se 1 (ar_cons (ev_eqI (ev_var Se 1) ev_int) ar_nil) M.b_int)) ?_ ?_) ?_
      · split <;> omega
      · split <;> exact by decide +kernel
      · show D.int _ = D.int _
        unfold drawn
        simp only [Bool.and_eq_true, decide_eq_true_eq, List.length_map] at h
        have h' : 0 < (ns.length : Int) ∧ ns.getD 0 0 % 2 = 1 := h
        rw [if_pos h']
        by_cases hk : k = 0
        · simp [hk]
        · simp [hk]
    · refine ss_nil ?_
      refine ss_set S 3 (ev_modP (ev_mul (ev_modP (ev_mul (ev_add (ev_add (ev_var Se 2) (ev_mul ev_int (ev_var Se 1) ?_)) ev_int) ev_int ?_) ev_int (by decide)) ev_int ?_) ev_int (by decide)) ?_
      · exact .of_left (intBits_le_64 (by decide) (by decide))
      · exact .of_right (intBits_le_64 (by decide) (by decide))
      · exact .of_right (intBits_le_64 (by decide) (by decide))
      refine ss_ret (ev_add (ev_mul (ev_var Se 2) ev_int (.of_right (intBits_le_64 (by decide) (by decide)))) (ev_var Se 3)) ?_
      show D.int _ = D.int _
      unfold drawn
      simp only [Bool.and_eq_false_iff, decide_eq_false_iff_not, List.length_map] at h
      have h' : ¬ (0 < (ns.length : Int) ∧ ns.getD 0 0 % 2 = 1) := by
        intro z
        rcases h with h | h
        · exact h z.1
        · exact h z.2
      rw [if_neg h']
  refine ss_if (te_lt (ev_var Se 1) (ev_len Se 0 (ar_cons (ev_var Se 0) ar_nil) rfl M.b_len)) (fun h => ?_) (fun h => ?_)
  · have h' : k < (ns.length : Int) := by simpa using h
    refine ss_set S 2 (ev_modP (ev_ixL (ev_var Se 0) (ev_var Se 1) (cell_at h0 h')) (ev_pow ev_int ev_int ⟨by decide, by decide, by decide⟩) (by decide +kernel)) (ss_nil ?_)
    have e : cellOf ns k = ns.getD k.toNat 0 % 10 ^ 60 := if_pos h'
    rw [e] at key
    exact key
  · have h' : ¬ k < (ns.length : Int) := by simpa using h
    have e : cellOf ns k = 0 := if_neg h'
    rw [e] at key
    exact ss_nil key
abbrev s_whole : Stmt := top 55
theorem sc_whole : ScB ["_law_found"] ["_law_found"] ["isinstance", "int", "bool"] (defScope s_whole) := ⟨⟨rfl, rfl, rfl, by decide +kernel, rfl, by decide +kernel, by decide +kernel⟩, by decide +kernel, by decide +kernel⟩
theorem ok_whole {T : Tx} (M : Mo T) : FnD T 1 "_law_whole" R_whole := by
  refine fn_D M.F_whole sc_whole (fun f fd F => F.binds fun _ _ _ _ _ _ us hl => match us, hl with | [_], _ => rfl) (by rintro _ _ ⟨a, rfl, rfl⟩; rfl) fun Y S Z ds d h => ?_
  have Se := S.toSe
  obtain ⟨i, rfl, rfl⟩ := h
  exact ss_ret (ev_and (ev_isi Se 0 1 (ev_var Se 0) (b := true) rfl M.b_isinstance M.b_int bt_int) fun _ => ev_one (ev_not (ev_isi Se 0 2 (ev_var Se 0) (b := false) rfl M.b_isinstance M.b_bool bt_bool))) rfl
abbrev s_divisor : Stmt := top 56
theorem sc_divisor : ScB ["_law_one", "_law_other", "_law_rest_here"] ["_law_one", "_law_other"] ["abs"] (defScope s_divisor) := ⟨⟨rfl, rfl, rfl, by decide +kernel, rfl, by decide +kernel, by decide +kernel⟩, by decide +kernel, by decide +kernel⟩
theorem ok_divisor {T : Tx} (M : Mo T) : FnD T 1 "_law_divisor" R_shared := by
  refine fn_D M.F_divisor sc_divisor (fun f fd F => F.binds fun _ _ _ _ _ _ us hl => match us, hl with | [_, _], _ => rfl) (by rintro _ _ ⟨a, b, rfl, rfl⟩; rfl) fun Y S Z ds d h => ?_
  have Se := S.toSe
  obtain ⟨a, b, rfl, rfl⟩ := h
  refine ss_set S 0 (ev_abs Se 0 (ar_cons (ev_var Se 0) ar_nil) M.b_abs) ?_
  refine ss_set S 1 (ev_abs Se 0 (ar_cons (ev_var Se 1) ar_nil) M.b_abs) ?_
  refine ss_while S (fun c => ∃ (x y : Int) (z : Slot), c = [.val (.int x), .val (.int y), z] ∧ 0 ≤ x ∧ 0 ≤ y ∧ Int.gcd x y = Int.gcd a b) (fun c => match c with | [_, .val (.int y), _] => y.natAbs | _ => 0) ⟨_, _, _, rfl, by omega, by omega, by simp [Int.gcd]⟩ ?_
  rintro _ ⟨x, y, z, rfl, hx, hy, hg⟩
  refine ⟨_, te_gt (ev_var Se 1) ev_int, fun h => ?_, fun h => ?_⟩
  · have h0 : 0 < y := by simpa using h
    refine ss_set S 2 (ev_mod (ev_var Se 0) (ev_var Se 1) (by omega)) ?_
    refine ss_set S 0 (ev_var Se 1) ?_
    refine ss_set S 1 (ev_var Se 2) ?_
    refine ss_nil ⟨⟨y, x.fmod y, _, rfl, hy, Int.fmod_nonneg_of_pos x h0, ?_⟩, ?_⟩
    · rw [gcd_step]; exact hg
    · exact fmod_small x (by omega)
  · have h0 : y = 0 := by
      have : ¬ 0 < y := by simpa using h
      omega
    refine ss_ret (ev_var Se 0) ?_
    subst h0
    rw [Int.gcd_zero_right] at hg
    show D.int _ = D.int _
    rw [← hg]
    congr 1
    omega
abbrev s_lowest : Stmt := top 57
theorem sc_lowest : ScB ["_law_top", "_law_bottom", "_law_by"] ["_law_top", "_law_bottom"] ["_law_divisor"] (defScope s_lowest) := ⟨⟨rfl, rfl, rfl, by decide +kernel, rfl, by decide +kernel, by decide +kernel⟩, by decide +kernel, by decide +kernel⟩
theorem ok_lowest {T : Tx} (M : Mo T) : FnD T 2 "_law_lowest" R_low := by
  refine fn_D M.F_lowest sc_lowest (fun f fd F => F.binds fun _ _ _ _ _ _ us hl => match us, hl with | [_, _], _ => rfl) (by rintro _ _ ⟨a, b, rfl, _, _, rfl⟩; rfl) fun Y S Z ds d h => ?_
  have Se := S.toSe
  obtain ⟨t, b, rfl, hb, bb, rfl⟩ := h
  refine ss_set S 2 (ev_call Se 0 (ok_divisor M) (by decide) (ar_cons (ev_var Se 0) (ar_cons (ev_var Se 1) ar_nil)) ⟨_, _, rfl, rfl⟩) ?_
  refine ss_ifI S 2 (te_lt (ev_var Se 1) ev_int) (fun _ => ev_neg (ev_var Se 2)) ?_
  have q := low_bd (t := t) hb bb
  have l := low_num t hb
  have e : (if decide (b < 0) = true then -(Int.gcd t b : Int) else (Int.gcd t b : Int)) = (if b < 0 then -(Int.gcd t b : Int) else (Int.gcd t b : Int)) := by simp
  rw [e]
  refine ss_ret (ev_tup (ar_cons (ev_fdiv (ev_var Se 0) (ev_var Se 2) q.1 q.2) (ar_cons (ev_fdiv (ev_var Se 1) (ev_var Se 2) q.1 q.2) ar_nil))) ?_
  show D.tup _ = D.tup _
  rw [l.1, l.2]
abbrev s_prime : Stmt := top 58
theorem sc_prime : ScB ["_law_number_here"] ["_law_number_here"] [] (defScope s_prime) := ⟨⟨rfl, rfl, rfl, by decide +kernel, rfl, by decide +kernel, by decide +kernel⟩, by decide +kernel, by decide +kernel⟩
theorem ok_prime {T : Tx} (M : Mo T) : FnD T 1 "_law_prime" R_prime := by
  refine fn_D M.F_prime sc_prime (fun f fd F => F.binds fun _ _ _ _ _ _ us hl => match us, hl with | [_], _ => rfl) (by rintro _ _ ⟨a, rfl, rfl⟩; rfl) fun Y S Z ds d h => ?_
  have Se := S.toSe
  obtain ⟨n, rfl, rfl⟩ := h
  refine ss_ret (ev_ixT (ev_tup (ar_cons ev_int (ar_cons ev_int (ar_cons ev_int (ar_cons ev_int ar_nil))))) (ev_modP (ev_var Se 0) ev_int (by decide)) ?_) rfl
  unfold prime4
  rcases (show n % 4 = 0 ∨ n % 4 = 1 ∨ n % 4 = 2 ∨ n % 4 = 3 by omega) with e | e | e | e <;> rw [e] <;> rfl
abbrev s_number : Stmt := top 59
theorem sc_number : ScB ["_law_p", "_law_number_here", "_law_sort", "_law_top", "_law_power_here", "_law_bottom"] ["_law_p", "_law_number_here"] ["_law_lowest", "_law_up"] (defScope s_number) := ⟨⟨rfl, rfl, rfl, by decide +kernel, rfl, by decide +kernel, by decide +kernel⟩, by decide +kernel, by decide +kernel⟩
theorem ok_number {T : Tx} (M : Mo T) : FnD T 3 "_law_number" R_number := by
  refine fn_D M.F_number sc_number (fun f fd F => F.binds fun _ _ _ _ _ _ us hl => match us, hl with | [_, _], _ => rfl) (by rintro _ _ ⟨a, b, rfl, _, rfl⟩; rfl) fun Y S Z ds d h => ?_
  have Se := S.toSe
  obtain ⟨p, n, rfl, hp, rfl⟩ := h
  have p2 := hp.two_le
  refine ss_set S 2 (ev_modP (ev_var Se 1) ev_int (by decide)) ?_
  refine ss_set S 1 (ev_fdivP (ev_var Se 1) ev_int (by decide) (by decide +kernel)) ?_
  refine ss_set S 3 (ev_sub (ev_modP (ev_var Se 1) ev_int (by decide)) ev_int) ?_
  refine ss_ifI S 3 (te_eqI (ev_var Se 2) ev_int) (fun _ => ev_sub (ev_modP (ev_var Se 1) (ev_add (ev_mul ev_int (ev_pow ev_int ev_int ⟨by decide, by decide, by decide⟩) (.of_left (intBits_le_64 (by decide) (by decide)))) ev_int) (by decide +kernel)) (ev_pow ev_int ev_int ⟨by decide, by decide, by decide⟩)) ?_
  refine ss_set S 4 (ev_sub (ev_modP (ev_fdivP (ev_var Se 1) ev_int (by decide) (by decide +kernel)) ev_int (by decide)) ev_int) ?_
  refine ss_ifI S 4 (te_eqI (ev_var Se 2) ev_int) (fun _ => ev_sub (ev_modP (ev_fdivP (ev_var Se 1) ev_int (by decide) (by decide +kernel)) ev_int (by decide)) ev_int) ?_
  refine ss_set S 5 (ev_add ev_int (ev_modP (ev_fdivP (ev_var Se 1) ev_int (by decide) (by decide +kernel)) ev_int (by decide))) ?_
  have t := nTop_bd n
  have w := nPow_bd n
  have b := nBot_bd n
  have b' : Bd 4 (nBot n) := Bd.of 13 (by omega) (by omega) (by decide)
  have goal : numb p n = numb p n := rfl
  conv at goal => lhs; unfold numb
  rw [← goal]
  show SsD Y _ [.val (.int p), .val (.int (n / 4)), .val (.int (n % 4)), .val (.int (nTop n)), .val (.int (nPow n)), .val (.int (nBot n))] _
  generalize nTop n = top at *
  generalize nPow n = pow at *
  generalize nBot n = bot at *
  refine ss_if (te_lt (ev_var Se 4) ev_int) (fun h => ?_) (fun h => ss_nil ?_)
  · have h0 : pow < 0 := by simpa using h
    rw [if_pos h0]
    have q := (pw_bd hp (-pow).toNat).mono (show 3 * (-pow).toNat + 1 ≤ 121 by omega)
    have pp := pw_pos hp (-pow).toNat
    exact ss_ret (ev_call Se 0 (ok_lowest M) (by decide) (ar_cons (ev_var Se 3) (ar_cons (ev_mul (ev_var Se 5) (ev_call Se 1 (ok_up M) (by decide) (ar_cons (ev_var Se 0) (ar_cons (ev_neg (ev_var Se 4)) ar_nil)) ⟨p, -pow, rfl, hp, by omega, rfl⟩) (mulOk b' q (by decide))) ar_nil)) ⟨_, _, rfl, Int.mul_ne_zero (by omega) (by omega), (b'.mul q).mono (by decide), rfl⟩) rfl
  · have h0 : ¬ pow < 0 := by simpa using h
    rw [if_neg h0]
    have q := (pw_bd hp pow.toNat).mono (show 3 * pow.toNat + 1 ≤ 121 by omega)
    exact ss_ret (ev_call Se 0 (ok_lowest M) (by decide) (ar_cons (ev_mul (ev_var Se 3) (ev_call Se 1 (ok_up M) (by decide) (ar_cons (ev_var Se 0) (ar_cons (ev_var Se 4) ar_nil)) ⟨p, pow, rfl, hp, by omega, rfl⟩) (mulOk t q (by decide))) (ar_cons (ev_var Se 5) ar_nil)) ⟨_, _, rfl, by omega, b'.mono (by decide), rfl⟩) rfl
abbrev s_lsmall : Stmt := top 60
theorem sc_lsmall : ScB ["_law_p", "_law_number_here", "_law_power_here", "_law_top", "_law_bottom"] ["_law_p", "_law_number_here"] ["_law_lowest", "_law_up"] (defScope s_lsmall) := ⟨⟨rfl, rfl, rfl, by decide +kernel, rfl, by decide +kernel, by decide +kernel⟩, by decide +kernel, by decide +kernel⟩
theorem ok_lsmall {T : Tx} (M : Mo T) : FnD T 3 "_law_small" R_small := by
  refine fn_D M.F_lsmall sc_lsmall (fun f fd F => F.binds fun _ _ _ _ _ _ us hl => match us, hl with | [_, _], _ => rfl) (by rintro _ _ ⟨a, b, rfl, _, rfl⟩; rfl) fun Y S Z ds d h => ?_
  have Se := S.toSe
  obtain ⟨p, n, rfl, hp, rfl⟩ := h
  refine ss_set S 2 (ev_sub (ev_modP (ev_fdivP (ev_var Se 1) ev_int (by decide) (by decide +kernel)) ev_int (by decide)) ev_int) ?_
  refine ss_set S 3 (ev_sub (ev_modP (ev_var Se 1) ev_int (by decide)) ev_int) ?_
  refine ss_set S 4 (ev_add ev_int (ev_modP (ev_fdivP (ev_var Se 1) ev_int (by decide) (by decide +kernel)) ev_int (by decide))) ?_
  have t := smT_bd n
  have w := smW_bd n
  have b := smB_bd n
  have b' : Bd 4 (smB n) := Bd.of 13 (by omega) (by omega) (by decide)
  have goal : smq p n = smq p n := rfl
  conv at goal => lhs; unfold smq
  rw [← goal]
  show SsD Y _ [.val (.int p), .val (.int n), .val (.int (smW n)), .val (.int (smT n)), .val (.int (smB n))] _
  generalize smT n = top at *
  generalize smW n = pow at *
  generalize smB n = bot at *
  refine ss_if (te_lt (ev_var Se 2) ev_int) (fun h => ?_) (fun h => ss_nil ?_)
  · have h0 : pow < 0 := by simpa using h
    rw [if_pos h0]
    have q := (pw_bd hp (-pow).toNat).mono (show 3 * (-pow).toNat + 1 ≤ 121 by omega)
    have pp := pw_pos hp (-pow).toNat
    exact ss_ret (ev_call Se 0 (ok_lowest M) (by decide) (ar_cons (ev_var Se 3) (ar_cons (ev_mul (ev_var Se 4) (ev_call Se 1 (ok_up M) (by decide) (ar_cons (ev_var Se 0) (ar_cons (ev_neg (ev_var Se 2)) ar_nil)) ⟨p, -pow, rfl, hp, by omega, rfl⟩) (mulOk b' q (by decide))) ar_nil)) ⟨_, _, rfl, Int.mul_ne_zero (by omega) (by omega), (b'.mul q).mono (by decide), rfl⟩) rfl
  · have h0 : ¬ pow < 0 := by simpa using h
    rw [if_neg h0]
    have q := (pw_bd hp pow.toNat).mono (show 3 * pow.toNat + 1 ≤ 121 by omega)
    exact ss_ret (ev_call Se 0 (ok_lowest M) (by decide) (ar_cons (ev_mul (ev_var Se 3) (ev_call Se 1 (ok_up M) (by decide) (ar_cons (ev_var Se 0) (ar_cons (ev_var Se 2) ar_nil)) ⟨p, pow, rfl, hp, by omega, rfl⟩) (mulOk t q (by decide))) (ar_cons (ev_var Se 4) ar_nil)) ⟨_, _, rfl, by omega, b'.mono (by decide), rfl⟩) rfl
abbrev s_power : Stmt := top 61
theorem sc_power : ScB ["_law_p", "_law_number_here", "_law_power_here"] ["_law_p", "_law_number_here"] [] (defScope s_power) := ⟨⟨rfl, rfl, rfl, by decide +kernel, rfl, by decide +kernel, by decide +kernel⟩, by decide +kernel, by decide +kernel⟩
theorem ok_power {T : Tx} (M : Mo T) : FnD T 1 "_law_power" R_power := by
  refine fn_D M.F_power sc_power (fun f fd F => F.binds fun _ _ _ _ _ _ us hl => match us, hl with | [_, _], _ => rfl) (by rintro _ _ ⟨a, b, rfl, _, _, rfl⟩; rfl) fun Y S Z ds d h => ?_
  have Se := S.toSe
  obtain ⟨p, n, rfl, hp, h0, rfl⟩ := h
  have p2 := hp.two_le
  refine ss_set S 2 ev_int ?_
  refine ss_while S (fun c => ∃ m w : Int, c = [.val (.int p), .val (.int m), .val (.int w)] ∧ m ≠ 0 ∧ (vp p n : Int) = w + (vp p m : Int)) (fun c => match c with | [_, .val (.int m), _] => m.natAbs | _ => 0) ⟨n, 0, rfl, h0, by omega⟩ ?_
  rintro _ ⟨m, w, rfl, hm, hv⟩
  refine ⟨_, te_eqI (ev_modP (ev_var Se 1) (ev_var Se 0) (by omega)) ev_int, fun h => ?_, fun h => ?_⟩
  · have h1 : m % p = 0 := by simpa using h
    have f := div_facts p2.1 hm h1
    have s := vp_step p2.1 hm h1
    refine ss_set S 1 (ev_fdivP (ev_var Se 1) (ev_var Se 0) (by omega) (Bd.of 8 (by omega) (by omega) (by decide +kernel))) ?_
    refine ss_set S 2 (ev_add (ev_var Se 2) ev_int) ?_
    exact ss_nil ⟨⟨m / p, w + 1, rfl, f.2.1, by omega⟩, f.2.2⟩
  · have h1 : ¬ m % p = 0 := by simpa using h
    have s := vp_zero h1
    refine ss_ret (ev_var Se 2) ?_
    show D.int _ = D.int _
    congr 1
    omega
abbrev s_lsum : Stmt := top 62
theorem sc_lsum : ScB ["_law_a", "_law_b"] ["_law_a", "_law_b"] ["_law_lowest"] (defScope s_lsum) := ⟨⟨rfl, rfl, rfl, by decide +kernel, rfl, by decide +kernel, by decide +kernel⟩, by decide +kernel, by decide +kernel⟩
theorem ok_lsum {T : Tx} (M : Mo T) : FnD T 3 "_law_sum" R_qadd := by
  refine fn_D M.F_lsum sc_lsum (fun f fd F => F.binds fun _ _ _ _ _ _ us hl => match us, hl with | [_, _], _ => rfl) (by rintro _ _ ⟨a, b, rfl, _, _, rfl⟩; rfl) fun Y S Z ds d h => ?_
  have Se := S.toSe
  obtain ⟨a, b, rfl, ha, hb, rfl⟩ := h
  rw [← rat_add a b]
  exact ss_ret (ev_call Se 0 (ok_lowest M) (by decide) (ar_cons (ev_add (ev_mul (ev_ixT (ev_var Se 0) ev_int rfl) (ev_ixT (ev_var Se 1) ev_int rfl) (mulOk ha.1 hb.2 (by decide))) (ev_mul (ev_ixT (ev_var Se 1) ev_int rfl) (ev_ixT (ev_var Se 0) ev_int rfl) (mulOk hb.1 ha.2 (by decide)))) (ar_cons (ev_mul (ev_ixT (ev_var Se 0) ev_int rfl) (ev_ixT (ev_var Se 1) ev_int rfl) (mulOk ha.2 hb.2 (by decide))) ar_nil)) ⟨_, _, rfl, Int.mul_ne_zero (den_ne a) (den_ne b), (ha.2.mul hb.2).mono (by decide), rfl⟩) rfl
abbrev s_lproduct : Stmt := top 63
theorem sc_lproduct : ScB ["_law_a", "_law_b"] ["_law_a", "_law_b"] ["_law_lowest"] (defScope s_lproduct) := ⟨⟨rfl, rfl, rfl, by decide +kernel, rfl, by decide +kernel, by decide +kernel⟩, by decide +kernel, by decide +kernel⟩
theorem ok_lproduct {T : Tx} (M : Mo T) : FnD T 3 "_law_product" R_qmul := by
  refine fn_D M.F_lproduct sc_lproduct (fun f fd F => F.binds fun _ _ _ _ _ _ us hl => match us, hl with | [_, _], _ => rfl) (by rintro _ _ ⟨a, b, rfl, _, _, rfl⟩; rfl) fun Y S Z ds d h => ?_
  have Se := S.toSe
  obtain ⟨a, b, rfl, ha, hb, rfl⟩ := h
  rw [← rat_mul a b]
  exact ss_ret (ev_call Se 0 (ok_lowest M) (by decide) (ar_cons (ev_mul (ev_ixT (ev_var Se 0) ev_int rfl) (ev_ixT (ev_var Se 1) ev_int rfl) (mulOk ha.1 hb.1 (by decide))) (ar_cons (ev_mul (ev_ixT (ev_var Se 0) ev_int rfl) (ev_ixT (ev_var Se 1) ev_int rfl) (mulOk ha.2 hb.2 (by decide))) ar_nil)) ⟨_, _, rfl, Int.mul_ne_zero (den_ne a) (den_ne b), (ha.2.mul hb.2).mono (by decide), rfl⟩) rfl
abbrev s_pp : Stmt := top 64
theorem sc_pp : ScB ["_law_p", "_law_k"] ["_law_p", "_law_k"] ["_law_up"] (defScope s_pp) := ⟨⟨rfl, rfl, rfl, by decide +kernel, rfl, by decide +kernel, by decide +kernel⟩, by decide +kernel, by decide +kernel⟩
theorem ok_pp {T : Tx} (M : Mo T) : FnD T 2 "_law_pp" R_ppw := by
  refine fn_D M.F_pp sc_pp (fun f fd F => F.binds fun _ _ _ _ _ _ us hl => match us, hl with | [_, _], _ => rfl) (by rintro _ _ ⟨a, b, rfl, _, _, _, rfl⟩; rfl) fun Y S Z ds d h => ?_
  have Se := S.toSe
  obtain ⟨p, k, rfl, hp, k0, k1, rfl⟩ := h
  have p2 := hp.two_le
  refine ss_if (te_lt (ev_var Se 1) ev_int) (fun h => ?_) (fun h => ss_nil ?_)
  · have h0 : k < 0 := by simpa using h
    have q := ppw_neg (p := p) (by omega) h0
    refine ss_ret (ev_tup (ar_cons ev_int (ar_cons (ev_call Se 0 (ok_up M) (by decide) (ar_cons (ev_var Se 0) (ar_cons (ev_neg (ev_var Se 1)) ar_nil)) ⟨p, -k, rfl, hp, by omega, rfl⟩) ar_nil))) ?_
    show D.tup _ = D.tup _
    rw [q.1, q.2]
  · have h0 : ¬ k < 0 := by simpa using h
    have q := ppw_nn (p := p) (k := k) (by omega)
    refine ss_ret (ev_tup (ar_cons (ev_call Se 0 (ok_up M) (by decide) (ar_cons (ev_var Se 0) (ar_cons (ev_var Se 1) ar_nil)) ⟨p, k, rfl, hp, by omega, rfl⟩) (ar_cons ev_int ar_nil))) ?_
    show D.tup _ = D.tup _
    rw [q.1, q.2]
    rfl
abbrev s_over_pE : Stmt := top 65
theorem sc_over_pE : ScB ["_law_p", "_law_total", "_law_deep"] ["_law_p", "_law_total", "_law_deep"] ["_law_up"] (defScope s_over_pE) := ⟨⟨rfl, rfl, rfl, by decide +kernel, rfl, by decide +kernel, by decide +kernel⟩, by decide +kernel, by decide +kernel⟩
theorem ok_over_pE {T : Tx} (M : Mo T) : FnD T 2 "_law_over_p" R_overE := by
  refine fn_D M.F_over_pE sc_over_pE (fun f fd F => F.binds fun _ _ _ _ _ _ us hl => match us, hl with | [_, _, _], _ => rfl) (by rintro _ _ ⟨_, _, _, rfl, _⟩; rfl) fun Y S Z ds d h => ?_
  have Se := S.toSe
  obtain ⟨p, t, e, rfl, hp, he, rfl⟩ := h
  have p2 := hp.two_le
  refine ss_while S (fun c => ∃ (m : Int) (f : Nat), c = [.val (.int p), .val (.int m), .val (.int (f : Int))] ∧ f ≤ 10000 ∧ Rat.divInt m (p ^ f) = Rat.divInt t (p ^ e)) (fun c => match c with | [_, _, .val (.int f)] => f.natAbs | _ => 0) ⟨t, e, rfl, he, rfl⟩ ?_
  rintro _ ⟨m, f, rfl, hf, hv⟩
  refine ⟨_, (te_and (te_gt (ev_var Se 2) ev_int) fun _ => te_and1 (te_eqI (ev_modP (ev_var Se 1) (ev_var Se 0) (by omega)) ev_int)).pt, fun h => ?_, fun h => ?_⟩
  · obtain ⟨h1, h2⟩ := Bool.and_eq_true_iff.mp h
    have h1 : 0 < f := by simpa using h1
    have h2 : m % p = 0 := by simpa using h2
    obtain ⟨g, rfl⟩ : ∃ g, f = g + 1 := ⟨f - 1, by omega⟩
    refine ss_set S 1 (ev_fdivP (ev_var Se 1) (ev_var Se 0) (by omega) (by rcases hp with rfl | rfl | rfl | rfl <;> decide +kernel)) ?_
    refine ss_set S 2 (ev_sub (ev_var Se 2) ev_int) ?_
    refine ss_nil ⟨⟨m / p, g, ?_, by omega, ?_⟩, ?_⟩
    · have : ((g + 1 : Nat) : Int) - 1 = (g : Int) := by omega
      rw [this]
      rfl
    · rw [← hv]
      have e1 : m = p * (m / p) := by have := Int.mul_ediv_add_emod m p; omega
      conv => rhs; rw [e1, Int.pow_succ, Int.mul_comm (p ^ g) p, Rat.divInt_mul_left (show p ≠ 0 by omega)]
    · show (((g + 1 : Nat) : Int) - 1).natAbs < ((g + 1 : Nat) : Int).natAbs
      omega
  · have hc : f = 0 ∨ ¬ m % p = 0 := by
      rcases Bool.and_eq_false_iff.mp h with h | h
      · left; simpa using h
      · right; simpa using h
    refine ss_ret (ev_tup (ar_cons (ev_var Se 1) (ar_cons (ev_call Se 0 (ok_up M) (by decide) (ar_cons (ev_var Se 0) (ar_cons (ev_var Se 2) ar_nil)) ⟨p, (f : Int), rfl, hp, by omega, rfl⟩) ar_nil))) ?_
    show D.tup [.int m, .int (p ^ ((f : Int)).toNat)] = frD _
    rw [← hv, Int.toNat_natCast]
    exact low_coE (pw_pos hp f) (co_pwE hp hc)
abbrev s_restE : Stmt := top 66
theorem sc_restE : ScB ["_law_p", "_law_k", "_law_a", "_law_deep", "_law_top", "_law_bottom", "_law_by", "_law_total", "_law_place", "_law_figure"] ["_law_p", "_law_k", "_law_a"] ["_law_power", "range", "_law_over_p", "_law_up"] (defScope s_restE) := ⟨⟨rfl, rfl, rfl, by decide +kernel, rfl, by decide +kernel, by decide +kernel⟩, by decide +kernel, by decide +kernel⟩
theorem ok_restE {T : Tx} (M : Mo T) : FnD T 3 "_law_rest" R_restE := by
  refine fn_D M.F_restE sc_restE (fun f fd F => F.binds fun _ _ _ _ _ _ us hl => match us, hl with | [_, _, _], _ => rfl) (by rintro _ _ ⟨_, _, _, rfl, _⟩; rfl) fun Y S Z ds d h => ?_
  have Se := S.toSe
  obtain ⟨p, k, a, rfl, hp, k0, k1, fa, rfl⟩ := h
  have p2 := hp.two_le
  have hv := vp_le hp (den_ne a) fa.2
  have pe := pw_pos hp (vp p a.den)
  have pb : Bd 5 p := Bd.of 8 (by omega) (by omega) (by decide)
  have i64 : ∀ i : Int, 0 ≤ i → i < 8 → Builtin.Int.intBits i ≤ 64 := fun i h0 h1 => Nat.le_trans (bits_le (Bd.of (n := 5) 8 (by omega) h1 (by decide))) (by decide)
  refine ss_set S 3 (ev_call Se 0 (ok_power M) (by decide) (ar_cons (ev_var Se 0) (ar_cons (ev_ixT (ev_var Se 2) ev_int rfl) ar_nil)) ⟨p, (a.den : Int), rfl, hp, den_ne a, rfl⟩) ?_
  refine ss_set S 4 (ev_ixT (ev_var Se 2) ev_int rfl) ?_
  refine ss_set S 5 (ev_fdivP (ev_ixT (ev_var Se 2) ev_int rfl) (ev_call Se 3 (ok_up M) (by decide) (ar_cons (ev_var Se 0) (ar_cons (ev_var Se 3) ar_nil)) ⟨p, (vp p a.den : Int), rfl, hp, by omega, rfl⟩) ?D1 ?D2) ?_
  case D1 => rw [Int.toNat_natCast]; exact pe
  case D2 =>
    rw [Int.toNat_natCast]
    obtain ⟨u, hu, _⟩ := vp_ex hp (den_ne a)
    have u0 : u ≠ 0 := fun z => den_ne a (by rw [hu, z, Int.mul_zero])
    have f2 := fa.2
    unfold Bd at f2 ⊢
    refine Nat.lt_of_le_of_lt ?_ (Nat.lt_of_lt_of_le f2 (Nat.pow_le_pow_right (by decide) (by decide)))
    rw [show (a.den : Int).natAbs = (p ^ vp p a.den).natAbs * u.natAbs by rw [← Int.natAbs_mul, ← hu]]
    exact Nat.le_mul_of_pos_right _ (by omega)
  rw [Int.toNat_natCast]
  obtain ⟨c, l, el, hc, c1, c2⟩ := by_list hp (den_part hp a)
  have fin := fig_rest hp k a hc
  rw [← fin]
  have fig := figR_is hp hc a.num
  generalize (a.den : Int) / p ^ vp p a.den = B at *
  refine ss_set S 6 (ev_ixL (ds := D.int c :: l) (ev_lto (ev_comp (tn := ["_law_c"]) (fs := ["_law_p", "_law_bottom"]) (ix := [0, 5]) (G' := []) Se Z.sc ?B (it_range2 Se 1 (ar_cons ev_int (ar_cons (ev_var Se 0) ar_nil)) ⟨by decide, by decide, by omega, by omega⟩ M.b_range) ((List.range (p - 1).toNat).map fun (m : Nat) => if B * (1 + (m : Int) * 1) % p = 1 then some (D.int (1 + (m : Int) * 1)) else none) (by simp [rangeD]) (by rw [List.length_map, List.length_range]; omega) ?T) el) ev_int (d := .int c) (at_hd _ _)) ?_
  case B => exact ⟨rfl, rfl, by decide +kernel, by decide +kernel, by decide +kernel, by decide +kernel, by decide +kernel, by decide +kernel, rfl, by decide +kernel⟩
  case T =>
    intro Y' S' hl m d r hd hr ts hts
    obtain ⟨hm, rfl⟩ := rangeD_of hd
    obtain ⟨t1, rfl⟩ : ∃ t1, ts = [t1] := List.length_eq_one_iff.mp hts
    rw [List.getElem?_map, List.getElem?_range hm] at hr
    have hr : (if B * (1 + (m : Int) * 1) % p = 1 then some (D.int (1 + (m : Int) * 1)) else none) = r := by simpa using hr
    refine ⟨[.val (.int (1 + (m : Int) * 1))], rfl, rfl, tg_name0 S'.toSn 0 (.inr (hl _ (by simp))), ?_⟩
    by_cases h : B * (1 + (m : Int) * 1) % p = 1
    · rw [if_pos h] at hr
      subst hr
      exact ⟨te_to (te_eqI (ev_modP (ev_mul (ev_var S' 2) (ev_var S' 0) (.of_right (i64 _ (by omega) (by omega)))) (ev_var S' 1) (by omega)) ev_int) (decide_eq_true h), ev_var S' 0⟩
    · rw [if_neg h] at hr
      subst hr
      exact te_to (te_eqI (ev_modP (ev_mul (ev_var S' 2) (ev_var S' 0) (.of_right (i64 _ (by omega) (by omega)))) (ev_var S' 1) (by omega)) ev_int) (decide_eq_false h)
  refine ss_set S 7 ev_int ?_
  refine ss_for S (it_range1 Se 1 (ar_cons (ev_add (ev_var Se 1) (ev_var Se 3)) ar_nil) (by omega) (by omega) M.b_range)
    (fun m c' => ∃ s8 s9 : Slot, c' = [.val (.int p), .val (.int k), .val (frD a), .val (.int (vp p a.den : Int)), .val (.int (figR p B c a.num m).2), .val (.int B), .val (.int c), .val (.int (figR p B c a.num m).1), s8, s9]) ⟨_, _, rfl⟩ ?_ ?_
  · rintro m d _ hd ⟨s8, s9, rfl⟩
    obtain ⟨hm, rfl⟩ := rangeD_of hd
    refine ⟨_, tg_name S 8, ?_⟩
    have em : (0 : Int) + (m : Int) * 1 = (m : Int) := by omega
    rw [em]
    have f0 := Int.emod_nonneg ((figR p B c a.num m).2 * c) (show p ≠ 0 by omega)
    have f1 := Int.emod_lt_of_pos ((figR p B c a.num m).2 * c) (show 0 < p by omega)
    refine ss_set S 9 (ev_modP (ev_mul (ev_var Se 4) (ev_var Se 6) (.of_right (i64 _ (by omega) (by omega)))) (ev_var Se 0) (by omega)) ?_
    refine ss_set S 7 (ev_add (ev_var Se 7) (ev_mul (ev_var Se 9) (ev_call Se 3 (ok_up M) (by decide) (ar_cons (ev_var Se 0) (ar_cons (ev_var Se 8) ar_nil)) ⟨p, (m : Int), rfl, hp, by omega, rfl⟩) (.of_left (i64 _ f0 (by omega))))) ?_
    refine ss_set S 4 (ev_fdivP (ev_sub (ev_var Se 4) (ev_mul (ev_var Se 9) (ev_var Se 5) (.of_left (i64 _ f0 (by omega))))) (ev_var Se 0) (by omega) (pb.mono (by decide))) ?_
    exact ss_nil ⟨_, _, rfl⟩
  · rintro _ ⟨s8, s9, rfl⟩
    have en : (rangeD 0 1 (k + (vp p a.den : Int)).toNat).length = (k + (vp p a.den : Int)).toNat := rangeD_length ..
    rw [en]
    exact ss_ret (ev_call Se 2 (ok_over_pE M) (by decide) (ar_cons (ev_var Se 0) (ar_cons (ev_var Se 7) (ar_cons (ev_var Se 3) ar_nil))) ⟨p, _, vp p a.den, rfl, hp, by omega, rfl⟩) rfl
abbrev s_spot67 : Stmt := top 67
theorem sc_spot67 : ScB ["_law_p", "_law_number_here", "_law_more", "_law_k", "_law_deep"] ["_law_p", "_law_number_here", "_law_more"] ["_law_over_p", "min", "_law_up"] (defScope s_spot67) := ⟨⟨rfl, rfl, rfl, by decide +kernel, rfl, by decide +kernel, by decide +kernel⟩, by decide +kernel, by decide +kernel⟩
theorem ok_spot67 {T : Tx} (M : Mo T) : FnD T 3 "_law_spot" R_spot67 := by
  refine fn_D M.F_spot67 sc_spot67 (fun f fd F => F.binds fun _ _ _ _ _ _ us hl => match us, hl with | [_, _, _], _ => rfl) (by rintro _ _ ⟨_, _, _, rfl, _⟩; rfl) fun Y S Z ds d h => ?_
  have Se := S.toSe
  obtain ⟨p, n, m, rfl, hp, rfl⟩ := h
  have kb := sK67_bd n
  refine ss_set S 3 (ev_sub (ev_modP (ev_var Se 1) ev_int (by decide)) ev_int) ?_
  refine ss_ifI S 3 (te_eqI (ev_modP (ev_fdivP (ev_var Se 1) ev_int (by decide) (by decide +kernel)) ev_int (by decide)) ev_int) (fun _ => ev_sub (ev_modP (ev_fdivP (ev_var Se 1) ev_int (by decide) (by decide +kernel)) ev_int (by decide)) ev_int) ?_
  refine ss_set S 4 (ev_modP (ev_var Se 2) ev_int (by decide)) ?_
  show SsD Y _ [.val (.int p), .val (.int n), .val (.int m), .val (.int (sK67 n)), .val (.int (m % 11))] _
  unfold sQ67
  generalize sK67 n = k at kb
  have d0 : 0 ≤ m % 11 ∧ m % 11 < 11 := by omega
  obtain ⟨e, he⟩ : ∃ e : Nat, m % 11 = (e : Int) := ⟨(m % 11).toNat, by omega⟩
  rw [he] at d0 ⊢
  have p2 := hp.two_le
  refine ss_if (te_le (ev_add (ev_var Se 3) (ev_var Se 4)) ev_int) (fun h => ?_) (fun h => ss_nil ?_)
  · have h0 : k + (e : Int) ≤ 0 := by simpa using h
    rw [if_pos h0]
    exact ss_ret (ev_tup (ar_cons (ev_var Se 3) (ar_cons (ev_tup (ar_cons ev_int (ar_cons ev_int ar_nil))) ar_nil))) rfl
  · have h0 : ¬ k + (e : Int) ≤ 0 := by simpa using h
    rw [if_neg h0, Int.toNat_natCast]
    have pk := pw_pos hp (k + (e : Int)).toNat
    refine ss_ret (ev_tup (ar_cons (ev_var Se 3) (ar_cons (ev_call Se 0 (ok_over_pE M) (by decide) (ar_cons (ev_var Se 0) (ar_cons (ev_modP (ev_fdivP (ev_var Se 2) ev_int (by decide) (by decide +kernel)) (ev_min Se 1 (ar_cons (ev_call Se 2 (ok_up M) (by decide) (ar_cons (ev_var Se 0) (ar_cons (ev_add (ev_var Se 3) (ev_var Se 4)) ar_nil)) ⟨p, k + (e : Int), rfl, hp, by omega, rfl⟩) (ar_cons (ev_pow ev_int ev_int ⟨by decide, by decide, by decide⟩) ar_nil)) M.b_min) ?_) (ar_cons (ev_var Se 4) ar_nil))) ⟨p, _, e, rfl, hp, by omega, rfl⟩) ar_nil))) ?_
    · have : (0 : Int) < 10 ^ Int.toNat 40 := by decide +kernel
      omega
    · show D.tup _ = D.tup _
      have e2 : (10 : Int) ^ Int.toNat 40 = 10 ^ 40 := rfl
      rw [e2]
      congr 3
abbrev s_lend62 : Stmt := top 68
theorem sc_lend62 : ScB ["_law_p", "_law_spot_here", "_law_sort", "_law_number_here"] ["_law_p", "_law_spot_here", "_law_sort", "_law_number_here"] ["_law_number", "_law_sum", "_law_product", "_law_small", "_law_pp", "max", "min"] (defScope s_lend62) := ⟨⟨rfl, rfl, rfl, by decide +kernel, rfl, by decide +kernel, by decide +kernel⟩, by decide +kernel, by decide +kernel⟩
theorem ok_lend62 {T : Tx} (M : Mo T) : FnD T 4 "_law_end" R_end62 := by
  refine fn_D M.F_lend62 sc_lend62 (fun f fd F => F.binds fun _ _ _ _ _ _ us hl => match us, hl with | [_, _, _, _], _ => rfl) (by rintro _ _ ⟨_, _, _, _, _, rfl, _⟩; rfl) fun Y S Z ds d h => ?_
  have Se := S.toSe
  obtain ⟨p, k, q, s, n, rfl, hp, fq, rfl⟩ := h
  unfold end62
  refine ss_if (te_eqI (ev_var Se 2) ev_int) (fun h => ?_) (fun h => ss_nil ?_)
  · rw [if_pos (of_decide_eq_true h)]
    exact ss_ret ev_str rfl
  rw [if_neg (of_decide_eq_false h)]
  refine ss_if (te_eqI (ev_var Se 2) ev_int) (fun h => ?_) (fun h => ss_nil ?_)
  · rw [if_pos (of_decide_eq_true h)]
    exact ss_ret (ev_ixT (ev_var Se 1) ev_int rfl) rfl
  rw [if_neg (of_decide_eq_false h)]
  refine ss_if (te_eqI (ev_var Se 2) ev_int) (fun h => ?_) (fun h => ss_nil ?_)
  · rw [if_pos (of_decide_eq_true h)]
    have f1 := smq_bd hp n
    have f2 := ppw_fbE hp (k := max (-12) (min k 12)) 12 (by omega) (by omega)
    exact ss_ret (ev_call Se 1 (ok_lsum M) (by decide) (ar_cons (ev_ixT (ev_var Se 1) ev_int rfl) (ar_cons (ev_call Se 2 (ok_lproduct M) (by decide) (ar_cons (ev_call Se 3 (ok_lsmall M) (by decide) (ar_cons (ev_var Se 0) (ar_cons (ev_var Se 3) ar_nil)) ⟨p, n, rfl, hp, rfl⟩) (ar_cons (ev_call Se 4 (ok_pp M) (by decide) (ar_cons (ev_var Se 0) (ar_cons (ev_max Se 5 (ar_cons (ev_neg ev_int) (ar_cons (ev_min Se 6 (ar_cons (ev_ixT (ev_var Se 1) ev_int rfl) (ar_cons ev_int ar_nil)) M.b_min) ar_nil)) M.b_max) ar_nil)) ⟨p, max (-12) (min k 12), rfl, hp, by omega, by omega, rfl⟩) ar_nil)) ⟨_, _, rfl, f1.mono (by decide), f2.mono (by decide), rfl⟩) ar_nil)) ⟨_, _, rfl, fq.mono (by decide), (f1.mul f2).mono (by decide), rfl⟩) rfl
  rw [if_neg (of_decide_eq_false h)]
  exact ss_ret (ev_call Se 0 (ok_number M) (by decide) (ar_cons (ev_var Se 0) (ar_cons (ev_var Se 3) ar_nil)) ⟨p, n, rfl, hp, rfl⟩) rfl
abbrev s_lnext : Stmt := top 69
theorem sc_lnext : ScB ["_law_p", "_law_spot_here", "_law_end_here", "_law_k", "_law_q", "_law_apart"] ["_law_p", "_law_spot_here", "_law_end_here"] ["_law_sum", "_law_rest", "_law_power"] (defScope s_lnext) := ⟨⟨rfl, rfl, rfl, by decide +kernel, rfl, by decide +kernel, by decide +kernel⟩, by decide +kernel, by decide +kernel⟩
theorem ok_lnext {T : Tx} (M : Mo T) : FnD T 4 "_law_next" R_next := by
  refine fn_D M.F_lnext sc_lnext (fun f fd F => F.binds fun _ _ _ _ _ _ us hl => match us, hl with | [_, _, _], _ => rfl) (by rintro _ _ ⟨_, _, _, _, rfl, _⟩; rfl) fun Y S Z ds d h => ?_
  have Se := S.toSe
  obtain ⟨p, k, q, e, rfl, hp, k0, k1, fq, fe, rfl⟩ := h
  refine ss_asg (d := spE k q) (ev_var Se 1) (tg_tup2 S 3 4) ?_
  have low : ∀ z : Slot, SsD Y ((defBody s_lnext).drop 2) [.val (.int p), .val (spE k q), .val (enD e), .val (.int k), .val (frD q), z] (Ret (spE (k - 1) (restQ p (k - 1) q))) := fun z => by
    exact ss_ret (ev_tup (ar_cons (ev_sub (ev_var Se 3) ev_int) (ar_cons (ev_call Se 1 (ok_restE M) (by decide) (ar_cons (ev_var Se 0) (ar_cons (ev_sub (ev_var Se 3) ev_int) (ar_cons (ev_var Se 4) ar_nil))) ⟨p, k - 1, q, rfl, hp, by omega, by omega, fq, rfl⟩) ar_nil))) rfl
  cases e with
  | none =>
    refine ss_if (te_neD Se (d1 := .str "far") (d2 := .str "far") (ev_var Se 2) ev_str fa_sh fa_sh) (fun h => ?_) (fun _ => ss_nil (low _))
    exfalso
    rw [show eqD (.str "far") (.str "far") = true from en_self none] at h
    cases h
  | some x =>
    have fx := fe x rfl
    have en : eqD (frD x) (.str "far") = false := rfl
    refine ss_if (te_neD Se (d1 := frD x) (d2 := .str "far") (ev_var Se 2) ev_str rfl fa_sh) (fun _ => ?_) (fun h => ?_)
    · have fn : Fb 4400 (-q) := ⟨by show Bd 4400 (-q.num); exact fq.1.neg, fq.2⟩
      refine ss_set S 5 (d := frD (x + -q)) (ev_call Se 0 (ok_lsum M) (by decide) (ar_cons (ev_var Se 2) (ar_consT (ev_tup (ar_cons (ev_neg (ev_ixT (ev_var Se 4) ev_int rfl)) (ar_cons (ev_ixT (ev_var Se 4) ev_int rfl) ar_nil))) ar_nil)) ⟨x, -q, rfl, fx, fn, rfl⟩) ?_
      rw [← Rat.sub_eq_add_neg]
      obtain ⟨v, hv0, hv⟩ : ∃ v : Int, ((x - q).num ≠ 0 → (vp p (x - q).num : Int) - (vp p ((x - q).den : Int) : Int) = v) ∧ alk p k x q = (decide ((x - q).num = 0) || decide (k ≤ v)) := by
        unfold alk vq
        by_cases h : (x - q).num = 0
        · exact ⟨0, fun z => absurd h z, by simp [h]⟩
        · exact ⟨_, fun _ => rfl, by simp [h]⟩
      refine ss_if (v := decide ((x - q).num = 0) || decide (k ≤ v)) (te_or (te_eqI (ev_ixT (ev_var Se 5) ev_int rfl) ev_int) (fun h => te_or1 (te_ge (i := v) ?P (ev_var Se 3)))).pt (fun h => ?_) (fun h => ss_nil (ss_nil ?_))
      case P =>
        have h : (x - q).num ≠ 0 := by simpa using h
        rw [← hv0 h]
        exact ev_sub (ev_call Se 2 (ok_power M) (by decide) (ar_cons (ev_var Se 0) (ar_cons (ev_ixT (ev_var Se 5) ev_int rfl) ar_nil)) ⟨p, (x - q).num, rfl, hp, h, rfl⟩) (ev_call Se 2 (ok_power M) (by decide) (ar_cons (ev_var Se 0) (ar_cons (ev_ixT (ev_var Se 5) ev_int rfl) ar_nil)) ⟨p, ((x - q).den : Int), rfl, hp, den_ne _, rfl⟩)
      · rw [← hv] at h
        have e1 : nxt p k q (some x) = (k + 1, restQ p (k + 1) x) := if_pos h
        rw [e1]
        exact ss_ret (ev_tup (ar_cons (ev_add (ev_var Se 3) ev_int) (ar_cons (ev_call Se 1 (ok_restE M) (by decide) (ar_cons (ev_var Se 0) (ar_cons (ev_add (ev_var Se 3) ev_int) (ar_cons (ev_var Se 2) ar_nil))) ⟨p, k + 1, x, rfl, hp, by omega, by omega, fx, rfl⟩) ar_nil))) rfl
      · rw [← hv] at h
        have h : ¬ alk p k x q = true := by rw [h]; exact Bool.false_ne_true
        have e1 : nxt p k q (some x) = (k - 1, restQ p (k - 1) q) := if_neg h
        rw [e1]
        exact low _
    · exfalso
      rw [en] at h
      cases h
abbrev s_marks : Stmt := top 70
theorem sc_marks : ScB ["_law_e", "_law_marks_here"] ["_law_e"] ["isinstance", "ValueError", "TreeError", "NoPrime", "NoFraction", "NoText", "NoSpot", "NoTable", "TooMany", "NoLine", "NoRow", "NothingDone", "TooFar"] (defScope s_marks) := ⟨⟨rfl, rfl, rfl, by decide +kernel, rfl, by decide +kernel, by decide +kernel⟩, by decide +kernel, by decide +kernel⟩
theorem ok_marks {T : Tx} (M : Mo T) : FnH T 1 "_law_marks" R_marks := by
  refine fn_H M.F_marks sc_marks (fun f fd F => F.binds fun _ _ _ _ _ _ us hl => match us, hl with | [_], _ => rfl) rfl fun Y S C y d hC h => ?_
  obtain ⟨c_TreeError, h_TreeError⟩ := M.g_TreeError
  obtain ⟨c_NoPrime, h_NoPrime⟩ := M.g_NoPrime
  obtain ⟨c_NoFraction, h_NoFraction⟩ := M.g_NoFraction
  obtain ⟨c_NoText, h_NoText⟩ := M.g_NoText
  obtain ⟨c_NoSpot, h_NoSpot⟩ := M.g_NoSpot
  obtain ⟨c_NoTable, h_NoTable⟩ := M.g_NoTable
  obtain ⟨c_TooMany, h_TooMany⟩ := M.g_TooMany
  obtain ⟨c_NoLine, h_NoLine⟩ := M.g_NoLine
  obtain ⟨c_NoRow, h_NoRow⟩ := M.g_NoRow
  obtain ⟨c_NothingDone, h_NothingDone⟩ := M.g_NothingDone
  obtain ⟨c_TooFar, h_TooFar⟩ := M.g_TooFar
  rcases h with ⟨rfl, rfl⟩ | ⟨rfl, rfl⟩ | ⟨rfl, rfl⟩
  · refine ss_set0 S 1 (ev_lst (ar_cons (ev_isXB S.toSn 0 0 1 rfl (M.e_NoFraction C hC) M.b_ValueError bt_ValueError (M.v_NoFraction C hC) M.b_isinstance) (ar_cons (ev_isX S.toSn 0 0 2 rfl (M.e_NoFraction C hC) h_TreeError (M.i_NoFraction_TreeError C _ hC h_TreeError) M.b_isinstance) (ar_cons (ev_isX S.toSn 0 0 3 rfl (M.e_NoFraction C hC) h_NoPrime (M.i_NoFraction_NoPrime C _ hC h_NoPrime) M.b_isinstance) (ar_cons (ev_isX S.toSn 0 0 4 rfl (M.e_NoFraction C hC) h_NoFraction (M.i_NoFraction_NoFraction C _ hC h_NoFraction) M.b_isinstance) ar_nil))))) ?_
    refine ss_set0 S 1 (ev_catL (ev_var0 S.toSn 1) (ev_lst (ar_cons (ev_isX S.toSn 0 0 5 rfl (M.e_NoFraction C hC) h_NoText (M.i_NoFraction_NoText C _ hC h_NoText) M.b_isinstance) (ar_cons (ev_isX S.toSn 0 0 6 rfl (M.e_NoFraction C hC) h_NoSpot (M.i_NoFraction_NoSpot C _ hC h_NoSpot) M.b_isinstance) (ar_cons (ev_isX S.toSn 0 0 7 rfl (M.e_NoFraction C hC) h_NoTable (M.i_NoFraction_NoTable C _ hC h_NoTable) M.b_isinstance) (ar_cons (ev_isX S.toSn 0 0 8 rfl (M.e_NoFraction C hC) h_TooMany (M.i_NoFraction_TooMany C _ hC h_TooMany) M.b_isinstance) ar_nil)))))) ?_
    refine ss_ret (ev_catL (ev_var0 S.toSn 1) (ev_lst (ar_cons (ev_isX S.toSn 0 0 9 rfl (M.e_NoFraction C hC) h_NoLine (M.i_NoFraction_NoLine C _ hC h_NoLine) M.b_isinstance) (ar_cons (ev_isX S.toSn 0 0 10 rfl (M.e_NoFraction C hC) h_NoRow (M.i_NoFraction_NoRow C _ hC h_NoRow) M.b_isinstance) (ar_cons (ev_isX S.toSn 0 0 11 rfl (M.e_NoFraction C hC) h_NothingDone (M.i_NoFraction_NothingDone C _ hC h_NothingDone) M.b_isinstance) (ar_cons (ev_isX S.toSn 0 0 12 rfl (M.e_NoFraction C hC) h_TooFar (M.i_NoFraction_TooFar C _ hC h_TooFar) M.b_isinstance) ar_nil)))))) ?_
    show D.lst _ = D.lst _
    rfl
  · refine ss_set0 S 1 (ev_lst (ar_cons (ev_isXB S.toSn 0 0 1 rfl (M.e_NoTable C hC) M.b_ValueError bt_ValueError (M.v_NoTable C hC) M.b_isinstance) (ar_cons (ev_isX S.toSn 0 0 2 rfl (M.e_NoTable C hC) h_TreeError (M.i_NoTable_TreeError C _ hC h_TreeError) M.b_isinstance) (ar_cons (ev_isX S.toSn 0 0 3 rfl (M.e_NoTable C hC) h_NoPrime (M.i_NoTable_NoPrime C _ hC h_NoPrime) M.b_isinstance) (ar_cons (ev_isX S.toSn 0 0 4 rfl (M.e_NoTable C hC) h_NoFraction (M.i_NoTable_NoFraction C _ hC h_NoFraction) M.b_isinstance) ar_nil))))) ?_
    refine ss_set0 S 1 (ev_catL (ev_var0 S.toSn 1) (ev_lst (ar_cons (ev_isX S.toSn 0 0 5 rfl (M.e_NoTable C hC) h_NoText (M.i_NoTable_NoText C _ hC h_NoText) M.b_isinstance) (ar_cons (ev_isX S.toSn 0 0 6 rfl (M.e_NoTable C hC) h_NoSpot (M.i_NoTable_NoSpot C _ hC h_NoSpot) M.b_isinstance) (ar_cons (ev_isX S.toSn 0 0 7 rfl (M.e_NoTable C hC) h_NoTable (M.i_NoTable_NoTable C _ hC h_NoTable) M.b_isinstance) (ar_cons (ev_isX S.toSn 0 0 8 rfl (M.e_NoTable C hC) h_TooMany (M.i_NoTable_TooMany C _ hC h_TooMany) M.b_isinstance) ar_nil)))))) ?_
    refine ss_ret (ev_catL (ev_var0 S.toSn 1) (ev_lst (ar_cons (ev_isX S.toSn 0 0 9 rfl (M.e_NoTable C hC) h_NoLine (M.i_NoTable_NoLine C _ hC h_NoLine) M.b_isinstance) (ar_cons (ev_isX S.toSn 0 0 10 rfl (M.e_NoTable C hC) h_NoRow (M.i_NoTable_NoRow C _ hC h_NoRow) M.b_isinstance) (ar_cons (ev_isX S.toSn 0 0 11 rfl (M.e_NoTable C hC) h_NothingDone (M.i_NoTable_NothingDone C _ hC h_NothingDone) M.b_isinstance) (ar_cons (ev_isX S.toSn 0 0 12 rfl (M.e_NoTable C hC) h_TooFar (M.i_NoTable_TooFar C _ hC h_TooFar) M.b_isinstance) ar_nil)))))) ?_
    show D.lst _ = D.lst _
    rfl
  · refine ss_set0 S 1 (ev_lst (ar_cons (ev_isXB S.toSn 0 0 1 rfl (M.e_NoLine C hC) M.b_ValueError bt_ValueError (M.v_NoLine C hC) M.b_isinstance) (ar_cons (ev_isX S.toSn 0 0 2 rfl (M.e_NoLine C hC) h_TreeError (M.i_NoLine_TreeError C _ hC h_TreeError) M.b_isinstance) (ar_cons (ev_isX S.toSn 0 0 3 rfl (M.e_NoLine C hC) h_NoPrime (M.i_NoLine_NoPrime C _ hC h_NoPrime) M.b_isinstance) (ar_cons (ev_isX S.toSn 0 0 4 rfl (M.e_NoLine C hC) h_NoFraction (M.i_NoLine_NoFraction C _ hC h_NoFraction) M.b_isinstance) ar_nil))))) ?_
    refine ss_set0 S 1 (ev_catL (ev_var0 S.toSn 1) (ev_lst (ar_cons (ev_isX S.toSn 0 0 5 rfl (M.e_NoLine C hC) h_NoText (M.i_NoLine_NoText C _ hC h_NoText) M.b_isinstance) (ar_cons (ev_isX S.toSn 0 0 6 rfl (M.e_NoLine C hC) h_NoSpot (M.i_NoLine_NoSpot C _ hC h_NoSpot) M.b_isinstance) (ar_cons (ev_isX S.toSn 0 0 7 rfl (M.e_NoLine C hC) h_NoTable (M.i_NoLine_NoTable C _ hC h_NoTable) M.b_isinstance) (ar_cons (ev_isX S.toSn 0 0 8 rfl (M.e_NoLine C hC) h_TooMany (M.i_NoLine_TooMany C _ hC h_TooMany) M.b_isinstance) ar_nil)))))) ?_
    refine ss_ret (ev_catL (ev_var0 S.toSn 1) (ev_lst (ar_cons (ev_isX S.toSn 0 0 9 rfl (M.e_NoLine C hC) h_NoLine (M.i_NoLine_NoLine C _ hC h_NoLine) M.b_isinstance) (ar_cons (ev_isX S.toSn 0 0 10 rfl (M.e_NoLine C hC) h_NoRow (M.i_NoLine_NoRow C _ hC h_NoRow) M.b_isinstance) (ar_cons (ev_isX S.toSn 0 0 11 rfl (M.e_NoLine C hC) h_NothingDone (M.i_NoLine_NothingDone C _ hC h_NothingDone) M.b_isinstance) (ar_cons (ev_isX S.toSn 0 0 12 rfl (M.e_NoLine C hC) h_TooFar (M.i_NoLine_TooFar C _ hC h_TooFar) M.b_isinstance) ar_nil)))))) ?_
    show D.lst _ = D.lst _
    rfl
abbrev s_only : Stmt := top 71
theorem sc_only : ScB ["_law_at"] ["_law_at"] ["range"] (defScope s_only) := ⟨⟨rfl, rfl, rfl, by decide +kernel, rfl, by decide +kernel, by decide +kernel⟩, by decide +kernel, by decide +kernel⟩
theorem ok_only {T : Tx} (M : Mo T) : FnD T 1 "_law_only" R_only := by
  refine fn_D M.F_only sc_only (fun f fd F => F.binds fun _ _ _ _ _ _ us hl => match us, hl with | [_], _ => rfl) (by rintro _ _ ⟨a, rfl, rfl⟩; rfl) fun Y S Z ds d h => ?_
  have Se := S.toSe
  obtain ⟨i, rfl, rfl⟩ := h
  have e : ((List.range 12).map fun (k : Nat) => some (D.bl (inD (.int (0 + (k : Int) * 1)) [.int 0, .int 1, .int i]))).filterMap id = onlyL i := by
    unfold onlyL
    rw [List.filterMap_map]
    simp
  refine ss_ret (ev_comp (tn := ["_law_k"]) (fs := ["_law_at"]) (ix := [0]) (G' := []) Se Z.sc ?B (it_range1 Se 0 (ar_cons ev_int ar_nil) (by decide) (by decide) M.b_range) ((List.range 12).map fun (k : Nat) => some (D.bl (inD (.int (0 + (k : Int) * 1)) [.int 0, .int 1, .int i]))) rfl (by simp) ?T) ?_
  case B => exact ⟨rfl, rfl, by decide +kernel, by decide +kernel, by decide +kernel, by decide +kernel, by decide +kernel, by decide +kernel, rfl, by decide +kernel⟩
  case T =>
    intro Y' S' hl m d r hd hr ts hts
    obtain ⟨hm, rfl⟩ := rangeD_of hd
    obtain ⟨t, rfl⟩ : ∃ t, ts = [t] := List.length_eq_one_iff.mp hts
    have hr' : r = some (D.bl (inD (.int (0 + (m : Int) * 1)) [.int 0, .int 1, .int i])) := by
      rw [List.getElem?_map, List.getElem?_range (by simpa using hm)] at hr
      simpa using hr.symm
    subst hr'
    exact ⟨[_], rfl, rfl, tg_name0 S'.toSn 0 (.inr (hl _ (by simp))), rfl, ev_inT (ev_var S' 0) (ev_tup (ar_cons ev_int (ar_cons ev_int (ar_cons (ev_var S' 1) ar_nil))))⟩
  · show D.lst _ = D.lst _
    rw [e]
abbrev s_refused67 : Stmt := top 72
theorem sc_refused67 : ScB ["_law_p", "_law_spot_here", "_law_end_here", "_law_sort", "_law_marks_here", "_law_e"] ["_law_p", "_law_spot_here", "_law_end_here", "_law_sort"] ["TreeError", "_law_only", "on_line", "nearest", "_law_marks"] (defScope s_refused67) := ⟨⟨rfl, rfl, rfl, by decide +kernel, rfl, by decide +kernel, by decide +kernel⟩, by decide +kernel, by decide +kernel⟩
theorem ok_refused67 {T : Tx} (M : Mo T) : FnD T 9 "_law_refused" R_refused67 := by
  refine fn_D M.F_refused67 sc_refused67 (fun f fd F => F.binds fun _ _ _ _ _ _ us hl => match us, hl with | [_, _, _, _], _ => rfl) (by rintro _ _ ⟨_, _, _, _, rfl, _⟩; rfl) fun Y S Z ds d h => ?_
  have Se := S.toSe
  obtain ⟨p, s, e, k, rfl, hp, k0, k1, fq, fe, rfl⟩ := h
  refine ss_set S 4 (ev_lst ar_nil) ?_

  obtain ⟨Ct, hCt⟩ := M.g_TreeError
  refine ss_try S Z 5 0 (fun y => y = "NoLine") (by decide +kernel) hCt (fun y C hy hC => by subst hy; exact M.m_NoLine_TreeError C Ct hC hCt) (fun Y' S' hz => ?_) (fun Yh Sh y C hy hC => ?_)

  · refine ss_if (te_eqI (ev_var S'.toSe 3) ev_int) (fun _ => ?_) (fun _ => ?_)
    · exact ss_exprX (ev_callX S'.toSe 2 (okx_on_line M) (by decide) (ar_cons (ev_var S'.toSe 0) (ar_cons (ev_var S'.toSe 1) (ar_cons (ev_var S'.toSe 2) (ar_cons (ev_var S'.toSe 2) ar_nil)))) ⟨p, s.1, s.2, e, e, rfl, hp, by omega, by omega, fq.mono (by decide), fe.mono67 (by decide), fe.mono67 (by decide), .inr ⟨rfl, rfl⟩⟩ (hz _ rfl))
    · exact ss_exprX (ev_callX S'.toSe 3 (okx_nearest M) (by decide) (ar_cons (ev_var S'.toSe 0) (ar_cons (ev_var S'.toSe 1) (ar_cons (ev_var S'.toSe 2) (ar_cons (ev_var S'.toSe 2) ar_nil)))) ⟨p, s, e, e, rfl, hp, fun z => absurd rfl z, .inr ⟨rfl, rfl⟩⟩ (hz _ rfl))
  · subst hy
    refine ss_set0 Sh 4 (ev_callH Sh 5 4 (ok_marks M) (by decide) rfl hC (.inr (.inr ⟨rfl, rfl⟩))) (ss_nil ?_)
    refine ss_ret (ev_eqD Se (ev_var Se 4) (ev_call Se 1 (ok_only M) (by decide) (ar_cons ev_int ar_nil) ⟨8, rfl, rfl⟩)) ?_
    exact congrArg D.bl (show true = eqD (.lst (onlyL 8)) (.lst (onlyL 8)) from by decide +kernel).symm
abbrev s_due67 : Stmt := top 73
theorem sc_due67 : ScB ["_law_p", "_law_spot_here", "_law_one", "_law_other", "_law_steps", "_law_here"] ["_law_p", "_law_spot_here", "_law_one", "_law_other"] ["_law_next"] (defScope s_due67) := ⟨⟨rfl, rfl, rfl, by decide +kernel, rfl, by decide +kernel, by decide +kernel⟩, by decide +kernel, by decide +kernel⟩
theorem ok_due67 {T : Tx} (M : Mo T) : FnD T 5 "_law_due" R_due67 := by
  refine fn_D M.F_due67 sc_due67 (fun f fd F => F.binds fun _ _ _ _ _ _ us hl => match us, hl with | [_, _, _, _], _ => rfl) (by rintro _ _ ⟨_, _, _, _, rfl, _⟩; rfl) fun Y S Z ds d h => ?_
  have Se := S.toSe
  obtain ⟨p, s, e, f, rfl, hp, o, hef, k0, k1, fq, he, hf, rfl⟩ := h
  have ss := own_spt67 hp k0 k1 fq o
  have st := near_spt67 hp k0 k1 fq hef he hf
  have wb := wy_bd67 hp k0 k1 ss st
  have e4 := he.1.mono67 (show 220 ≤ 4400 by decide)
  have f4 := hf.1.mono67 (show 220 ≤ 4400 by decide)
  generalize hT : nearE p s e f = T at st wb ⊢
  refine ss_set S 4 ev_int ?_
  refine ss_set S 5 (d := spE (nxt p s.1 s.2 e).1 (nxt p s.1 s.2 e).2) (ev_call Se 0 (ok_lnext M) (by decide) (ar_cons (ev_var Se 0) (ar_cons (ev_var Se 1) (ar_cons (ev_var Se 2) ar_nil))) ⟨p, s.1, s.2, e, rfl, hp, by omega, by omega, fq.mono (by decide), e4, rfl⟩) ?_
  refine ss_while S (fun c => ∃ (t : Int × Rat) (n : Int), c = [.val (.int p), .val (spE t.1 t.2), .val (enD e), .val (enD f), .val (.int n), .val (spE (nxt p t.1 t.2 e).1 (nxt p t.1 t.2 e).2)] ∧ Own p t.1 t.2 ∧ Form p s.2 e t ∧ nearE p t e f = T ∧ n + wy p t T = wy p s T ∧ 0 ≤ n ∧ s.1 - n ≤ t.1 ∧ t.1 ≤ s.1 + n) (fun c => match c with | [_, _, _, _, .val (.int n), _] => (1000 - n).toNat | _ => 0) ⟨s, 0, rfl, o, .inl rfl, hT, by omega, by omega, by omega, by omega⟩ ?_
  rintro _ ⟨t, n, rfl, ot, fo, nt, hn, n0, t0, t1⟩
  have wn := wy_nn hp t T
  have ft : Fb 4400 t.2 := (fo.fb hp (K := 1010) fq he.1 (by omega)).mono (by decide)
  refine ⟨_, te_eqD Se (d1 := spE (nxt p t.1 t.2 e).1 (nxt p t.1 t.2 e).2) (ev_var Se 5) (ev_call Se 0 (ok_lnext M) (by decide) (ar_cons (ev_var Se 0) (ar_cons (ev_var Se 1) (ar_cons (ev_var Se 3) ar_nil))) ⟨p, t.1, t.2, f, rfl, hp, by omega, by omega, ft, f4, rfl⟩), fun h => ?_, fun h => ?_⟩
  · rw [eqD_spE] at h
    have h : nxt p t.1 t.2 e = nxt p t.1 t.2 f := of_decide_eq_true h
    obtain ⟨n1, n2⟩ := near_on hp hef h
    rw [nt] at n1 n2
    have kk := nxt_k p t.1 t.2 e
    have o2 := nxt_own hp t.1 t.2 e
    have fo2 := fo.step hp
    refine ss_set S 1 (ev_var Se 5) ?_
    refine ss_set S 4 (ev_add (ev_var Se 4) ev_int) ?_
    generalize nxt p t.1 t.2 e = u at n1 n2 kk o2 fo2 ⊢
    have wu := wy_nn hp u T
    have fu : Fb 4400 u.2 := (fo2.fb hp (K := 1010) fq he.1 (by omega)).mono (by decide)
    refine ss_set S 5 (d := spE (nxt p u.1 u.2 e).1 (nxt p u.1 u.2 e).2) (ev_call Se 0 (ok_lnext M) (by decide) (ar_cons (ev_var Se 0) (ar_cons (ev_var Se 1) (ar_cons (ev_var Se 2) ar_nil))) ⟨p, u.1, u.2, e, rfl, hp, by omega, by omega, fu, e4, rfl⟩) (ss_nil ⟨⟨u, n + 1, rfl, o2, fo2, n1, by omega, by omega, by omega, by omega⟩, ?_⟩)
    show (1000 - (n + 1)).toNat < (1000 - n).toNat
    omega
  · rw [eqD_spE] at h
    have h : nxt p t.1 t.2 e ≠ nxt p t.1 t.2 f := of_decide_eq_false h
    have et := near_at hp ot hef h
    rw [nt] at et
    subst et
    rw [wy_self hp] at hn
    refine ss_ret (ev_tup (ar_cons (ev_var Se 1) (ar_cons (ev_var Se 4) ar_nil))) ?_
    rw [show n = wy p s T by omega]
    rfl
abbrev s_law : Stmt := top 74
theorem sc_law : ScB ["_law_script", "_law_at", "_law_number_here", "_law_p", "_law_spot_here", "_law_more", "_law_one", "_law_other", "_law_due_here", "_law_told", "_law_found"] ["_law_script"] ["range", "max", "_law_drawn", "_law_prime", "_law_spot", "_law_end", "min", "_law_due", "on_line", "nearest", "len", "_law_refused", "isinstance", "bool", "tuple", "_law_whole"] (defScope s_law) := ⟨⟨rfl, rfl, rfl, by decide +kernel, rfl, by decide +kernel, by decide +kernel⟩, by decide +kernel, by decide +kernel⟩
theorem okk_law {T : Tx} (M : Mo T) {f : Addr} {fd : FuncData} (F : Fun T.K "law" "law" s_law f fd) : FnOk T.prog T.w T.K T.mg T.base CX0 10 f fd ["_law_script"] (spD T.K R_law) := by
  refine fn_Dk F sc_law (by rintro _ _ ⟨_, rfl, _, rfl⟩; rfl) fun Y S Z ds d h => ?_
  have Se := S.toSe
  obtain ⟨ns, rfl, h63, rfl⟩ := h
  refine ss_for S (it_range3 Se 0 (ar_cons ev_int (ar_cons (ev_max Se 1 (ar_cons ev_int (ar_cons (ev_min Se 6 (ar_cons (ev_len Se 10 (ar_cons (ev_var Se 0) ar_nil) rfl M.b_len) (ar_cons ev_int ar_nil)) M.b_min) ar_nil)) M.b_max) (ar_cons ev_int ar_nil))) ?_ (by decide) (by decide) M.b_range)
    (fun _ c => ∃ (s1 s2 s3 s4 s5 s6 s7 s8 s9 sA : Slot), c = [.val (.lst (ns.map D.int)), s1, s2, s3, s4, s5, s6, s7, s8, s9, sA]) ⟨_, _, _, _, _, _, _, _, _, _, rfl⟩ ?_ ?_
  · omega
  · rintro m d _ hd ⟨s1, s2, s3, s4, s5, s6, s7, s8, s9, sA, rfl⟩
    obtain ⟨hm', rfl⟩ := rangeD_of hd
    refine ⟨_, tg_name S 1, ?_⟩
    have hk : 0 ≤ (0 : Int) + (m : Int) * 6 ∧ (0 : Int) + (m : Int) * 6 < 70 := by
      unfold rangeN Builtin.Range.rangeSize at hm'
      simp only [show (6 : Int) > 0 by decide, if_true] at hm'
      omega
    generalize (0 : Int) + (m : Int) * 6 = k at hk
    refine ss_set S 2 (ev_call Se 2 (ok_drawn M) (by decide) (ar_cons (ev_var Se 0) (ar_cons (ev_var Se 1) ar_nil)) ⟨ns, k, rfl, h63, by omega, by omega, rfl⟩) ?_
    generalize drawn ns k = num
    refine ss_set S 3 (ev_call Se 3 (ok_prime M) (by decide) (ar_cons (ev_var Se 2) ar_nil) ⟨num, rfl, rfl⟩) ?_
    have hp := prime4_pr num
    generalize prime4 num = p at hp
    refine ss_set S 4 (ev_call Se 4 (ok_spot67 M) (by decide) (ar_cons (ev_var Se 3) (ar_cons (ev_fdivP (ev_var Se 2) ev_int (by decide) (by decide +kernel)) (ar_cons (ev_call Se 2 (ok_drawn M) (by decide) (ar_cons (ev_var Se 0) (ar_cons (ev_add (ev_var Se 1) ev_int) ar_nil)) ⟨ns, k + 1, rfl, h63, by omega, by omega, rfl⟩) ar_nil))) ⟨p, num / 4, drawn ns (k + 1), rfl, hp, rfl⟩) ?_
    obtain ⟨s, es⟩ : ∃ s : Int × Rat, s = (sK67 (num / 4), sQ67 p (num / 4) (drawn ns (k + 1))) := ⟨_, rfl⟩
    have jb : -40 ≤ s.1 ∧ s.1 ≤ 40 := by rw [es]; exact sK67_bd (num / 4)
    have fq : Fb 140 s.2 ∧ (p = 2 → Fb 60 s.2) := by rw [es]; exact sQ67_bd hp (num / 4) (drawn ns (k + 1))
    have o : Own p s.1 s.2 := by rw [es]; exact sQ67_own hp (num / 4) (drawn ns (k + 1))
    have fs : Fb 220 s.2 := fq.1.mono (by decide)
    rw [show spE (sK67 (num / 4)) (sQ67 p (num / 4) (drawn ns (k + 1))) = spE s.1 s.2 by rw [es]]
    clear es
    refine ss_set S 5 (ev_call Se 2 (ok_drawn M) (by decide) (ar_cons (ev_var Se 0) (ar_cons (ev_add (ev_var Se 1) ev_int) ar_nil)) ⟨ns, k + 2, rfl, h63, by omega, by omega, rfl⟩) ?_
    generalize drawn ns (k + 2) = more
    refine ss_set S 6 (ev_call Se 5 (ok_lend62 M) (by decide) (ar_cons (ev_var Se 3) (ar_cons (ev_var Se 4) (ar_cons (ev_modP (ev_var Se 5) ev_int (by decide)) (ar_cons (ev_call Se 2 (ok_drawn M) (by decide) (ar_cons (ev_var Se 0) (ar_cons (ev_add (ev_var Se 1) ev_int) ar_nil)) ⟨ns, k + 3, rfl, h63, by omega, by omega, rfl⟩) ar_nil)))) ⟨p, s.1, s.2, more % 4, drawn ns (k + 3), rfl, hp, fq.1, rfl⟩) ?_
    have he : Ed67 p _ := end67_bd hp s.1 fq.1 fq.2 (more % 4) (drawn ns (k + 3))
    generalize end62 p s.1 s.2 (more % 4) (drawn ns (k + 3)) = e at he
    refine ss_set S 7 (ev_call Se 5 (ok_lend62 M) (by decide) (ar_cons (ev_var Se 3) (ar_cons (ev_var Se 4) (ar_cons (ev_modP (ev_fdivP (ev_var Se 5) ev_int (by decide) (by decide +kernel)) ev_int (by decide)) (ar_cons (ev_call Se 2 (ok_drawn M) (by decide) (ar_cons (ev_var Se 0) (ar_cons (ev_add (ev_var Se 1) ev_int) ar_nil)) ⟨ns, k + 4, rfl, h63, by omega, by omega, rfl⟩) ar_nil)))) ⟨p, s.1, s.2, more / 4 % 4, drawn ns (k + 4), rfl, hp, fq.1, rfl⟩) ?_
    have hf : Ed67 p _ := end67_bd hp s.1 fq.1 fq.2 (more / 4 % 4) (drawn ns (k + 4))
    generalize end62 p s.1 s.2 (more / 4 % 4) (drawn ns (k + 4)) = f at hf
    have e4 := he.1.mono67 (show 220 ≤ 4400 by decide)
    have f4 := hf.1.mono67 (show 220 ≤ 4400 by decide)
    refine ss_if (te_or (te_not (te_val (ev_call Se 11 (ok_refused67 M) (by decide) (ar_cons (ev_var Se 3) (ar_cons (ev_var Se 4) (ar_cons (ev_var Se 6) (ar_cons ev_int ar_nil)))) ⟨p, s, e, 0, rfl, hp, jb.1, jb.2, fs, he.1, rfl⟩))) fun _ => te_or1 (te_not (te_val (ev_call Se 11 (ok_refused67 M) (by decide) (ar_cons (ev_var Se 3) (ar_cons (ev_var Se 4) (ar_cons (ev_var Se 6) (ar_cons ev_int ar_nil)))) ⟨p, s, e, 1, rfl, hp, jb.1, jb.2, fs, he.1, rfl⟩)))).pt (fun h => absurd h (by decide)) (fun _ => ss_nil ?_)
    refine ss_if (te_neD Se (d1 := enD e) (d2 := enD f) (ev_var Se 6) (ev_var Se 7) (en_sh e) (en_sh f)) (fun h => ?_) (fun _ => ss_nil (ss_nil ⟨_, _, _, _, _, _, _, _, _, _, rfl⟩))
    have hef : e ≠ f := by rw [en_eq67] at h; simpa using h
    have hfe : f ≠ e := fun z => hef z.symm
    refine ss_set S 8 (ev_call Se 7 (ok_due67 M) (by decide) (ar_cons (ev_var Se 3) (ar_cons (ev_var Se 4) (ar_cons (ev_var Se 6) (ar_cons (ev_var Se 7) ar_nil)))) ⟨p, s, e, f, rfl, hp, o, hef, jb.1, jb.2, fs, he, hf, rfl⟩) ?_
    refine ss_set S 9 (ev_callO Se 8 (okx_on_line M) (by decide) (ar_cons (ev_var Se 3) (ar_cons (ev_var Se 4) (ar_cons (ev_var Se 6) (ar_cons (ev_var Se 7) ar_nil)))) ⟨p, s.1, s.2, e, f, rfl, hp, by omega, by omega, fs.mono (by decide), e4, f4, .inl ⟨hef, rfl⟩⟩) ?_
    have ss := own_spt67 hp jb.1 jb.2 fs o
    have st := near_spt67 hp jb.1 jb.2 fs hef he hf
    have e1 := he.1.mono67 (show 220 ≤ 1862 by decide)
    have f1 := hf.1.mono67 (show 220 ≤ 1862 by decide)
    have r1 : R_nearest [.int p, spE s.1 s.2, enD e, enD f] (.ok (.tup [spE (nearE p s e f).1 (nearE p s e f).2, .int (wy p s (nearE p s e f))])) := ⟨p, s, e, f, rfl, hp, fun _ => ⟨o, ss, e1, f1, st⟩, .inl ⟨hef, rfl⟩⟩
    have r2 : R_nearest [.int p, spE s.1 s.2, enD f, enD e] (.ok (.tup [spE (nearE p s e f).1 (nearE p s e f).2, .int (wy p s (nearE p s e f))])) := by
      rw [near_symm hp s hef] at st ⊢
      exact ⟨p, s, f, e, rfl, hp, fun _ => ⟨o, ss, f1, e1, st⟩, .inl ⟨hfe, rfl⟩⟩
    have zero : (!decide (nxt p s.1 s.2 e = nxt p s.1 s.2 f)) = decide (wy p s (nearE p s e f) = 0) := by
      by_cases g : nxt p s.1 s.2 e = nxt p s.1 s.2 f
      · have w := (near_on hp hef g).2
        have wn := wy_nn hp (nxt p s.1 s.2 e) (nearE p s e f)
        have : ¬ wy p s (nearE p s e f) = 0 := by omega
        rw [decide_eq_true g, decide_eq_false this]; rfl
      · have w : wy p s (nearE p s e f) = 0 := by rw [near_at hp o hef g]; exact wy_self hp s
        rw [decide_eq_false g, decide_eq_true w]; rfl
    have sym : (!decide (nxt p s.1 s.2 f = nxt p s.1 s.2 e)) = (!decide (nxt p s.1 s.2 e = nxt p s.1 s.2 f)) := by
      congr 1
      rw [Bool.eq_iff_iff, decide_eq_true_iff, decide_eq_true_iff]
      exact ⟨Eq.symm, Eq.symm⟩
    generalize nearE p s e f = T at r1 r2 zero ⊢
    generalize (!decide (nxt p s.1 s.2 e = nxt p s.1 s.2 f)) = b at zero sym ⊢
    refine ss_if (te_or (te_not (te_val (ev_isi Se 12 13 (ev_var Se 9) (b := true) rfl M.b_isinstance M.b_bool bt_bool))) fun _ => te_or (te_neD Se (d1 := .bl b) (d2 := .bl (decide (wy p s T = 0))) (ev_var Se 9) (ev_eqI (ev_ixT (ev_var Se 8) ev_int rfl) ev_int)) fun _ => te_or1 (te_neD Se (d1 := .bl (!decide (nxt p s.1 s.2 f = nxt p s.1 s.2 e))) (d2 := .bl b) (ev_callO Se 8 (okx_on_line M) (by decide) (ar_cons (ev_var Se 3) (ar_cons (ev_var Se 4) (ar_cons (ev_var Se 7) (ar_cons (ev_var Se 6) ar_nil)))) ⟨p, s.1, s.2, f, e, rfl, hp, by omega, by omega, fs.mono (by decide), f4, e4, .inl ⟨hfe, rfl⟩⟩) (ev_var Se 9))).pt (fun h => ?_) (fun _ => ss_nil ?_)
    · rw [sym, ← zero, eqD_bl] at h
      simp at h
    refine ss_set S 10 (ev_callO Se 9 (okx_nearest M) (by decide) (ar_cons (ev_var Se 3) (ar_cons (ev_var Se 4) (ar_cons (ev_var Se 6) (ar_cons (ev_var Se 7) ar_nil)))) r1) ?_
    have et : eqD (.tup [spE T.1 T.2, .int (wy p s T)]) (.tup [spE T.1 T.2, .int (wy p s T)]) = true := by
      have e : eqD (.tup [spE T.1 T.2, .int (wy p s T)]) (.tup [spE T.1 T.2, .int (wy p s T)]) = (eqD (spE T.1 T.2) (spE T.1 T.2) && ((wy p s T == wy p s T) && true)) := rfl
      rw [e, eqD_spE]
      simp
    refine ss_if (te_or (te_not (te_val (ev_isi Se 12 14 (ev_var Se 10) (b := true) rfl M.b_isinstance M.b_tuple bt_tuple))) fun _ => te_or (te_neD Se (d1 := .tup [spE T.1 T.2, .int (wy p s T)]) (d2 := .tup [spE T.1 T.2, .int (wy p s T)]) (ev_var Se 10) (ev_var Se 8)) fun _ => te_or1 (te_not (te_val (ev_call Se 15 (ok_whole M) (by decide) (ar_cons (ev_ixT (ev_var Se 10) ev_int rfl) ar_nil) ⟨_, rfl, rfl⟩)))).pt (fun h => ?_) (fun _ => ss_nil ?_)
    · rw [et] at h
      simp at h
    refine ss_if (te_neD Se (d1 := .tup [spE T.1 T.2, .int (wy p s T)]) (d2 := .tup [spE T.1 T.2, .int (wy p s T)]) (ev_callO Se 9 (okx_nearest M) (by decide) (ar_cons (ev_var Se 3) (ar_cons (ev_var Se 4) (ar_cons (ev_var Se 7) (ar_cons (ev_var Se 6) ar_nil)))) r2) (ev_var Se 8)) (fun h => ?_) (fun _ => ss_nil (ss_nil (ss_nil ⟨_, _, _, _, _, _, _, _, _, _, rfl⟩)))
    rw [et] at h
    cases h
  · rintro _ ⟨s1, s2, s3, s4, s5, s6, s7, s8, s9, sA, rfl⟩
    exact ss_ret ev_bl rfl
theorem all_mk {l : PySem.W.OpenLaw} {w : World} {K : PySem.W.Frag} {h : Heap} {mg : Str → Option Value} {fa f0 f1 f2 f3 f4 f5 f6 f7 f8 f9 f10 f11 f12 f13 f14 f15 f16 f17 f18 f19 f20 f21 f22 f23 f24 f25 f26 f27 f28 f29 f30 f31 f32 f33 f34 f35 f36 f37 f38 f39 f40 f41 f42 f43 f44 f45 f46 f47 f48 f49 f50 f51 f52 c_TreeError c_NoPrime c_NoFraction c_NoText c_NoSpot c_NoTable c_TooMany c_NoLine c_NoRow c_NothingDone c_TooFar c_NOUGHT c_ONE : Addr} (X : K.In h) (G : h.Ns mainGlobals mg) (hfa : mg "law" = some (.ref fa))
    {od0 an0 od1 an1 od2 an2 od3 an3 od4 an4 od5 an5 od6 an6 od7 an7 od8 an8 od9 an9 od10 an10 od11 an11 od12 an12 od13 an13 od14 an14 od15 an15 od16 an16 od17 an17 od18 an18 od19 an19 od20 an20 od21 an21 od22 an22 od23 an23 od24 an24 od25 an25 od26 an26 od27 an27 od28 an28 od29 an29 od30 an30 od31 an31 od32 an32 od33 an33 od34 an34 od35 an35 od36 an36 od37 an37 od38 an38 od39 an39 od40 an40 od41 an41 od42 an42 od43 an43 od44 an44 od45 an45 od46 an46 od47 an47 od48 an48 od49 an49 od50 an50 od51 an51 od52 an52 : Option Addr} {sl0 sl1 sl2 sl3 sl4 sl5 sl6 sl7 sl8 sl9 sl10 sl11 sl12 sl13 sl14 sl15 sl16 sl17 sl18 sl19 sl20 sl21 sl22 sl23 sl24 sl25 sl26 sl27 sl28 sl29 sl30 sl31 sl32 sl33 sl34 sl35 sl36 sl37 sl38 sl39 sl40 sl41 sl42 sl43 sl44 sl45 sl46 sl47 sl48 sl49 sl50 sl51 sl52 : Array (Option Value)} {oc0 kV0 dc0 pm0 cd0 ct0 oc1 kV1 dc1 pm1 cd1 ct1 oc2 kV2 dc2 pm2 cd2 ct2 oc3 kV3 dc3 pm3 cd3 ct3 oc4 kV4 dc4 pm4 cd4 ct4 oc5 toc5 kV5 dc5 pm5 cd5 ct5 oc6 kV6 dc6 pm6 cd6 ct6 oc7 kV7 dc7 pm7 cd7 ct7 oc8 kV8 dc8 pm8 cd8 ct8 oc9 kV9 dc9 pm9 cd9 ct9 oc10 kV10 dc10 pm10 cd10 ct10 oc11 kV11 dc11 pm11 cd11 ct11 oc12 kV12 dc12 pm12 cd12 ct12 oc13 kV13 dc13 pm13 cd13 ct13 oc14 kV14 dc14 pm14 cd14 ct14 oc15 kV15 dc15 pm15 cd15 ct15 oc16 kV16 dc16 pm16 cd16 ct16 oc17 kV17 dc17 pm17 cd17 ct17 oc18 kV18 dc18 pm18 cd18 ct18 oc19 kV19 dc19 pm19 cd19 ct19 oc20 kV20 dc20 pm20 cd20 ct20 oc21 kV21 dc21 pm21 cd21 ct21 oc22 kV22 dc22 pm22 cd22 ct22 oc23 kV23 dc23 pm23 cd23 ct23 oc24 kV24 dc24 pm24 cd24 ct24 oc25 kV25 dc25 pm25 cd25 ct25 oc26 kV26 dc26 pm26 cd26 ct26 oc27 kV27 dc27 pm27 cd27 ct27 oc28 kV28 dc28 pm28 cd28 ct28 oc29 kV29 dc29 pm29 cd29 ct29 oc30 kV30 dc30 pm30 cd30 ct30 oc31 kV31 dc31 pm31 cd31 ct31 oc32 kV32 dc32 pm32 cd32 ct32 oc33 kV33 dc33 pm33 cd33 ct33 oc34 kV34 dc34 pm34 cd34 ct34 oc35 kV35 dc35 pm35 cd35 ct35 oc36 kV36 dc36 pm36 cd36 ct36 oc37 kV37 dc37 pm37 cd37 ct37 oc38 kV38 dc38 pm38 cd38 ct38 oc39 kV39 dc39 pm39 cd39 ct39 oc40 kV40 dc40 pm40 cd40 ct40 oc41 kV41 dc41 pm41 cd41 ct41 oc42 kV42 dc42 pm42 cd42 ct42 oc43 kV43 dc43 pm43 cd43 ct43 oc44 kV44 dc44 pm44 cd44 ct44 oc45 kV45 dc45 pm45 cd45 ct45 oc46 kV46 dc46 pm46 cd46 ct46 oc47 kV47 dc47 pm47 cd47 ct47 oc48 kV48 dc48 pm48 cd48 ct48 oc49 kV49 dc49 pm49 cd49 ct49 oc50 kV50 dc50 pm50 cd50 ct50 oc51 kV51 dc51 pm51 cd51 ct51 oc52 kV52 dc52 pm52 cd52 ct52 : Value}
    {Td5 : Addr} {ttk5 : Tok} {tn5 : Nat} {tod5 : Option Addr} {tsl5 : Array (Option Value)}
    (a0 : PySem.W.nsIn K mainGlobals "shared" = some (some (.ref f0))) (l0 : K.lookup f0 = some ⟨oc0, od0, .func (PySem.W.fnOf "shared" "shared" (defArgs s_shared) (defBody s_shared) (defScope s_shared) .none kV0 dc0 pm0 an0 cd0 ct0), sl0⟩) (c0 : PySem.W.codeIn K cd0 "shared" = true) (k0 : PySem.W.keepIn K (.ref f0) = true)
    (a1 : PySem.W.nsIn K mainGlobals "power_of" = some (some (.ref f1))) (l1 : K.lookup f1 = some ⟨oc1, od1, .func (PySem.W.fnOf "power_of" "power_of" (defArgs s_power_of) (defBody s_power_of) (defScope s_power_of) .none kV1 dc1 pm1 an1 cd1 ct1), sl1⟩) (c1 : PySem.W.codeIn K cd1 "power_of" = true) (k1 : PySem.W.keepIn K (.ref f1) = true)
    (a2 : PySem.W.nsIn K mainGlobals "raised" = some (some (.ref f2))) (l2 : K.lookup f2 = some ⟨oc2, od2, .func (PySem.W.fnOf "raised" "raised" (defArgs s_raised) (defBody s_raised) (defScope s_raised) .none kV2 dc2 pm2 an2 cd2 ct2), sl2⟩) (c2 : PySem.W.codeIn K cd2 "raised" = true) (k2 : PySem.W.keepIn K (.ref f2) = true)
    (a3 : PySem.W.nsIn K mainGlobals "over_by" = some (some (.ref f3))) (l3 : K.lookup f3 = some ⟨oc3, od3, .func (PySem.W.fnOf "over_by" "over_by" (defArgs s_over_by) (defBody s_over_by) (defScope s_over_by) .none kV3 dc3 pm3 an3 cd3 ct3), sl3⟩) (c3 : PySem.W.codeIn K cd3 "over_by" = true) (k3 : PySem.W.keepIn K (.ref f3) = true)
    (a4 : PySem.W.nsIn K mainGlobals "over_by_prime" = some (some (.ref f4))) (l4 : K.lookup f4 = some ⟨oc4, od4, .func (PySem.W.fnOf "over_by_prime" "over_by_prime" (defArgs s_obp) (defBody s_obp) (defScope s_obp) .none kV4 dc4 pm4 an4 cd4 ct4), sl4⟩) (c4 : PySem.W.codeIn K cd4 "over_by_prime" = true) (k4 : PySem.W.keepIn K (.ref f4) = true)
    (a5 : PySem.W.nsIn K mainGlobals "fraction" = some (some (.ref f5))) (l5 : K.lookup f5 = some ⟨oc5, od5, .func (PySem.W.fnOf "fraction" "fraction" (defArgs s_fraction) (defBody s_fraction) (defScope s_fraction) (.ref Td5) kV5 dc5 pm5 an5 cd5 ct5), sl5⟩) (c5 : PySem.W.codeIn K cd5 "fraction" = true) (k5 : PySem.W.keepIn K (.ref f5) = true)
    (a6 : PySem.W.nsIn K mainGlobals "plus" = some (some (.ref f6))) (l6 : K.lookup f6 = some ⟨oc6, od6, .func (PySem.W.fnOf "plus" "plus" (defArgs s_plus) (defBody s_plus) (defScope s_plus) .none kV6 dc6 pm6 an6 cd6 ct6), sl6⟩) (c6 : PySem.W.codeIn K cd6 "plus" = true) (k6 : PySem.W.keepIn K (.ref f6) = true)
    (a7 : PySem.W.nsIn K mainGlobals "minus" = some (some (.ref f7))) (l7 : K.lookup f7 = some ⟨oc7, od7, .func (PySem.W.fnOf "minus" "minus" (defArgs s_minus) (defBody s_minus) (defScope s_minus) .none kV7 dc7 pm7 an7 cd7 ct7), sl7⟩) (c7 : PySem.W.codeIn K cd7 "minus" = true) (k7 : PySem.W.keepIn K (.ref f7) = true)
    (a8 : PySem.W.nsIn K mainGlobals "times" = some (some (.ref f8))) (l8 : K.lookup f8 = some ⟨oc8, od8, .func (PySem.W.fnOf "times" "times" (defArgs s_times) (defBody s_times) (defScope s_times) .none kV8 dc8 pm8 an8 cd8 ct8), sl8⟩) (c8 : PySem.W.codeIn K cd8 "times" = true) (k8 : PySem.W.keepIn K (.ref f8) = true)
    (a9 : PySem.W.nsIn K mainGlobals "over" = some (some (.ref f9))) (l9 : K.lookup f9 = some ⟨oc9, od9, .func (PySem.W.fnOf "over" "over" (defArgs s_over) (defBody s_over) (defScope s_over) .none kV9 dc9 pm9 an9 cd9 ct9), sl9⟩) (c9 : PySem.W.codeIn K cd9 "over" = true) (k9 : PySem.W.keepIn K (.ref f9) = true)
    (a10 : PySem.W.nsIn K mainGlobals "power_in" = some (some (.ref f10))) (l10 : K.lookup f10 = some ⟨oc10, od10, .func (PySem.W.fnOf "power_in" "power_in" (defArgs s_power_in) (defBody s_power_in) (defScope s_power_in) .none kV10 dc10 pm10 an10 cd10 ct10), sl10⟩) (c10 : PySem.W.codeIn K cd10 "power_in" = true) (k10 : PySem.W.keepIn K (.ref f10) = true)
    (a11 : PySem.W.nsIn K mainGlobals "prime_power" = some (some (.ref f11))) (l11 : K.lookup f11 = some ⟨oc11, od11, .func (PySem.W.fnOf "prime_power" "prime_power" (defArgs s_prime_power) (defBody s_prime_power) (defScope s_prime_power) .none kV11 dc11 pm11 an11 cd11 ct11), sl11⟩) (c11 : PySem.W.codeIn K cd11 "prime_power" = true) (k11 : PySem.W.keepIn K (.ref f11) = true)
    (a12 : PySem.W.nsIn K mainGlobals "alike" = some (some (.ref f12))) (l12 : K.lookup f12 = some ⟨oc12, od12, .func (PySem.W.fnOf "alike" "alike" (defArgs s_alike) (defBody s_alike) (defScope s_alike) .none kV12 dc12 pm12 an12 cd12 ct12), sl12⟩) (c12 : PySem.W.codeIn K cd12 "alike" = true) (k12 : PySem.W.keepIn K (.ref f12) = true)
    (a13 : PySem.W.nsIn K mainGlobals "rest_by" = some (some (.ref f13))) (l13 : K.lookup f13 = some ⟨oc13, od13, .func (PySem.W.fnOf "rest_by" "rest_by" (defArgs s_rest_byN) (defBody s_rest_byN) (defScope s_rest_byN) .none kV13 dc13 pm13 an13 cd13 ct13), sl13⟩) (c13 : PySem.W.codeIn K cd13 "rest_by" = true) (k13 : PySem.W.keepIn K (.ref f13) = true)
    (a14 : PySem.W.nsIn K mainGlobals "measure" = some (some (.ref f14))) (l14 : K.lookup f14 = some ⟨oc14, od14, .func (PySem.W.fnOf "measure" "measure" (defArgs s_measure) (defBody s_measure) (defScope s_measure) .none kV14 dc14 pm14 an14 cd14 ct14), sl14⟩) (c14 : PySem.W.codeIn K cd14 "measure" = true) (k14 : PySem.W.keepIn K (.ref f14) = true)
    (a15 : PySem.W.nsIn K mainGlobals "product" = some (some (.ref f15))) (l15 : K.lookup f15 = some ⟨oc15, od15, .func (PySem.W.fnOf "product" "product" (defArgs s_product) (defBody s_product) (defScope s_product) .none kV15 dc15 pm15 an15 cd15 ct15), sl15⟩) (c15 : PySem.W.codeIn K cd15 "product" = true) (k15 : PySem.W.keepIn K (.ref f15) = true)
    (a16 : PySem.W.nsIn K mainGlobals "row_by_column" = some (some (.ref f16))) (l16 : K.lookup f16 = some ⟨oc16, od16, .func (PySem.W.fnOf "row_by_column" "row_by_column" (defArgs s_row_by_column) (defBody s_row_by_column) (defScope s_row_by_column) .none kV16 dc16 pm16 an16 cd16 ct16), sl16⟩) (c16 : PySem.W.codeIn K cd16 "row_by_column" = true) (k16 : PySem.W.keepIn K (.ref f16) = true)
    (a17 : PySem.W.nsIn K mainGlobals "turned_over" = some (some (.ref f17))) (l17 : K.lookup f17 = some ⟨oc17, od17, .func (PySem.W.fnOf "turned_over" "turned_over" (defArgs s_turned_over) (defBody s_turned_over) (defScope s_turned_over) .none kV17 dc17 pm17 an17 cd17 ct17), sl17⟩) (c17 : PySem.W.codeIn K cd17 "turned_over" = true) (k17 : PySem.W.keepIn K (.ref f17) = true)
    (a18 : PySem.W.nsIn K mainGlobals "stretched" = some (some (.ref f18))) (l18 : K.lookup f18 = some ⟨oc18, od18, .func (PySem.W.fnOf "stretched" "stretched" (defArgs s_stretched) (defBody s_stretched) (defScope s_stretched) .none kV18 dc18 pm18 an18 cd18 ct18), sl18⟩) (c18 : PySem.W.codeIn K cd18 "stretched" = true) (k18 : PySem.W.keepIn K (.ref f18) = true)
    (a19 : PySem.W.nsIn K mainGlobals "table_at" = some (some (.ref f19))) (l19 : K.lookup f19 = some ⟨oc19, od19, .func (PySem.W.fnOf "table_at" "table_at" (defArgs s_table_at) (defBody s_table_at) (defScope s_table_at) .none kV19 dc19 pm19 an19 cd19 ct19), sl19⟩) (c19 : PySem.W.codeIn K cd19 "table_at" = true) (k19 : PySem.W.keepIn K (.ref f19) = true)
    (a20 : PySem.W.nsIn K mainGlobals "spot_above" = some (some (.ref f20))) (l20 : K.lookup f20 = some ⟨oc20, od20, .func (PySem.W.fnOf "spot_above" "spot_above" (defArgs s_aboveE) (defBody s_aboveE) (defScope s_aboveE) .none kV20 dc20 pm20 an20 cd20 ct20), sl20⟩) (c20 : PySem.W.codeIn K cd20 "spot_above" = true) (k20 : PySem.W.keepIn K (.ref f20) = true)
    (a21 : PySem.W.nsIn K mainGlobals "least_power" = some (some (.ref f21))) (l21 : K.lookup f21 = some ⟨oc21, od21, .func (PySem.W.fnOf "least_power" "least_power" (defArgs s_least_power) (defBody s_least_power) (defScope s_least_power) .none kV21 dc21 pm21 an21 cd21 ct21), sl21⟩) (c21 : PySem.W.codeIn K cd21 "least_power" = true) (k21 : PySem.W.keepIn K (.ref f21) = true)
    (a22 : PySem.W.nsIn K mainGlobals "two_numbers" = some (some (.ref f22))) (l22 : K.lookup f22 = some ⟨oc22, od22, .func (PySem.W.fnOf "two_numbers" "two_numbers" (defArgs s_two_numbers) (defBody s_two_numbers) (defScope s_two_numbers) .none kV22 dc22 pm22 an22 cd22 ct22), sl22⟩) (c22 : PySem.W.codeIn K cd22 "two_numbers" = true) (k22 : PySem.W.keepIn K (.ref f22) = true)
    (a23 : PySem.W.nsIn K mainGlobals "lies_in" = some (some (.ref f23))) (l23 : K.lookup f23 = some ⟨oc23, od23, .func (PySem.W.fnOf "lies_in" "lies_in" (defArgs s_lies_in) (defBody s_lies_in) (defScope s_lies_in) .none kV23 dc23 pm23 an23 cd23 ct23), sl23⟩) (c23 : PySem.W.codeIn K cd23 "lies_in" = true) (k23 : PySem.W.keepIn K (.ref f23) = true)
    (a24 : PySem.W.nsIn K mainGlobals "way" = some (some (.ref f24))) (l24 : K.lookup f24 = some ⟨oc24, od24, .func (PySem.W.fnOf "way" "way" (defArgs s_way) (defBody s_way) (defScope s_way) .none kV24 dc24 pm24 an24 cd24 ct24), sl24⟩) (c24 : PySem.W.codeIn K cd24 "way" = true) (k24 : PySem.W.keepIn K (.ref f24) = true)
    (a25 : PySem.W.nsIn K mainGlobals "next_to" = some (some (.ref f25))) (l25 : K.lookup f25 = some ⟨oc25, od25, .func (PySem.W.fnOf "next_to" "next_to" (defArgs s_next_to) (defBody s_next_to) (defScope s_next_to) .none kV25 dc25 pm25 an25 cd25 ct25), sl25⟩) (c25 : PySem.W.codeIn K cd25 "next_to" = true) (k25 : PySem.W.keepIn K (.ref f25) = true)
    (a26 : PySem.W.nsIn K mainGlobals "on_line" = some (some (.ref f26))) (l26 : K.lookup f26 = some ⟨oc26, od26, .func (PySem.W.fnOf "on_line" "on_line" (defArgs s_on_line) (defBody s_on_line) (defScope s_on_line) .none kV26 dc26 pm26 an26 cd26 ct26), sl26⟩) (c26 : PySem.W.codeIn K cd26 "on_line" = true) (k26 : PySem.W.keepIn K (.ref f26) = true)
    (a27 : PySem.W.nsIn K mainGlobals "check_unlike" = some (some (.ref f27))) (l27 : K.lookup f27 = some ⟨oc27, od27, .func (PySem.W.fnOf "check_unlike" "check_unlike" (defArgs s_check_unlike) (defBody s_check_unlike) (defScope s_check_unlike) .none kV27 dc27 pm27 an27 cd27 ct27), sl27⟩) (c27 : PySem.W.codeIn K cd27 "check_unlike" = true) (k27 : PySem.W.keepIn K (.ref f27) = true)
    (a28 : PySem.W.nsIn K mainGlobals "nearest" = some (some (.ref f28))) (l28 : K.lookup f28 = some ⟨oc28, od28, .func (PySem.W.fnOf "nearest" "nearest" (defArgs s_nearest) (defBody s_nearest) (defScope s_nearest) .none kV28 dc28 pm28 an28 cd28 ct28), sl28⟩) (c28 : PySem.W.codeIn K cd28 "nearest" = true) (k28 : PySem.W.keepIn K (.ref f28) = true)
    (a29 : PySem.W.nsIn K mainGlobals "turn_towards" = some (some (.ref f29))) (l29 : K.lookup f29 = some ⟨oc29, od29, .func (PySem.W.fnOf "turn_towards" "turn_towards" (defArgs s_turn_towards) (defBody s_turn_towards) (defScope s_turn_towards) .none kV29 dc29 pm29 an29 cd29 ct29), sl29⟩) (c29 : PySem.W.codeIn K cd29 "turn_towards" = true) (k29 : PySem.W.keepIn K (.ref f29) = true)
    (a30 : PySem.W.nsIn K mainGlobals "turn_of_ends" = some (some (.ref f30))) (l30 : K.lookup f30 = some ⟨oc30, od30, .func (PySem.W.fnOf "turn_of_ends" "turn_of_ends" (defArgs s_turn_of_ends) (defBody s_turn_of_ends) (defScope s_turn_of_ends) .none kV30 dc30 pm30 an30 cd30 ct30), sl30⟩) (c30 : PySem.W.codeIn K cd30 "turn_of_ends" = true) (k30 : PySem.W.keepIn K (.ref f30) = true)
    (a31 : PySem.W.nsIn K mainGlobals "_law_up" = some (some (.ref f31))) (l31 : K.lookup f31 = some ⟨oc31, od31, .func (PySem.W.fnOf "_law_up" "_law_up" (defArgs s_up) (defBody s_up) (defScope s_up) .none kV31 dc31 pm31 an31 cd31 ct31), sl31⟩) (c31 : PySem.W.codeIn K cd31 "_law_up" = true) (k31 : PySem.W.keepIn K (.ref f31) = true)
    (a32 : PySem.W.nsIn K mainGlobals "_law_drawn" = some (some (.ref f32))) (l32 : K.lookup f32 = some ⟨oc32, od32, .func (PySem.W.fnOf "_law_drawn" "_law_drawn" (defArgs s_drawn) (defBody s_drawn) (defScope s_drawn) .none kV32 dc32 pm32 an32 cd32 ct32), sl32⟩) (c32 : PySem.W.codeIn K cd32 "_law_drawn" = true) (k32 : PySem.W.keepIn K (.ref f32) = true)
    (a33 : PySem.W.nsIn K mainGlobals "_law_whole" = some (some (.ref f33))) (l33 : K.lookup f33 = some ⟨oc33, od33, .func (PySem.W.fnOf "_law_whole" "_law_whole" (defArgs s_whole) (defBody s_whole) (defScope s_whole) .none kV33 dc33 pm33 an33 cd33 ct33), sl33⟩) (c33 : PySem.W.codeIn K cd33 "_law_whole" = true) (k33 : PySem.W.keepIn K (.ref f33) = true)
    (a34 : PySem.W.nsIn K mainGlobals "_law_divisor" = some (some (.ref f34))) (l34 : K.lookup f34 = some ⟨oc34, od34, .func (PySem.W.fnOf "_law_divisor" "_law_divisor" (defArgs s_divisor) (defBody s_divisor) (defScope s_divisor) .none kV34 dc34 pm34 an34 cd34 ct34), sl34⟩) (c34 : PySem.W.codeIn K cd34 "_law_divisor" = true) (k34 : PySem.W.keepIn K (.ref f34) = true)
    (a35 : PySem.W.nsIn K mainGlobals "_law_lowest" = some (some (.ref f35))) (l35 : K.lookup f35 = some ⟨oc35, od35, .func (PySem.W.fnOf "_law_lowest" "_law_lowest" (defArgs s_lowest) (defBody s_lowest) (defScope s_lowest) .none kV35 dc35 pm35 an35 cd35 ct35), sl35⟩) (c35 : PySem.W.codeIn K cd35 "_law_lowest" = true) (k35 : PySem.W.keepIn K (.ref f35) = true)
    (a36 : PySem.W.nsIn K mainGlobals "_law_prime" = some (some (.ref f36))) (l36 : K.lookup f36 = some ⟨oc36, od36, .func (PySem.W.fnOf "_law_prime" "_law_prime" (defArgs s_prime) (defBody s_prime) (defScope s_prime) .none kV36 dc36 pm36 an36 cd36 ct36), sl36⟩) (c36 : PySem.W.codeIn K cd36 "_law_prime" = true) (k36 : PySem.W.keepIn K (.ref f36) = true)
    (a37 : PySem.W.nsIn K mainGlobals "_law_number" = some (some (.ref f37))) (l37 : K.lookup f37 = some ⟨oc37, od37, .func (PySem.W.fnOf "_law_number" "_law_number" (defArgs s_number) (defBody s_number) (defScope s_number) .none kV37 dc37 pm37 an37 cd37 ct37), sl37⟩) (c37 : PySem.W.codeIn K cd37 "_law_number" = true) (k37 : PySem.W.keepIn K (.ref f37) = true)
    (a38 : PySem.W.nsIn K mainGlobals "_law_small" = some (some (.ref f38))) (l38 : K.lookup f38 = some ⟨oc38, od38, .func (PySem.W.fnOf "_law_small" "_law_small" (defArgs s_lsmall) (defBody s_lsmall) (defScope s_lsmall) .none kV38 dc38 pm38 an38 cd38 ct38), sl38⟩) (c38 : PySem.W.codeIn K cd38 "_law_small" = true) (k38 : PySem.W.keepIn K (.ref f38) = true)
    (a39 : PySem.W.nsIn K mainGlobals "_law_power" = some (some (.ref f39))) (l39 : K.lookup f39 = some ⟨oc39, od39, .func (PySem.W.fnOf "_law_power" "_law_power" (defArgs s_power) (defBody s_power) (defScope s_power) .none kV39 dc39 pm39 an39 cd39 ct39), sl39⟩) (c39 : PySem.W.codeIn K cd39 "_law_power" = true) (k39 : PySem.W.keepIn K (.ref f39) = true)
    (a40 : PySem.W.nsIn K mainGlobals "_law_sum" = some (some (.ref f40))) (l40 : K.lookup f40 = some ⟨oc40, od40, .func (PySem.W.fnOf "_law_sum" "_law_sum" (defArgs s_lsum) (defBody s_lsum) (defScope s_lsum) .none kV40 dc40 pm40 an40 cd40 ct40), sl40⟩) (c40 : PySem.W.codeIn K cd40 "_law_sum" = true) (k40 : PySem.W.keepIn K (.ref f40) = true)
    (a41 : PySem.W.nsIn K mainGlobals "_law_product" = some (some (.ref f41))) (l41 : K.lookup f41 = some ⟨oc41, od41, .func (PySem.W.fnOf "_law_product" "_law_product" (defArgs s_lproduct) (defBody s_lproduct) (defScope s_lproduct) .none kV41 dc41 pm41 an41 cd41 ct41), sl41⟩) (c41 : PySem.W.codeIn K cd41 "_law_product" = true) (k41 : PySem.W.keepIn K (.ref f41) = true)
    (a42 : PySem.W.nsIn K mainGlobals "_law_pp" = some (some (.ref f42))) (l42 : K.lookup f42 = some ⟨oc42, od42, .func (PySem.W.fnOf "_law_pp" "_law_pp" (defArgs s_pp) (defBody s_pp) (defScope s_pp) .none kV42 dc42 pm42 an42 cd42 ct42), sl42⟩) (c42 : PySem.W.codeIn K cd42 "_law_pp" = true) (k42 : PySem.W.keepIn K (.ref f42) = true)
    (a43 : PySem.W.nsIn K mainGlobals "_law_over_p" = some (some (.ref f43))) (l43 : K.lookup f43 = some ⟨oc43, od43, .func (PySem.W.fnOf "_law_over_p" "_law_over_p" (defArgs s_over_pE) (defBody s_over_pE) (defScope s_over_pE) .none kV43 dc43 pm43 an43 cd43 ct43), sl43⟩) (c43 : PySem.W.codeIn K cd43 "_law_over_p" = true) (k43 : PySem.W.keepIn K (.ref f43) = true)
    (a44 : PySem.W.nsIn K mainGlobals "_law_rest" = some (some (.ref f44))) (l44 : K.lookup f44 = some ⟨oc44, od44, .func (PySem.W.fnOf "_law_rest" "_law_rest" (defArgs s_restE) (defBody s_restE) (defScope s_restE) .none kV44 dc44 pm44 an44 cd44 ct44), sl44⟩) (c44 : PySem.W.codeIn K cd44 "_law_rest" = true) (k44 : PySem.W.keepIn K (.ref f44) = true)
    (a45 : PySem.W.nsIn K mainGlobals "_law_spot" = some (some (.ref f45))) (l45 : K.lookup f45 = some ⟨oc45, od45, .func (PySem.W.fnOf "_law_spot" "_law_spot" (defArgs s_spot67) (defBody s_spot67) (defScope s_spot67) .none kV45 dc45 pm45 an45 cd45 ct45), sl45⟩) (c45 : PySem.W.codeIn K cd45 "_law_spot" = true) (k45 : PySem.W.keepIn K (.ref f45) = true)
    (a46 : PySem.W.nsIn K mainGlobals "_law_end" = some (some (.ref f46))) (l46 : K.lookup f46 = some ⟨oc46, od46, .func (PySem.W.fnOf "_law_end" "_law_end" (defArgs s_lend62) (defBody s_lend62) (defScope s_lend62) .none kV46 dc46 pm46 an46 cd46 ct46), sl46⟩) (c46 : PySem.W.codeIn K cd46 "_law_end" = true) (k46 : PySem.W.keepIn K (.ref f46) = true)
    (a47 : PySem.W.nsIn K mainGlobals "_law_next" = some (some (.ref f47))) (l47 : K.lookup f47 = some ⟨oc47, od47, .func (PySem.W.fnOf "_law_next" "_law_next" (defArgs s_lnext) (defBody s_lnext) (defScope s_lnext) .none kV47 dc47 pm47 an47 cd47 ct47), sl47⟩) (c47 : PySem.W.codeIn K cd47 "_law_next" = true) (k47 : PySem.W.keepIn K (.ref f47) = true)
    (a48 : PySem.W.nsIn K mainGlobals "_law_marks" = some (some (.ref f48))) (l48 : K.lookup f48 = some ⟨oc48, od48, .func (PySem.W.fnOf "_law_marks" "_law_marks" (defArgs s_marks) (defBody s_marks) (defScope s_marks) .none kV48 dc48 pm48 an48 cd48 ct48), sl48⟩) (c48 : PySem.W.codeIn K cd48 "_law_marks" = true) (k48 : PySem.W.keepIn K (.ref f48) = true)
    (a49 : PySem.W.nsIn K mainGlobals "_law_only" = some (some (.ref f49))) (l49 : K.lookup f49 = some ⟨oc49, od49, .func (PySem.W.fnOf "_law_only" "_law_only" (defArgs s_only) (defBody s_only) (defScope s_only) .none kV49 dc49 pm49 an49 cd49 ct49), sl49⟩) (c49 : PySem.W.codeIn K cd49 "_law_only" = true) (k49 : PySem.W.keepIn K (.ref f49) = true)
    (a50 : PySem.W.nsIn K mainGlobals "_law_refused" = some (some (.ref f50))) (l50 : K.lookup f50 = some ⟨oc50, od50, .func (PySem.W.fnOf "_law_refused" "_law_refused" (defArgs s_refused67) (defBody s_refused67) (defScope s_refused67) .none kV50 dc50 pm50 an50 cd50 ct50), sl50⟩) (c50 : PySem.W.codeIn K cd50 "_law_refused" = true) (k50 : PySem.W.keepIn K (.ref f50) = true)
    (a51 : PySem.W.nsIn K mainGlobals "_law_due" = some (some (.ref f51))) (l51 : K.lookup f51 = some ⟨oc51, od51, .func (PySem.W.fnOf "_law_due" "_law_due" (defArgs s_due67) (defBody s_due67) (defScope s_due67) .none kV51 dc51 pm51 an51 cd51 ct51), sl51⟩) (c51 : PySem.W.codeIn K cd51 "_law_due" = true) (k51 : PySem.W.keepIn K (.ref f51) = true)
    (a52 : PySem.W.nsIn K mainGlobals "law" = some (some (.ref f52))) (l52 : K.lookup f52 = some ⟨oc52, od52, .func (PySem.W.fnOf "law" "law" (defArgs s_law) (defBody s_law) (defScope s_law) .none kV52 dc52 pm52 an52 cd52 ct52), sl52⟩) (c52 : PySem.W.codeIn K cd52 "law" = true) (k52 : PySem.W.keepIn K (.ref f52) = true)
    (d5 : K.lookup Td5 = some ⟨toc5, tod5, .seq #[.int 1 ttk5] tn5, tsl5⟩)
    (z_abs : PySem.W.nsIn K mainGlobals "abs" = some none)
    (z_min : PySem.W.nsIn K mainGlobals "min" = some none)
    (z_max : PySem.W.nsIn K mainGlobals "max" = some none)
    (z_len : PySem.W.nsIn K mainGlobals "len" = some none)
    (z_int : PySem.W.nsIn K mainGlobals "int" = some none)
    (z_isinstance : PySem.W.nsIn K mainGlobals "isinstance" = some none)
    (z_bool : PySem.W.nsIn K mainGlobals "bool" = some none)
    (z_range : PySem.W.nsIn K mainGlobals "range" = some none)
    (z_ValueError : PySem.W.nsIn K mainGlobals "ValueError" = some none)
    (z_tuple : PySem.W.nsIn K mainGlobals "tuple" = some none)
    {ko_NOUGHT : Option Addr} {kn_NOUGHT : Nat} {ks_NOUGHT : Array (Option Value)} {kt_NOUGHT_0 kt_NOUGHT_1 : Tok}
    {ko_ONE : Option Addr} {kn_ONE : Nat} {ks_ONE : Array (Option Value)} {kt_ONE_0 kt_ONE_1 : Tok}
    {kt_FAR : Tok}
    (g_TreeError : PySem.W.nsIn K mainGlobals "TreeError" = some (some (.ref c_TreeError)))
    (g_NoPrime : PySem.W.nsIn K mainGlobals "NoPrime" = some (some (.ref c_NoPrime)))
    (g_NoFraction : PySem.W.nsIn K mainGlobals "NoFraction" = some (some (.ref c_NoFraction)))
    (g_NoText : PySem.W.nsIn K mainGlobals "NoText" = some (some (.ref c_NoText)))
    (g_NoSpot : PySem.W.nsIn K mainGlobals "NoSpot" = some (some (.ref c_NoSpot)))
    (g_NoTable : PySem.W.nsIn K mainGlobals "NoTable" = some (some (.ref c_NoTable)))
    (g_TooMany : PySem.W.nsIn K mainGlobals "TooMany" = some (some (.ref c_TooMany)))
    (g_NoLine : PySem.W.nsIn K mainGlobals "NoLine" = some (some (.ref c_NoLine)))
    (g_NoRow : PySem.W.nsIn K mainGlobals "NoRow" = some (some (.ref c_NoRow)))
    (g_NothingDone : PySem.W.nsIn K mainGlobals "NothingDone" = some (some (.ref c_NothingDone)))
    (g_TooFar : PySem.W.nsIn K mainGlobals "TooFar" = some (some (.ref c_TooFar)))
    (x_NoFraction : PySem.W.excIn K c_NoFraction [.type "ValueError", .type "Exception", .type "BaseException", .type "object"] "ValueError.__new__" = true)
    (e_NoFraction : excKb K c_NoFraction = true)
    (v_NoFraction : PySem.W.kitOne K (.ref c_NoFraction) (.type "ValueError") = some true)
    (i_NoFraction_TreeError : PySem.W.kitOne K (.ref c_NoFraction) (.ref c_TreeError) = some true)
    (i_NoFraction_NoPrime : PySem.W.kitOne K (.ref c_NoFraction) (.ref c_NoPrime) = some false)
    (i_NoFraction_NoFraction : PySem.W.kitOne K (.ref c_NoFraction) (.ref c_NoFraction) = some true)
    (i_NoFraction_NoText : PySem.W.kitOne K (.ref c_NoFraction) (.ref c_NoText) = some false)
    (i_NoFraction_NoSpot : PySem.W.kitOne K (.ref c_NoFraction) (.ref c_NoSpot) = some false)
    (i_NoFraction_NoTable : PySem.W.kitOne K (.ref c_NoFraction) (.ref c_NoTable) = some false)
    (i_NoFraction_TooMany : PySem.W.kitOne K (.ref c_NoFraction) (.ref c_TooMany) = some false)
    (i_NoFraction_NoLine : PySem.W.kitOne K (.ref c_NoFraction) (.ref c_NoLine) = some false)
    (i_NoFraction_NoRow : PySem.W.kitOne K (.ref c_NoFraction) (.ref c_NoRow) = some false)
    (i_NoFraction_NothingDone : PySem.W.kitOne K (.ref c_NoFraction) (.ref c_NothingDone) = some false)
    (i_NoFraction_TooFar : PySem.W.kitOne K (.ref c_NoFraction) (.ref c_TooFar) = some false)
    (m_NoFraction_TreeError : PySem.W.exmOne K (.ref c_NoFraction) (.ref c_TreeError) = some true)
    (x_NoTable : PySem.W.excIn K c_NoTable [.type "ValueError", .type "Exception", .type "BaseException", .type "object"] "ValueError.__new__" = true)
    (e_NoTable : excKb K c_NoTable = true)
    (v_NoTable : PySem.W.kitOne K (.ref c_NoTable) (.type "ValueError") = some true)
    (i_NoTable_TreeError : PySem.W.kitOne K (.ref c_NoTable) (.ref c_TreeError) = some true)
    (i_NoTable_NoPrime : PySem.W.kitOne K (.ref c_NoTable) (.ref c_NoPrime) = some false)
    (i_NoTable_NoFraction : PySem.W.kitOne K (.ref c_NoTable) (.ref c_NoFraction) = some false)
    (i_NoTable_NoText : PySem.W.kitOne K (.ref c_NoTable) (.ref c_NoText) = some false)
    (i_NoTable_NoSpot : PySem.W.kitOne K (.ref c_NoTable) (.ref c_NoSpot) = some false)
    (i_NoTable_NoTable : PySem.W.kitOne K (.ref c_NoTable) (.ref c_NoTable) = some true)
    (i_NoTable_TooMany : PySem.W.kitOne K (.ref c_NoTable) (.ref c_TooMany) = some false)
    (i_NoTable_NoLine : PySem.W.kitOne K (.ref c_NoTable) (.ref c_NoLine) = some false)
    (i_NoTable_NoRow : PySem.W.kitOne K (.ref c_NoTable) (.ref c_NoRow) = some false)
    (i_NoTable_NothingDone : PySem.W.kitOne K (.ref c_NoTable) (.ref c_NothingDone) = some false)
    (i_NoTable_TooFar : PySem.W.kitOne K (.ref c_NoTable) (.ref c_TooFar) = some false)
    (m_NoTable_TreeError : PySem.W.exmOne K (.ref c_NoTable) (.ref c_TreeError) = some true)
    (x_NoLine : PySem.W.excIn K c_NoLine [.type "ValueError", .type "Exception", .type "BaseException", .type "object"] "ValueError.__new__" = true)
    (e_NoLine : excKb K c_NoLine = true)
    (v_NoLine : PySem.W.kitOne K (.ref c_NoLine) (.type "ValueError") = some true)
    (i_NoLine_TreeError : PySem.W.kitOne K (.ref c_NoLine) (.ref c_TreeError) = some true)
    (i_NoLine_NoPrime : PySem.W.kitOne K (.ref c_NoLine) (.ref c_NoPrime) = some false)
    (i_NoLine_NoFraction : PySem.W.kitOne K (.ref c_NoLine) (.ref c_NoFraction) = some false)
    (i_NoLine_NoText : PySem.W.kitOne K (.ref c_NoLine) (.ref c_NoText) = some false)
    (i_NoLine_NoSpot : PySem.W.kitOne K (.ref c_NoLine) (.ref c_NoSpot) = some false)
    (i_NoLine_NoTable : PySem.W.kitOne K (.ref c_NoLine) (.ref c_NoTable) = some false)
    (i_NoLine_TooMany : PySem.W.kitOne K (.ref c_NoLine) (.ref c_TooMany) = some false)
    (i_NoLine_NoLine : PySem.W.kitOne K (.ref c_NoLine) (.ref c_NoLine) = some true)
    (i_NoLine_NoRow : PySem.W.kitOne K (.ref c_NoLine) (.ref c_NoRow) = some false)
    (i_NoLine_NothingDone : PySem.W.kitOne K (.ref c_NoLine) (.ref c_NothingDone) = some false)
    (i_NoLine_TooFar : PySem.W.kitOne K (.ref c_NoLine) (.ref c_TooFar) = some false)
    (m_NoLine_TreeError : PySem.W.exmOne K (.ref c_NoLine) (.ref c_TreeError) = some true)
    (ka_NOUGHT : PySem.W.nsIn K mainGlobals "NOUGHT" = some (some (.ref c_NOUGHT)))
    (kl_NOUGHT : K.lookup c_NOUGHT = some ⟨.type "tuple", ko_NOUGHT, .seq #[.int 0 kt_NOUGHT_0, .int 1 kt_NOUGHT_1] kn_NOUGHT, ks_NOUGHT⟩)
    (ka_ONE : PySem.W.nsIn K mainGlobals "ONE" = some (some (.ref c_ONE)))
    (kl_ONE : K.lookup c_ONE = some ⟨.type "tuple", ko_ONE, .seq #[.int 1 kt_ONE_0, .int 1 kt_ONE_1] kn_ONE, ks_ONE⟩)
    (ka_FAR : PySem.W.nsIn K mainGlobals "FAR" = some (some (.str "far" kt_FAR)))
    : ∃ fd : FuncData, (∀ (s : Shared) (v : Value), BindsTo s fd ⟨[v], []⟩ [("_law_script", v)]) ∧ ∀ base : Heap, K.In base → base.Ns mainGlobals mg → FnOk l.prog w K mg base CX0 10 fa fd ["_law_script"] (spD K R_law) := by
  have e := hfa.symm.trans (PySem.W.mg_of X G a52)
  cases e
  have FL := fun_mk (st := s_law) l52 c52 k52
  refine ⟨PySem.W.fnOf "law" "law" (defArgs s_law) (defBody s_law) (defScope s_law) .none kV52 dc52 pm52 an52 cd52 ct52, fun s v => .of_eq rfl, fun base _ _ => ?_⟩
  have M : Mo ⟨l.prog, w, K, mg, base⟩ := {
    b_abs := PySem.W.mg_none_of X G z_abs
    b_min := PySem.W.mg_none_of X G z_min
    b_max := PySem.W.mg_none_of X G z_max
    b_len := PySem.W.mg_none_of X G z_len
    b_int := PySem.W.mg_none_of X G z_int
    b_isinstance := PySem.W.mg_none_of X G z_isinstance
    b_bool := PySem.W.mg_none_of X G z_bool
    b_range := PySem.W.mg_none_of X G z_range
    b_ValueError := PySem.W.mg_none_of X G z_ValueError
    b_tuple := PySem.W.mg_none_of X G z_tuple
    F_shared := ⟨_, _, fun_mk (st := s_shared) l0 c0 k0, PySem.W.mg_of X G a0⟩
    F_power_of := ⟨_, _, fun_mk (st := s_power_of) l1 c1 k1, PySem.W.mg_of X G a1⟩
    F_raised := ⟨_, _, fun_mk (st := s_raised) l2 c2 k2, PySem.W.mg_of X G a2⟩
    F_over_by := ⟨_, _, fun_mk (st := s_over_by) l3 c3 k3, PySem.W.mg_of X G a3⟩
    F_obp := ⟨_, _, fun_mk (st := s_obp) l4 c4 k4, PySem.W.mg_of X G a4⟩
    F_fraction := ⟨_, _, _, _, _, _, _, _, _, _, _, _, _, _, l5, d5, rfl, c5, k5, PySem.W.mg_of X G a5⟩
    F_plus := ⟨_, _, fun_mk (st := s_plus) l6 c6 k6, PySem.W.mg_of X G a6⟩
    F_minus := ⟨_, _, fun_mk (st := s_minus) l7 c7 k7, PySem.W.mg_of X G a7⟩
    F_times := ⟨_, _, fun_mk (st := s_times) l8 c8 k8, PySem.W.mg_of X G a8⟩
    F_over := ⟨_, _, fun_mk (st := s_over) l9 c9 k9, PySem.W.mg_of X G a9⟩
    F_power_in := ⟨_, _, fun_mk (st := s_power_in) l10 c10 k10, PySem.W.mg_of X G a10⟩
    F_prime_power := ⟨_, _, fun_mk (st := s_prime_power) l11 c11 k11, PySem.W.mg_of X G a11⟩
    F_alike := ⟨_, _, fun_mk (st := s_alike) l12 c12 k12, PySem.W.mg_of X G a12⟩
    F_rest_byN := ⟨_, _, fun_mk (st := s_rest_byN) l13 c13 k13, PySem.W.mg_of X G a13⟩
    F_measure := ⟨_, _, fun_mk (st := s_measure) l14 c14 k14, PySem.W.mg_of X G a14⟩
    F_product := ⟨_, _, fun_mk (st := s_product) l15 c15 k15, PySem.W.mg_of X G a15⟩
    F_row_by_column := ⟨_, _, fun_mk (st := s_row_by_column) l16 c16 k16, PySem.W.mg_of X G a16⟩
    F_turned_over := ⟨_, _, fun_mk (st := s_turned_over) l17 c17 k17, PySem.W.mg_of X G a17⟩
    F_stretched := ⟨_, _, fun_mk (st := s_stretched) l18 c18 k18, PySem.W.mg_of X G a18⟩
    F_table_at := ⟨_, _, fun_mk (st := s_table_at) l19 c19 k19, PySem.W.mg_of X G a19⟩
    F_aboveE := ⟨_, _, fun_mk (st := s_aboveE) l20 c20 k20, PySem.W.mg_of X G a20⟩
    F_least_power := ⟨_, _, fun_mk (st := s_least_power) l21 c21 k21, PySem.W.mg_of X G a21⟩
    F_two_numbers := ⟨_, _, fun_mk (st := s_two_numbers) l22 c22 k22, PySem.W.mg_of X G a22⟩
    F_lies_in := ⟨_, _, fun_mk (st := s_lies_in) l23 c23 k23, PySem.W.mg_of X G a23⟩
    F_way := ⟨_, _, fun_mk (st := s_way) l24 c24 k24, PySem.W.mg_of X G a24⟩
    F_next_to := ⟨_, _, fun_mk (st := s_next_to) l25 c25 k25, PySem.W.mg_of X G a25⟩
    F_on_line := ⟨_, _, fun_mk (st := s_on_line) l26 c26 k26, PySem.W.mg_of X G a26⟩
    F_check_unlike := ⟨_, _, fun_mk (st := s_check_unlike) l27 c27 k27, PySem.W.mg_of X G a27⟩
    F_nearest := ⟨_, _, fun_mk (st := s_nearest) l28 c28 k28, PySem.W.mg_of X G a28⟩
    F_turn_towards := ⟨_, _, fun_mk (st := s_turn_towards) l29 c29 k29, PySem.W.mg_of X G a29⟩
    F_turn_of_ends := ⟨_, _, fun_mk (st := s_turn_of_ends) l30 c30 k30, PySem.W.mg_of X G a30⟩
    F_up := ⟨_, _, fun_mk (st := s_up) l31 c31 k31, PySem.W.mg_of X G a31⟩
    F_drawn := ⟨_, _, fun_mk (st := s_drawn) l32 c32 k32, PySem.W.mg_of X G a32⟩
    F_whole := ⟨_, _, fun_mk (st := s_whole) l33 c33 k33, PySem.W.mg_of X G a33⟩
    F_divisor := ⟨_, _, fun_mk (st := s_divisor) l34 c34 k34, PySem.W.mg_of X G a34⟩
    F_lowest := ⟨_, _, fun_mk (st := s_lowest) l35 c35 k35, PySem.W.mg_of X G a35⟩
    F_prime := ⟨_, _, fun_mk (st := s_prime) l36 c36 k36, PySem.W.mg_of X G a36⟩
    F_number := ⟨_, _, fun_mk (st := s_number) l37 c37 k37, PySem.W.mg_of X G a37⟩
    F_lsmall := ⟨_, _, fun_mk (st := s_lsmall) l38 c38 k38, PySem.W.mg_of X G a38⟩
    F_power := ⟨_, _, fun_mk (st := s_power) l39 c39 k39, PySem.W.mg_of X G a39⟩
    F_lsum := ⟨_, _, fun_mk (st := s_lsum) l40 c40 k40, PySem.W.mg_of X G a40⟩
    F_lproduct := ⟨_, _, fun_mk (st := s_lproduct) l41 c41 k41, PySem.W.mg_of X G a41⟩
    F_pp := ⟨_, _, fun_mk (st := s_pp) l42 c42 k42, PySem.W.mg_of X G a42⟩
    F_over_pE := ⟨_, _, fun_mk (st := s_over_pE) l43 c43 k43, PySem.W.mg_of X G a43⟩
    F_restE := ⟨_, _, fun_mk (st := s_restE) l44 c44 k44, PySem.W.mg_of X G a44⟩
    F_spot67 := ⟨_, _, fun_mk (st := s_spot67) l45 c45 k45, PySem.W.mg_of X G a45⟩
    F_lend62 := ⟨_, _, fun_mk (st := s_lend62) l46 c46 k46, PySem.W.mg_of X G a46⟩
    F_lnext := ⟨_, _, fun_mk (st := s_lnext) l47 c47 k47, PySem.W.mg_of X G a47⟩
    F_marks := ⟨_, _, fun_mk (st := s_marks) l48 c48 k48, PySem.W.mg_of X G a48⟩
    F_only := ⟨_, _, fun_mk (st := s_only) l49 c49 k49, PySem.W.mg_of X G a49⟩
    F_refused67 := ⟨_, _, fun_mk (st := s_refused67) l50 c50 k50, PySem.W.mg_of X G a50⟩
    F_due67 := ⟨_, _, fun_mk (st := s_due67) l51 c51 k51, PySem.W.mg_of X G a51⟩
    g_TreeError := ⟨_, PySem.W.mg_of X G g_TreeError⟩
    g_NoPrime := ⟨_, PySem.W.mg_of X G g_NoPrime⟩
    g_NoFraction := ⟨_, PySem.W.mg_of X G g_NoFraction⟩
    g_NoText := ⟨_, PySem.W.mg_of X G g_NoText⟩
    g_NoSpot := ⟨_, PySem.W.mg_of X G g_NoSpot⟩
    g_NoTable := ⟨_, PySem.W.mg_of X G g_NoTable⟩
    g_TooMany := ⟨_, PySem.W.mg_of X G g_TooMany⟩
    g_NoLine := ⟨_, PySem.W.mg_of X G g_NoLine⟩
    g_NoRow := ⟨_, PySem.W.mg_of X G g_NoRow⟩
    g_NothingDone := ⟨_, PySem.W.mg_of X G g_NothingDone⟩
    g_TooFar := ⟨_, PySem.W.mg_of X G g_TooFar⟩
    c_NoFraction := ⟨_, PySem.W.mg_of X G g_NoFraction, x_NoFraction⟩
    e_NoFraction := fun C h1 => by cases h1.symm.trans (PySem.W.mg_of X G g_NoFraction); exact excK_of e_NoFraction
    v_NoFraction := fun C h1 => by cases h1.symm.trans (PySem.W.mg_of X G g_NoFraction); exact v_NoFraction
    i_NoFraction_TreeError := fun C C' h1 h2 => by cases h1.symm.trans (PySem.W.mg_of X G g_NoFraction); cases h2.symm.trans (PySem.W.mg_of X G g_TreeError); exact i_NoFraction_TreeError
    i_NoFraction_NoPrime := fun C C' h1 h2 => by cases h1.symm.trans (PySem.W.mg_of X G g_NoFraction); cases h2.symm.trans (PySem.W.mg_of X G g_NoPrime); exact i_NoFraction_NoPrime
    i_NoFraction_NoFraction := fun C C' h1 h2 => by cases h1.symm.trans (PySem.W.mg_of X G g_NoFraction); cases h2.symm.trans (PySem.W.mg_of X G g_NoFraction); exact i_NoFraction_NoFraction
    i_NoFraction_NoText := fun C C' h1 h2 => by cases h1.symm.trans (PySem.W.mg_of X G g_NoFraction); cases h2.symm.trans (PySem.W.mg_of X G g_NoText); exact i_NoFraction_NoText
    i_NoFraction_NoSpot := fun C C' h1 h2 => by cases h1.symm.trans (PySem.W.mg_of X G g_NoFraction); cases h2.symm.trans (PySem.W.mg_of X G g_NoSpot); exact i_NoFraction_NoSpot
    i_NoFraction_NoTable := fun C C' h1 h2 => by cases h1.symm.trans (PySem.W.mg_of X G g_NoFraction); cases h2.symm.trans (PySem.W.mg_of X G g_NoTable); exact i_NoFraction_NoTable
    i_NoFraction_TooMany := fun C C' h1 h2 => by cases h1.symm.trans (PySem.W.mg_of X G g_NoFraction); cases h2.symm.trans (PySem.W.mg_of X G g_TooMany); exact i_NoFraction_TooMany
    i_NoFraction_NoLine := fun C C' h1 h2 => by cases h1.symm.trans (PySem.W.mg_of X G g_NoFraction); cases h2.symm.trans (PySem.W.mg_of X G g_NoLine); exact i_NoFraction_NoLine
    i_NoFraction_NoRow := fun C C' h1 h2 => by cases h1.symm.trans (PySem.W.mg_of X G g_NoFraction); cases h2.symm.trans (PySem.W.mg_of X G g_NoRow); exact i_NoFraction_NoRow
    i_NoFraction_NothingDone := fun C C' h1 h2 => by cases h1.symm.trans (PySem.W.mg_of X G g_NoFraction); cases h2.symm.trans (PySem.W.mg_of X G g_NothingDone); exact i_NoFraction_NothingDone
    i_NoFraction_TooFar := fun C C' h1 h2 => by cases h1.symm.trans (PySem.W.mg_of X G g_NoFraction); cases h2.symm.trans (PySem.W.mg_of X G g_TooFar); exact i_NoFraction_TooFar
    m_NoFraction_TreeError := fun C C' h1 h2 => by cases h1.symm.trans (PySem.W.mg_of X G g_NoFraction); cases h2.symm.trans (PySem.W.mg_of X G g_TreeError); exact m_NoFraction_TreeError
    c_NoTable := ⟨_, PySem.W.mg_of X G g_NoTable, x_NoTable⟩
    e_NoTable := fun C h1 => by cases h1.symm.trans (PySem.W.mg_of X G g_NoTable); exact excK_of e_NoTable
    v_NoTable := fun C h1 => by cases h1.symm.trans (PySem.W.mg_of X G g_NoTable); exact v_NoTable
    i_NoTable_TreeError := fun C C' h1 h2 => by cases h1.symm.trans (PySem.W.mg_of X G g_NoTable); cases h2.symm.trans (PySem.W.mg_of X G g_TreeError); exact i_NoTable_TreeError
    i_NoTable_NoPrime := fun C C' h1 h2 => by cases h1.symm.trans (PySem.W.mg_of X G g_NoTable); cases h2.symm.trans (PySem.W.mg_of X G g_NoPrime); exact i_NoTable_NoPrime
    i_NoTable_NoFraction := fun C C' h1 h2 => by cases h1.symm.trans (PySem.W.mg_of X G g_NoTable); cases h2.symm.trans (PySem.W.mg_of X G g_NoFraction); exact i_NoTable_NoFraction
    i_NoTable_NoText := fun C C' h1 h2 => by cases h1.symm.trans (PySem.W.mg_of X G g_NoTable); cases h2.symm.trans (PySem.W.mg_of X G g_NoText); exact i_NoTable_NoText
    i_NoTable_NoSpot := fun C C' h1 h2 => by cases h1.symm.trans (PySem.W.mg_of X G g_NoTable); cases h2.symm.trans (PySem.W.mg_of X G g_NoSpot); exact i_NoTable_NoSpot
    i_NoTable_NoTable := fun C C' h1 h2 => by cases h1.symm.trans (PySem.W.mg_of X G g_NoTable); cases h2.symm.trans (PySem.W.mg_of X G g_NoTable); exact i_NoTable_NoTable
    i_NoTable_TooMany := fun C C' h1 h2 => by cases h1.symm.trans (PySem.W.mg_of X G g_NoTable); cases h2.symm.trans (PySem.W.mg_of X G g_TooMany); exact i_NoTable_TooMany
    i_NoTable_NoLine := fun C C' h1 h2 => by cases h1.symm.trans (PySem.W.mg_of X G g_NoTable); cases h2.symm.trans (PySem.W.mg_of X G g_NoLine); exact i_NoTable_NoLine
    i_NoTable_NoRow := fun C C' h1 h2 => by cases h1.symm.trans (PySem.W.mg_of X G g_NoTable); cases h2.symm.trans (PySem.W.mg_of X G g_NoRow); exact i_NoTable_NoRow
    i_NoTable_NothingDone := fun C C' h1 h2 => by cases h1.symm.trans (PySem.W.mg_of X G g_NoTable); cases h2.symm.trans (PySem.W.mg_of X G g_NothingDone); exact i_NoTable_NothingDone
    i_NoTable_TooFar := fun C C' h1 h2 => by cases h1.symm.trans (PySem.W.mg_of X G g_NoTable); cases h2.symm.trans (PySem.W.mg_of X G g_TooFar); exact i_NoTable_TooFar
    m_NoTable_TreeError := fun C C' h1 h2 => by cases h1.symm.trans (PySem.W.mg_of X G g_NoTable); cases h2.symm.trans (PySem.W.mg_of X G g_TreeError); exact m_NoTable_TreeError
    c_NoLine := ⟨_, PySem.W.mg_of X G g_NoLine, x_NoLine⟩
    e_NoLine := fun C h1 => by cases h1.symm.trans (PySem.W.mg_of X G g_NoLine); exact excK_of e_NoLine
    v_NoLine := fun C h1 => by cases h1.symm.trans (PySem.W.mg_of X G g_NoLine); exact v_NoLine
    i_NoLine_TreeError := fun C C' h1 h2 => by cases h1.symm.trans (PySem.W.mg_of X G g_NoLine); cases h2.symm.trans (PySem.W.mg_of X G g_TreeError); exact i_NoLine_TreeError
    i_NoLine_NoPrime := fun C C' h1 h2 => by cases h1.symm.trans (PySem.W.mg_of X G g_NoLine); cases h2.symm.trans (PySem.W.mg_of X G g_NoPrime); exact i_NoLine_NoPrime
    i_NoLine_NoFraction := fun C C' h1 h2 => by cases h1.symm.trans (PySem.W.mg_of X G g_NoLine); cases h2.symm.trans (PySem.W.mg_of X G g_NoFraction); exact i_NoLine_NoFraction
    i_NoLine_NoText := fun C C' h1 h2 => by cases h1.symm.trans (PySem.W.mg_of X G g_NoLine); cases h2.symm.trans (PySem.W.mg_of X G g_NoText); exact i_NoLine_NoText
    i_NoLine_NoSpot := fun C C' h1 h2 => by cases h1.symm.trans (PySem.W.mg_of X G g_NoLine); cases h2.symm.trans (PySem.W.mg_of X G g_NoSpot); exact i_NoLine_NoSpot
    i_NoLine_NoTable := fun C C' h1 h2 => by cases h1.symm.trans (PySem.W.mg_of X G g_NoLine); cases h2.symm.trans (PySem.W.mg_of X G g_NoTable); exact i_NoLine_NoTable
    i_NoLine_TooMany := fun C C' h1 h2 => by cases h1.symm.trans (PySem.W.mg_of X G g_NoLine); cases h2.symm.trans (PySem.W.mg_of X G g_TooMany); exact i_NoLine_TooMany
    i_NoLine_NoLine := fun C C' h1 h2 => by cases h1.symm.trans (PySem.W.mg_of X G g_NoLine); cases h2.symm.trans (PySem.W.mg_of X G g_NoLine); exact i_NoLine_NoLine
    i_NoLine_NoRow := fun C C' h1 h2 => by cases h1.symm.trans (PySem.W.mg_of X G g_NoLine); cases h2.symm.trans (PySem.W.mg_of X G g_NoRow); exact i_NoLine_NoRow
    i_NoLine_NothingDone := fun C C' h1 h2 => by cases h1.symm.trans (PySem.W.mg_of X G g_NoLine); cases h2.symm.trans (PySem.W.mg_of X G g_NothingDone); exact i_NoLine_NothingDone
    i_NoLine_TooFar := fun C C' h1 h2 => by cases h1.symm.trans (PySem.W.mg_of X G g_NoLine); cases h2.symm.trans (PySem.W.mg_of X G g_TooFar); exact i_NoLine_TooFar
    m_NoLine_TreeError := fun C C' h1 h2 => by cases h1.symm.trans (PySem.W.mg_of X G g_NoLine); cases h2.symm.trans (PySem.W.mg_of X G g_TreeError); exact m_NoLine_TreeError
    k_NOUGHT := ⟨_, PySem.W.mg_of X G ka_NOUGHT, _, _, _, kl_NOUGHT, rfl, rfl, of_decide_eq_true rfl, .cons ⟨_, rfl⟩ (.cons ⟨_, rfl⟩ (.nil))⟩
    k_ONE := ⟨_, PySem.W.mg_of X G ka_ONE, _, _, _, kl_ONE, rfl, rfl, of_decide_eq_true rfl, .cons ⟨_, rfl⟩ (.cons ⟨_, rfl⟩ (.nil))⟩
    k_FAR := ⟨_, PySem.W.mg_of X G ka_FAR⟩
    }
  exact okk_law M FL
theorem walk {l : PySem.W.OpenLaw} {q : Program} {loose : List Str} {XP : (Str → Option Value) → Heap → Prop} {YP : World → Heap → Prop} {d : DefRec} {K : Params → PySem.W.Frag} (hn : l.most = some 63) (hdf : d.params.defaults = [])
    (hY : ∀ (w : World) (h : Heap), YP w h → (K w.params).In h)
    (F : ∀ (w : World) (mg : Str → Option Value) (fa : Addr) (h : Heap), (K w.params).In h → h.Ns mainGlobals mg → mg d.name = some (.ref fa) →
      ∃ fd : FuncData, (∀ (s : Shared) (u : Value), BindsTo s fd ⟨[u], []⟩ [("_law_script", u)]) ∧ ∀ base : Heap, (K w.params).In base → base.Ns mainGlobals mg → FnOk l.prog w (K w.params) mg base CX0 10 fa fd ["_law_script"] (spD (K w.params) R_law)) :
    PySem.W.WalkO q loose XP YP l.row.toRowW d [] (fun f vs => PySem.call f vs) :=
  L2.walk_of (n := 63) (k := 10) (x := "_law_script") (CX := fun _ => CX0) (sp := fun w => spD (K w.params) R_law) hn (by decide) hdf ⟨rfl, by decide, by decide⟩ hY F (fun w H a ns hl _ hS => law_sp _ H a ns hl hS) fun _ _ _ _ _ z => z
end R
open PySem PySem.W PyProof.Rows
def PySem.W.Fast.tw6494352287757009890 : Unit := ()
def PySem.W.Fast.tw5355958131593460613 : Unit := ()
def PySem.W.Fast.tw9684850381589574329 : Unit := ()
def PySem.W.Fast.tw18279563478988996167 : Unit := ()
def PySem.W.Fast.tw4483286863656516191 : Unit := ()
def PySem.W.Fast.tw8545269785347856167 : Unit := ()
def PySem.W.Fast.tw1779262384672117320 : Unit := ()
def PySem.W.Fast.tw2639489805421193027 : Unit := ()
def PySem.W.Fast.tw4790400421003215976 : Unit := ()
def PySem.W.Fast.tw8327385589534675911 : Unit := ()
def PySem.W.Fast.tw13307602286811267556 : Unit := ()
set_option maxRecDepth 100000 in
set_option maxHeartbeats 0 in
theorem PySem.Challenge.cw_primetree_k67_lines_looked_at_holds : PySem.Challenge.rw_primetree_k67_lines_looked_at.Holds := by
  w_on; o_law; k_head; (case hw => w_witness2)
  k_fill
  refine R.walk (l := PySem.Challenge.rw_primetree_k67_lines_looked_at) rfl rfl (fun w h Y => PySem.W.kIn_of Y) ?F
  case F =>
    intro w mg fa h KX G hmg
    refine' R.all_mk KX G hmg ?a0 ?l0 ?c0 ?k0 ?a1 ?l1 ?c1 ?k1 ?a2 ?l2 ?c2 ?k2 ?a3 ?l3 ?c3 ?k3 ?a4 ?l4 ?c4 ?k4 ?a5 ?l5 ?c5 ?k5 ?a6 ?l6 ?c6 ?k6 ?a7 ?l7 ?c7 ?k7 ?a8 ?l8 ?c8 ?k8 ?a9 ?l9 ?c9 ?k9 ?a10 ?l10 ?c10 ?k10 ?a11 ?l11 ?c11 ?k11 ?a12 ?l12 ?c12 ?k12 ?a13 ?l13 ?c13 ?k13 ?a14 ?l14 ?c14 ?k14 ?a15 ?l15 ?c15 ?k15 ?a16 ?l16 ?c16 ?k16 ?a17 ?l17 ?c17 ?k17 ?a18 ?l18 ?c18 ?k18 ?a19 ?l19 ?c19 ?k19 ?a20 ?l20 ?c20 ?k20 ?a21 ?l21 ?c21 ?k21 ?a22 ?l22 ?c22 ?k22 ?a23 ?l23 ?c23 ?k23 ?a24 ?l24 ?c24 ?k24 ?a25 ?l25 ?c25 ?k25 ?a26 ?l26 ?c26 ?k26 ?a27 ?l27 ?c27 ?k27 ?a28 ?l28 ?c28 ?k28 ?a29 ?l29 ?c29 ?k29 ?a30 ?l30 ?c30 ?k30 ?a31 ?l31 ?c31 ?k31 ?a32 ?l32 ?c32 ?k32 ?a33 ?l33 ?c33 ?k33 ?a34 ?l34 ?c34 ?k34 ?a35 ?l35 ?c35 ?k35 ?a36 ?l36 ?c36 ?k36 ?a37 ?l37 ?c37 ?k37 ?a38 ?l38 ?c38 ?k38 ?a39 ?l39 ?c39 ?k39 ?a40 ?l40 ?c40 ?k40 ?a41 ?l41 ?c41 ?k41 ?a42 ?l42 ?c42 ?k42 ?a43 ?l43 ?c43 ?k43 ?a44 ?l44 ?c44 ?k44 ?a45 ?l45 ?c45 ?k45 ?a46 ?l46 ?c46 ?k46 ?a47 ?l47 ?c47 ?k47 ?a48 ?l48 ?c48 ?k48 ?a49 ?l49 ?c49 ?k49 ?a50 ?l50 ?c50 ?k50 ?a51 ?l51 ?c51 ?k51 ?a52 ?l52 ?c52 ?k52 ?d5 ?z_abs ?z_min ?z_max ?z_len ?z_int ?z_isinstance ?z_bool ?z_range ?z_ValueError ?z_tuple ?q_g_TreeError ?q_g_NoPrime ?q_g_NoFraction ?q_g_NoText ?q_g_NoSpot ?q_g_NoTable ?q_g_TooMany ?q_g_NoLine ?q_g_NoRow ?q_g_NothingDone ?q_g_TooFar ?q_x_NoFraction ?q_e_NoFraction ?q_v_NoFraction ?q_i_NoFraction_TreeError ?q_i_NoFraction_NoPrime ?q_i_NoFraction_NoFraction ?q_i_NoFraction_NoText ?q_i_NoFraction_NoSpot ?q_i_NoFraction_NoTable ?q_i_NoFraction_TooMany ?q_i_NoFraction_NoLine ?q_i_NoFraction_NoRow ?q_i_NoFraction_NothingDone ?q_i_NoFraction_TooFar ?q_m_NoFraction_TreeError ?q_x_NoTable ?q_e_NoTable ?q_v_NoTable ?q_i_NoTable_TreeError ?q_i_NoTable_NoPrime ?q_i_NoTable_NoFraction ?q_i_NoTable_NoText ?q_i_NoTable_NoSpot ?q_i_NoTable_NoTable ?q_i_NoTable_TooMany ?q_i_NoTable_NoLine ?q_i_NoTable_NoRow ?q_i_NoTable_NothingDone ?q_i_NoTable_TooFar ?q_m_NoTable_TreeError ?q_x_NoLine ?q_e_NoLine ?q_v_NoLine ?q_i_NoLine_TreeError ?q_i_NoLine_NoPrime ?q_i_NoLine_NoFraction ?q_i_NoLine_NoText ?q_i_NoLine_NoSpot ?q_i_NoLine_NoTable ?q_i_NoLine_TooMany ?q_i_NoLine_NoLine ?q_i_NoLine_NoRow ?q_i_NoLine_NothingDone ?q_i_NoLine_TooFar ?q_m_NoLine_TreeError ?q_ka_NOUGHT ?q_kl_NOUGHT ?q_ka_ONE ?q_kl_ONE ?q_ka_FAR
    (case a0 => k_is); (case l0 => k_is); (case c0 => k_is); (case k0 => k_is)
    (case a1 => k_is); (case l1 => k_is); (case c1 => k_is); (case k1 => k_is)
    (case a2 => k_is); (case l2 => k_is); (case c2 => k_is); (case k2 => k_is)
    (case a3 => k_is); (case l3 => k_is); (case c3 => k_is); (case k3 => k_is)
    (case a4 => k_is); (case l4 => k_is); (case c4 => k_is); (case k4 => k_is)
    (case a5 => k_is); (case l5 => k_is); (case c5 => k_is); (case k5 => k_is)
    (case a6 => k_is); (case l6 => k_is); (case c6 => k_is); (case k6 => k_is)
    (case a7 => k_is); (case l7 => k_is); (case c7 => k_is); (case k7 => k_is)
    (case a8 => k_is); (case l8 => k_is); (case c8 => k_is); (case k8 => k_is)
    (case a9 => k_is); (case l9 => k_is); (case c9 => k_is); (case k9 => k_is)
    (case a10 => k_is); (case l10 => k_is); (case c10 => k_is); (case k10 => k_is)
    (case a11 => k_is); (case l11 => k_is); (case c11 => k_is); (case k11 => k_is)
    (case a12 => k_is); (case l12 => k_is); (case c12 => k_is); (case k12 => k_is)
    (case a13 => k_is); (case l13 => k_is); (case c13 => k_is); (case k13 => k_is)
    (case a14 => k_is); (case l14 => k_is); (case c14 => k_is); (case k14 => k_is)
    (case a15 => k_is); (case l15 => k_is); (case c15 => k_is); (case k15 => k_is)
    (case a16 => k_is); (case l16 => k_is); (case c16 => k_is); (case k16 => k_is)
    (case a17 => k_is); (case l17 => k_is); (case c17 => k_is); (case k17 => k_is)
    (case a18 => k_is); (case l18 => k_is); (case c18 => k_is); (case k18 => k_is)
    (case a19 => k_is); (case l19 => k_is); (case c19 => k_is); (case k19 => k_is)
    (case a20 => k_is); (case l20 => k_is); (case c20 => k_is); (case k20 => k_is)
    (case a21 => k_is); (case l21 => k_is); (case c21 => k_is); (case k21 => k_is)
    (case a22 => k_is); (case l22 => k_is); (case c22 => k_is); (case k22 => k_is)
    (case a23 => k_is); (case l23 => k_is); (case c23 => k_is); (case k23 => k_is)
    (case a24 => k_is); (case l24 => k_is); (case c24 => k_is); (case k24 => k_is)
    (case a25 => k_is); (case l25 => k_is); (case c25 => k_is); (case k25 => k_is)
    (case a26 => k_is); (case l26 => k_is); (case c26 => k_is); (case k26 => k_is)
    (case a27 => k_is); (case l27 => k_is); (case c27 => k_is); (case k27 => k_is)
    (case a28 => k_is); (case l28 => k_is); (case c28 => k_is); (case k28 => k_is)
    (case a29 => k_is); (case l29 => k_is); (case c29 => k_is); (case k29 => k_is)
    (case a30 => k_is); (case l30 => k_is); (case c30 => k_is); (case k30 => k_is)
    (case a31 => k_is); (case l31 => k_is); (case c31 => k_is); (case k31 => k_is)
    (case a32 => k_is); (case l32 => k_is); (case c32 => k_is); (case k32 => k_is)
    (case a33 => k_is); (case l33 => k_is); (case c33 => k_is); (case k33 => k_is)
    (case a34 => k_is); (case l34 => k_is); (case c34 => k_is); (case k34 => k_is)
    (case a35 => k_is); (case l35 => k_is); (case c35 => k_is); (case k35 => k_is)
    (case a36 => k_is); (case l36 => k_is); (case c36 => k_is); (case k36 => k_is)
    (case a37 => k_is); (case l37 => k_is); (case c37 => k_is); (case k37 => k_is)
    (case a38 => k_is); (case l38 => k_is); (case c38 => k_is); (case k38 => k_is)
    (case a39 => k_is); (case l39 => k_is); (case c39 => k_is); (case k39 => k_is)
    (case a40 => k_is); (case l40 => k_is); (case c40 => k_is); (case k40 => k_is)
    (case a41 => k_is); (case l41 => k_is); (case c41 => k_is); (case k41 => k_is)
    (case a42 => k_is); (case l42 => k_is); (case c42 => k_is); (case k42 => k_is)
    (case a43 => k_is); (case l43 => k_is); (case c43 => k_is); (case k43 => k_is)
    (case a44 => k_is); (case l44 => k_is); (case c44 => k_is); (case k44 => k_is)
    (case a45 => k_is); (case l45 => k_is); (case c45 => k_is); (case k45 => k_is)
    (case a46 => k_is); (case l46 => k_is); (case c46 => k_is); (case k46 => k_is)
    (case a47 => k_is); (case l47 => k_is); (case c47 => k_is); (case k47 => k_is)
    (case a48 => k_is); (case l48 => k_is); (case c48 => k_is); (case k48 => k_is)
    (case a49 => k_is); (case l49 => k_is); (case c49 => k_is); (case k49 => k_is)
    (case a50 => k_is); (case l50 => k_is); (case c50 => k_is); (case k50 => k_is)
    (case a51 => k_is); (case l51 => k_is); (case c51 => k_is); (case k51 => k_is)
    (case a52 => k_is); (case l52 => k_is); (case c52 => k_is); (case k52 => k_is)
    (case d5 => k_is)
    (case z_abs => k_is)
    (case z_min => k_is)
    (case z_max => k_is)
    (case z_len => k_is)
    (case z_int => k_is)
    (case z_isinstance => k_is)
    (case z_bool => k_is)
    (case z_range => k_is)
    (case z_ValueError => k_is)
    (case z_tuple => k_is)
    (case q_g_TreeError => k_is)
    (case q_g_NoPrime => k_is)
    (case q_g_NoFraction => k_is)
    (case q_g_NoText => k_is)
    (case q_g_NoSpot => k_is)
    (case q_g_NoTable => k_is)
    (case q_g_TooMany => k_is)
    (case q_g_NoLine => k_is)
    (case q_g_NoRow => k_is)
    (case q_g_NothingDone => k_is)
    (case q_g_TooFar => k_is)
    (case q_x_NoFraction => kernel_rfl)
    (case q_e_NoFraction => kernel_rfl)
    (case q_v_NoFraction => kernel_rfl)
    (case q_i_NoFraction_TreeError => kernel_rfl)
    (case q_i_NoFraction_NoPrime => kernel_rfl)
    (case q_i_NoFraction_NoFraction => kernel_rfl)
    (case q_i_NoFraction_NoText => kernel_rfl)
    (case q_i_NoFraction_NoSpot => kernel_rfl)
    (case q_i_NoFraction_NoTable => kernel_rfl)
    (case q_i_NoFraction_TooMany => kernel_rfl)
    (case q_i_NoFraction_NoLine => kernel_rfl)
    (case q_i_NoFraction_NoRow => kernel_rfl)
    (case q_i_NoFraction_NothingDone => kernel_rfl)
    (case q_i_NoFraction_TooFar => kernel_rfl)
    (case q_m_NoFraction_TreeError => kernel_rfl)
    (case q_x_NoTable => kernel_rfl)
    (case q_e_NoTable => kernel_rfl)
    (case q_v_NoTable => kernel_rfl)
    (case q_i_NoTable_TreeError => kernel_rfl)
    (case q_i_NoTable_NoPrime => kernel_rfl)
    (case q_i_NoTable_NoFraction => kernel_rfl)
    (case q_i_NoTable_NoText => kernel_rfl)
    (case q_i_NoTable_NoSpot => kernel_rfl)
    (case q_i_NoTable_NoTable => kernel_rfl)
    (case q_i_NoTable_TooMany => kernel_rfl)
    (case q_i_NoTable_NoLine => kernel_rfl)
    (case q_i_NoTable_NoRow => kernel_rfl)
    (case q_i_NoTable_NothingDone => kernel_rfl)
    (case q_i_NoTable_TooFar => kernel_rfl)
    (case q_m_NoTable_TreeError => kernel_rfl)
    (case q_x_NoLine => kernel_rfl)
    (case q_e_NoLine => kernel_rfl)
    (case q_v_NoLine => kernel_rfl)
    (case q_i_NoLine_TreeError => kernel_rfl)
    (case q_i_NoLine_NoPrime => kernel_rfl)
    (case q_i_NoLine_NoFraction => kernel_rfl)
    (case q_i_NoLine_NoText => kernel_rfl)
    (case q_i_NoLine_NoSpot => kernel_rfl)
    (case q_i_NoLine_NoTable => kernel_rfl)
    (case q_i_NoLine_TooMany => kernel_rfl)
    (case q_i_NoLine_NoLine => kernel_rfl)
    (case q_i_NoLine_NoRow => kernel_rfl)
    (case q_i_NoLine_NothingDone => kernel_rfl)
    (case q_i_NoLine_TooFar => kernel_rfl)
    (case q_m_NoLine_TreeError => kernel_rfl)
    (case q_ka_NOUGHT => k_is)
    (case q_kl_NOUGHT => k_is)
    (case q_ka_ONE => k_is)
    (case q_kl_ONE => k_is)
    (case q_ka_FAR => k_is)
#print axioms PySem.Challenge.cw_primetree_k67_lines_looked_at_holds
