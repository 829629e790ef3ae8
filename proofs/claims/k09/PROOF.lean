import PyProof.Rows.All
import Wide.All
import OpenK.AllK
import Wide.FinOn
import Lean
import PyProof.EqAt
import PyProof.EqKinds
import PyProof.TupleCall
import PyProof.NeKinds
import KE.KTryMore
import PyProof.ExcBaseAll.ValueError
import PyProof.SumAny
import PyProof.Rows.SortWalk
import PySem.Challenge.RW_foldwalk_k09_whole_stretches
set_option Elab.async false
set_option linter.all false
set_option maxRecDepth 100000
/-! THE HAND LAYER, for ints, bools, texts, own classes, LISTS and tuples (index, slices, in, append, pop ..), calls, loops. Paste it whole ahead of your own text; what your proof does not reach may be deleted. -/
namespace L2
open PySem PySem.Spec PyProof.Rows

/-- a key: an int or a str -/
abbrev Key := Sum Int Str
def keyIs : Key → Value → Bool
  | .inl k, v => Value.isInt k v
  | .inr x, v => Value.isStrOf x v
def keyH (w : World) : Key → Int
  | .inl k => hashInt k
  | .inr x => hashStr w x
theorem keyIs_shape : ∀ {k : Key} {v : Value}, keyIs k v = true → (∃ i t, k = Sum.inl i ∧ v = Value.int i t) ∨ (∃ x t, k = Sum.inr x ∧ v = Value.str x t)
  | .inl i, v, h => by
    obtain ⟨t, e⟩ := Value.isInt_shape (k := i) (v := v) h
    exact .inl ⟨i, t, rfl, e⟩
  | .inr x, v, h => by
    obtain ⟨t, e⟩ := Value.isStrOf_shape (x := x) (v := v) h
    exact .inr ⟨x, t, rfl, e⟩
theorem key_ll (a b : Int) : decide ((Sum.inl a : Key) = Sum.inl b) = (a == b) := by
  by_cases e : a = b
  · subst e; simp
  · have h : ¬ (Sum.inl a : Key) = Sum.inl b := fun q => e (Sum.inl.inj q)
    rw [decide_eq_false h]
    exact (beq_eq_false_iff_ne.mpr e).symm
theorem key_rr (a b : Str) : decide ((Sum.inr a : Key) = Sum.inr b) = decide (a = b) := by
  by_cases e : a = b
  · subst e; simp
  · have h : ¬ (Sum.inr a : Key) = Sum.inr b := fun q => e (Sum.inr.inj q)
    rw [decide_eq_false h, decide_eq_false e]
theorem key_lr (a : Int) (b : Str) : decide ((Sum.inl a : Key) = Sum.inr b) = false := decide_eq_false (fun q => nomatch q)
theorem key_rl (a : Str) (b : Int) : decide ((Sum.inr a : Key) = Sum.inl b) = false := decide_eq_false (fun q => nomatch q)

def mixKind (prog : Program) (w : World) : PySem.KeyKind prog w Key where
  is := keyIs
  hash := keyH w
  inj := fun v a b ha hb => by
    rcases keyIs_shape ha with ⟨i, t, rfl, rfl⟩ | ⟨x, t, rfl, rfl⟩
    · rcases keyIs_shape hb with ⟨j, u, rfl, e⟩ | ⟨y, u, rfl, e⟩
      · injection e with e1 _; rw [e1]
      · exact nomatch e
    · rcases keyIs_shape hb with ⟨j, u, rfl, e⟩ | ⟨y, u, rfl, e⟩
      · exact nomatch e
      · injection e with e1 _; rw [e1]
  byValue := fun k v h => by
    rcases keyIs_shape h with ⟨i, t, rfl, rfl⟩ | ⟨x, t, rfl, rfl⟩ <;> rfl
  pyHash := fun hv h => by
    rcases keyIs_shape hv with ⟨i, t, rfl, rfl⟩ | ⟨x, t, rfl, rfl⟩
    · exact wpAny_pyHash_int h
    · exact wpAny_pyHash_str h
  eqBool := fun hu hv h => by
    rcases keyIs_shape hu with ⟨i, t, rfl, rfl⟩ | ⟨x, t, rfl, rfl⟩
    · rcases keyIs_shape hv with ⟨j, u, rfl, rfl⟩ | ⟨y, u, rfl, rfl⟩
      · rw [key_ll] at h; exact wpAny_eqBool_int h
      · rw [key_lr] at h; exact SeqAt.EqAt.int_str i t y u _ _ _ _ h
    · rcases keyIs_shape hv with ⟨j, u, rfl, rfl⟩ | ⟨y, u, rfl, rfl⟩
      · rw [key_rl] at h; exact SeqAt.EqAt.str_int x t j u _ _ _ _ h
      · rw [key_rr] at h; exact wpAny_eqBool_str h
  «strs» := fun k x t v h => by
    rcases keyIs_shape h with ⟨i, u, rfl, e⟩ | ⟨y, u, rfl, e⟩
    · exact nomatch e
    · injection e with e1 _
      subst e1
      cases v <;> rfl

end L2

namespace L2
open PySem PySem.Spec PyProof.Rows

/-- a value, without the heap -/
inductive V where
  | non | bl (b : Bool) | int (i : Int) | str (x : Str) | byt (b : Array UInt8) | flt (b : UInt64) | ref (a : Addr) | ty (n : String)
  deriving DecidableEq

def RelV : V → Value → Prop
  | .non, u => u = Value.none
  | .bl b, u => u = Value.bool b
  | .int i, u => ∃ t, u = Value.int i t
  | .str x, u => ∃ t, u = Value.str x t
  | .byt b, u => ∃ t, u = Value.bytes b t
  | .flt b, u => ∃ t, u = Value.float b t
  | .ref a, u => u = Value.ref a
  | .ty n, u => u = Value.type n

abbrev Vals : List V → List Value → Prop := Paired RelV
theorem Vals.length {xs : List V} {us : List Value} (r : Vals xs us) : xs.length = us.length := Paired.length r
theorem Vals.get : ∀ {xs : List V} {us : List Value} {i : Nat} {x : V}, Vals xs us → xs[i]? = some x → ∃ u, us[i]? = some u ∧ RelV x u
  | _, _, _, _, .nil, e => by simp at e
  | _, _, 0, _, .cons r _, e => by simp at e; subst e; exact ⟨_, rfl, r⟩
  | _, _, i + 1, x, .cons _ t, e => by
    obtain ⟨u, h1, h2⟩ := Vals.get (i := i) (x := x) t (by simpa using e)
    exact ⟨u, by simpa using h1, h2⟩
theorem Vals.append : ∀ {xs ys : List V} {us ws : List Value}, Vals xs us → Vals ys ws → Vals (xs ++ ys) (us ++ ws)
  | _, _, _, _, .nil, s => s
  | _, _, _, _, .cons r t, s => .cons r (Vals.append t s)
theorem Vals.take : ∀ {xs : List V} {us : List Value} (n : Nat), Vals xs us → Vals (xs.take n) (us.take n)
  | _, _, 0, _ => .nil
  | _, _, _ + 1, .nil => .nil
  | _, _, n + 1, .cons r t => .cons r (Vals.take n t)
theorem Vals.drop : ∀ {xs : List V} {us : List Value} (n : Nat), Vals xs us → Vals (xs.drop n) (us.drop n)
  | _, _, 0, r => r
  | _, _, _ + 1, .nil => .nil
  | _, _, n + 1, .cons _ t => Vals.drop n t

def RelO : Option V → Option Value → Prop
  | some v, some u => RelV v u
  | none, none => True
  | _, _ => False
def KV {κ : Type} : List (κ × V) → List (κ × Value) → Prop := Paired fun (p : κ × V) (q : κ × Value) => p.1 = q.1 ∧ RelV p.2 q.2

/-- a key of a dict (00_mix): an int or a text -/
def kV : Key → V
  | .inl i => .int i
  | .inr x => .str x

/-- what stands at a tracked address -/
inductive HO where
  /-- a list -/
  | lst (xs : List V)
  /-- a tuple (never changes) -/
  | tup (xs : List V)
  /-- a dict whose keys are ints and texts; one whose keys are tuples of ints and texts (the empty one is both) -/
  | dK (kvs : List (Key × V)) | dT (kvs : List (List Key × V))
  /-- a set of ints: its members, its size -/
  | set (S : Int → Bool) (n : Nat)
  /-- an instance of the class at C, its dict at dx, its attributes -/
  | ins (C dx : Addr) (fs : List (Str × V))
  /-- the dict of the instance at x -/
  | own (x : Addr)
  /-- the dict of an exception -/
  | xd (fs : List (Str × V))
  /-- a bound method, f of x -/
  | met (f x : Addr)
  /-- a range object lo, lo + 1, .. below hi -/
  | rng (lo hi : Int)
  /-- a thing that is known to the object (the script; a dict while a loop walks it): read, never written while it is so -/
  | frz (o : Obj) (u : HO)
  /-- a code object's table -/
  | tbl (ps : Array Value)
  /-- any other thing, by what is true of its one object (a def of one's own: SetO a S n := HO.ext fun h => ..) -/
  | ext (φ : Heap → Prop)

abbrev Hp := Addr → Option HO
def upd (H : Hp) (a : Addr) (o : HO) : Hp := fun b => if b = a then some o else H b
theorem upd_same {H : Hp} {a : Addr} {o : HO} : upd H a o a = some o := by unfold upd; rw [if_pos rfl]
theorem upd_ne {H : Hp} {a b : Addr} {o : HO} (h : b ≠ a) : upd H a o b = H b := by unfold upd; rw [if_neg h]
/-- two objects of different content stand apart -/
theorem ne_of {H : Hp} {a b : Addr} {o u : HO} (h : H a = some o) (h' : H b = some u) (d : o ≠ u) : a ≠ b := by
  intro e; subst e; rw [h] at h'; exact d (Option.some.inj h')
theorem ne_of_none {H : Hp} {a b : Addr} {o : HO} (h : H a = some o) (h' : H b = none) : a ≠ b := by
  intro e; subst e; rw [h] at h'; cases h'

section
variable (P : Program) (w : World)
def ObjOk (H : Hp) (h : Heap) (a : Addr) : HO → Prop
  | .lst xs => xs.length ≤ sizeLine ∧ ∃ (its : List Value) (n : Nat), Vals xs its ∧ h.get? a = some { cls := .type "list", data := .seq its.toArray n }
  | .tup xs => xs.length ≤ sizeLine ∧ ∃ its : List Value, Vals xs its ∧ IsTup h a its.toArray
  | .dK kvs => kvs.length ≤ sizeLine ∧ (a == sysModules) = false ∧ ∃ vs, KV kvs vs ∧ h.DictOf (mixKind P w) a vs
  | .dT kvs => kvs.length ≤ sizeLine ∧ (a == sysModules) = false ∧ ∃ xs : List (List Key × Addr × Value),
      Paired (fun (p : List Key × V) (q : List Key × Addr × Value) => p.1 = q.1 ∧ H q.2.1 = some (.tup (p.1.map kV)) ∧ RelV p.2 q.2.2) kvs xs ∧
      ∃ o es ep, h.get? a = some o ∧ o.ExactDict ∧ o.data = .dict es ep ∧ es.toList = xs.map (entryOfKey (tupleKind (mixKind P w))) ∧ (xs.map (·.1)).Nodup
  | .set S n => h.SetOf (intKind P w) a S n
  | .ins C dx fs => H dx = some (.own a) ∧ fs.length ≤ 1000 ∧ dx ≠ a ∧ h.get? a = some (PySem.W.instObj C dx) ∧
      ∃ mA, h.Ns1 dx mA ∧ (∀ f, RelO (fs.lookup f) (mA f)) ∧ PySem.Within mA (fs.map (·.1))
  | .own _ => ∃ o, h.get? a = some o
  | .xd fs => ∃ mA, h.Ns1 a mA ∧ ∀ f, RelO (fs.lookup f) (mA f)
  | .rng lo hi => ∃ t u v, h.get? a = some { cls := .type "range", data := .fields #[.int lo t, .int hi u, .int 1 v] }
  | .frz o u => h.get? a = some o ∧ ObjOk H h a u
  | .tbl ps => h.get? a = some { cls := .none, data := .fields ps }
  | .met f x => h.get? a = some (PySem.W.methodObj (.ref f) (.ref x))
  | .ext φ => φ h ∧ (∃ o, h.get? a = some o) ∧ ∀ h1 h2 : Heap, φ h1 → (∀ o, h1.get? a = some o → h2.get? a = some o) → φ h2
/-- the abstract heap is held -/
def HOk (H : Hp) (h : Heap) : Prop := ∀ a o, H a = some o → ObjOk P w H h a o
end

section
variable {P : Program} {w : World} {H H' : Hp} {h h' : Heap} {a : Addr} {o : HO}
theorem ObjOk.lt (x : ObjOk P w H h a o) : a < h.objs.size := by
  cases o with
  | lst xs => obtain ⟨_, _, _, _, e⟩ := x; exact Heap.lt_size e
  | tup xs => obtain ⟨_, _, _, p⟩ := x; exact p.lt
  | dK kvs => obtain ⟨_, _, _, _, o, _, _, e, _⟩ := x; exact Heap.lt_size e
  | dT kvs => obtain ⟨_, _, _, _, o, _, _, e, _⟩ := x; exact Heap.lt_size e
  | set S n => obtain ⟨o, _, _, _, e, _⟩ := x; exact Heap.lt_size e
  | ins C dx fs => obtain ⟨_, _, _, e, _⟩ := x; exact Heap.lt_size e
  | own y => obtain ⟨_, e⟩ := x; exact Heap.lt_size e
  | xd fs => obtain ⟨_, ⟨_, _, _, e, _⟩, _⟩ := x; exact Heap.lt_size e
  | rng lo hi => obtain ⟨_, _, _, e⟩ := x; exact Heap.lt_size e
  | frz ob u => obtain ⟨e, _⟩ := x; exact Heap.lt_size e
  | tbl ps => exact Heap.lt_size (show h.get? a = some _ from x)
  | met f y => exact Heap.lt_size (show h.get? a = some _ from x)
  | ext φ => obtain ⟨_, ⟨_, e⟩, _⟩ := x; exact Heap.lt_size e
theorem Paired.mapP {α β : Type} {F G : α → β → Prop} : ∀ {l₁ : List α} {l₂ : List β}, Paired F l₁ l₂ → (∀ a b, F a b → G a b) → Paired G l₁ l₂
  | _, _, .nil, _ => .nil
  | _, _, .cons r t, f => .cons (f _ _ r) (Paired.mapP t f)
/-- what an object's description leans on: its own object, its own dict, the tuples -/
theorem ObjOk.stay (x : ObjOk P w H h a o) (k : ∀ b u, (b = a ∨ H b = some (.own a)) → h.get? b = some u → h'.get? b = some u)
    (ho : ∀ b, H b = some (.own a) → H' b = some (.own a)) (ht : ∀ b xs, H b = some (.tup xs) → H' b = some (.tup xs)) : ObjOk P w H' h' a o := by
  induction o with
  | lst xs => obtain ⟨z, its, n, r, e⟩ := x; exact ⟨z, its, n, r, k _ _ (.inl rfl) e⟩
  | tup xs => obtain ⟨z, its, r, ob, e, c⟩ := x; exact ⟨z, its, r, ob, k _ _ (.inl rfl) e, c⟩
  | dK kvs => obtain ⟨z, y, vs, r, ob, es, ep, e, c⟩ := x; exact ⟨z, y, vs, r, ob, es, ep, k _ _ (.inl rfl) e, c⟩
  | dT kvs =>
    obtain ⟨z, y, xs, r, ob, es, ep, e, c⟩ := x
    exact ⟨z, y, xs, Paired.mapP r fun p q z => ⟨z.1, ht _ _ z.2.1, z.2.2⟩, ob, es, ep, k _ _ (.inl rfl) e, c⟩
  | set S n => obtain ⟨ob, es, ep, t, e, c⟩ := x; exact ⟨ob, es, ep, t, k _ _ (.inl rfl) e, c⟩
  | ins C dx fs =>
    obtain ⟨d, z, ne, e, mA, ⟨od, es, ep, e2, c⟩, r⟩ := x
    exact ⟨ho _ d, z, ne, k _ _ (.inl rfl) e, mA, ⟨od, es, ep, k _ _ (.inr d) e2, c⟩, r⟩
  | own y => obtain ⟨ob, e⟩ := x; exact ⟨ob, k _ _ (.inl rfl) e⟩
  | xd fs => obtain ⟨mA, ⟨od, es, ep, e, c⟩, r⟩ := x; exact ⟨mA, ⟨od, es, ep, k _ _ (.inl rfl) e, c⟩, r⟩
  | rng lo hi => obtain ⟨t, u, v, e⟩ := x; exact ⟨t, u, v, k _ _ (.inl rfl) e⟩
  | frz ob u ih => obtain ⟨e, q⟩ := x; exact ⟨k _ _ (.inl rfl) e, ih q⟩
  | tbl ps =>
    have e : h.get? a = some { cls := .none, data := .fields ps } := x
    show h'.get? a = some { cls := .none, data := .fields ps }
    exact k a _ (.inl rfl) e
  | met f y =>
    have e : h.get? a = some (PySem.W.methodObj (.ref f) (.ref y)) := x
    show h'.get? a = some (PySem.W.methodObj (.ref f) (.ref y))
    exact k a _ (.inl rfl) e
  | ext φ => obtain ⟨p, ⟨o, e⟩, st⟩ := x; exact ⟨st _ _ p fun o q => k _ _ (.inl rfl) q, ⟨o, k _ _ (.inl rfl) e⟩, st⟩
theorem HOk.lt (x : HOk P w H h) (e : H a = some o) : a < h.objs.size := (x a o e).lt
theorem HOk.fresh (x : HOk P w H h) (e : h.objs.size ≤ a) : H a = none := by
  cases q : H a with
  | none => rfl
  | some u => exact absurd (Nat.lt_of_lt_of_le (x.lt q) e) (Nat.lt_irrefl _)
/-- every object of the heap is kept -/
theorem HOk.kept (x : HOk P w H h) (k : ∀ b u, h.get? b = some u → h'.get? b = some u) : HOk P w H h' := fun a o e =>
  (x a o e).stay (fun b u _ q => k b u q) (fun _ q => q) fun _ _ q => q
/-- a new object is laid and tracked -/
theorem HOk.laid (x : HOk P w H h) (k : ∀ b u, h.get? b = some u → h'.get? b = some u) (hp : h.objs.size ≤ a) (new : ObjOk P w (upd H a o) h' a o) : HOk P w (upd H a o) h' := fun b u e => by
  have hn := x.fresh hp
  by_cases hb : b = a
  · subst hb; rw [upd_same] at e; cases e; exact new
  · rw [upd_ne hb] at e
    exact (x b u e).stay (fun c v _ q => k c v q) (fun c q => by rw [upd_ne (ne_of_none q hn)]; exact q) fun c xs q => by rw [upd_ne (ne_of_none q hn)]; exact q
end

/-- what may be read as u: it is u, or a known u -/
def Rd (H : Hp) (a : Addr) (u : HO) : Prop := H a = some u ∨ ∃ o, H a = some (.frz o u)
theorem Rd.ok {P : Program} {w : World} {H : Hp} {h : Heap} {a : Addr} {u : HO} (r : Rd H a u) (x : HOk P w H h) : ObjOk P w H h a u := by
  rcases r with r | ⟨o, r⟩
  · exact x a u r
  · obtain ⟨_, q⟩ := x a _ r
    exact q
/-- what may be written -/
def Mut : Option HO → Prop
  | some (.lst _) => True
  | some (.dK _) => True
  | some (.dT _) => True
  | some (.set _ _) => True
  | some (.ins _ _ _) => True
  | some (.ext _) => True
  | _ => False
section
variable {P : Program} {w : World} {H : Hp} {h h' : Heap} {x e : Addr} {o' : HO}
/-- the object at e is changed: x itself, or the dict of the instance x -/
theorem HOk.write (ok : HOk P w H h) (mu : Mut (H x)) (he : e = x ∨ H e = some (.own x)) (k : ∀ b u, b ≠ e → h.get? b = some u → h'.get? b = some u) (heo : ∃ u, h'.get? e = some u)
    (new : ObjOk P w (upd H x o') h' x o') : HOk P w (upd H x o') h' := fun b u q => by
  have nown : ∀ c y, H c = some (.own y) → c ≠ x := fun c y r z => by subst z; rw [r] at mu; exact mu
  have ntup : ∀ c xs, H c = some (.tup xs) → c ≠ x := fun c xs r z => by subst z; rw [r] at mu; exact mu
  by_cases hb : b = x
  · subst hb; rw [upd_same] at q; cases q; exact new
  · rw [upd_ne hb] at q
    by_cases hbe : b = e
    · have q' : H b = some (.own x) := by
        rcases he with z | z
        · exact absurd (hbe.trans z) hb
        · rw [hbe]; exact z
      rw [q] at q'; cases q'
      obtain ⟨v, hv⟩ := heo
      exact ⟨v, by rw [hbe]; exact hv⟩
    · refine (ok b u q).stay (fun c v hc r => k c v ?_ r) (fun c r => by rw [upd_ne (nown c b r)]; exact r) fun c xs r => by rw [upd_ne (ntup c xs r)]; exact r
      rcases hc with rfl | hc
      · exact hbe
      · rintro rfl
        rcases he with z | z
        · exact nown c b hc z
        · rw [hc] at z; cases z; exact hb rfl
end

/-! ### kept unless tracked; of the frames at fs (the callers') the slots may change (an exception that passes writes there); of the records at ex (iterators) nothing is said -/
structure Un (fs ex : List Addr) (H H' : Hp) (h h' : Heap) : Prop where
  keep : ∀ b o, h.get? b = some o → H b = none → b ∉ fs → b ∉ ex → h'.get? b = some o
  slot : ∀ b o, h.get? b = some o → H b = none → b ∈ fs → b ∉ ex → ∃ sl, h'.get? b = some { o with slots := sl }
  free : ∀ b o, h.get? b = some o → H b = none → b ∉ ex → H' b = none
  there : ∀ b o, h.get? b = some o → b ∉ ex → ∃ o', h'.get? b = some o'
  tups : ∀ b xs, H b = some (.tup xs) → H' b = some (.tup xs)
  frzs : ∀ b o u, H b = some (.frz o u) → H' b = some (.frz o u)
  tbls : ∀ b ps, H b = some (.tbl ps) → ∃ more, H' b = some (.tbl (ps ++ more))
section
variable {fs fs' ex ex' : List Addr} {H H1 H2 : Hp} {h h1 h2 h' : Heap} {a x e : Addr} {o : HO}
theorem Un.any (u : Un fs ex H H1 h h1) {b : Addr} {ob : Obj} (q : h.get? b = some ob) (n : H b = none) (hx : b ∉ ex) : ∃ sl, h1.get? b = some { ob with slots := sl } := by
  by_cases hb : b ∈ fs
  · exact u.slot b ob q n hb hx
  · exact ⟨ob.slots, u.keep b ob q n hb hx⟩
theorem Un.kept (k : ∀ b u, h.get? b = some u → h'.get? b = some u) : Un fs ex H H h h' :=
  ⟨fun b ob q _ _ _ => k b ob q, fun b ob q _ _ _ => ⟨ob.slots, k b ob q⟩, fun _ _ _ n _ => n, fun b ob q _ => ⟨ob, k b ob q⟩, fun _ _ q => q, fun _ _ _ q => q, fun _ ps q => ⟨#[], by rw [q]; simp⟩⟩
theorem Un.refl : Un fs ex H H h h := Un.kept fun _ _ q => q
theorem Un.laid (k : ∀ b u, h.get? b = some u → h'.get? b = some u) (hp : h.objs.size ≤ a) (hn : H a = none) : Un fs ex H (upd H a o) h h' where
  keep := fun b u q _ _ _ => k b u q
  slot := fun b u q _ _ _ => ⟨u.slots, k b u q⟩
  free := fun b u q n _ => by rw [upd_ne (Nat.ne_of_lt (Nat.lt_of_lt_of_le (Heap.lt_size q) hp))]; exact n
  there := fun b u q _ => ⟨u, k b u q⟩
  tups := fun b xs q => by rw [upd_ne (ne_of_none q hn)]; exact q
  frzs := fun b u xs q => by rw [upd_ne (ne_of_none q hn)]; exact q
  tbls := fun b ps q => ⟨#[], by rw [upd_ne (ne_of_none q hn), q]; simp⟩
theorem Un.write (mu : Mut (H x)) (he : e = x ∨ H e = some (.own x)) (k : ∀ b u, b ≠ e → h.get? b = some u → h'.get? b = some u) (heo : ∃ u, h'.get? e = some u) : Un fs ex H (upd H x o) h h' := by
  have hx : ∀ b, H b = none → b ≠ x := fun b n z => by subst z; rw [n] at mu; exact mu
  have hb : ∀ b, H b = none → b ≠ e := fun b n z => by
    subst z
    rcases he with r | r
    · exact hx b n r
    · rw [n] at r; cases r
  have hm : ∀ b u, H b = some u → ¬ Mut (some u) → b ≠ x := fun b u q nm z => by subst z; rw [q] at mu; exact nm mu
  refine ⟨fun b u q n _ _ => k b u (hb b n) q, fun b u q n _ _ => ⟨u.slots, k b u (hb b n) q⟩, fun b u q n _ => by rw [upd_ne (hx b n)]; exact n, fun b u q _ => ?_,
    fun b xs q => by rw [upd_ne (hm b _ q fun z => z)]; exact q, fun b u xs q => by rw [upd_ne (hm b _ q fun z => z)]; exact q, fun b ps q => ⟨#[], by rw [upd_ne (hm b _ q fun z => z), q]; simp⟩⟩
  by_cases hbe : b = e
  · subst hbe; exact heo
  · exact ⟨u, k b u hbe q⟩
end

/-! ### the heap without what is tracked -/
def trk (h : Heap) (H : Hp) : List Addr := (List.range h.objs.size).filter fun a => (H a).isSome
def hidT (h : Heap) (H : Hp) : Heap := PySem.W.hideAll h (trk h H)
theorem hidT_size (h : Heap) (H : Hp) : (hidT h H).objs.size = h.objs.size := PySem.W.hideAll_size _ _
theorem hidT_get {h : Heap} {H : Hp} {b : Addr} {o : Obj} (e : h.get? b = some o) (n : H b = none) : (hidT h H).get? b = some o :=
  PySem.W.hideAll_get _ e fun hm => by
    have q : (H b).isSome = true := (List.mem_filter.mp hm).2
    rw [n] at q; simp at q
theorem of_hidT {h : Heap} {H : Hp} {b : Addr} {o : Obj} (e : (hidT h H).get? b = some o) : h.get? b = some o ∧ H b = none := by
  have e' : h.get? b = some o := PySem.W.of_hideAll (trk h H) e
  refine ⟨e', ?_⟩
  cases q : H b with
  | none => rfl
  | some x =>
    have hm : b ∈ trk h H := List.mem_filter.mpr ⟨List.mem_range.mpr (Heap.lt_size e'), by simp [q]⟩
    have z : (hidT h H).get? b = none := PySem.W.hideAll_none (trk h H) hm
    rw [z] at e; cases e

/-! ### OpenK's ledger, filled with every new object but one -/
end L2

namespace L2
open PySem PySem.Spec PyProof.Rows

/-- the module's facts, over the base: the heap at the law's entry without what is tracked there -/
structure Mod (K : PySem.W.Frag) (mg : Str → Option Value) (base : Heap) : Prop where
  kin : K.In base
  glob : base.Ns mainGlobals mg
  blt : ∃ mb, base.Ns builtinsNs mb ∧ ∀ x : Str, x ≠ "__name__" → mb x = bootBuiltins x
  nolimit : base.NoLimit

/-- the context: a def's body (or a comprehension's block) running. base: fixed through the whole law; s₀, H₀: the entry; outer: the frames whose slots others may change (a def's callers); stack: all frames that run;
   ex: iterators that were made ahead of the entry and are walked here (a comprehension's); fn: the names whose cells were made at the entry (a def: all; a comprehension's block: its own); calm: not within an except suite; pn: pins that every state bears; xe: what is wanted of an exception that leaves the code -/
structure Cx where
  prog : Program
  w : World
  K : PySem.W.Frag
  mg : Str → Option Value
  base : Heap
  A : Around
  N : List Str
  s₀ : Shared
  H₀ : Hp
  env : Env
  outer : List Env
  stack : List Env
  ex : List Addr
  fn : Str → Bool
  calm : Bool
  pn : List (Addr × Obj)
  xe : Value → Shared → Prop
/-- the callers' frames -/
def frs (l : List Env) : List Addr := l.filterMap (·.frame)
abbrev Cx.fs (X : Cx) : List Addr := frs X.outer

def Vis (sc : Scope) (x : Str) : Prop := sc.names.lookup x = some .local ∨ sc.names.lookup x = some .cell ∨ sc.names.lookup x = some .free
def Loc (sc : Scope) (x : Str) : Prop := sc.names.lookup x = some .local ∨ sc.names.lookup x = some .cell
def Look (env : Env) (h : Heap) (m : Str → Option Value) (x : Str) (u : Value) : Prop :=
  (env.kindOf x = some .local ∧ m x = some u) ∨ ((env.kindOf x = some .cell ∨ env.kindOf x = some .free) ∧ ∃ c, env.cells.lookup x = some c ∧ h.IsCell c (some u))

structure Cx.Ok (X : Cx) : Prop where
  mod : Mod X.K X.mg X.base
  kind : X.env.scope.kind = .function
  glob : X.env.globals = mainGlobals
  blt : X.env.builtins = builtinsNs
  above : X.s₀.heap.objs.size ≤ X.env.locals
  inj : ∀ x y c, X.env.cells.lookup x = some c → X.env.cells.lookup y = some c → x = y
  has : ∀ x, (X.env.kindOf x = some .cell ∨ X.env.kindOf x = some .free) → ∃ c, X.env.cells.lookup x = some c
  cab : ∀ x c, X.fn x = true → X.env.cells.lookup x = some c → X.s₀.heap.objs.size ≤ c
  hd : X.calm = true → X.A.handled = none
  frames : X.A.frames = some X.stack
  stk : X.stack = X.outer ∨ (X.stack = X.env :: X.outer ∧ X.env.frame = some X.env.locals)
  exf : ∀ b ∈ X.ex, b ≠ X.env.locals ∧ ∀ x c, X.env.cells.lookup x = some c → c ≠ b
  bs : ∀ b o, X.base.get? b = some o → X.s₀.heap.get? b = some o ∧ X.H₀ b = none
  bsz : X.base.objs.size ≤ X.s₀.heap.objs.size
  noex : ∀ b o, X.base.get? b = some o → b ∉ X.ex
  exfs : ∀ b ∈ X.ex, b ∉ X.fs
  funs : X.s₀.heap.FunFrames X.base X.outer
  frf : ∀ b ∈ X.fs, X.H₀ b = none

structure Inv (X : Cx) (pins : List (Addr × Obj)) (σ : List (Option V)) (H : Hp) (s : Shared) : Prop where
  ok : X.Ok
  os : s.os = X.s₀.os
  bare : AllBare s.gens
  base : Un X.fs X.ex X.H₀ H X.s₀.heap s.heap
  loc : ∃ m, s.heap.Ns X.env.locals m ∧ ∀ (i : Nat) (x : Str) (v : V), X.N[i]? = some x → σ[i]? = some (some v) → Vis X.env.scope x → ∃ u, RelV v u ∧ Look X.env s.heap m x u
  cell : ∀ x c, X.env.cells.lookup x = some c → ∃ v, s.heap.IsCell c v
  free : H X.env.locals = none
  freeC : ∀ x c, X.env.cells.lookup x = some c → H c = none
  pin : ∀ p ∈ X.pn ++ pins, s.heap.get? p.1 = some p.2 ∧ H p.1 = none ∧ p.1 ≠ X.env.locals ∧ p.1 ∉ X.fs ∧ ∀ v, p.2.data ≠ .cell v
  hok : HOk X.prog X.w H s.heap
  len : σ.length = X.N.length

section
variable {X : Cx} {pins : List (Addr × Obj)} {σ : List (Option V)} {H H' : Hp} {s : Shared} {h' : Heap}

theorem Cx.Ok.nofr (ok : X.Ok) {b : Addr} {o : Obj} (e : X.base.get? b = some o) : b ∉ X.fs := fun hb => by
  have := (ok.funs.mem hb).1
  rw [e] at this; cases this
theorem Inv.bs (I : Inv X pins σ H s) : ∀ b o, X.base.get? b = some o → s.heap.get? b = some o ∧ H b = none := fun b o e =>
  ⟨I.base.keep b o (I.ok.bs b o e).1 (I.ok.bs b o e).2 (I.ok.nofr e) (I.ok.noex b o e), I.base.free b o (I.ok.bs b o e).1 (I.ok.bs b o e).2 (I.ok.noex b o e)⟩
theorem Inv.bk (I : Inv X pins σ H s) : ∀ b o, X.base.get? b = some o → s.heap.get? b = some o := fun b o e => (I.bs b o e).1
theorem Inv.mod (I : Inv X pins σ H s) : Mod X.K X.mg X.base := I.ok.mod
theorem Inv.kIn (I : Inv X pins σ H s) : X.K.In s.heap := I.ok.mod.kin.keeps I.bk
theorem Inv.lt (I : Inv X pins σ H s) : X.env.locals < s.heap.objs.size := let ⟨_, hn, _⟩ := I.loc; hn.lt
theorem Inv.sz (I : Inv X pins σ H s) : X.s₀.heap.objs.size ≤ s.heap.objs.size := Nat.le_trans I.ok.above (Nat.le_of_lt I.lt)
theorem Inv.nofs (I : Inv X pins σ H s) {a : Addr} (h : s.heap.objs.size ≤ a) : a ∉ X.fs := fun hb => by
  obtain ⟨_, o, ho, _⟩ := I.ok.funs.mem hb
  exact absurd (Nat.lt_of_lt_of_le (Heap.lt_size ho) (Nat.le_trans I.sz h)) (Nat.lt_irrefl _)
theorem Inv.cne (I : Inv X pins σ H s) : ∀ x c, X.env.cells.lookup x = some c → c ≠ X.env.locals := fun x c e z => by
  obtain ⟨v, o, ho, hd⟩ := I.cell x c e
  obtain ⟨m, ⟨o', es, ep, ho', hd', _⟩, _⟩ := I.loc
  rw [z, ho'] at ho; cases ho; rw [hd'] at hd; cases hd
theorem Inv.funs (I : Inv X pins σ H s) : s.heap.FunFrames X.base X.outer := by
  have all : ∀ (l : List Env), (∀ b ∈ frs l, b ∈ X.fs) → X.s₀.heap.FunFrames X.base l → s.heap.FunFrames X.base l := by
    intro l
    induction l with
    | nil => intro _ _; trivial
    | cons env r ih =>
      intro hs hl
      obtain ⟨hk, ⟨L, o, hf, hn, ho, hd⟩, hr⟩ := hl
      have hL : L ∈ X.fs := hs L (by unfold frs; rw [List.filterMap_cons, hf]; exact List.mem_cons_self)
      obtain ⟨sl, e⟩ := I.base.slot L o ho (I.ok.frf L hL) hL fun z => I.ok.exfs L z hL
      exact ⟨hk, ⟨L, _, hf, hn, e, hd⟩, ih (fun b hb => hs b (by unfold frs; rw [List.filterMap_cons, hf]; exact List.mem_cons_of_mem _ hb)) hr⟩
  exact all X.outer (fun _ hb => hb) I.ok.funs

/-- the frames that run, for a call -/
theorem Inv.stack (I : Inv X pins σ H s) : s.heap.FunFrames X.base X.stack := by
  rcases I.ok.stk with e | ⟨e, hf⟩
  · rw [e]; exact I.funs
  · rw [e]
    obtain ⟨m, hn, _⟩ := I.loc
    refine .cons (by rw [I.ok.kind]; decide) hf hn ?_ I.funs
    exact Heap.get?_none_of_le (Nat.le_trans I.ok.bsz I.ok.above)
theorem Inv.stkSub (I : Inv X pins σ H s) : ∀ b ∈ frs X.stack, b ∈ X.env.locals :: X.fs := fun b hb => by
  rcases I.ok.stk with e | ⟨e, hf⟩
  · rw [e] at hb; exact List.mem_cons_of_mem _ hb
  · rw [e] at hb
    unfold frs at hb
    rw [List.filterMap_cons, hf] at hb
    exact hb
theorem Inv.stkFree (I : Inv X pins σ H s) : ∀ b ∈ frs X.stack, H b = none := fun b hb => by
  rcases List.mem_cons.mp (I.stkSub b hb) with e | hb
  · rw [e]; exact I.free
  · obtain ⟨_, o, ho, _⟩ := I.ok.funs.mem hb
    exact I.base.free b o ho (I.ok.frf b hb) fun z => I.ok.exfs b z hb

/-- THE STEP: the untracked objects but the frame and the records at ch are kept (the callers' frames up to slots), the frame's map is kept, the new abstract heap is held -/
theorem Inv.step {g' : Array GenState} {t' : Nat} {d' : Drawn} {ch : List Addr} (I : Inv X pins σ H s)
    (hch : ∀ b ∈ ch, (b ∈ X.ex ∨ X.s₀.heap.objs.size ≤ b) ∧ b ≠ X.env.locals ∧ (∀ x c, X.env.cells.lookup x = some c → c ≠ b) ∧ ∀ p ∈ X.pn ++ pins, p.1 ≠ b)
    (keep : ∀ b o, b ≠ X.env.locals → b ∉ X.fs → b ∉ ch → s.heap.get? b = some o → H b = none → h'.get? b = some o)
    (slot : ∀ b o, b ≠ X.env.locals → b ∈ X.fs → b ∉ ch → s.heap.get? b = some o → H b = none → ∃ sl, h'.get? b = some { o with slots := sl }) (free : ∀ b o, b ∉ ch → s.heap.get? b = some o → H b = none → H' b = none)
    (there : ∀ b o, b ∉ ch → s.heap.get? b = some o → ∃ o', h'.get? b = some o')
    (tups : ∀ b xs, H b = some (.tup xs) → H' b = some (.tup xs)) (frzs : ∀ b o u, H b = some (.frz o u) → H' b = some (.frz o u)) (tbls : ∀ b ps, H b = some (.tbl ps) → ∃ more, H' b = some (.tbl (ps ++ more)))
    (ns : ∀ m, s.heap.Ns X.env.locals m → h'.Ns X.env.locals m) (hok : HOk X.prog X.w H' h') (hg : AllBare g') :
    Inv X pins σ H' { s with heap := h', gens := g', drawn := d', toks := t' } := by
  have neL : ∀ b o, X.s₀.heap.get? b = some o → b ≠ X.env.locals := fun b o e => Nat.ne_of_lt (Nat.lt_of_lt_of_le (Heap.lt_size e) I.ok.above)
  have neC : ∀ b o, X.s₀.heap.get? b = some o → b ∉ X.ex → b ∉ ch := fun b o e hx hb => by
    rcases (hch b hb).1 with z | z
    · exact hx z
    · exact absurd (Nat.lt_of_lt_of_le (Heap.lt_size e) z) (Nat.lt_irrefl _)
  have cellK : ∀ x c, X.env.cells.lookup x = some c → ∀ v, s.heap.IsCell c v → h'.IsCell c v := fun x c e v ⟨o, ho, hd⟩ => by
    have nch : c ∉ ch := fun z => (hch c z).2.2.1 x c e rfl
    by_cases hc : c ∈ X.fs
    · obtain ⟨sl, q⟩ := slot c o (I.cne x c e) hc nch ho (I.freeC x c e)
      exact ⟨_, q, hd⟩
    · exact ⟨o, keep c o (I.cne x c e) hc nch ho (I.freeC x c e), hd⟩
  refine ⟨I.ok, I.os, hg, ⟨fun b o e n hb hx => ?_, fun b o e n hb hx => ?_, fun b o e n hx => ?_, fun b o e hx => ?_, fun b xs e => tups b xs (I.base.tups b xs e), fun b o xs e => frzs b o xs (I.base.frzs b o xs e), fun b ps e => ?_⟩, ?_, fun x c e => ?_, ?_, fun x c e => ?_, fun p hp => ?_, hok, I.len⟩
  · exact keep b o (neL b o e) hb (neC b o e hx) (I.base.keep b o e n hb hx) (I.base.free b o e n hx)
  · obtain ⟨sl, e1⟩ := I.base.slot b o e n hb hx
    obtain ⟨sl', e2⟩ := slot b _ (neL b o e) hb (neC b o e hx) e1 (I.base.free b o e n hx)
    exact ⟨sl', e2⟩
  · obtain ⟨o', e1⟩ := I.base.there b o e hx
    exact free b o' (neC b o e hx) e1 (I.base.free b o e n hx)
  · obtain ⟨o', e1⟩ := I.base.there b o e hx
    exact there b o' (neC b o e hx) e1
  · obtain ⟨m1, e1⟩ := I.base.tbls b ps e
    obtain ⟨m2, e2⟩ := tbls b _ e1
    exact ⟨m1 ++ m2, by rw [e2, Array.append_assoc]⟩
  · obtain ⟨m, hn, hl⟩ := I.loc
    refine ⟨m, ns m hn, fun i x v e1 e2 e3 => ?_⟩
    obtain ⟨u, r, l⟩ := hl i x v e1 e2 e3
    refine ⟨u, r, ?_⟩
    rcases l with l | ⟨k, c, e, z⟩
    · exact .inl l
    · exact .inr ⟨k, c, e, cellK x c e _ z⟩
  · obtain ⟨v, z⟩ := I.cell x c e
    exact ⟨v, cellK x c e v z⟩
  · obtain ⟨m, ⟨o, _, _, ho, _⟩, _⟩ := I.loc
    exact free _ o (fun z => (hch _ z).2.1 rfl) ho I.free
  · obtain ⟨v, o, ho, hd⟩ := I.cell x c e
    exact free c o (fun z => (hch c z).2.2.1 x c e rfl) ho (I.freeC x c e)
  · obtain ⟨e, n, ne, nf, d⟩ := I.pin p hp
    have nch : p.1 ∉ ch := fun z => (hch p.1 z).2.2.2 p hp rfl
    exact ⟨keep p.1 p.2 ne nf nch e n, free p.1 p.2 nch e n, ne, nf, d⟩
/-- .. where the frame's own object is kept too -/
theorem Inv.un {t' : Nat} (I : Inv X pins σ H s) (u : Un X.fs [] H H' s.heap h') (hok : HOk X.prog X.w H' h') : Inv X pins σ H' { s with heap := h', toks := t' } := by
  obtain ⟨m, ⟨o, es, ep, ho, r⟩, _⟩ := id I.loc
  obtain ⟨sl, hL⟩ := u.any ho I.free (by simp)
  exact I.step (g' := s.gens) (d' := s.drawn) (ch := []) (fun _ z => nomatch z) (fun b o _ hb _ e n => u.keep b o e n hb (by simp)) (fun b o _ hb _ e n => u.slot b o e n hb (by simp)) (fun b o _ e n => u.free b o e n (by simp)) (fun b o _ e => u.there b o e (by simp)) u.tups u.frzs u.tbls (fun m' hm => by
    obtain ⟨o', es', ep', ho', r'⟩ := hm
    rw [ho] at ho'; cases ho'
    exact ⟨_, es', ep', hL, r'⟩) hok I.bare
/-- behind a call (or a comprehension's block): the slots of this frame may have changed too, the records at ch may have turned -/
theorem Inv.call {g' : Array GenState} {t' : Nat} {d' : Drawn} {ch : List Addr} (I : Inv X pins σ H s) (u : Un (frs X.stack) ch H H' s.heap h') (hok : HOk X.prog X.w H' h') (hg : AllBare g')
    (hch : ∀ b ∈ ch, (b ∈ X.ex ∨ X.s₀.heap.objs.size ≤ b) ∧ b ≠ X.env.locals ∧ (∀ x c, X.env.cells.lookup x = some c → c ≠ b) ∧ ∀ p ∈ X.pn ++ pins, p.1 ≠ b) :
    Inv X pins σ H' { s with heap := h', gens := g', drawn := d', toks := t' } := by
  obtain ⟨m, ⟨o, es, ep, ho, r⟩, _⟩ := id I.loc
  obtain ⟨sl, hL⟩ := u.any ho I.free fun z => (hch _ z).2.1 rfl
  exact I.step (ch := ch) hch (fun b o hL hb hc e n => u.keep b o e n (fun z => (List.mem_cons.mp (I.stkSub b z)).elim hL hb) hc) (fun b o _ _ hc e n => u.any e n hc) (fun b o hc e n => u.free b o e n hc) (fun b o hc e => u.there b o e hc) u.tups u.frzs u.tbls (fun m' hm => by
    obtain ⟨o', es', ep', ho', r'⟩ := hm
    rw [ho] at ho'; cases ho'
    exact ⟨_, es', ep', hL, r'⟩) hok hg
/-- an untracked record of ours (an iterator) has turned -/
theorem Inv.turned {t' : Nat} {it : Addr} (I : Inv X pins σ H s) (k : ∀ b o, b ≠ it → s.heap.get? b = some o → h'.get? b = some o) (hn : H it = none) (hL : it ≠ X.env.locals)
    (h1 : it ∈ X.ex ∨ X.s₀.heap.objs.size ≤ it) (h2 : ∀ x c, X.env.cells.lookup x = some c → c ≠ it) (h3 : ∀ p ∈ X.pn ++ pins, p.1 ≠ it) : Inv X pins σ H { s with heap := h', toks := t' } := by
  have nit : ∀ b u, H b = some u → b ≠ it := fun b u e z => by rw [z, hn] at e; cases e
  refine I.step (g' := s.gens) (d' := s.drawn) (ch := [it]) (fun b hb => ?_) (fun b o _ _ hc e _ => k b o (fun z => hc (by simp [z])) e) (fun b o _ _ hc e _ => ⟨o.slots, k b o (fun z => hc (by simp [z])) e⟩) (fun _ _ _ _ n => n)
    (fun b o hc e => ⟨o, k b o (fun z => hc (by simp [z])) e⟩) (fun _ _ e => e) (fun _ _ _ e => e) (fun b ps e => ⟨#[], by rw [e]; simp⟩) (fun m hm => ?_) (fun b u e => ?_) I.bare
  · have e : b = it := by simpa using hb
    subst e
    exact ⟨h1, hL, h2, h3⟩
  · obtain ⟨o, es, ep, ho, r⟩ := hm
    exact ⟨o, es, ep, k _ o (Ne.symm hL) ho, r⟩
  · refine (I.hok b u e).stay (fun c v hc q => k c v ?_ q) (fun _ q => q) fun _ _ q => q
    rcases hc with z | z
    · rw [z]; exact nit b u e
    · exact nit c _ z
theorem Inv.tok (I : Inv X pins σ H s) (t : Nat) : Inv X pins σ H { s with toks := t } := I.un (h' := s.heap) (t' := t) Un.refl I.hok
/-- all objects kept -/
theorem Inv.kept {t' : Nat} (I : Inv X pins σ H s) (k : ∀ b u, s.heap.get? b = some u → h'.get? b = some u) : Inv X pins σ H { s with heap := h', toks := t' } := I.un (Un.kept k) (I.hok.kept k)
/-- a new object laid and tracked -/
theorem Inv.laid {a : Addr} {o : HO} {t' : Nat} (I : Inv X pins σ H s) (k : ∀ b u, s.heap.get? b = some u → h'.get? b = some u) (hp : s.heap.objs.size ≤ a) (new : ObjOk X.prog X.w (upd H a o) h' a o) :
    Inv X pins σ (upd H a o) { s with heap := h', toks := t' } := I.un (Un.laid k hp (I.hok.fresh hp)) (I.hok.laid k hp new)
/-- an object written -/
theorem Inv.write {x e : Addr} {o : HO} {t' : Nat} (I : Inv X pins σ H s) (mu : Mut (H x)) (he : e = x ∨ H e = some (.own x)) (k : ∀ b u, b ≠ e → s.heap.get? b = some u → h'.get? b = some u) (heo : ∃ u, h'.get? e = some u)
    (new : ObjOk X.prog X.w (upd H x o) h' x o) : Inv X pins σ (upd H x o) { s with heap := h', toks := t' } := I.un (Un.write mu he k heo) (I.hok.write mu he k heo new)
theorem Inv.pins_of {pins' : List (Addr × Obj)} (I : Inv X pins σ H s) (h : ∀ p ∈ pins', s.heap.get? p.1 = some p.2 ∧ H p.1 = none ∧ p.1 ≠ X.env.locals ∧ p.1 ∉ X.fs ∧ ∀ v, p.2.data ≠ .cell v) : Inv X pins' σ H s :=
  ⟨I.ok, I.os, I.bare, I.base, I.loc, I.cell, I.free, I.freeC, fun p hp => (List.mem_append.mp hp).elim (fun z => I.pin p (List.mem_append_left _ z)) (h p), I.hok, I.len⟩

theorem nodup_ix {N : List Str} (hN : N.Nodup) {i j : Nat} {x : Str} (a : N[i]? = some x) (b : N[j]? = some x) : i = j := by
  obtain ⟨h1, e1⟩ := List.getElem?_eq_some_iff.mp a
  obtain ⟨h2, e2⟩ := List.getElem?_eq_some_iff.mp b
  exact (List.getElem_inj hN).mp (e1.trans e2.symm)

/-- a name is stored; what changed -/
theorem store_ok2 {M : Model} {A : Around} {E : Value → Shared → Prop} {i : Nat} {x : Str} {v : V} {u : Value} {Q : Unit → Shared → Prop} (I : Inv X pins σ H s) (hN : X.N.Nodup) (hi : X.N[i]? = some x) (hx : Loc X.env.scope x) (r : RelV v u)
    (h : ∀ s', Inv X pins (σ.set i (some v)) H s' → (∃ a, Heap.SameBut a s.heap s'.heap ∧ (a = X.env.locals ∨ X.env.cells.lookup x = some a)) → Q () s') (hf : X.fn x = true ∨ X.env.scope.names.lookup x = some .local := by first | exact .inl rfl | exact .inr rfl | assumption) : wpAny M A (storeName X.env x u) Q E s := by
  obtain ⟨m, hn, hl⟩ := id I.loc
  have hcls : (X.env.scope.kind == .class || (X.env.scope.kind == .module && X.env.locals != X.env.globals)) = false := by rw [I.ok.kind]; rfl
  have hiσ : i < σ.length := by rw [I.len]; exact (List.getElem?_eq_some_iff.mp hi).1
  have cne := I.cne
  have tracked : ∀ {a : Addr} {h' : Heap}, (∃ o, s.heap.get? a = some o ∧ H a = none) → Heap.SameBut a s.heap h' → HOk X.prog X.w H h' := fun {a h'} ha hs b ob e => by
    obtain ⟨_, _, hfree⟩ := ha
    refine (I.hok b ob e).stay (fun c w' hc q => (hs.2 c ?_).trans q) (fun _ q => q) fun _ _ q => q
    rintro rfl
    rcases hc with rfl | hc
    · rw [hfree] at e; cases e
    · rw [hfree] at hc; cases hc
  rcases hx with hk | hk
  · refine wpAny_storeName_local hk hn (fun h' hn' hs => ?_) hcls
    obtain ⟨oL, _, _, hoL, _⟩ := id hn
    refine h _ ⟨I.ok, I.os, I.bare, ⟨fun b o e n hb hx => ?_, fun b o e n hb hx => ?_, I.base.free, fun b o e hx => ?_, I.base.tups, I.base.frzs, I.base.tbls⟩, ⟨_, hn', fun j y v' e1 e2 e3 => ?_⟩, fun y c e => ?_, I.free, I.freeC, fun p hp => ?_, tracked ⟨oL, hoL, I.free⟩ hs, by simpa using I.len⟩ ⟨_, hs, .inl rfl⟩
    · exact (hs.2 b (Nat.ne_of_lt (Nat.lt_of_lt_of_le (Heap.lt_size e) I.ok.above))).trans (I.base.keep b o e n hb hx)
    · obtain ⟨sl, e1⟩ := I.base.slot b o e n hb hx
      exact ⟨sl, (hs.2 b (Nat.ne_of_lt (Nat.lt_of_lt_of_le (Heap.lt_size e) I.ok.above))).trans e1⟩
    · obtain ⟨o', e1⟩ := I.base.there b o e hx
      exact ⟨o', (hs.2 b (Nat.ne_of_lt (Nat.lt_of_lt_of_le (Heap.lt_size e) I.ok.above))).trans e1⟩
    · by_cases hj : j = i
      · subst hj
        rw [hi] at e1; cases e1
        rw [List.getElem?_set_self hiσ] at e2
        cases e2
        exact ⟨u, r, .inl ⟨hk, by simp⟩⟩
      · rw [List.getElem?_set_ne (Ne.symm hj)] at e2
        obtain ⟨u', r', q⟩ := hl j y v' e1 e2 e3
        refine ⟨u', r', ?_⟩
        rcases q with ⟨k, e⟩ | ⟨k, c, e, z⟩
        · refine .inl ⟨k, ?_⟩
          have : y ≠ x := fun e => hj (nodup_ix hN e1 (e ▸ hi))
          simp [this, e]
        · exact .inr ⟨k, c, e, z.sameBut hs (cne y c e)⟩
    · obtain ⟨w', z⟩ := I.cell y c e
      exact ⟨w', z.sameBut hs (cne y c e)⟩
    · obtain ⟨e, n, ne, nf, d⟩ := I.pin p hp
      exact ⟨(hs.2 p.1 ne).trans e, n, ne, nf, d⟩
  · have hfn : X.fn x = true := by
      rcases hf with z | z
      · exact z
      · rw [z] at hk; cases hk
    obtain ⟨c, hc⟩ := I.ok.has x (.inl hk)
    obtain ⟨w', z⟩ := I.cell x c hc
    refine wpAny_storeName_cell I.ok.kind hk hc z (fun h' hc' hs => ?_)
    obtain ⟨oc, hoc, hocd⟩ := id z
    refine h { s with heap := h' } ⟨I.ok, I.os, I.bare, ⟨fun b o e n hb hx => ?_, fun b o e n hb hx => ?_, I.base.free, fun b o e hx => ?_, I.base.tups, I.base.frzs, I.base.tbls⟩, ⟨m, hn.sameBut hs (Ne.symm (cne x c hc)), fun j y v' e1 e2 e3 => ?_⟩, fun y c' e => ?_, I.free, I.freeC, fun p hp => ?_, tracked ⟨oc, hoc, I.freeC x c hc⟩ hs, by simpa using I.len⟩ ⟨c, hs, .inr hc⟩
    · exact (hs.2 b (Nat.ne_of_lt (Nat.lt_of_lt_of_le (Heap.lt_size e) (I.ok.cab x c hfn hc)))).trans (I.base.keep b o e n hb hx)
    · obtain ⟨sl, e1⟩ := I.base.slot b o e n hb hx
      exact ⟨sl, (hs.2 b (Nat.ne_of_lt (Nat.lt_of_lt_of_le (Heap.lt_size e) (I.ok.cab x c hfn hc)))).trans e1⟩
    · obtain ⟨o', e1⟩ := I.base.there b o e hx
      exact ⟨o', (hs.2 b (Nat.ne_of_lt (Nat.lt_of_lt_of_le (Heap.lt_size e) (I.ok.cab x c hfn hc)))).trans e1⟩
    · by_cases hj : j = i
      · subst hj
        rw [hi] at e1; cases e1
        rw [List.getElem?_set_self hiσ] at e2
        cases e2
        exact ⟨u, r, .inr ⟨.inl hk, c, hc, hc'⟩⟩
      · rw [List.getElem?_set_ne (Ne.symm hj)] at e2
        obtain ⟨u', r', q⟩ := hl j y v' e1 e2 e3
        refine ⟨u', r', ?_⟩
        rcases q with q | ⟨k, c', e, z'⟩
        · exact .inl q
        · refine .inr ⟨k, c', e, z'.sameBut hs ?_⟩
          rintro rfl
          exact hj (nodup_ix hN e1 (I.ok.inj _ _ _ e hc ▸ hi))
    · by_cases hcc : c' = c
      · subst hcc; exact ⟨_, hc'⟩
      · obtain ⟨w2, z2⟩ := I.cell y c' e
        exact ⟨w2, z2.sameBut hs hcc⟩
    · obtain ⟨e, n, ne, nf, d⟩ := I.pin p hp
      refine ⟨(hs.2 p.1 ?_).trans e, n, ne, nf, d⟩
      intro q
      rw [q, hoc] at e
      have q' : oc = p.2 := Option.some.inj e
      exact d w' (by rw [← q']; exact hocd)
theorem store_ok {M : Model} {A : Around} {E : Value → Shared → Prop} {i : Nat} {x : Str} {v : V} {u : Value} {Q : Unit → Shared → Prop} (I : Inv X pins σ H s) (hN : X.N.Nodup) (hi : X.N[i]? = some x) (hx : Loc X.env.scope x) (r : RelV v u)
    (h : ∀ s', Inv X pins (σ.set i (some v)) H s' → Q () s') (hf : X.fn x = true ∨ X.env.scope.names.lookup x = some .local := by first | exact .inl rfl | exact .inr rfl | assumption) : wpAny M A (storeName X.env x u) Q E s :=
  store_ok2 I hN hi hx r (fun s' I' _ => h s' I') hf
end

/-! ### the judgements -/
/-- an exception: its class, its own dict's address (where it has one), the abstract heap behind it -/
abbrev XK := Value → Option Addr → Hp → Prop
abbrev St := List (Option V)
abbrev VK := V → Hp → Prop
/-- an expression's reading; a test's; an argument list's -/
abbrev TE := St → Hp → VK → Prop
abbrev TT := St → Hp → (Bool → Hp → Prop) → Prop
abbrev TA := St → Hp → (List V → Hp → Prop) → Prop
/-- what is wanted behind a statement -/
structure Ends where
  nx : St → Hp → Prop
  rt : VK
  bk : St → Hp → Prop := fun _ _ => False
  ct : St → Hp → Prop := fun _ _ => False
abbrev TS := Ends → St → Hp → Prop

def EP (X : Cx) (pins : List (Addr × Obj)) (σ : St) (Q : VK) (u : Value) (s' : Shared) : Prop := ∃ v H', Inv X pins σ H' s' ∧ RelV v u ∧ Q v H'
def TP (X : Cx) (pins : List (Addr × Obj)) (σ : St) (Q : Bool → Hp → Prop) (b : Bool) (s' : Shared) : Prop := ∃ H', Inv X pins σ H' s' ∧ Q b H'
def AP (X : Cx) (pins : List (Addr × Obj)) (σ : St) (Q : List V → Hp → Prop) (us : List Value) (s' : Shared) : Prop := ∃ vs H', Inv X pins σ H' s' ∧ Vals vs us ∧ Q vs H'
def SP (X : Cx) (pins : List (Addr × Obj)) (D : Ends) (f : Flow) (s' : Shared) : Prop :=
  match f with
  | .next => ∃ σ' H', Inv X pins σ' H' s' ∧ D.nx σ' H'
  | .brk => ∃ σ' H', Inv X pins σ' H' s' ∧ D.bk σ' H'
  | .cont => ∃ σ' H', Inv X pins σ' H' s' ∧ D.ct σ' H'
  | .ret u => ∃ v σ' H', Inv X pins σ' H' s' ∧ RelV v u ∧ D.rt v H'

def PE (X : Cx) (e : Expr) (t : TE) : Prop :=
  ∀ (pins : List (Addr × Obj)) (s : Shared) (σ : St) (H : Hp) (Q : VK), Inv X pins σ H s → t σ H Q → wpAny (model X.prog X.w) X.A (eval e X.env) (EP X pins σ Q) X.xe s
def PT (X : Cx) (e : Expr) (t : TT) : Prop :=
  ∀ (pins : List (Addr × Obj)) (s : Shared) (σ : St) (H : Hp) (Q : Bool → Hp → Prop), Inv X pins σ H s → t σ H Q → wpAny (model X.prog X.w) X.A (isTrue e X.env (eval e X.env)) (TP X pins σ Q) X.xe s
/-- a test whatever its 'whole' is (and, or) -/
def PW (X : Cx) (e : Expr) (t : TT) : Prop :=
  ∀ (whole : Sem Value) (pins : List (Addr × Obj)) (s : Shared) (σ : St) (H : Hp) (Q : Bool → Hp → Prop), Inv X pins σ H s → t σ H Q → wpAny (model X.prog X.w) X.A (isTrue e X.env whole) (TP X pins σ Q) X.xe s
theorem PW.pt {X : Cx} {e : Expr} {t : TT} (h : PW X e t) : PT X e t := h _
/-- an argument list (no star), from the left -/
def PA (X : Cx) (es : List Expr) (t : TA) : Prop :=
  ∀ (pos : Pos) (pins : List (Addr × Obj)) (s : Shared) (σ : St) (H : Hp) (Q : List V → Hp → Prop), Inv X pins σ H s → t σ H Q → wpAny (model X.prog X.w) X.A (spliced (backTo pos (starEach es X.env))) (AP X pins σ Q) X.xe s
def PS (X : Cx) (st : Stmt) (t : TS) : Prop :=
  ∀ (pins : List (Addr × Obj)) (s : Shared) (σ : St) (H : Hp) (D : Ends), Inv X pins σ H s → t D σ H → wpAny (model X.prog X.w) X.A (exec st X.env) (SP X pins D) X.xe s
def PSs (X : Cx) (st : List Stmt) (t : TS) : Prop :=
  ∀ (pins : List (Addr × Obj)) (s : Shared) (σ : St) (H : Hp) (D : Ends), Inv X pins σ H s → t D σ H → wpAny (model X.prog X.w) X.A (execs st X.env) (SP X pins D) X.xe s
/-- weaken the end -/
theorem thn {α : Type} {t : Sem α} {Q Q' : α → Shared → Prop} {M : Model} {A : Around} {E : Value → Shared → Prop} {s : Shared} (h : wpAny M A t Q E s) (hQ : ∀ a s, Q a s → Q' a s) : wpAny M A t Q' E s := wpAny_mono h hQ fun _ _ x => x
end L2

namespace L2
open PySem PySem.Spec PyProof.Rows
section
variable {X : Cx}


/-! ### names and constants -/
def tVar (i : Nat) : TE := fun σ H Q => ∃ v, σ[i]? = some (some v) ∧ Q v H
def tC (v : V) : TE := fun _ H Q => Q v H
theorem pe_var {i : Nat} {x : Str} {pos : Pos} (hN : X.N[i]? = some x) (hv : Vis X.env.scope x) (hd : (x == ("__debug__" : Str)) = false := by decide) (hcd : (x == ("__classdict__" : Str)) = false := by decide) : PE X (.Name x pos) (tVar i) := by
  intro pins s σ H Q I h
  obtain ⟨v, e, h⟩ := h
  obtain ⟨m, hn, hl⟩ := I.loc
  obtain ⟨u, r, l⟩ := hl i x v hN e hv
  have fin : EP X pins σ Q u s := ⟨v, H, I, r, h⟩
  rcases l with ⟨hk, hm⟩ | ⟨hk, c, hc, hcell⟩
  · exact wpAny_Name (wpAny_loadName_local I.ok.kind hk hn hm fin) hd
  · rcases hk with hk | hk
    · exact wpAny_Name (wpAny_loadName_cell I.ok.kind hk hc hcell fin) hd
    · exact wpAny_Name (wpAny_loadName_free I.ok.kind hk hc hcell fin hcd) hd
theorem pe_int {i j pos} : PE X (.Constant (.int i) j pos) (tC (.int i)) := fun _ _ _ H _ I h => wpAny_Constant_int ⟨.int i, H, I.tok _, ⟨_, rfl⟩, h⟩
theorem pe_bl {b j pos} : PE X (.Constant (.bool b) j pos) (tC (.bl b)) := fun _ _ _ H _ I h => Constant_bool ⟨.bl b, H, I, rfl, h⟩
theorem pe_non {j pos} : PE X (.Constant .none j pos) (tC .non) := fun _ _ _ H _ I h => Constant_none ⟨.non, H, I, rfl, h⟩
theorem pe_str {x j pos} : PE X (.Constant (.str x) j pos) (tC (.str x)) := fun _ _ _ H _ I h => Calls.Constant_str ⟨.str x, H, I.tok _, ⟨_, rfl⟩, h⟩

/-- a global name of the def -/
def Gl (X : Cx) (x : Str) : Prop := X.env.kindOf x = some .globalImplicit
theorem ld_glob {E : Value → Shared → Prop} {pins : List (Addr × Obj)} {s : Shared} {σ : St} {H : Hp} {x : Str} {u : Value} {pos : Pos} {Q : Value → Shared → Prop} (I : Inv X pins σ H s) (hg : Gl X x) (hm : X.mg x = some u) (h : Q u s)
    (hd : (x == ("__debug__" : Str)) = false := by decide) : wpAny (model X.prog X.w) X.A (eval (.Name x pos) X.env) Q E s :=
  Calls.Name_function_global I.ok.kind hg (Calls.loadGlobal_global (by rw [I.ok.glob]; exact I.mod.glob.keeps I.bk) hm h) hd
theorem ld_blt {E : Value → Shared → Prop} {pins : List (Addr × Obj)} {s : Shared} {σ : St} {H : Hp} {x : Str} {u : Value} {pos : Pos} {Q : Value → Shared → Prop} (I : Inv X pins σ H s) (hg : Gl X x) (hm : X.mg x = none) (hv : bootBuiltins x = some u) (h : Q u s)
    (hn : x ≠ "__name__" := by decide) (hd : (x == ("__debug__" : Str)) = false := by decide) : wpAny (model X.prog X.w) X.A (eval (.Name x pos) X.env) Q E s := by
  obtain ⟨mb, h1, h2⟩ := I.mod.blt
  exact Calls.Name_function_global I.ok.kind hg (Calls.loadGlobal_builtin (by rw [I.ok.glob]; exact I.mod.glob.keeps I.bk) hm (by rw [I.ok.blt]; exact h1.keeps I.bk) ((h2 x hn).trans hv) h) hd
/-- a module's constant, a class, a function, as a value -/
theorem pe_glob {x : Str} {v : V} {u : Value} {pos : Pos} (hg : Gl X x) (hm : X.mg x = some u) (r : RelV v u) (hd : (x == ("__debug__" : Str)) = false := by decide) : PE X (.Name x pos) (tC v) :=
  fun _ _ _ H _ I h => ld_glob I hg hm ⟨v, H, I, r, h⟩ hd
theorem pe_bltn {x : Str} {v : V} {u : Value} {pos : Pos} (hg : Gl X x) (hm : X.mg x = none) (hv : bootBuiltins x = some u) (r : RelV v u) (hn : x ≠ "__name__" := by decide) (hd : (x == ("__debug__" : Str)) = false := by decide) : PE X (.Name x pos) (tC v) :=
  fun _ _ _ H _ I h => ld_blt I hg hm hv ⟨v, H, I, r, h⟩ hn hd

/-! ### arithmetic -/
variable {a b : Expr} {ta tb : TE} {pos : Pos}

/-! ### comparisons -/
def PC (X : Cx) (op : CmpOp) (a b : Expr) (t : TE) : Prop :=
  ∀ (pins : List (Addr × Obj)) (s : Shared) (σ : St) (H : Hp) (Q : VK), Inv X pins σ H s → t σ H Q →
    wpAny (model X.prog X.w) X.A (eval a X.env) (fun v s₁ => wpAny (model X.prog X.w) X.A (eval b X.env) (fun u s₂ => wpAny (model X.prog X.w) X.A (compareOp op v u) (EP X pins σ Q) X.xe s₂) X.xe s₁) X.xe s
theorem nobehind (b : Expr) {op : CmpOp} (h : op ≠ .In) (h2 : op ≠ .NotIn) : behindInMarks op b = false := by
  have e1 : (op == CmpOp.In) = false := by cases op <;> first | rfl | exact absurd rfl h
  have e2 : (op == CmpOp.NotIn) = false := by cases op <;> first | rfl | exact absurd rfl h2
  cases b <;> simp [behindInMarks, e1, e2]
/-- is None -/
def tIsN (ta : TE) : TE := fun σ H Q => ta σ H fun x H1 => Q (.bl (decide (x = .non))) H1
theorem RelV.none_iff {x : V} {v : Value} (r : RelV x v) : (v == Value.none) = decide (x = .non) := by
  cases x with
  | non => cases r; rfl
  | bl _ => cases r; rfl
  | int _ => obtain ⟨t, rfl⟩ := r; rfl
  | str _ => obtain ⟨t, rfl⟩ := r; rfl
  | byt _ => obtain ⟨t, rfl⟩ := r; rfl
  | flt _ => obtain ⟨t, rfl⟩ := r; rfl
  | ref _ => cases r; rfl
  | ty _ => cases r; rfl
theorem pc_isN {j pos'} (ha : PE X a ta) : PC X .Is a (.Constant .none j pos') (tIsN ta) := by
  intro pins s σ H Q I h
  refine thn (ha pins s σ H _ I h) fun v s1 ⟨x, H1, I1, r1, q1⟩ => ?_
  exact Constant_none (is_none_gen ⟨.bl _, H1, I1, by rw [r1.none_iff]; rfl, q1⟩)
/-- a comparison as a value, as a test -/
def tB (t : TE) : TT := fun σ H Q => t σ H fun x H1 => ∃ c, x = .bl c ∧ Q c H1
theorem pt_cmp {op : CmpOp} {t : TE} (h : PC X op a b t) (h1 : behindInMarks op b = false := by first | exact nobehind _ (by decide) (by decide) | rfl) : PT X (.Compare a [op] [b] pos) (tB t) := by
  intro pins s σ H Q I hw
  refine wpAny_isTrue_Compare1 (thn (h pins s σ H _ I hw) fun v s1 h1 => thn h1 fun u s2 h2 => thn h2 fun c s3 ⟨x, H1, I1, r1, q1⟩ => ?_) h1
  obtain ⟨d, rfl, q⟩ := q1
  cases r1
  exact wpAny_truthy_bool ⟨H1, I1, q⟩
/-- an expression whose value is a bool, as a test -/
theorem pt_val {e : Expr} {t : TE} (h : PE X e t) (he : ∀ whole, isTrue e X.env whole = (do let v ← whole; standAt e.pos; holding [v] (truthy v)) := by intro _; rfl) : PT X e (tB t) := by
  intro pins s σ H Q I hw
  refine isTrue_plain (thn (h pins s σ H _ I hw) fun v s1 ⟨x, H1, I1, r1, q1⟩ => ?_) (he _)
  obtain ⟨d, rfl, q⟩ := q1
  cases r1
  exact wpAny_truthy_bool ⟨H1, I1, q⟩

/-! ### and, or, not -/
variable {tA tB' : TT} {rest : List Expr}
def tAnd (t u : TT) : TT := fun σ H Q => t σ H fun c H1 => if c = true then u σ H1 Q else Q false H1
def tOr (t u : TT) : TT := fun σ H Q => t σ H fun c H1 => if c = true then Q true H1 else u σ H1 Q
def tNot (t : TT) : TT := fun σ H Q => t σ H fun c H1 => Q (!c) H1
theorem pw_and1 (ha : PT X a tA) : PW X (.BoolOp .And [a] pos) tA := by
  intro wh pins s σ H Q I h
  refine isTrue_and (thn (ha pins s σ H Q I h) fun c s1 e => ?_)
  cases c with
  | true => exact isTrue_and_nil e
  | false => exact e
theorem pw_or1 (ha : PT X a tA) : PW X (.BoolOp .Or [a] pos) tA := by
  intro wh pins s σ H Q I h
  refine isTrue_or (thn (ha pins s σ H Q I h) fun c s1 e => ?_)
  cases c with
  | false => exact isTrue_or_nil e
  | true => exact e
theorem pw_and (ha : PT X a tA) (hb : PW X (.BoolOp .And (b :: rest) pos) tB') : PW X (.BoolOp .And (a :: b :: rest) pos) (tAnd tA tB') := by
  intro wh pins s σ H Q I h
  refine isTrue_and (thn (ha pins s σ H _ I h) fun c s1 ⟨H1, I1, q1⟩ => ?_)
  cases c with
  | true => exact hb wh pins s1 σ H1 Q I1 q1
  | false => exact ⟨H1, I1, q1⟩
theorem pw_or (ha : PT X a tA) (hb : PW X (.BoolOp .Or (b :: rest) pos) tB') : PW X (.BoolOp .Or (a :: b :: rest) pos) (tOr tA tB') := by
  intro wh pins s σ H Q I h
  refine isTrue_or (thn (ha pins s σ H _ I h) fun c s1 ⟨H1, I1, q1⟩ => ?_)
  cases c with
  | true => exact ⟨H1, I1, q1⟩
  | false => exact hb wh pins s1 σ H1 Q I1 q1
theorem pt_not (ha : PT X a tA) : PT X (.UnaryOp .Not a pos) (tNot tA) := by
  intro pins s σ H Q I h
  exact isTrue_not (ha pins s σ H (fun c H1 => Q (!c) H1) I h)
/-- .. as values (bools) -/
def tAndV (ta tb : TE) : TE := fun σ H Q => ta σ H fun x H1 => ∃ c, x = .bl c ∧ if c = true then tb σ H1 Q else Q (.bl false) H1
def tNotV (ta : TE) : TE := fun σ H Q => ta σ H fun x H1 => ∃ c, x = .bl c ∧ Q (.bl (!c)) H1
theorem pe_one {op} {t : TE} (h : PE X a t) : PE X (.BoolOp op [a] pos) t := fun pins s σ H Q I hw => BoolOp_one (h pins s σ H Q I hw)
theorem pe_and (ha : PE X a ta) (hb : PE X (.BoolOp .And (b :: rest) pos) tb) : PE X (.BoolOp .And (a :: b :: rest) pos) (tAndV ta tb) := by
  intro pins s σ H Q I h
  refine BoolOp_and (thn (ha pins s σ H _ I h) fun v s1 ⟨x, H1, I1, r1, q1⟩ => ?_)
  obtain ⟨c, rfl, q1⟩ := q1
  cases r1
  refine wpAny_truthy_bool ?_
  cases c with
  | true => exact hb pins s1 σ H1 Q I1 q1
  | false => exact ⟨.bl false, H1, I1, rfl, q1⟩
theorem pe_not (ha : PE X a ta) : PE X (.UnaryOp .Not a pos) (tNotV ta) := by
  intro pins s σ H Q I h
  refine UnaryOp_ (thn (ha pins s σ H _ I h) fun v s1 ⟨x, H1, I1, r1, q1⟩ => ?_)
  obtain ⟨c, rfl, q1⟩ := q1
  cases r1
  exact not_of (wpAny_truthy_bool ⟨.bl (!c), H1, I1, rfl, q1⟩)
/-- a if t else b -/
def tIf (t : TT) (ta tb : TE) : TE := fun σ H Q => t σ H fun c H1 => if c = true then ta σ H1 Q else tb σ H1 Q
theorem pe_ifExp {c : Expr} (hc : PT X c tA) (ha : PE X a ta) (hb : PE X b tb) : PE X (.IfExp c a b pos) (tIf tA ta tb) := by
  intro pins s σ H Q I h
  refine wpAny_IfExp (thn (hc pins s σ H _ I h) fun d s1 ⟨H1, I1, q1⟩ => ?_)
  cases d with
  | true => exact ha pins s1 σ H1 Q I1 q1
  | false => exact hb pins s1 σ H1 Q I1 q1
end
end L2

namespace L2
open PySem PySem.Spec PyProof.Rows

/-! ### a list, a tuple that is read: tracked, frozen, or an object of the module -/
def SqL (K : PySem.W.Frag) (H : Hp) (a : Addr) (xs : List V) : Prop :=
  Rd H a (.lst xs) ∨
    ∃ (o : Obj) (its : Array Value) (n : Nat), K.lookup a = some o ∧ o.cls = .type "list" ∧ o.dict = none ∧ o.data = .seq its n ∧ its.size ≤ sizeLine ∧ Vals xs its.toList
def SqT (K : PySem.W.Frag) (H : Hp) (a : Addr) (xs : List V) : Prop :=
  Rd H a (.tup xs) ∨
    ∃ (o : Obj) (its : Array Value) (n : Nat), K.lookup a = some o ∧ o.cls = .type "tuple" ∧ o.data = .seq its n ∧ its.size ≤ sizeLine ∧ Vals xs its.toList
def absV : Value → Option V
  | .none => some .non
  | .bool b => some (.bl b)
  | .int i _ => some (.int i)
  | .str x _ => some (.str x)
  | .bytes b _ => some (.byt b)
  | .float b _ => some (.flt b)
  | .ref a => some (.ref a)
  | .type n => some (.ty n)
  | _ => none
theorem RelV.abs {x : V} {u : Value} (r : RelV x u) : absV u = some x := by
  cases x with
  | non => cases r; rfl
  | bl _ => cases r; rfl
  | int _ => obtain ⟨t, rfl⟩ := r; rfl
  | str _ => obtain ⟨t, rfl⟩ := r; rfl
  | byt _ => obtain ⟨t, rfl⟩ := r; rfl
  | flt _ => obtain ⟨t, rfl⟩ := r; rfl
  | ref _ => cases r; rfl
  | ty _ => cases r; rfl
theorem RelV.inj {x y : V} {u : Value} (r : RelV x u) (q : RelV y u) : x = y := Option.some.inj (r.abs.symm.trans q.abs)
theorem Vals.inj : ∀ {xs ys : List V} {us : List Value}, Vals xs us → Vals ys us → xs = ys
  | _, _, _, .nil, .nil => rfl
  | _, _, _, .cons r t, .cons r' t' => by rw [r.inj r', Vals.inj t t']
section
variable {X : Cx} {pins : List (Addr × Obj)} {σ : St} {H : Hp} {s : Shared} {a : Addr} {xs ys : List V}
theorem SqL.of {K : PySem.W.Frag} (h : H a = some (.lst xs)) : SqL K H a xs := .inl (.inl h)
theorem SqT.of {K : PySem.W.Frag} (h : H a = some (.tup xs)) : SqT K H a xs := .inl (.inl h)
theorem Inv.list (I : Inv X pins σ H s) (h : SqL X.K H a xs) : ∃ its : List Value, Vals xs its ∧ PlainL s.heap a its.toArray ∧ xs.length ≤ sizeLine := by
  rcases h with h | ⟨o, its, n, hk, hc, hd, hs, hz, r⟩
  · obtain ⟨z, its, n, r, e⟩ := h.ok I.hok
    exact ⟨its, r, ⟨_, n, e, rfl, rfl, rfl⟩, z⟩
  · refine ⟨its.toList, r, ⟨o, n, I.kIn a o hk, hc, hd, by simpa using hs⟩, ?_⟩
    have e := r.length
    simp only [Array.length_toList] at e
    omega
theorem Inv.tuple (I : Inv X pins σ H s) (h : SqT X.K H a xs) : ∃ its : List Value, Vals xs its ∧ IsTup s.heap a its.toArray ∧ xs.length ≤ sizeLine := by
  rcases h with h | ⟨o, its, n, hk, hc, hs, hz, r⟩
  · obtain ⟨z, its, r, p⟩ := h.ok I.hok
    exact ⟨its, r, p, z⟩
  · refine ⟨its.toList, r, ⟨o, I.kIn a o hk, hc, n, by simpa using hs⟩, ?_⟩
    have e := r.length
    simp only [Array.length_toList] at e
    omega
theorem Inv.list_inj (I : Inv X pins σ H s) (h : SqL X.K H a xs) (h' : SqL X.K H a ys) : xs = ys := by
  obtain ⟨its, r, ⟨o, n, e, _, _, d⟩, _⟩ := I.list h
  obtain ⟨its', r', ⟨o', n', e', _, _, d'⟩, _⟩ := I.list h'
  rw [e] at e'; cases e'
  rw [d] at d'
  injection d' with d1 _
  have : its = its' := by simpa using congrArg Array.toList d1
  subst this
  exact r.inj r'
end

/-! ### another wish about exceptions -/
abbrev Cx.wish (X : Cx) (E : Value → Shared → Prop) : Cx := { X with xe := E }
/-- no exception leaves -/
abbrev Cx.nox (X : Cx) : Cx := X.wish fun _ _ => False
theorem Cx.Ok.wish {X : Cx} (ok : X.Ok) (E : Value → Shared → Prop) : (X.wish E).Ok :=
  ⟨ok.mod, ok.kind, ok.glob, ok.blt, ok.above, ok.inj, ok.has, ok.cab, ok.hd, ok.frames, ok.stk, ok.exf, ok.bs, ok.bsz, ok.noex, ok.exfs, ok.funs, ok.frf⟩
theorem Cx.Ok.unwish {X : Cx} {E : Value → Shared → Prop} (ok : (X.wish E).Ok) : X.Ok :=
  ⟨ok.mod, ok.kind, ok.glob, ok.blt, ok.above, ok.inj, ok.has, ok.cab, ok.hd, ok.frames, ok.stk, ok.exf, ok.bs, ok.bsz, ok.noex, ok.exfs, ok.funs, ok.frf⟩
section
variable {X : Cx} {pins : List (Addr × Obj)} {σ : St} {H : Hp} {s : Shared} {E : Value → Shared → Prop}
theorem Inv.wish (I : Inv X pins σ H s) (E : Value → Shared → Prop) : Inv (X.wish E) pins σ H s := ⟨I.ok.wish E, I.os, I.bare, I.base, I.loc, I.cell, I.free, I.freeC, I.pin, I.hok, I.len⟩
theorem Inv.unwish (I : Inv (X.wish E) pins σ H s) : Inv X pins σ H s := ⟨I.ok.unwish, I.os, I.bare, I.base, I.loc, I.cell, I.free, I.freeC, I.pin, I.hok, I.len⟩
theorem SP.unwish {D : Ends} {f : Flow} {s' : Shared} (h : SP (X.wish E) pins D f s') : SP X pins D f s' := by
  cases f with
  | next => obtain ⟨σ', H', I, q⟩ := h; exact ⟨σ', H', I.unwish, q⟩
  | brk => obtain ⟨σ', H', I, q⟩ := h; exact ⟨σ', H', I.unwish, q⟩
  | cont => obtain ⟨σ', H', I, q⟩ := h; exact ⟨σ', H', I.unwish, q⟩
  | ret u => obtain ⟨v, σ', H', I, r, q⟩ := h; exact ⟨v, σ', H', I.unwish, r, q⟩
theorem PSs.nox {st : List Stmt} {t : TS} (h : PSs X.nox st t) : PSs X st t := fun pins s σ H D I hw =>
  wpAny_mono (h pins s σ H D (I.wish _) hw) (fun _ _ q => q.unwish) fun _ _ z => False.elim z
end

/-! ### blocks and small statements -/
section
variable {X : Cx} {st : Stmt} {rest : List Stmt} {t u : TS} {e : Expr} {te : TE} {pos : Pos}
def tNext : TS := fun D σ H => D.nx σ H
def tSeq (t u : TS) : TS := fun D σ H => t { D with nx := u D } σ H
theorem pss_nil : PSs X [] tNext := fun _ _ σ H _ I h => wpAny_execs_nil ⟨σ, H, I, h⟩
theorem pss_cons (h1 : PS X st t) (h2 : PSs X rest u) : PSs X (st :: rest) (tSeq t u) := by
  intro pins s σ H D I h
  refine wpAny_execs_cons (thn (h1 pins s σ H { D with nx := u D } I h) fun f s1 q => ?_)
  cases f with
  | next =>
    obtain ⟨σ', H', I', q⟩ := q
    exact h2 pins s1 σ' H' D I' q
  | ret v => exact q
  | brk => exact q
  | cont => exact q
theorem pss_one (h1 : PS X st t) : PSs X [st] t := by
  intro pins s σ H D I h
  refine wpAny_execs_cons (thn (h1 pins s σ H D I h) fun f s1 q => ?_)
  cases f with
  | next => exact wpAny_execs_nil q
  | ret v => exact q
  | brk => exact q
  | cont => exact q
/-- in a def's body nothing is shown -/
theorem Inv.quiet {pins : List (Addr × Obj)} {σ : St} {H : Hp} {s : Shared} (I : Inv X pins σ H s) : interactive X.env = false := by simp [interactive, I.ok.kind]
/-- an expression whose value is dropped -/
def tDrop (te : TE) : TS := fun D σ H => te σ H fun _ H1 => D.nx σ H1
theorem ps_expr (he : PE X e te) (hs : swapsWith e none pos.line X.env = pure false := by rfl) : PS X (.Expr e pos) (tDrop te) := by
  intro pins s σ H D I h
  exact wpAny_Expr_any (thn (he pins s σ H _ I h) fun v s1 ⟨x, H1, I1, r1, q1⟩ => ⟨σ, H1, I1, q1⟩) I.quiet hs
def tRet (te : TE) : TS := fun D σ H => te σ H D.rt
theorem ps_ret (he : PE X e te) : PS X (.Return (some e) pos) (tRet te) := by
  intro pins s σ H D I h
  exact wpAny_Return_some (thn (he pins s σ H _ I h) fun v s1 ⟨x, H1, I1, r1, q1⟩ => ⟨x, σ, H1, I1, r1, q1⟩)
def tIfS (c : TT) (t u : TS) : TS := fun D σ H => c σ H fun b H1 => if b = true then t D σ H1 else u D σ H1
theorem ps_if {c : Expr} {a b : List Stmt} {tc : TT} (hc : PT X c tc) (ha : PSs X a t) (hb : PSs X b u) : PS X (.If c a b pos) (tIfS tc t u) := by
  intro pins s σ H D I h
  refine wpAny_If (thn (hc pins s σ H _ I h) fun d s1 ⟨H1, I1, q1⟩ => ?_)
  cases d with
  | true => exact ha pins s1 σ H1 D I1 q1
  | false => exact hb pins s1 σ H1 D I1 q1
/-- code that the proof never comes to -/
def tNever : TS := fun _ _ _ => False
theorem pss_never {sts : List Stmt} : PSs X sts tNever := fun _ _ _ _ _ _ h => h.elim
end

/-! ### targets -/
abbrev TG := V → St → Hp → (St → Hp → Prop) → Prop
abbrev TGs := List V → St → Hp → (St → Hp → Prop) → Prop
def PG (X : Cx) (target : Expr) (t : TG) : Prop :=
  ∀ (pins : List (Addr × Obj)) (s : Shared) (σ : St) (H : Hp) (v : V) (u : Value) (Q : St → Hp → Prop), Inv X pins σ H s → RelV v u → t v σ H Q →
    wpAny (model X.prog X.w) X.A (assign target X.env u) (fun _ s' => ∃ σ' H', Inv X pins σ' H' s' ∧ Q σ' H') X.xe s
/-- several targets, one after another -/
def PGs (X : Cx) (ts : List Expr) (t : TGs) : Prop :=
  ∀ (pins : List (Addr × Obj)) (s : Shared) (σ : St) (H : Hp) (vs : List V) (us : List Value) (Q : St → Hp → Prop), Inv X pins σ H s → Vals vs us → t vs σ H Q →
    wpAny (model X.prog X.w) X.A (assignInOrder ((assignEach ts X.env).map (·.2)) us) (fun _ s' => ∃ σ' H', Inv X pins σ' H' s' ∧ Q σ' H') X.xe s
section
variable {X : Cx} {pos : Pos}
def gName (i : Nat) : TG := fun v σ H Q => Q (σ.set i (some v)) H
theorem pg_name {i : Nat} {x : Str} (hN : X.N.Nodup) (hi : X.N[i]? = some x) (hx : Loc X.env.scope x) (hf : X.fn x = true ∨ X.env.scope.names.lookup x = some .local := by first | exact .inl rfl | exact .inr rfl | assumption) : PG X (.Name x pos) (gName i) := by
  intro pins s σ H v u Q I r h
  exact wpAny_assign_Name (store_ok I hN hi hx r (fun s' I' => ⟨_, H, I', h⟩) hf)
def gNil : TGs := fun vs σ H Q => vs = [] ∧ Q σ H
def gCons (t : TG) (u : TGs) : TGs := fun vs σ H Q => ∃ v r, vs = v :: r ∧ t v σ H fun σ' H' => u r σ' H' Q
theorem pgs_nil : PGs X [] gNil := by
  intro pins s σ H vs us Q I r h
  obtain ⟨e, h⟩ := h
  subst e
  cases r
  exact assignInOrder_nil ⟨σ, H, I, h⟩
theorem pgs_cons {e : Expr} {es : List Expr} {t : TG} {u : TGs} (h1 : PG X e t) (h2 : PGs X es u)
    (hs : (assignEach (e :: es) X.env).map (·.2) = assign e X.env :: (assignEach es X.env).map (·.2) := by rfl) : PGs X (e :: es) (gCons t u) := by
  intro pins s σ H vs us Q I r h
  obtain ⟨v, vr, e1, h⟩ := h
  subst e1
  cases r with
  | cons r rr =>
    rw [hs]
    refine assignInOrder_cons (thn (h1 pins s σ H _ _ _ I r h) fun _ s1 ⟨σ1, H1, I1, q1⟩ => ?_)
    exact h2 pins s1 σ1 H1 _ _ Q I1 rr q1
/-- (a, b, ..) = a tuple of that length -/
def gTup (K : PySem.W.Frag) (n : Nat) (t : TGs) : TG := fun v σ H Q => ∃ a xs, v = .ref a ∧ SqT K H a xs ∧ xs.length = n ∧ t xs σ H Q
theorem pg_tup {es : List Expr} {k : Nat} {t : TGs} {n : Nat} (hc : X.calm = true) (h : PGs X es t)
    (hn : (assignEach es X.env).length = n := by rfl) (hst : (assignEach es X.env).findIdx? (·.1) = none := by rfl) : PG X (.Tuple es k pos) (gTup X.K n t) := by
  intro pins s σ H v u Q I r hw
  obtain ⟨a, xs, e1, hq, hl, hw⟩ := hw
  subst e1
  cases r
  obtain ⟨its, rv, ht, hz⟩ := I.tuple hq
  refine assign_Tuple_tuple (I.ok.hd hc) ht (by simp [hn, ← hl, rv.length]) hst fun h' hx => ?_
  have I1 : Inv X pins σ H { s with heap := h' } := I.kept (t' := s.toks) fun b o e => hx b o (Nat.ne_of_lt (Heap.lt_size e)) e
  exact h pins _ σ H xs _ Q I1 (by simpa using rv) hw
/-- target = value -/
def tAsg (te : TE) (g : TG) : TS := fun D σ H => te σ H fun x H1 => g x σ H1 D.nx
theorem ps_asg {tg e : Expr} {te : TE} {g : TG} (he : PE X e te) (hg : PG X tg g) (hs : swapsWithSole [tg] e pos.line X.env = pure false := by rfl) (hw : swappedStores [tg] e X.env = pure none := by rfl)
    (h1 : (assignEach [tg] X.env).map (·.2) = [assign tg X.env] := by rfl) : PS X (.Assign [tg] e pos) (tAsg te g) := by
  intro pins s σ H D I h
  refine wpAny_Assign_stores (thn (he pins s σ H _ I h) fun v s1 ⟨x, H1, I1, r1, q1⟩ => ?_) hs hw
  rw [h1]
  exact thn (hg pins s1 σ H1 x v _ I1 r1 q1) fun _ s2 q => q
/-- name = value -/
theorem ps_set {i : Nat} {x : Str} {e : Expr} {te : TE} {pos' : Pos} (hN : X.N.Nodup) (hi : X.N[i]? = some x) (hx : Loc X.env.scope x) (he : PE X e te) (hs : swapsWith e (some (.Name x pos')) pos.line X.env = pure false := by rfl) (hf : X.fn x = true ∨ X.env.scope.names.lookup x = some .local := by first | exact .inl rfl | exact .inr rfl | assumption) :
    PS X (.Assign [.Name x pos'] e pos) (tAsg te (gName i)) := by
  intro pins s σ H D I h
  refine wpAny_Assign_Name (thn (he pins s σ H _ I h) fun v s1 ⟨y, H1, I1, r1, q1⟩ => ?_) hs
  exact store_ok I1 hN hi hx r1 (fun s2 I2 => ⟨_, H1, I2, q1⟩) hf
end

/-! ### while -/
section
variable {X : Cx} {pos : Pos}
/-- the invariant W with its measure -/
def tWhile (c : TT) (tb : TS) : TS := fun D σ H => ∃ W : Nat → St → Hp → Prop, (∃ m, W m σ H) ∧ ∀ m σ H, W m σ H →
  c σ H fun b H1 => if b = true then ∃ N : St → Hp → Prop, (∀ σ' H', N σ' H' → ∃ m', m' < m ∧ W m' σ' H') ∧ tb { D with nx := N, ct := N, bk := D.nx } σ H1 else D.nx σ H1
theorem ps_while {c : Expr} {body : List Stmt} {tc : TT} {tb : TS} (hp : PassesOwn (model X.prog X.w) X.A X.env X.xe) (hc : PT X c tc) (hb : PSs X body tb) : PS X (.While c body [] pos) (tWhile tc tb) := by
  intro pins s σ H D I h
  obtain ⟨W, ⟨m0, w0⟩, turn⟩ := h
  refine wpAny_While (codeAny_whileLoop (fun n s' => ∃ σ' H', Inv X pins σ' H' s' ∧ W n σ' H') ?_ m0 ⟨σ, H, I, w0⟩)
  rintro n s1 ⟨σ1, H1, I1, w1⟩
  refine wpAny_passesOwn hp (thn (hc pins s1 σ1 H1 _ I1 (turn n σ1 H1 w1)) fun b s2 ⟨H2, I2, q2⟩ => ?_)
  cases b with
  | true =>
    obtain ⟨N, hN, q2⟩ := q2
    rw [if_pos rfl]
    refine wpAny_passesOwn hp (thn (hb pins s2 σ1 H2 _ I2 q2) fun f s3 q3 => ?_)
    cases f with
    | next =>
      obtain ⟨σ3, H3, I3, n3⟩ := q3
      obtain ⟨m', hm, w3⟩ := hN σ3 H3 n3
      exact ⟨m', hm, σ3, H3, I3, w3⟩
    | cont =>
      obtain ⟨σ3, H3, I3, n3⟩ := q3
      obtain ⟨m', hm, w3⟩ := hN σ3 H3 n3
      exact ⟨m', hm, σ3, H3, I3, w3⟩
    | brk => exact q3
    | ret v => exact q3
  | false =>
    rw [if_neg Bool.false_ne_true]
    exact wpAny_execs_nil ⟨σ1, H2, I2, q2⟩
end

/-! ### what a loop or a comprehension walks -/
/-- at turn i: it yields x (the heap may grow), or it stops -/
structure It where
  go : Nat → Hp → Prop
  yld : Nat → Hp → V → Hp → Prop
  stop : Nat → Hp → Prop
/-- the iterator's own objects may turn: they are not the frame's, not pinned, younger than the entry (or a comprehension's own) -/
def FpOk (X : Cx) (pins : List (Addr × Obj)) (H : Hp) (b : Addr) : Prop :=
  H b = none ∧ b ≠ X.env.locals ∧ b ∉ X.fs ∧ (b ∈ X.ex ∨ X.s₀.heap.objs.size ≤ b) ∧ (∀ x c, X.env.cells.lookup x = some c → c ≠ b) ∧ ∀ p ∈ X.pn ++ pins, p.1 ≠ b
theorem Inv.fpOk {X : Cx} {pins : List (Addr × Obj)} {σ : St} {H H' : Hp} {s : Shared} {b : Addr} (I : Inv X pins σ H s) (hb : s.heap.objs.size ≤ b) (hn : H' b = none) : FpOk X pins H' b := by
  refine ⟨hn, Nat.ne_of_gt (Nat.lt_of_lt_of_le I.lt hb), I.nofs hb, .inr (Nat.le_trans I.sz hb), fun x c e z => ?_, fun p hp z => ?_⟩
  · obtain ⟨v, q⟩ := I.cell x c e
    exact absurd (Nat.lt_of_lt_of_le q.lt (by rw [z]; exact hb)) (Nat.lt_irrefl _)
  · exact absurd (Nat.lt_of_lt_of_le (Heap.lt_size (I.pin p hp).1) (by rw [z]; exact hb)) (Nat.lt_irrefl _)
structure Turn (P : Program) (w : World) (K : PySem.W.Frag) (tg : Expr) (J : It) (fp : List Addr) (it : Addr) (tn : Nat → Heap → Prop) : Prop where
  mem : it ∈ fp
  obj : ∀ i h, tn i h → ∀ b ∈ fp, ∃ o, h.get? b = some o ∧ ∀ v, o.data ≠ .cell v
  keep : ∀ i h h', tn i h → (∀ b ∈ fp, ∀ o, h.get? b = some o → h'.get? b = some o) → tn i h'
  item : ∀ (X : Cx), X.prog = P → X.w = w → X.K = K → X.calm = true → ∀ (i : Nat) (pins : List (Addr × Obj)) (s : Shared) (σ : St) (H : Hp) (E : Value → Shared → Prop), Inv X pins σ H s → (∀ b ∈ fp, FpOk X pins H b) → tn i s.heap → J.go i H →
    wpAny (model P w) X.A (pyNext (.ref it)) (fun r s1 => ∃ u, r = some u ∧
      wpAny (model P w) X.A (letOwnedTupleGo tg (.ref it) u) (fun _ s2 => ∃ x H', Inv X pins σ H' s2 ∧ RelV x u ∧ J.yld i H x H' ∧ tn (i + 1) s2.heap ∧ ∀ b ∈ fp, H' b = none) E s1) E s
  done : ∀ (X : Cx), X.prog = P → X.w = w → X.K = K → X.calm = true → ∀ (i : Nat) (pins : List (Addr × Obj)) (s : Shared) (σ : St) (H : Hp) (E : Value → Shared → Prop), Inv X pins σ H s → (∀ b ∈ fp, FpOk X pins H b) → tn i s.heap → J.stop i H →
    wpAny (model P w) X.A (pyNext (.ref it)) (fun r s1 => r = none ∧ Inv X pins σ H s1) E s
  self : ∀ (A : Around) (i : Nat) (s : Shared) (Q : Value → Shared → Prop) (E : Value → Shared → Prop), tn i s.heap → Q (.ref it) s → wpAny (model P w) A (pyIter (.ref it)) Q E s
abbrev TI := St → Hp → (It → Hp → Prop) → Prop
/-- an iterator has come -/
def PIE (X : Cx) (pins : List (Addr × Obj)) (σ : St) (tg : Expr) (R : It → Hp → Prop) (itv : Value) (s2 : Shared) : Prop :=
  ∃ (it : Addr) (fp : List Addr) (tn : Nat → Heap → Prop) (J : It) (H' : Hp), itv = .ref it ∧ Inv X pins σ H' s2 ∧ Turn X.prog X.w X.K tg J fp it tn ∧ tn 0 s2.heap ∧ (∀ b ∈ fp, FpOk X pins H' b) ∧ R J H'
def PI (X : Cx) (tg iter : Expr) (wi : TI) : Prop :=
  ∀ (pins : List (Addr × Obj)) (s : Shared) (σ : St) (H : Hp) (R : It → Hp → Prop), Inv X pins σ H s → wi σ H R →
    wpAny (model X.prog X.w) X.A (eval iter X.env) (fun v s1 => wpAny (model X.prog X.w) X.A (pyIter v) (PIE X pins σ tg R) X.xe s1) X.xe s

/-- the step ahead of the store is nothing for an iterator that keeps no tuple -/
theorem go_of {M : Model} {A : Around} {E : Value → Shared → Prop} {s : Shared} {tg : Expr} {it : Addr} {u : Value} {o : Obj} {n : String} {vs : Array Value} {Q : Unit → Shared → Prop} (ho : s.heap.get? it = some o) (hc : o.cls = .type n) (hd : o.data = .fields vs)
    (hn : ["enumerate", "zip", "dict_itemiterator", "dict_reverseitemiterator", "odict_iterator", "itertools.zip_longest", "itertools.pairwise"].contains n = false) (hQ : Q () s) : wpAny M A (letOwnedTupleGo tg (.ref it) u) Q E s := by
  unfold letOwnedTupleGo
  cases tg <;> first
    | exact wpAny_pure hQ
    | (cases u <;> first
        | exact wpAny_pure hQ
        | (refine wpAny_bind (wpAny_load ho ?_)
           rw [hc, hd]
           show wpAny M A (if (["enumerate", "zip", "dict_itemiterator", "dict_reverseitemiterator", "odict_iterator", "itertools.zip_longest", "itertools.pairwise"].contains n && vs[0]? == some (rawInt _)) = true then _ else _) Q E s
           rw [if_neg (by intro h; rw [hn, Bool.false_and] at h; cases h)]
           exact wpAny_pure hQ))

/-- the list at a, as it stands at each turn (a loop may append to it) -/
def Itl (K : PySem.W.Frag) (a : Addr) : It :=
  ⟨fun i H => ∃ xs x, SqL K H a xs ∧ xs[i]? = some x, fun i H x H' => H' = H ∧ ∀ xs, SqL K H a xs → xs[i]? = some x, fun i H => ∃ xs, SqL K H a xs ∧ xs.length ≤ i⟩
/-- lo, lo + 1, .. (n of them) -/
def Itr (lo : Int) (n : Nat) : It := ⟨fun i _ => i < n, fun i H x H' => H' = H ∧ x = .int (lo + i), fun i _ => n ≤ i⟩
theorem turn_list {P : Program} {w : World} {K : PySem.W.Frag} {tg : Expr} (a it : Addr) : Turn P w K tg (Itl K a) [it] it (fun i h => h.IsListIter it a i) where
  mem := by simp
  obj := fun i h st b hb => by
    have e : b = it := by simpa using hb
    subst e
    obtain ⟨o, e, c, d⟩ := st
    exact ⟨o, e, fun v z => by rw [d] at z; cases z⟩
  keep := fun i h h' st k => st.at fun o e => k it (by simp) o e
  item := by
    intro X hP hw hK hc i pins s σ H E I hf st hg
    subst hP hw hK
    obtain ⟨xs, x, hq, hx⟩ := hg
    obtain ⟨its, rv, p, hz⟩ := I.list hq
    obtain ⟨u, hu, ru⟩ := rv.get hx
    obtain ⟨f0, f1, f2, f3, f4, f5⟩ := hf it (by simp)
    refine wpAny_pyNext_list_item st p.isList (x := u) (by simpa using hu) fun h' st' sb => ?_
    have I1 : Inv X pins σ H { s with heap := h' } := I.turned (t' := s.toks) (fun b o hb e => (sb.2 b hb).trans e) f0 f1 f3 f4 f5
    obtain ⟨o, e, c, d⟩ := id st'
    exact ⟨u, rfl, go_of (s := { s with heap := h' }) e c d (by decide) ⟨x, H, I1, ru, ⟨rfl, fun ys hy => by rw [I.list_inj hy hq]; exact hx⟩, st', fun b hb => (hf b hb).1⟩⟩
  done := by
    intro X hP hw hK hc i pins s σ H E I hf st hg
    subst hP hw hK
    obtain ⟨xs, hq, hx⟩ := hg
    obtain ⟨its, rv, p, hz⟩ := I.list hq
    obtain ⟨f0, f1, f2, f3, f4, f5⟩ := hf it (by simp)
    have hl := rv.length
    exact wpAny_pyNext_list_end (I.ok.hd hc) st p.isList (by simp; omega) fun h' eb => ⟨rfl, I.turned (t' := s.toks) (fun b o hb e => eb b o hb e) f0 f1 f3 f4 f5⟩
  self := fun _ _ _ _ _ st h => wpAny_pyIter_listiter st h
theorem turn_range {P : Program} {w : World} {K : PySem.W.Frag} {tg : Expr} (it : Addr) (lo : Int) (n : Nat) : Turn P w K tg (Itr lo n) [it] it (fun i h => IsRangeIter h it (lo + (i : Nat) * 1) ((n : Int) - (i : Nat)) 1) where
  mem := by simp
  obj := fun i h st b hb => by
    have e : b = it := by simpa using hb
    subst e
    exact ⟨_, st, fun v z => by
      have z' : Data.fields _ = Data.cell v := z
      cases z'⟩
  keep := fun i h h' st k => k it (by simp) _ st
  item := by
    intro X hP hw hK hc i pins s σ H E I hf st hg
    subst hP hw hK
    obtain ⟨f0, f1, f2, f3, f4, f5⟩ := hf it (by simp)
    have W := Walks.range (prog := X.prog) (w := X.w) (I.ok.hd hc) it lo 1 n
    refine W.item i s _ _ hg st fun v h' tk hv st' kk => ?_
    obtain ⟨t, rfl⟩ := hv
    have I1 : Inv X pins σ H { s with heap := h', toks := tk } := I.turned (fun b o hb e => kk b o (by simpa using hb) e) f0 f1 f3 f4 f5
    refine ⟨_, rfl, go_of (s := { s with heap := h', toks := tk }) (n := "range_iterator") st' rfl rfl (by decide) ⟨.int (lo + i), H, I1, ⟨t, ?_⟩, ⟨rfl, rfl⟩, st', fun b hb => (hf b hb).1⟩⟩
    rw [Int.mul_one]
  done := by
    intro X hP hw hK hc i pins s σ H E I hf st hg
    subst hP hw hK
    obtain ⟨f0, f1, f2, f3, f4, f5⟩ := hf it (by simp)
    exact wpAny_pyNext_range_end (I.ok.hd hc) st (by have : n ≤ i := hg; omega) fun h' eb => ⟨rfl, I.turned (t' := s.toks) (fun b o hb e => eb b o hb e) f0 f1 f3 f4 f5⟩
  self := fun _ _ _ _ _ st h => wpAny_pyIter_rangeiter st h
end L2

namespace L2
open PySem PySem.Spec PyProof.Rows
section
variable {X : Cx} {tg : Expr}
def iList (K : PySem.W.Frag) (tl : TE) : TI := fun σ H R => tl σ H fun x H1 => ∃ a, x = .ref a ∧ (∃ xs, SqL K H1 a xs) ∧ R (Itl K a) H1
theorem pi_list {l : Expr} {tl : TE} (hl : PE X l tl) : PI X tg l (iList X.K tl) := by
  intro pins s σ H R I h
  refine thn (hl pins s σ H _ I h) fun v s1 ⟨x, H1, I1, r1, q1⟩ => ?_
  obtain ⟨a, e, ⟨xs, hq⟩, q⟩ := q1
  subst e
  cases r1
  obtain ⟨its, rv, p, hz⟩ := I1.list hq
  refine wpAny_pyIter_list p.isList ?_
  refine ⟨s1.heap.objs.size, [s1.heap.objs.size], _, _, H1, rfl, I1.kept (t' := s1.toks) fun b o e => Heap.get?_push_of_some _ e, turn_list a _, ⟨_, Heap.get?_push_size _ rfl, rfl, rfl⟩, fun b hb => ?_, q⟩
  have e : b = s1.heap.objs.size := by simpa using hb
  subst e
  exact I1.fpOk (Nat.le_refl _) (I1.hok.fresh (Nat.le_refl _))
/-- a range object just made, walked -/
theorem range_it {pins : List (Addr × Obj)} {σ : St} {H : Hp} {s : Shared} {R : It → Hp → Prop} {E : Value → Shared → Prop} {lo hi : Int} {t u v : Tok} {tk : Nat} (I : Inv X pins σ H s) (h1 : -(2 ^ 62) ≤ lo) (h2 : lo < 2 ^ 62) (h3 : -(2 ^ 62) ≤ hi) (h4 : hi < 2 ^ 62)
    (q : R (Itr lo (hi - lo).toNat) H) : wpAny (model X.prog X.w) X.A (pyIter (.ref s.heap.objs.size)) (PIE X pins σ tg R) E { s with heap := s.heap.push { cls := .type "range", data := .fields #[.int lo t, .int hi u, .int 1 v] }, toks := tk } := by
  refine wpAny_pyIter_range (IsRange.new ..) (small_one h1 h2 h3 h4) ?_
  have I1 : Inv X pins σ H { s with heap := s.heap.push { cls := .type "range", data := .fields #[.int lo t, .int hi u, .int 1 v] }, toks := tk } := I.kept fun b o e => Heap.get?_push_of_some _ e
  refine ⟨(s.heap.push { cls := .type "range", data := .fields #[.int lo t, .int hi u, .int 1 v] }).objs.size, [(s.heap.push { cls := .type "range", data := .fields #[.int lo t, .int hi u, .int 1 v] }).objs.size], _, _, H, rfl,
    I1.kept (t' := tk) fun b o e => Heap.get?_push_of_some _ e, turn_range _ lo (hi - lo).toNat, ?_, fun b hb => ?_, q⟩
  · have e1 : lo + ((0 : Nat) : Int) * 1 = lo := by simp
    have e2 : (((hi - lo).toNat : Nat) : Int) - ((0 : Nat) : Int) = Builtin.Range.rangeSize lo hi 1 := by rw [rangeSize_one]; split <;> omega
    show IsRangeIter _ _ (lo + ((0 : Nat) : Int) * 1) ((((hi - lo).toNat : Nat) : Int) - ((0 : Nat) : Int)) 1
    rw [e1, e2]
    exact Heap.get?_push_size _ rfl
  · have e : b = (s.heap.push { cls := .type "range", data := .fields #[.int lo t, .int hi u, .int 1 v] }).objs.size := by simpa using hb
    subst e
    exact I1.fpOk (Nat.le_refl _) (I1.hok.fresh (Nat.le_refl _))
def iRng1 (ta : TA) : TI := fun σ H R => ta σ H fun vs H1 => ∃ j : Int, vs = [.int j] ∧ -(2 ^ 62) ≤ j ∧ j < 2 ^ 62 ∧ R (Itr 0 j.toNat) H1
theorem pi_range1 {a : Expr} {ta : TA} {p pos : Pos} (hg : Gl X "range") (hm : X.mg "range" = none) (ha : PA X [a] ta) (hs : starEach [a] X.env = [(false, eval a X.env)] := by rfl) : PI X tg (.Call (.Name "range" p) [a] [] pos) (iRng1 ta) := by
  intro pins s σ H R I h
  refine Call_ (ld_blt I hg hm boot_range (PyProof.Rows.callWith_type1 (thn (ha pos pins s σ H _ I h) fun us s1 ⟨vs, H1, I1, r1, q1⟩ => ?_) hs rfl))
  obtain ⟨j, e, q1, q2, q⟩ := q1
  subst e
  cases r1 with
  | cons r rr =>
    cases rr
    obtain ⟨t, rfl⟩ := r
    exact call_range_1 (range_it I1 (by omega) (by omega) q1 q2 (by simpa using q))

/-! ### for -/
/-- W: the invariant by the turn and a measure; N: what the body is to reach -/
def tFor (wi : TI) (g : TG) (tb : TS) : TS := fun D σ H => wi σ H fun J H1 => ∃ W : Nat → Nat → St → Hp → Prop, (∃ m, W 0 m σ H1) ∧ ∀ i m σ H, W i m σ H →
  (J.stop i H ∧ D.nx σ H) ∨ (J.go i H ∧ ∃ N : St → Hp → Prop, (∀ σ' H', N σ' H' → ∃ m', m' < m ∧ W (i + 1) m' σ' H') ∧ ∀ x H', J.yld i H x H' → g x σ H' fun σ2 H2 => tb { D with nx := N, ct := N, bk := D.nx } σ2 H2)
/-- the records at fp as they stand -/
def pinsAt (fp : List Addr) (h : Heap) : List (Addr × Obj) := fp.filterMap fun b => (h.get? b).map fun o => (b, o)
theorem mem_pinsAt {fp : List Addr} {h : Heap} {b : Addr} {o : Obj} (hb : b ∈ fp) (e : h.get? b = some o) : (b, o) ∈ pinsAt fp h := List.mem_filterMap.mpr ⟨b, hb, by rw [e]; rfl⟩
theorem of_pinsAt {fp : List Addr} {h : Heap} {p : Addr × Obj} (hp : p ∈ pinsAt fp h) : p.1 ∈ fp ∧ h.get? p.1 = some p.2 := by
  obtain ⟨b, hb, e⟩ := List.mem_filterMap.mp hp
  cases q : h.get? b with
  | none => rw [q] at e; cases e
  | some o =>
    rw [q] at e
    have e' : (b, o) = p := Option.some.inj e
    subst e'
    exact ⟨hb, q⟩
theorem Inv.pinned {pins : List (Addr × Obj)} {σ : St} {H : Hp} {s : Shared} {fp : List Addr} (I : Inv X pins σ H s) (hf : ∀ b ∈ fp, FpOk X pins H b) (ho : ∀ b ∈ fp, ∃ o, s.heap.get? b = some o ∧ ∀ v, o.data ≠ .cell v) : Inv X (pins ++ pinsAt fp s.heap) σ H s :=
  I.pins_of fun p hp => (List.mem_append.mp hp).elim (fun z => I.pin p (List.mem_append_right _ z)) fun z => by
    obtain ⟨hb, e⟩ := of_pinsAt z
    obtain ⟨f0, f1, f2, _⟩ := hf p.1 hb
    obtain ⟨o, e', d⟩ := ho p.1 hb
    rw [e] at e'; cases e'
    exact ⟨e, f0, f1, f2, d⟩
theorem Inv.unpinned {pins pl : List (Addr × Obj)} {σ : St} {H : Hp} {s : Shared} (I : Inv X (pins ++ pl) σ H s) : Inv X pins σ H s := I.pins_of fun p hp => I.pin p (List.mem_append_right _ (List.mem_append_left _ hp))
theorem ps_for {iter : Expr} {body : List Stmt} {wi : TI} {g : TG} {tb : TS} {pos : Pos} (hp : PassesOwn (model X.prog X.w) X.A X.env X.xe) (hc : X.calm = true) (hi : PI X tg iter wi) (hg : PG X tg g) (hb : PSs X body tb)
    (hs : ∀ x, foldedSetIterable iter X.env x = pure x := by intro _; rfl) : PS X (.For tg iter body [] pos) (tFor wi g tb) := by
  intro pins s σ H D I h
  refine wpAny_For (thn (hi pins s σ H _ I h) fun v s1 h1 => thn h1 fun itv s2 h2 => ?_) hs
  obtain ⟨it, fp, tn, J, H2, e, I2, T, st2, f2, W, ⟨m0, w0⟩, turn⟩ := h2
  subst e
  -- what stays true of the iterator's objects through the loop
  have stat : ∀ {H' : Hp}, (∀ b ∈ fp, H' b = none) → ∀ b ∈ fp, FpOk X pins H' b := fun hn b hb => ⟨hn b hb, (f2 b hb).2⟩
  refine codeAny_forLoop_any (fun n s' => ∃ i σ' H', Inv X pins σ' H' s' ∧ tn i s'.heap ∧ (∀ b ∈ fp, H' b = none) ∧ W i n σ' H') ?_ m0 ⟨0, σ, H2, I2, st2, fun b hb => (f2 b hb).1, w0⟩
  rintro n s3 ⟨i, σ3, H3, I3, st3, fr3, w3⟩
  rcases turn i n σ3 H3 w3 with ⟨stop, qn⟩ | ⟨go, N, hN, step⟩
  · refine wpAny_passesOwn hp (thn (T.done X rfl rfl rfl hc i pins s3 σ3 H3 X.xe I3 (stat fr3) st3 stop) fun r s4 ⟨hr, I4⟩ => ?_)
    subst hr
    exact wpAny_execs_nil ⟨σ3, H3, I4, qn⟩
  · refine wpAny_passesOwn hp (thn (T.item X rfl rfl rfl hc i pins s3 σ3 H3 X.xe I3 (stat fr3) st3 go) fun r s4 ⟨u, hr, h4⟩ => ?_)
    subst hr
    refine wpAny_passesOwn hp (thn h4 fun _ s5 ⟨x, H5, I5, r5, y5, st5, fr5⟩ => ?_)
    have I5' := I5.pinned (stat fr5) (T.obj _ _ st5)
    refine wpAny_passesOwn hp (thn (hg _ s5 σ3 H5 x u _ I5' r5 (step x H5 y5)) fun _ s6 ⟨σ6, H6, I6, q6⟩ => ?_)
    refine wpAny_passesOwn hp (thn (hb _ s6 σ6 H6 _ I6 q6) fun f s7 q7 => ?_)
    have again : ∀ {σ7 : St} {H7 : Hp}, Inv X (pins ++ pinsAt fp s5.heap) σ7 H7 s7 → N σ7 H7 → ∃ m, m < n ∧ ∃ i σ' H', Inv X pins σ' H' s7 ∧ tn i s7.heap ∧ (∀ b ∈ fp, H' b = none) ∧ W i m σ' H' := fun {σ7 H7} I7 n7 => by
      obtain ⟨m', hm, w7⟩ := hN σ7 H7 n7
      refine ⟨m', hm, i + 1, σ7, H7, I7.unpinned, T.keep _ _ _ st5 fun b hb o e => (I7.pin (b, o) (List.mem_append_right _ (List.mem_append_right _ (mem_pinsAt hb e)))).1, fun b hb => ?_, w7⟩
      obtain ⟨o, e, d⟩ := T.obj _ _ st5 b hb
      exact (I7.pin (b, o) (List.mem_append_right _ (List.mem_append_right _ (mem_pinsAt hb e)))).2.1
    cases f with
    | next => obtain ⟨σ7, H7, I7, n7⟩ := q7; exact again I7 n7
    | cont => obtain ⟨σ7, H7, I7, n7⟩ := q7; exact again I7 n7
    | brk => obtain ⟨σ7, H7, I7, q7⟩ := q7; exact ⟨σ7, H7, I7.unpinned, q7⟩
    | ret v => obtain ⟨x7, σ7, H7, I7, r7, q7⟩ := q7; exact ⟨x7, σ7, H7, I7.unpinned, r7, q7⟩
end

/-! ### the forms one uses -/
/-- over a list that the body leaves as it is -/
theorem for_list {K : PySem.W.Frag} {a : Addr} {xs : List V} {g : TG} {tb : TS} {D : Ends} {σ : St} {H : Hp} (Pv : Nat → St → Hp → Prop) (h0 : Pv 0 σ H) (hl : ∀ i σ H, i ≤ xs.length → Pv i σ H → SqL K H a xs)
    (hs : ∀ i x σ H, xs[i]? = some x → Pv i σ H → g x σ H fun σ2 H2 => tb { D with nx := Pv (i + 1), ct := Pv (i + 1), bk := D.nx } σ2 H2) (hd : ∀ σ H, Pv xs.length σ H → D.nx σ H) :
    ∃ W : Nat → Nat → St → Hp → Prop, (∃ m, W 0 m σ H) ∧ ∀ i m σ H, W i m σ H →
      ((Itl K a).stop i H ∧ D.nx σ H) ∨ ((Itl K a).go i H ∧ ∃ N : St → Hp → Prop, (∀ σ' H', N σ' H' → ∃ m', m' < m ∧ W (i + 1) m' σ' H') ∧ ∀ x H', (Itl K a).yld i H x H' → g x σ H' fun σ2 H2 => tb { D with nx := N, ct := N, bk := D.nx } σ2 H2) := by
  refine ⟨fun i m σ H => m = xs.length - i ∧ i ≤ xs.length ∧ Pv i σ H, ⟨xs.length, by simp, Nat.zero_le _, h0⟩, ?_⟩
  rintro i m σ H ⟨rfl, hi, p⟩
  have q := hl i σ H hi p
  by_cases hlt : i < xs.length
  · refine .inr ⟨⟨xs, xs[i], q, by simp [hlt]⟩, Pv (i + 1), fun σ' H' p' => ⟨xs.length - (i + 1), by omega, rfl, hlt, p'⟩, fun x H' y => ?_⟩
    obtain ⟨e, y⟩ := y
    subst e
    exact hs i x σ _ (y xs q) p
  · have e : i = xs.length := by omega
    subst e
    exact .inl ⟨⟨xs, q, Nat.le_refl _⟩, hd σ H p⟩
theorem for_range {lo : Int} {n : Nat} {g : TG} {tb : TS} {D : Ends} {σ : St} {H : Hp} (Pv : Nat → St → Hp → Prop) (h0 : Pv 0 σ H)
    (hs : ∀ i σ H, i < n → Pv i σ H → g (.int (lo + i)) σ H fun σ2 H2 => tb { D with nx := Pv (i + 1), ct := Pv (i + 1), bk := D.nx } σ2 H2) (hd : ∀ σ H, Pv n σ H → D.nx σ H) :
    ∃ W : Nat → Nat → St → Hp → Prop, (∃ m, W 0 m σ H) ∧ ∀ i m σ H, W i m σ H →
      ((Itr lo n).stop i H ∧ D.nx σ H) ∨ ((Itr lo n).go i H ∧ ∃ N : St → Hp → Prop, (∀ σ' H', N σ' H' → ∃ m', m' < m ∧ W (i + 1) m' σ' H') ∧ ∀ x H', (Itr lo n).yld i H x H' → g x σ H' fun σ2 H2 => tb { D with nx := N, ct := N, bk := D.nx } σ2 H2) := by
  refine ⟨fun i m σ H => m = n - i ∧ i ≤ n ∧ Pv i σ H, ⟨n, by simp, Nat.zero_le _, h0⟩, ?_⟩
  rintro i m σ H ⟨rfl, hi, p⟩
  by_cases hlt : i < n
  · refine .inr ⟨hlt, Pv (i + 1), fun σ' H' p' => ⟨n - (i + 1), by omega, rfl, hlt, p'⟩, fun x H' y => ?_⟩
    obtain ⟨e, y⟩ := y
    subst e y
    exact hs i σ _ hlt p
  · have e : i = n := by omega
    subst e
    exact .inl ⟨Nat.le_refl _, hd σ H p⟩
end L2

namespace L2
open PySem PySem.Spec PyProof.Rows

abbrev R2 := V → V → Hp → VK → Prop
/-- a two-place operation on values: f is binaryOp op, inplaceOp op or compareOp op -/
def OpR (X : Cx) (f : Value → Value → Sem Value) (r : R2) : Prop :=
  ∀ (pins : List (Addr × Obj)) (s : Shared) (σ : St) (H : Hp) (x y : V) (v u : Value) (Q : VK), Inv X pins σ H s → RelV x v → RelV y u → r x y H Q →
    wpAny (model X.prog X.w) X.A (f v u) (EP X pins σ Q) X.xe s
/-- a one-place operation -/
def UnR (X : Cx) (f : Value → Sem Value) (r : V → Hp → VK → Prop) : Prop :=
  ∀ (pins : List (Addr × Obj)) (s : Shared) (σ : St) (H : Hp) (x : V) (v : Value) (Q : VK), Inv X pins σ H s → RelV x v → r x H Q →
    wpAny (model X.prog X.w) X.A (f v) (EP X pins σ Q) X.xe s
/-- a call of a value that is known (a builtin, a type) with values -/
def CallR (X : Cx) (f : Value) (r : List V → Hp → VK → Prop) : Prop :=
  ∀ (pins : List (Addr × Obj)) (s : Shared) (σ : St) (H : Hp) (xs : List V) (us : List Value) (Q : VK), Inv X pins σ H s → Vals xs us → r xs H Q →
    wpAny (model X.prog X.w) X.A (call f us) (EP X pins σ Q) X.xe s

def tOp (r : R2) (ta tb : TE) : TE := fun σ H Q => ta σ H fun x H1 => tb σ H1 fun y H2 => r x y H2 Q
def tUn (r : V → Hp → VK → Prop) (ta : TE) : TE := fun σ H Q => ta σ H fun x H1 => r x H1 Q
/-- ints in, under C, and a value out -/
def rI (C : Int → Int → Prop) (g : Int → Int → V) : R2 := fun x y H Q => ∃ i j, x = .int i ∧ y = .int j ∧ C i j ∧ Q (g i j) H
def rI0 (g : Int → Int → V) : R2 := fun x y H Q => ∃ i j, x = .int i ∧ y = .int j ∧ Q (g i j) H
def rU (g : Int → V) : V → Hp → VK → Prop := fun x H Q => ∃ i, x = .int i ∧ Q (g i) H

section
variable {X : Cx} {a b c : Expr} {ta tb tc : TE} {pos : Pos}

theorem binT (ha : PE X a ta) (hb : PE X b tb) {pins : List (Addr × Obj)} {s : Shared} {σ : St} {H : Hp} {R : V → V → Hp → Prop} (I : Inv X pins σ H s)
    (h : ta σ H fun x H1 => tb σ H1 fun y H2 => R x y H2) {Q : Value → Shared → Prop} {f : Value → Value → Sem Value}
    (hf : ∀ v u s2 x y H2, Inv X pins σ H2 s2 → RelV x v → RelV y u → R x y H2 → wpAny (model X.prog X.w) X.A (f v u) Q X.xe s2) :
    wpAny (model X.prog X.w) X.A (eval a X.env) (fun v s₁ => wpAny (model X.prog X.w) X.A (eval b X.env) (fun u s₂ => wpAny (model X.prog X.w) X.A (f v u) Q X.xe s₂) X.xe s₁) X.xe s := by
  refine thn (ha pins s σ H _ I h) fun v s1 ⟨x, H1, I1, r1, q1⟩ => ?_
  refine thn (hb pins s1 σ H1 _ I1 q1) fun u s2 ⟨y, H2, I2, r2, q2⟩ => ?_
  exact hf v u s2 x y H2 I2 r1 r2 q2

theorem pe_op {op : Operator} {r : R2} (ho : OpR X (binaryOp op) r) (ha : PE X a ta) (hb : PE X b tb) : PE X (.BinOp a op b pos) (tOp r ta tb) := by
  intro pins s σ H Q I h
  exact wpAny_BinOp (binT ha hb I h fun v u s2 x y H2 I2 rx ry q => ho pins s2 σ H2 x y v u Q I2 rx ry q)
theorem pe_un {op : UnaryOp} {r : V → Hp → VK → Prop} (ho : UnR X (unaryOp op) r) (ha : PE X a ta) : PE X (.UnaryOp op a pos) (tUn r ta) := by
  intro pins s σ H Q I h
  exact UnaryOp_ (thn (ha pins s σ H _ I h) fun v s1 ⟨x, H1, I1, r1, q1⟩ => ho pins s1 σ H1 x v Q I1 r1 q1)

/-! ### ints -/
theorem opI {f : Value → Value → Sem Value} {C : Int → Int → Prop} {g : Int → Int → Int}
    (rule : ∀ (i j : Int) (t u : Tok) (s : Shared) (Q : Value → Shared → Prop) (E : Value → Shared → Prop), C i j → Q (.int (g i j) s.toks) { s with toks := s.toks + 1 } → wpAny (model X.prog X.w) X.A (f (.int i t) (.int j u)) Q E s) :
    OpR X f (rI C fun i j => .int (g i j)) := by
  intro pins s σ H x y v u Q I rx ry h
  obtain ⟨i, j, rfl, rfl, hc, q⟩ := h
  obtain ⟨t, rfl⟩ := rx
  obtain ⟨t', rfl⟩ := ry
  exact rule i j t t' s _ _ hc ⟨.int (g i j), H, I.tok _, ⟨_, rfl⟩, q⟩
theorem opI0 {f : Value → Value → Sem Value} {g : Int → Int → Int}
    (rule : ∀ (i j : Int) (t u : Tok) (s : Shared) (Q : Value → Shared → Prop) (E : Value → Shared → Prop), Q (.int (g i j) s.toks) { s with toks := s.toks + 1 } → wpAny (model X.prog X.w) X.A (f (.int i t) (.int j u)) Q E s) :
    OpR X f (rI0 fun i j => .int (g i j)) := by
  intro pins s σ H x y v u Q I rx ry h
  obtain ⟨i, j, rfl, rfl, q⟩ := h
  obtain ⟨t, rfl⟩ := rx
  obtain ⟨t', rfl⟩ := ry
  exact rule i j t t' s _ _ ⟨.int (g i j), H, I.tok _, ⟨_, rfl⟩, q⟩
theorem opB0 {f : Value → Value → Sem Value} {g : Int → Int → Bool}
    (rule : ∀ (i j : Int) (t u : Tok) (s : Shared) (Q : Value → Shared → Prop) (E : Value → Shared → Prop), Q (.bool (g i j)) s → wpAny (model X.prog X.w) X.A (f (.int i t) (.int j u)) Q E s) :
    OpR X f (rI0 fun i j => .bl (g i j)) := by
  intro pins s σ H x y v u Q I rx ry h
  obtain ⟨i, j, rfl, rfl, q⟩ := h
  obtain ⟨t, rfl⟩ := rx
  obtain ⟨t', rfl⟩ := ry
  exact rule i j t t' s _ _ ⟨.bl (g i j), H, I, rfl, q⟩

def CDiv (i j : Int) : Prop := 0 < j ∧ j < 1073741824
def CPow (i j : Int) : Prop := 0 ≤ j ∧ j ≤ 1000000 ∧ i.natAbs < 2 ^ 64
def CMul (i j : Int) : Prop := (-(2 ^ 64) < i ∧ i < 2 ^ 64) ∨ (-(2 ^ 64) < j ∧ j < 2 ^ 64)
theorem CMul.ok {i j : Int} (h : CMul i j) : IntMulOk i j := by
  rcases h with ⟨h1, h2⟩ | ⟨h1, h2⟩
  · exact .of_left (intBits_le_64 h1 h2)
  · exact .of_right (intBits_le_64 h1 h2)

theorem op_add : OpR X (binaryOp .Add) (rI0 fun i j => .int (i + j)) := opI0 fun _ _ _ _ _ _ _ q => add_int q
theorem op_sub : OpR X (binaryOp .Sub) (rI0 fun i j => .int (i - j)) := opI0 fun _ _ _ _ _ _ _ q => sub_int q
theorem op_mul : OpR X (binaryOp .Mult) (rI CMul fun i j => .int (i * j)) := opI fun _ _ _ _ _ _ _ hc q => mul_int q hc.ok
/-- // by a positive divisor -/
theorem op_fdiv : OpR X (binaryOp .FloorDiv) (rI CDiv fun i j => .int (i / j)) := opI fun i j _ _ _ _ _ hc q => by
  have h1 : (0 : Int) < j := hc.1
  have h2 : j < 1073741824 := hc.2
  exact floordiv_int (by omega) (by rw [Int.fdiv_eq_ediv_of_nonneg i (by omega)]; exact q) (.inl (PyProof.noPylong_small (by omega)))
/-- % by a positive divisor of any size -/
theorem op_mod : OpR X (binaryOp .Mod) (rI (fun _ j => 0 < j) fun i j => .int (i % j)) := opI fun i j _ _ _ _ _ hc q => by
  have h1 : (0 : Int) < j := hc
  exact mod_int' (by omega) (by rw [Int.fmod_eq_emod_of_nonneg i (by omega)]; exact q)
theorem op_pow : OpR X (binaryOp .Pow) (rI CPow fun i j => .int (i ^ j.toNat)) := opI fun _ _ _ _ _ _ _ hc q => pow_int_small hc.1 hc.2.1 hc.2.2 q
theorem op_shl : OpR X (binaryOp .LShift) (rI CPow fun i j => .int (i * 2 ^ j.toNat)) := opI fun _ _ _ _ _ _ _ hc q => lshift_int_small hc.1 hc.2.1 hc.2.2 q


theorem unI {f : Value → Sem Value} {g : Int → Int}
    (rule : ∀ (i : Int) (t : Tok) (s : Shared) (Q : Value → Shared → Prop) (E : Value → Shared → Prop), Q (.int (g i) s.toks) { s with toks := s.toks + 1 } → wpAny (model X.prog X.w) X.A (f (.int i t)) Q E s) :
    UnR X f (rU fun i => .int (g i)) := by
  intro pins s σ H x v Q I rx h
  obtain ⟨i, rfl, q⟩ := h
  obtain ⟨t, rfl⟩ := rx
  exact rule i t s _ _ ⟨.int (g i), H, I.tok _, ⟨_, rfl⟩, q⟩
theorem un_neg : UnR X (unaryOp .USub) (rU fun i => .int (-i)) := unI fun _ _ _ _ _ q => neg_int q

/-! ### bools among ints: n += (a < b) -/
end

/-! ### comparisons -/
/-- the scalars that == tells apart as data does -/
def scal : V → V → Bool
  | .non, .non => true | .non, .int _ => true | .int _, .non => true | .non, .bl _ => true | .bl _, .non => true | .non, .str _ => true | .str _, .non => true
  | .int _, .int _ => true | .bl _, .bl _ => true | .str _, .str _ => true | .byt _, .byt _ => true
  | .int _, .str _ => true | .str _, .int _ => true | .bl _, .str _ => true | .str _, .bl _ => true
  | _, _ => false
def rEq : R2 := fun x y H Q => scal x y = true ∧ Q (.bl (decide (x = y))) H
def rNe : R2 := fun x y H Q => scal x y = true ∧ Q (.bl (!decide (x = y))) H

theorem dec_int {i j : Int} : decide (V.int i = V.int j) = (i == j) := by
  rw [Bool.eq_iff_iff]
  simp
theorem dec_bl {i j : Bool} : decide (V.bl i = V.bl j) = (i == j) := by
  rw [Bool.eq_iff_iff]
  simp
theorem dec_str {i j : Str} : decide (V.str i = V.str j) = (i == j) := by
  rw [Bool.eq_iff_iff]
  simp
theorem dec_byt {i j : Array UInt8} : decide (V.byt i = V.byt j) = (i.toList == j.toList) := by
  rw [Bool.eq_iff_iff]
  cases i
  cases j
  simp

section
variable {X : Cx} {a b c : Expr} {ta tb tc : TE} {pos : Pos}
theorem fin_bl {pins : List (Addr × Obj)} {σ : St} {H : Hp} {s : Shared} {Q : VK} {k k' : Bool} (I : Inv X pins σ H s) (q : Q (.bl k) H) (e : k = k') : EP X pins σ Q (.bool k') s := by
  subst e
  exact ⟨.bl k, H, I, rfl, q⟩
theorem op_eq : OpR X (compareOp .Eq) rEq := by
  intro pins s σ H x y v u Q I rx ry h
  obtain ⟨hs, q⟩ := h
  cases x with
  | non =>
    cases rx
    cases y with
    | non => cases ry; exact PySem.EqNone.eq_none_none (fin_bl I q (by simp))
    | bl j => cases ry; exact PySem.EqNone.eq_none_bool (fin_bl I q (by simp))
    | int j => obtain ⟨t', rfl⟩ := ry; exact PySem.EqNone.eq_none_int (fin_bl I q (by simp))
    | str j => obtain ⟨t', rfl⟩ := ry; exact PySem.EqNone.eq_none_str (fin_bl I q (by simp))
    | _ => exact absurd (show false = true from hs) Bool.false_ne_true
  | bl i =>
    cases rx
    cases y with
    | non => cases ry; exact PySem.EqNone.eq_bool_none (fin_bl I q (by simp))
    | bl j => cases ry; exact eq_bool (fin_bl I q dec_bl)
    | str j => obtain ⟨t', rfl⟩ := ry; exact PySem.EqMixed.eq_bool_str (fin_bl I q (by simp))
    | _ => exact absurd (show false = true from hs) Bool.false_ne_true
  | int i =>
    obtain ⟨t, rfl⟩ := rx
    cases y with
    | non => cases ry; exact PySem.EqNone.eq_int_none (fin_bl I q (by simp))
    | int j => obtain ⟨t', rfl⟩ := ry; exact eq_int (fin_bl I q dec_int)
    | str j => obtain ⟨t', rfl⟩ := ry; exact PySem.EqMixed.eq_int_str (fin_bl I q (by simp))
    | _ => exact absurd (show false = true from hs) Bool.false_ne_true
  | str i =>
    obtain ⟨t, rfl⟩ := rx
    cases y with
    | non => cases ry; exact PySem.EqNone.eq_str_none (fin_bl I q (by simp))
    | bl j => cases ry; exact PySem.EqMixed.eq_str_bool (fin_bl I q (by simp))
    | int j => obtain ⟨t', rfl⟩ := ry; exact PySem.EqMixed.eq_str_int (fin_bl I q (by simp))
    | str j => obtain ⟨t', rfl⟩ := ry; exact eq_str (fin_bl I q dec_str)
    | _ => exact absurd (show false = true from hs) Bool.false_ne_true
  | byt i =>
    obtain ⟨t, rfl⟩ := rx
    cases y with
    | byt j => obtain ⟨t', rfl⟩ := ry; exact PySem.W.eq_bytes (fin_bl I q dec_byt)
    | _ => exact absurd (show false = true from hs) Bool.false_ne_true
  | _ => cases y <;> exact absurd (show false = true from hs) Bool.false_ne_true
theorem op_ne : OpR X (compareOp .NotEq) rNe := by
  intro pins s σ H x y v u Q I rx ry h
  obtain ⟨hs, q⟩ := h
  cases x with
  | non =>
    cases rx
    cases y with
    | non => cases ry; exact PySem.EqNone.ne_none_none (fin_bl I q (by simp))
    | bl j => cases ry; exact PySem.EqNone.ne_none_bool (fin_bl I q (by simp))
    | int j => obtain ⟨t', rfl⟩ := ry; exact PySem.EqNone.ne_none_int (fin_bl I q (by simp))
    | str j => obtain ⟨t', rfl⟩ := ry; exact PySem.EqNone.ne_none_str (fin_bl I q (by simp))
    | _ => exact absurd (show false = true from hs) Bool.false_ne_true
  | bl i =>
    cases rx
    cases y with
    | non => cases ry; exact PySem.EqNone.ne_bool_none (fin_bl I q (by simp))
    | bl j => cases ry; exact ne_bool (fin_bl I q (congrArg not dec_bl))
    | str j => obtain ⟨t', rfl⟩ := ry; exact PySem.EqMixed.ne_bool_str (fin_bl I q (by simp))
    | _ => exact absurd (show false = true from hs) Bool.false_ne_true
  | int i =>
    obtain ⟨t, rfl⟩ := rx
    cases y with
    | non => cases ry; exact PySem.EqNone.ne_int_none (fin_bl I q (by simp))
    | int j => obtain ⟨t', rfl⟩ := ry; exact ne_int (fin_bl I q (congrArg not dec_int))
    | str j => obtain ⟨t', rfl⟩ := ry; exact PySem.EqMixed.ne_int_str (fin_bl I q (by simp))
    | _ => exact absurd (show false = true from hs) Bool.false_ne_true
  | str i =>
    obtain ⟨t, rfl⟩ := rx
    cases y with
    | non => cases ry; exact PySem.EqNone.ne_str_none (fin_bl I q (by simp))
    | bl j => cases ry; exact PySem.EqMixed.ne_str_bool (fin_bl I q (by simp))
    | int j => obtain ⟨t', rfl⟩ := ry; exact PySem.EqMixed.ne_str_int (fin_bl I q (by simp))
    | str j => obtain ⟨t', rfl⟩ := ry; exact ne_str (fin_bl I q (congrArg not dec_str))
    | _ => exact absurd (show false = true from hs) Bool.false_ne_true
  | byt i =>
    obtain ⟨t, rfl⟩ := rx
    cases y with
    | byt j => obtain ⟨t', rfl⟩ := ry; exact PySem.W.ne_bytes (fin_bl I q (congrArg not dec_byt))
    | _ => exact absurd (show false = true from hs) Bool.false_ne_true
  | _ => cases y <;> exact absurd (show false = true from hs) Bool.false_ne_true

theorem op_lt : OpR X (compareOp .Lt) (rI0 fun i j => .bl (decide (i < j))) := opB0 fun _ _ _ _ _ _ _ q => lt_int q
theorem op_le : OpR X (compareOp .LtE) (rI0 fun i j => .bl (decide (i ≤ j))) := opB0 fun _ _ _ _ _ _ _ q => le_int q
theorem op_gt : OpR X (compareOp .Gt) (rI0 fun i j => .bl (decide (j < i))) := opB0 fun _ _ _ _ _ _ _ q => gt_int q
theorem op_ge : OpR X (compareOp .GtE) (rI0 fun i j => .bl (decide (j ≤ i))) := opB0 fun _ _ _ _ _ _ _ q => ge_int q




theorem nomark (b : Expr) {op : CmpOp} (h : op ≠ .In := by decide) (h2 : op ≠ .NotIn := by decide) : behindInMarks op b = false := by
  have e1 : (op == CmpOp.In) = false := by cases op <;> first | rfl | exact absurd rfl h
  have e2 : (op == CmpOp.NotIn) = false := by cases op <;> first | rfl | exact absurd rfl h2
  cases b <;> simp [behindInMarks, e1, e2]
/-- a reading of a value as a test -/
def tTest (t : TE) : TT := fun σ H Q => t σ H fun x H' => ∃ k, x = .bl k ∧ Q k H'
theorem pt_cmpR {op : CmpOp} {r : R2} (ho : OpR X (compareOp op) r) (ha : PE X a ta) (hb : PE X b tb) (hm : behindInMarks op b = false) : PT X (.Compare a [op] [b] pos) (tTest (tOp r ta tb)) := by
  intro pins s σ H Q I h
  refine wpAny_isTrue_Compare1 (thn (ha pins s σ H _ I h) fun v s1 ⟨x, H1, I1, r1, q1⟩ => thn (hb pins s1 σ H1 _ I1 q1) fun u s2 ⟨y, H2, I2, r2, q2⟩ =>
    thn (ho pins s2 σ H2 x y v u _ I2 r1 r2 q2) fun c s3 ⟨z, H3, I3, r3, k, e, q3⟩ => ?_) hm
  subst e
  cases r3
  exact wpAny_truthy_bool ⟨H3, I3, q3⟩
/-- a op1 b op2 c -/
def tChain (r r' : R2) (ta tb tc : TE) : TE := fun σ H Q => ta σ H fun x H1 => tb σ H1 fun y H2 => r x y H2 fun z H3 => ∃ k, z = .bl k ∧
  (if k = true then tc σ H3 fun w' H4 => r' y w' H4 Q else Q (.bl false) H3)
theorem pe_chain {op op' : CmpOp} {r r' : R2} (ho : OpR X (compareOp op) r) (ho' : OpR X (compareOp op') r') (ha : PE X a ta) (hb : PE X b tb) (hc : PE X c tc)
    (hm : lastMarks [op, op'] [b, c] = false := by with_unfolding_all rfl) : PE X (.Compare a [op, op'] [b, c] pos) (tChain r r' ta tb tc) := by
  intro pins s σ H Q I h
  refine Compare_chain (thn (ha pins s σ H _ I h) fun v s1 ⟨x, H1, I1, r1, q1⟩ => chain_link (thn (hb pins s1 σ H1 _ I1 q1) fun u s2 ⟨y, H2, I2, r2, q2⟩ =>
    thn (ho pins s2 σ H2 x y v u _ I2 r1 r2 q2) fun d s3 ⟨z, H3, I3, r3, k, e, q3⟩ => ?_)) hm
  subst e
  cases r3
  refine wpAny_truthy_bool ?_
  cases k with
  | false => exact ite_ff ⟨.bl false, H3, I3, rfl, q3⟩
  | true => exact ite_tt (chain_last (thn (hc pins s3 σ H3 _ I3 q3) fun w' s4 ⟨z', H4, I4, r4, q4⟩ => ho' pins s4 σ H4 y z' u w' Q I4 r2 r4 q4))

/-! ### truth -/
theorem line63 : (sizeLine : Nat) < 2 ^ 63 := by rw [sizeLine_eq]; decide

/-! ### strs and bytes -/


/-! ### scalar builtins, by CallR -/
theorem vals1 {x : V} {us : List Value} (r : Vals [x] us) : ∃ u, us = [u] ∧ RelV x u := by
  cases r with
  | cons r1 r2 => cases r2; exact ⟨_, rfl, r1⟩
theorem vals2 {x y : V} {us : List Value} (r : Vals [x, y] us) : ∃ u w', us = [u, w'] ∧ RelV x u ∧ RelV y w' := by
  cases r with
  | cons r1 r2 =>
    cases r2 with
    | cons r3 r4 => cases r4; exact ⟨_, _, rfl, r1, r3⟩
theorem call_max2 (hc : X.calm = true) : CallR X (.builtin "max") (fun xs H Q => ∃ i j, xs = [.int i, .int j] ∧ Q (.int (if j > i then j else i)) H) := by
  intro pins s σ H xs us Q I r h
  obtain ⟨i, j, rfl, q⟩ := h
  obtain ⟨u, w', rfl, ⟨t, rfl⟩, ⟨t', rfl⟩⟩ := vals2 r
  refine max_two_ints (I.ok.hd hc) fun h' tk k => ⟨_, H, I.kept k, ?_, q⟩
  by_cases hj : j > i
  · rw [if_pos hj, if_pos hj]; exact ⟨_, rfl⟩
  · rw [if_neg hj, if_neg hj]; exact ⟨_, rfl⟩
theorem call_min2 (hc : X.calm = true) : CallR X (.builtin "min") (fun xs H Q => ∃ i j, xs = [.int i, .int j] ∧ Q (.int (if j < i then j else i)) H) := by
  intro pins s σ H xs us Q I r h
  obtain ⟨i, j, rfl, q⟩ := h
  obtain ⟨u, w', rfl, ⟨t, rfl⟩, ⟨t', rfl⟩⟩ := vals2 r
  refine min_two_ints (I.ok.hd hc) fun h' tk k => ⟨_, H, I.kept k, ?_, q⟩
  by_cases hj : j < i
  · rw [if_pos hj, if_pos hj]; exact ⟨_, rfl⟩
  · rw [if_neg hj, if_neg hj]; exact ⟨_, rfl⟩
end
end L2

namespace L2
open PySem PySem.Spec PyProof.Rows

/-! ### an instance, its attributes a map -/
structure ObjM (h : Heap) (x dx C : Addr) (mA : Str → Option Value) : Prop where
  obj : h.get? x = some (PySem.W.instObj C dx)
  ns : h.Ns1 dx mA
  ne : dx ≠ x

theorem lookIn_ns {h : Heap} {dx : Addr} {mA : Str → Option Value} (n : h.Ns1 dx mA) : ∃ od, h.get? dx = some od ∧ ∀ name, PySem.W.lookIn name od = some (mA name) := by
  obtain ⟨o, es, ep, ho, hd, hk, _, hm⟩ := n
  refine ⟨o, ho, fun name => ?_⟩
  have e := hm name
  unfold nsFind findBy at e
  rw [← Array.find?_toList] at e
  unfold PySem.W.lookIn
  rw [hd]
  dsimp only
  split
  · rename_i y q
    rw [q] at e
    exact congrArg some e
  · rename_i q
    rw [q] at e
    have a : es.toList.any (·.refKey) = false := by
      rw [List.any_eq_false]
      intro y hy
      obtain ⟨z, t, hkey⟩ := hk y (Array.mem_toList_iff.mp hy)
      simp [DictEntry.refKey, hkey]
    have a' : ¬ es.toList.any (·.refKey) = true := by rw [a]; exact Bool.false_ne_true
    rw [if_neg a']
    exact congrArg some e

theorem ObjM.look {h : Heap} {x dx C : Addr} {mA : Str → Option Value} (I : ObjM h x dx C mA) : ∃ od, PySem.W.InstAt h x (PySem.W.instObj C dx) C (some od) ∧ ∀ name, PySem.W.lookIn name od = some (mA name) :=
  let ⟨od, ho, hl⟩ := lookIn_ns I.ns
  ⟨od, ⟨I.obj, rfl, rfl, ho⟩, hl⟩

section
variable {prog : Program} {w : World} {A : Around} {E : Value → Shared → Prop} {s : Shared} {K : PySem.W.Frag} {x dx C f : Addr} {mA : Str → Option Value} {name : Str} {v : Value}





end

/-! ### the attributes as a list of pairs -/


section
variable {P : Program} {w : World} {H H' : Hp} {h h' : Heap} {a C dx : Addr} {fs fs' : List (Str × V)}
theorem ins_get (hok : HOk P w H h) (e : H a = some (.ins C dx fs)) : ∃ mA, ObjM h a dx C mA ∧ (∀ f, RelO (fs.lookup f) (mA f)) ∧ PySem.Within mA (fs.map (·.1)) ∧ fs.length ≤ 1000 ∧ H dx = some (.own a) := by
  obtain ⟨d, z, ne, ob, mA, n, r, q⟩ := (show ObjOk P w H h a (.ins C dx fs) from hok a _ e)
  exact ⟨mA, ⟨ob, n, ne⟩, r, q, z, d⟩
end

/-! ### what of the text a class must have -/
structure Cls (K : PySem.W.Frag) (C : Addr) : Prop where
  pg : PySem.W.plainGet K C Str.empty = true
  hd : PySem.W.hasDictIn K C = true
  po : PySem.W.plainOver K C = true
  sa : PySem.W.findIn K (.ref C) "__setattr__" = some (some (.builtin "object.__setattr__"))
theorem Cls.get {K : PySem.W.Frag} {C : Addr} (c : Cls K C) (f : Str) : PySem.W.plainGet K C f = true := c.pg
/-- a constant of the class -/
structure Con (K : PySem.W.Frag) (C : Addr) (f : Str) (v : V) (u : Value) : Prop where
  at_ : PySem.W.findIn K (.ref C) f = some (some u)
  rel : RelV v u
  get : PySem.W.specialIn K u "__get__" = some none
  cp : PySem.W.copiedNames.contains f = false
/-- a method: a plain def of the class or of one above it -/
structure Meth (K : PySem.W.Frag) (C : Addr) (m : Str) (f : Addr) : Prop where
  at_ : PySem.W.findIn K (.ref C) m = some (some (.ref f))
  fn : PySem.W.isFn K (.ref f) = true
  kp : PySem.W.keepIn K (.ref f) = true

section
variable {X : Cx} {pins : List (Addr × Obj)} {σ : St} {H : Hp} {s : Shared} {a C dx : Addr} {fs : List (Str × V)} {f : Str} {v : V} {A : Around} {E : Value → Shared → Prop}






end

/-! ### readings and rules -/

section
variable {X : Cx} {o e value : Expr} {f : Str} {pos pos' tpos : Pos} {ta tv : TE}

end

/-! ### isinstance -/
section
variable {X : Cx} {pins : List (Addr × Obj)} {σ : St} {H : Hp} {s : Shared} {A : Around} {E : Value → Shared → Prop} {Q : Value → Shared → Prop} {c : Value} {b : Bool}
/-- the type of a value, as the fragment's deciders take it; for an instance its class -/
inductive TyOf (K : PySem.W.Frag) (H : Hp) : V → Value → Prop where
  | non : TyOf K H .non (.type "NoneType")
  | bl (x : Bool) : TyOf K H (.bl x) (.type "bool")
  | int (i : Int) : TyOf K H (.int i) (.type "int")
  | str (x : Str) : TyOf K H (.str x) (.type "str")
  | flt (x : UInt64) : TyOf K H (.flt x) (.type "float")
  | lst {a : Addr} {xs : List V} (e : H a = some (.lst xs)) : TyOf K H (.ref a) (.type "list")
  | frz {a : Addr} {o : Obj} {xs : List V} (e : H a = some (.frz o (.lst xs))) : TyOf K H (.ref a) (.type "list")
  | tup {a : Addr} {xs : List V} (e : H a = some (.tup xs)) : TyOf K H (.ref a) (.type "tuple")
  | dK {a : Addr} {kvs : List (Key × V)} (e : H a = some (.dK kvs)) : TyOf K H (.ref a) (.type "dict")
  | dT {a : Addr} {kvs : List (List Key × V)} (e : H a = some (.dT kvs)) : TyOf K H (.ref a) (.type "dict")
  | ins {a C dx : Addr} {fs : List (Str × V)} (e : H a = some (.ins C dx fs)) (cl : Cls K C) (ha : PySem.W.findIn K (.ref C) "__class__" = some (some (.builtin "object.__class__")))
      (hn : PySem.W.specialIn K (.builtin "object.__class__") "__get__" = some (some (.builtin "getset_descriptor.__get__"))) (htk : PySem.W.takesIn K (.builtin "object.__class__") = some true)
      (hm : PySem.W.mroIn K C (.type "object") = some true) : TyOf K H (.ref a) (.ref C)
/-- isinstance(x, c) for one class c, a built-in or an own one: kitOne's answer -/
theorem isinst_ok {x : V} {u t : Value} (I : Inv X pins σ H s) (rx : RelV x u) (ty : TyOf X.K H x t) (e : PySem.W.kitOne X.K t c = some b) (h : ∀ tk, Q (.bool b) { s with toks := tk }) :
    wpAny (model X.prog X.w) A (call (.builtin "isinstance") [u, c]) Q E s := by
  cases ty with
  | non => cases (show u = Value.none from rx); exact PySem.W.kia_one PySem.W.kitx_none I.kIn True.intro e (fun z => nomatch z) h
  | bl y => cases (show u = Value.bool y from rx); exact PySem.W.kia_one PySem.W.kitx_bool I.kIn True.intro e (fun z => nomatch z) h
  | int i => obtain ⟨t, q⟩ := (show ∃ t, u = Value.int i t from rx); cases q; exact PySem.W.kia_one PySem.W.kitx_int I.kIn True.intro e (fun z => nomatch z) h
  | str y => obtain ⟨t, q⟩ := (show ∃ t, u = Value.str y t from rx); cases q; exact PySem.W.kia_one PySem.W.kitx_str I.kIn True.intro e (fun z => nomatch z) h
  | flt y => obtain ⟨t, q⟩ := (show ∃ t, u = Value.float y t from rx); cases q; exact PySem.W.kia_one PySem.W.kitx_float I.kIn True.intro e (fun z => nomatch z) h
  | @lst a xs ea =>
    cases (show u = Value.ref a from rx)
    obtain ⟨_, _, n, _, h1⟩ := (show ObjOk X.prog X.w H s.heap a (.lst xs) from I.hok a _ ea)
    exact PySem.W.kia_one PySem.W.kitx_list I.kIn ⟨_, h1, rfl⟩ e (fun z => nomatch z) h
  | @frz a ob xs ea =>
    cases (show u = Value.ref a from rx)
    obtain ⟨_, _, _, n, _, h1⟩ := (show ObjOk X.prog X.w H s.heap a (.frz ob (.lst xs)) from I.hok a _ ea)
    exact PySem.W.kia_one PySem.W.kitx_list I.kIn ⟨_, h1, rfl⟩ e (fun z => nomatch z) h
  | @tup a xs ea =>
    cases (show u = Value.ref a from rx)
    obtain ⟨_, _, _, p⟩ := (show ObjOk X.prog X.w H s.heap a (.tup xs) from I.hok a _ ea)
    obtain ⟨o, h1, h2, _⟩ := p
    exact PySem.W.kia_one PySem.W.kitx_tuple I.kIn ⟨o, h1, h2⟩ e (fun z => nomatch z) h
  | @dK a kvs ea =>
    cases (show u = Value.ref a from rx)
    obtain ⟨_, _, vs, _, p⟩ := (show ObjOk X.prog X.w H s.heap a (.dK kvs) from I.hok a _ ea)
    obtain ⟨o, es, ep, h1, h2, _⟩ := p
    exact PySem.W.kia_one PySem.W.kitx_dict I.kIn ⟨o, h1, h2.1⟩ e (fun z => nomatch z) h
  | @dT a kvs ea =>
    cases (show u = Value.ref a from rx)
    obtain ⟨_, _, xs, _, o, es, ep, h1, h2, _⟩ := (show ObjOk X.prog X.w H s.heap a (.dT kvs) from I.hok a _ ea)
    exact PySem.W.kia_one PySem.W.kitx_dict I.kIn ⟨o, h1, h2.1⟩ e (fun z => nomatch z) h
  | @ins a C dx fs ea cl ha hn htk hm =>
    cases (show u = Value.ref a from rx)
    obtain ⟨mA, O, _⟩ := ins_get I.hok ea
    obtain ⟨od, J, _⟩ := O.look
    exact PySem.W.kia_one (PySem.W.kitx_own (cl.get _) cl.hd ha hn htk hm) I.kIn J e (fun z => nomatch z) h
end
end L2

namespace L2
open PySem PySem.Spec PyProof.Rows

/-! ### room -/
structure Room (k : Nat) (A : Around) : Prop where
  hd : A.handled = none
  dp : A.depth + 3 * k + 5 < recursionLimit
  un : A.units + 16 * k + 200 < cLine
theorem Room.mono {j k : Nat} {A : Around} (r : Room k A) (h : j ≤ k) : Room j A := ⟨r.hd, by have := r.dp; omega, by have := r.un; omega⟩
theorem Room.deeper {k : Nat} {A : Around} (r : Room (k + 1) A) (env : Env) : Room k (A.deeper env) :=
  ⟨r.hd, by have := r.dp; show A.depth + 1 + 3 * k + 5 < _; omega, by have := r.un; show A.units + 3 + 16 * k + 200 < _; omega⟩
theorem Room.depth {k : Nat} {A : Around} (r : Room k A) : A.depth < recursionLimit := by have := r.dp; omega

/-! ### argument lists and displays -/
def tNil : TA := fun _ H Q => Q [] H
def tCons (ta : TE) (tr : TA) : TA := fun σ H Q => ta σ H fun x H1 => tr σ H1 fun xs H2 => Q (x :: xs) H2
section
variable {X : Cx} {e : Expr} {es : List Expr} {te : TE} {t : TA} {pos : Pos}
theorem pa_nil : PA X [] tNil := fun _ _ _ _ H Q I h => Calls.spliced_nil ⟨[], H, I, .nil, h⟩
theorem pa_cons (ha : PE X e te) (hr : PA X es t) (hs : starEach (e :: es) X.env = (false, eval e X.env) :: starEach es X.env := by rfl) : PA X (e :: es) (tCons te t) := by
  intro pos pins s σ H Q I h
  rw [hs]
  show wpAny _ _ (spliced ((false, eval e X.env) :: backTo pos (starEach es X.env))) _ _ s
  refine Calls.spliced_cons (thn (ha pins s σ H _ I h) fun u s1 ⟨x, H1, I1, r1, q1⟩ => ?_)
  exact thn (hr pos pins s1 σ H1 _ I1 q1) fun us s2 ⟨xs, H2, I2, r2, q2⟩ => ⟨x :: xs, H2, I2, .cons r1 r2, q2⟩

/-- a tuple, a list of written items -/
def tTup (t : TA) : TE := fun σ H Q => t σ H fun xs H1 => xs.length ≤ sizeLine ∧ ∀ p, H1 p = none → Q (.ref p) (upd H1 p (.tup xs))
def tLst (t : TA) : TE := fun σ H Q => t σ H fun xs H1 => xs.length ≤ sizeLine ∧ ∀ p, H1 p = none → Q (.ref p) (upd H1 p (.lst xs))
theorem pe_tup {x1} (h : PA X es t) : PE X (.Tuple es x1 pos) (tTup t) := by
  intro pins s σ H Q I hq
  refine wpAny_Tuple_spliced (thn (h pos pins s σ H _ I hq) fun us s1 ⟨xs, H1, I1, r, z, q⟩ => ⟨by rw [← r.length]; exact z, ?_⟩)
  have hf : H1 s1.heap.objs.size = none := I1.hok.fresh (Nat.le_refl _)
  refine ⟨.ref s1.heap.objs.size, upd H1 s1.heap.objs.size (.tup xs), I1.laid (t' := s1.toks) (fun b u e => Heap.get?_push_of_some _ e) (Nat.le_refl _) ?_, rfl, q _ hf⟩
  exact ⟨z, us, r, ⟨_, Heap.get?_push_size _ rfl, rfl, _, rfl⟩⟩
theorem pe_lst (h : PA X es t) : PE X (.List es pos) (tLst t) := by
  intro pins s σ H Q I hq
  refine wpAny_List_spliced (thn (h pos pins s σ H _ I hq) fun us s1 ⟨xs, H1, I1, r, z, q⟩ => ⟨by rw [← r.length]; exact z, ?_⟩)
  have hf : H1 s1.heap.objs.size = none := I1.hok.fresh (Nat.le_refl _)
  refine ⟨.ref s1.heap.objs.size, upd H1 s1.heap.objs.size (.lst xs), I1.laid (t' := s1.toks) (fun b u e => Heap.get?_push_of_some _ e) (Nat.le_refl _) ?_, rfl, q _ hf⟩
  exact ⟨z, us, 0, r, Heap.get?_push_size _ rfl⟩
end

/-! ### what a def promises -/
/-- a def's promise: the bound arguments in the parameters' order, the heap, the wanted end, the wanted exception -/
abbrev Sp := List V → Hp → VK → XK → Prop
/-- how an exception lies behind a call (file 08 gives it): the callers' frames, abstract heap and state ahead of the call, the wish, the exception, the state -/
abbrev CXT := List Env → Hp → Shared → XK → Value → Shared → Prop

/-- the state at a call -/
structure Env0 (P : Program) (w : World) (K : PySem.W.Frag) (mg : Str → Option Value) (base : Heap) (A : Around) (outer : List Env) (s : Shared) (H : Hp) : Prop where
  frames : A.frames = some outer
  mod : Mod K mg base
  bs : ∀ b o, base.get? b = some o → s.heap.get? b = some o ∧ H b = none
  bsz : base.objs.size ≤ s.heap.objs.size
  funs : s.heap.FunFrames base outer
  frf : ∀ b ∈ frs outer, H b = none
  hok : HOk P w H s.heap
  bare : AllBare s.gens
/-- a call's end -/
def CE (outer : List Env) (P : Program) (w : World) (H : Hp) (s : Shared) (Q : VK) (u : Value) (s' : Shared) : Prop :=
  ∃ v H', s'.os = s.os ∧ AllBare s'.gens ∧ Un (frs outer) [] H H' s.heap s'.heap ∧ HOk P w H' s'.heap ∧ RelV v u ∧ Q v H'
def CR (CX : CXT) (outer : List Env) (P : Program) (w : World) (H : Hp) (s : Shared) (Q : VK) (E : XK) (r : Result) (s' : Shared) : Prop :=
  match r with
  | .ok (.ret u) => CE outer P w H s Q u s'
  | .ok _ => False
  | .error e => CX outer H s E e s'
structure FnOk (P : Program) (w : World) (K : PySem.W.Frag) (mg : Str → Option Value) (base : Heap) (CX : CXT) (k : Nat) (f : Addr) (fd : FuncData) (ps : List Str) (sp : Sp) : Prop where
  len : ∀ vs H Q E, sp vs H Q E → vs.length = ps.length
  run : ∀ (A : Around) (outer : List Env) (s : Shared) (H : Hp) (args : Args) (us : List Value) (vs : List V) (Q : VK) (E : XK), Room k A → Env0 P w K mg base A outer s H → BindsTo s fd args (ps.zip us) → Vals vs us → sp vs H Q E →
    codeAny (model P w) A (.call (.ref f) args) (CR CX outer P w H s Q E) s


section
variable {X : Cx} {pins : List (Addr × Obj)} {σ : St} {H : Hp} {s s' : Shared}
/-- from a body: what a callee wants -/
theorem Inv.env0 (I : Inv X pins σ H s) : Env0 X.prog X.w X.K X.mg X.base X.A X.stack s H :=
  ⟨I.ok.frames, I.ok.mod, I.bs, Nat.le_trans I.ok.bsz I.sz, I.stack, I.stkFree, I.hok, I.bare⟩
/-- behind a call -/
theorem Inv.after {Q : VK} {u : Value} (I : Inv X pins σ H s) (h : CE X.stack X.prog X.w H s Q u s') : EP X pins σ Q u s' := by
  obtain ⟨v, H', os, bare, un, hok, r, q⟩ := h
  obtain ⟨hh, g, d, t, os'⟩ := s'
  obtain rfl : os' = s.os := os
  exact ⟨v, H', I.call (h' := hh) (g' := g) (d' := d) (t' := t) (ch := []) un hok bare (fun b z => absurd z (by simp)), r, q⟩
end

/-! ### calls -/
/-- f(..): the written arguments, then the defaults dvs; E: what is wanted of an exception -/
def tCall (sp : Sp) (dvs : List V) (E : XK) (t : TA) : TE := fun σ H Q => t σ H fun vs H1 => sp (vs ++ dvs) H1 Q E

/-- how the parameters are bound: us the positional arguments, kw the keywords' values by name, ds the defaults that fill up -/
def Binds (K : PySem.W.Frag) (fd : FuncData) (ps : List Str) (ds : List Value) : Prop :=
  ∀ (s : Shared) (us : List Value), K.In s.heap → (us ++ ds).length = ps.length → BindsTo s fd ⟨us, []⟩ (ps.zip (us ++ ds))
/-- every parameter is given -/
theorem Binds.all {K : PySem.W.Frag} {fd : FuncData} {ps : List Str} (h : ∀ us : List Value, us.length = ps.length → bindArgs fd ⟨us, []⟩ = pure (ps.zip us)) : Binds K fd ps [] := fun s us _ hl => by
  rw [List.append_nil] at hl ⊢
  exact .of_eq (h us hl)

/-- an exception of a callee reaches what this body wants of exceptions -/
def Passes (CX : CXT) (X : Cx) (E : XK) : Prop := ∀ (pins : List (Addr × Obj)) (σ : St) (H : Hp) (s : Shared) (e : Value) (s' : Shared), Inv X pins σ H s → CX X.stack H s E e s' → X.xe e s'

section
variable {X : Cx} {CX : CXT} {k : Nat} {f C : Addr} {fd : FuncData} {ps : List Str} {sp : Sp} {dvs : List V} {ds : List Value} {E : XK} {x m : Str} {p pos apos : Pos} {e o : Expr} {es : List Expr} {ta : TE} {t : TA}

/-- the callee runs -/
theorem run_fn {pins : List (Addr × Obj)} {σ : St} {H : Hp} {s : Shared} {Q : VK} {us : List Value} {vs : List V} (F : FnOk X.prog X.w X.K X.mg X.base CX k f fd ps sp) (hr : Room k X.A) (hb : Binds X.K fd ps ds) (hd : Vals dvs ds) (hx : Passes CX X E)
    (I : Inv X pins σ H s) (r : Vals vs us) (h : sp (vs ++ dvs) H Q E) : wpAny (model X.prog X.w) X.A (call (.ref f) us) (EP X pins σ Q) X.xe s := by
  have r2 : Vals (vs ++ dvs) (us ++ ds) := r.append hd
  have hl : (us ++ ds).length = ps.length := by rw [← r2.length]; exact F.len _ _ _ _ h
  refine wpAny_call (codeAny_mono (F.run X.A X.stack s H ⟨us, []⟩ (us ++ ds) (vs ++ dvs) Q E hr I.env0 (hb s us I.kIn hl) r2 h) fun r s' hq => ?_)
  cases r with
  | error e => exact hx pins σ H s e s' I hq
  | ok fl =>
    cases fl with
    | ret u => exact I.after hq
    | next => exact False.elim hq
    | brk => exact False.elim hq
    | cont => exact False.elim hq

theorem pe_call (F : FnOk X.prog X.w X.K X.mg X.base CX k f fd ps sp) (hr : Room k X.A) (hg : Gl X x) (hm : X.mg x = some (.ref f)) (hk : PySem.W.keepIn X.K (.ref f) = true) (hb : Binds X.K fd ps ds) (hd : Vals dvs ds) (hx : Passes CX X E)
    (ha : PA X (e :: es) t) (hdb : (x == ("__debug__" : Str)) = false := by decide) (he : starEach (e :: es) X.env = (false, eval e X.env) :: starEach es X.env := by rfl) (hpl : (backTo pos (starEach es X.env)).any (·.1) = false := by rfl) :
    PE X (.Call (.Name x p) (e :: es) [] pos) (tCall sp dvs E t) := by
  intro pins s σ H Q I h
  refine wpAny_Call_Name_kw (ld_glob I hg hm ?_ hdb)
  refine PySem.W.callWith_K (h₀ := X.base) I.ok.mod.kin hk (thn (ha pos pins s σ H _ I h) fun us s1 ⟨vs, H1, I1, r, q⟩ => ⟨I1.kIn, ?_⟩) he hpl
  exact run_fn F hr hb hd hx I1 r q


/-- what a class must have to be made -/
structure Mk (K : PySem.W.Frag) (C f : Addr) : Prop where
  makes : PySem.W.makesIn K C = true
  init : PySem.W.findIn K (.ref C) "__init__" = some (some (.ref f))
  fn : PySem.W.isFn K (.ref f) = true
  kp : PySem.W.keepIn K (.ref C) = true

end

/-! ### keywords -/
section
variable {X : Cx} {CX : CXT} {k : Nat} {f C : Addr} {fd : FuncData} {ps ks : List Str} {sp : Sp} {E : XK} {x m : Str} {p pos apos kpos : Pos} {e o : Expr} {es : List Expr} {kws : List Keyword} {te ta : TE} {t tk : TA} {nm : Option Str}

/-- how a call with keywords binds: g puts the positional values us and the keywords' values ws (names ks) in the parameters' order, defaults among them -/
structure KBinds (K : PySem.W.Frag) (fd : FuncData) (ps ks : List Str) (g : List Value → List Value → List Value) (gV : List V → List V → List V) : Prop where
  to : ∀ (s : Shared) (us ws : List Value), K.In s.heap → (g us ws).length = ps.length → BindsTo s fd ⟨us, ks.zip ws⟩ (ps.zip (g us ws))
  rel : ∀ {vs : List V} {us : List Value} {zs : List V} {ws : List Value}, Vals vs us → Vals zs ws → Vals (gV vs zs) (g us ws)
variable {g : List Value → List Value → List Value} {gV : List V → List V → List V}
end

/-! ### a def's body keeps its promise -/
/-- names: the parameters first -/
structure FnScope (N P : List Str) (sc : Scope) : Prop where
  kind : sc.kind = .function
  co : sc.isCoroutine = false
  gen : sc.isGenerator = false
  nd : N.Nodup
  pre : N.take P.length = P
  par : ∀ x ∈ P, sc.names.lookup x = some .local ∨ sc.names.lookup x = some .cell
  nofree : ∀ y ∈ sc.names, y.2 ≠ .free

theorem bindL_out {kindOf : Str → Option NameKind} {x : Str} : ∀ {binds : List (Str × Value)} {m : Str → Option Value}, (∀ v, (x, v) ∉ binds) → bindL kindOf binds m x = m x
  | [], _, _ => rfl
  | (n, v) :: r, m, h => by
    unfold bindL
    rw [bindL_out fun w hw => h w (List.mem_cons_of_mem _ hw)]
    split
    · have : x ≠ n := by rintro rfl; exact h v List.mem_cons_self
      simp [this]
    · rfl
theorem bindC_out {kindOf : Str → Option NameKind} {x : Str} : ∀ {binds : List (Str × Value)} {m : Str → Option Value}, (∀ v, (x, v) ∉ binds) → bindC kindOf binds m x = m x
  | [], _, _ => rfl
  | (n, v) :: r, m, h => by
    unfold bindC
    rw [bindC_out fun w hw => h w (List.mem_cons_of_mem _ hw)]
    split
    · rfl
    · have : x ≠ n := by rintro rfl; exact h v List.mem_cons_self
      simp [this]
theorem bindL_get {kindOf : Str → Option NameKind} {x : Str} {v : Value} : ∀ {P : List Str} {vs : List Value} {i : Nat} {m : Str → Option Value}, P.Nodup → P[i]? = some x → vs[i]? = some v → kindOf x = some .local →
    bindL kindOf (P.zip vs) m x = some v
  | [], _, _, _, _, h, _, _ => by simp at h
  | _ :: _, [], _, _, _, _, h, _ => by simp at h
  | p :: P, w :: vs, 0, m, nd, h1, h2, hk => by
    simp at h1 h2; subst h1; subst h2
    show bindL kindOf ((p, w) :: P.zip vs) m p = _
    unfold bindL
    rw [bindL_out fun v hv => (List.nodup_cons.mp nd).1 (List.of_mem_zip hv).1, if_pos hk]
    simp
  | p :: P, w :: vs, i + 1, m, nd, h1, h2, hk => by
    show bindL kindOf ((p, w) :: P.zip vs) m x = _
    unfold bindL
    exact bindL_get (i := i) (List.nodup_cons.mp nd).2 (by simpa using h1) (by simpa using h2) hk
theorem bindC_get {kindOf : Str → Option NameKind} {x : Str} {v : Value} : ∀ {P : List Str} {vs : List Value} {i : Nat} {m : Str → Option Value}, P.Nodup → P[i]? = some x → vs[i]? = some v → kindOf x ≠ some .local →
    bindC kindOf (P.zip vs) m x = some v
  | [], _, _, _, _, h, _, _ => by simp at h
  | _ :: _, [], _, _, _, _, h, _ => by simp at h
  | p :: P, w :: vs, 0, m, nd, h1, h2, hk => by
    simp at h1 h2; subst h1; subst h2
    show bindC kindOf ((p, w) :: P.zip vs) m p = _
    unfold bindC
    rw [bindC_out fun v hv => (List.nodup_cons.mp nd).1 (List.of_mem_zip hv).1, if_neg hk]
    simp
  | p :: P, w :: vs, i + 1, m, nd, h1, h2, hk => by
    show bindC kindOf ((p, w) :: P.zip vs) m x = _
    unfold bindC
    exact bindC_get (i := i) (List.nodup_cons.mp nd).2 (by simpa using h1) (by simpa using h2) hk

/-- the names' values at the entry -/
def start (N : List Str) (vs : List V) : St := vs.map some ++ List.replicate (N.length - vs.length) none

/-- the context of a def's body, at its entry; an exception leaves the frame, then lies as CX says -/
def cxOf (CX : CXT) (P : Program) (w : World) (K : PySem.W.Frag) (mg : Str → Option Value) (base : Heap) (N : List Str) (qual : Str) (scope : Scope) (f : Addr) (cd : Value) (A : Around) (outer : List Env) (s : Shared) (H : Hp) (E : XK) : Cx where
  prog := P
  w := w
  K := K
  mg := mg
  base := base
  A := A.deeper (envOfC qual scope s.heap.objs.size f cd)
  N := N
  s₀ := s
  H₀ := H
  env := envOfC qual scope s.heap.objs.size f cd
  outer := outer
  stack := envOfC qual scope s.heap.objs.size f cd :: outer
  ex := []
  calm := true
  fn := fun _ => true
  pn := []
  xe := fun e s' => wpAny (model P w) (A.deeper (envOfC qual scope s.heap.objs.size f cd)) (leaving (envOfC qual scope s.heap.objs.size f cd) e) (fun _ s'' => CX outer H s E e s'') (fun e' s'' => CX outer H s E e' s'') s'

theorem cell_has {sc : Scope} {n : Nat} {x : Str} (h : sc.names.lookup x = some .cell) : ∃ c, (cellsFrom n sc.names []).lookup x = some c := by
  have q := PySem.W.cellsFrom_some sc.names n [] (.inl h)
  exact Option.isSome_iff_exists.mp q

theorem inv_start {CX : CXT} {P : Program} {w : World} {K : PySem.W.Frag} {mg : Str → Option Value} {base : Heap} {N ps : List Str} {qual : Str} {scope : Scope} {f : Addr} {cd : Value} {A : Around} {outer : List Env} {s s1 : Shared} {H : Hp} {E : XK} {us : List Value} {vs : List V}
    (S : FnScope N ps scope) (hd : A.handled = none) (e0 : Env0 P w K mg base A outer s H) (hl : vs.length = ps.length) (r : Vals vs us)
    (x : InCallC s s.heap.objs.size (bindL (envOfC qual scope s.heap.objs.size f cd).kindOf (ps.zip us) fun _ => none) (cellsFrom (s.heap.objs.size + 1) scope.names []) (bindC (envOfC qual scope s.heap.objs.size f cd).kindOf (ps.zip us) fun _ => none) s1) :
    Inv (cxOf CX P w K mg base N qual scope f cd A outer s H E) [] (start N vs) H s1 := by
  have hpl : ps.length ≤ N.length := by have := congrArg List.length S.pre; rw [List.length_take] at this; omega
  obtain ⟨h1, tk, rfl, hk⟩ := x.done
  have noA : ∀ b : Addr, b ∉ (cxOf CX P w K mg base N qual scope f cd A outer s H E).ex := fun b z => absurd (show b ∈ ([] : List Addr) from z) (by simp)
  refine ⟨⟨e0.mod, S.kind, rfl, rfl, Nat.le_refl _, fun y z c h1 h2 => ?_, fun y hy => ?_, fun y c _ h => ?_, fun _ => hd, Around.frames_deeper e0.frames, .inr ⟨rfl, rfl⟩, fun b z => absurd z (noA b), e0.bs, e0.bsz, fun b _ _ => noA b, fun b z => absurd z (noA b), e0.funs, e0.frf⟩,
    rfl, e0.bare, Un.kept hk, ⟨_, x.toInCall.ns, fun i y v h1 h2 h3 => ?_⟩, fun y c h => ⟨_, x.cell y c h⟩, e0.hok.fresh (Nat.le_refl _), fun y c h => ?_, fun p hp => absurd (show p ∈ ([] : List (Addr × Obj)) from hp) (by simp), e0.hok.kept hk, ?_⟩
  · exact name_of_addr x.apart (PySem.mem_of_lookup h1) (PySem.mem_of_lookup h2)
  · have hy : scope.names.lookup y = some .cell ∨ scope.names.lookup y = some .free := hy
    rcases hy with hy | hy
    · exact cell_has hy
    · exact absurd rfl (S.nofree _ (PySem.mem_of_lookup hy))
  · exact Nat.le_of_lt (x.above y c (PySem.mem_of_lookup h))
  · have hi : i < vs.length := by
      unfold start at h2
      by_cases hi : i < vs.length
      · exact hi
      · rw [List.getElem?_append_right (by simpa using hi)] at h2
        rw [List.getElem?_replicate] at h2
        split at h2 <;> cases h2
    have ha : vs[i]? = some v := by
      unfold start at h2
      rw [List.getElem?_append_left (by simpa using hi), List.getElem?_map] at h2
      cases e : vs[i]? with
      | none => rw [e] at h2; cases h2
      | some a => rw [e] at h2; cases h2; rfl
    obtain ⟨u, hu, rv⟩ := r.get ha
    have hp : ps[i]? = some y := by
      rw [← S.pre, List.getElem?_take_of_lt (by omega)]; exact h1
    have ndP : ps.Nodup := by rw [← S.pre]; exact S.nd.sublist (List.take_sublist _ _)
    refine ⟨u, rv, ?_⟩
    rcases S.par y (List.mem_of_getElem? hp) with k | k
    · exact .inl ⟨k, bindL_get ndP hp hu k⟩
    · obtain ⟨c, e⟩ := cell_has (n := s.heap.objs.size + 1) k
      refine .inr ⟨.inl k, c, e, ?_⟩
      have q := x.cell y c e
      rw [bindC_get ndP hp hu (by show scope.names.lookup y ≠ _; rw [k]; decide)] at q
      exact q
  · exact e0.hok.fresh (Nat.le_of_lt (x.above y c (PySem.mem_of_lookup h)))
  · unfold start
    show _ = N.length
    rw [List.length_append, List.length_map, List.length_replicate]
    omega

/-- THE RULE: a def (or a method) of the text, by its body. The body's reading t is chosen for each entry; it is run at the parameters' values -/
theorem fn_of {CX : CXT} {P : Program} {w : World} {K : PySem.W.Frag} {mg : Str → Option Value} {base : Heap} {k : Nat} {f : Addr} {name qual : Str} {params : Arguments} {body : List Stmt} {scope : Scope} {dV kV doc pm cdv ct oc : Value} {an od : Option Addr}
    {osl : Array (Option Value)} {N ps : List Str} {sp : Sp} (lk : K.lookup f = some ⟨oc, od, .func (PySem.W.fnOf name qual params body scope dV kV doc pm an cdv ct), osl⟩) (hcd : PySem.W.codeIn K cdv qual = true) (S : FnScope N ps scope)
    (len : ∀ vs H Q E, sp vs H Q E → vs.length = ps.length)
    (hbody : ∀ (A : Around) (outer : List Env) (s : Shared) (H : Hp) (vs : List V) (Q : VK) (E : XK), Room k (A.deeper (envOfC qual scope s.heap.objs.size f cdv)) → sp vs H Q E →
      ∃ t, PSs (cxOf CX P w K mg base N qual scope f cdv A outer s H E) body t ∧ t { nx := fun _ H' => Q .non H', rt := Q } (start N vs) H) :
    FnOk P w K mg base CX (k + 1) f (PySem.W.fnOf name qual params body scope dV kV doc pm an cdv ct) ps sp := by
  refine ⟨len, fun A outer s H args us vs Q E hr e0 hb r hsp => ?_⟩
  have hl := len _ _ _ _ hsp
  have KX : K.In s.heap := e0.mod.kin.keeps fun b o e => (e0.bs b o e).1
  have lim : s.heap.NoLimit := e0.mod.nolimit.keeps fun b o e => (e0.bs b o e).1
  have hkind : ∀ y ∈ ps.zip us, scope.names.lookup y.1 = some .local ∨ (scope.names.lookup y.1 = some .cell ∧ ((cellsFrom (s.heap.objs.size + 1) scope.names []).lookup y.1).isSome = true) := fun ⟨n, v⟩ hy => by
    rcases S.par n (List.of_mem_zip hy).1 with q | q
    · exact .inl q
    · exact .inr ⟨q, PySem.W.cellsFrom_some _ _ _ (.inl q)⟩
  refine codeAny_call_function hr.depth (KX _ _ lk) rfl S.co S.gen rfl (PySem.W.codeRec_of KX hcd) (hb _ _ _ _ ?_)
  refine wpAny_newFunctionEnv_cells S.kind hkind fun env he s1 x => ?_
  subst he
  refine ⟨lim.keeps x.toInCall.keep, codeAny_func ?_⟩
  obtain ⟨t, ht, hq⟩ := hbody A outer s H vs Q E (hr.deeper _) hsp
  have I : Inv (cxOf CX P w K mg base N qual scope f cdv A outer s H E) [] (start N vs) H s1 := inv_start S hr.hd e0 hl r x
  refine wpAny_mono (ht [] s1 (start N vs) H _ I hq) (fun fl s' hs => ?_) fun e s' hs => hs
  have fin : ∀ {σ' : St} {H' : Hp} {v : V} {u : Value}, Inv (cxOf CX P w K mg base N qual scope f cdv A outer s H E) [] σ' H' s' → RelV v u → Q v H' → CE outer P w H s Q u s' :=
    fun {σ' H' v u} J rv q => ⟨v, H', J.os, J.bare, J.base, J.hok, rv, q⟩
  cases fl with
  | ret u =>
    obtain ⟨v, σ', H', J, rv, q⟩ := hs
    exact fin J rv q
  | next =>
    obtain ⟨σ', H', J, q⟩ := hs
    exact fin (v := V.non) (u := Value.none) J rfl q
  | brk =>
    obtain ⟨_, _, _, q⟩ := hs
    exact False.elim q
  | cont =>
    obtain ⟨_, _, _, q⟩ := hs
    exact False.elim q
end L2

namespace L2
open PySem PySem.Spec PyProof.Rows
section
variable {X : Cx} {x : Str} {p pos : Pos} {e : Expr} {es : List Expr} {t : TA} {id T : String} {r : List V → Hp → VK → Prop}

def tCB (r : List V → Hp → VK → Prop) (t : TA) : TE := fun σ H Q => t σ H fun vs H1 => r vs H1 Q
/-- f(e, ..), f a built-in function -/
theorem pe_callB (hc : CallR X (.builtin id) r) (hg : Gl X x) (hm : X.mg x = none) (hv : bootBuiltins x = some (.builtin id)) (ha : PA X (e :: es) t) (hn : x ≠ "__name__" := by decide) (hdb : (x == ("__debug__" : Str)) = false := by decide)
    (he : starEach (e :: es) X.env = (false, eval e X.env) :: starEach es X.env := by rfl) (hpl : (backTo pos (starEach es X.env)).any (·.1) = false := by rfl) : PE X (.Call (.Name x p) (e :: es) [] pos) (tCB r t) := by
  intro pins s σ H Q I h
  refine wpAny_Call_Name_kw (ld_blt I hg hm hv ?_ hn hdb)
  exact PyProof.Rows.callWith_builtin1 (thn (ha pos pins s σ H _ I h) fun us s1 ⟨vs, H1, I1, r1, q1⟩ => hc pins s1 σ H1 vs us Q I1 r1 q1) he hpl
end
end L2

namespace HT
open PySem PyProof.Rows



section
open PySem.SeqAt
open PySem.AutoSeq1 (wpAny_loadPart')
open PySem.MeetsSeq PySem.MeetsSeq2 PySem.MeetsSeq3

end

section
variable {prog : Program} {w : World} {A : Around} {E : Value → Shared → Prop} {s : Shared}



/-! ### t[a:b], not the whole -/
/-- a slice's bound as a place among n (d where it is left out) -/
def sIx (n d : Nat) : Option Int → Nat
  | none => d
  | some v => if v < 0 then (v + (n : Int)).toNat else min v.toNat n

end
end HT

namespace L2
open PySem PySem.Spec PyProof.Rows

/-! ### the parts of a slice -/
abbrev TO := St → Hp → (Option Int → Hp → Prop) → Prop
/-- a slice's part (left out, or an int) -/
def PO (X : Cx) (e : Option Expr) (t : TO) : Prop :=
  ∀ (pins : List (Addr × Obj)) (s : Shared) (σ : St) (H : Hp) (Q : Option Int → Hp → Prop), Inv X pins σ H s → t σ H Q →
    wpAny (model X.prog X.w) X.A (evalPart e X.env) (fun u s' => ∃ o H', Inv X pins σ H' s' ∧ IsPart u o ∧ Q o H') X.xe s
def tNoPart : TO := fun _ H Q => Q none H
def tPart (t : TE) : TO := fun σ H Q => t σ H fun x H1 => ∃ i, x = .int i ∧ Q (some i) H1


section
variable {X : Cx} {e : Expr} {te : TE} {lo hi : Option Expr} {tl th : TO} {pos p2 : Pos}

theorem po_none : PO X none tNoPart := by
  intro pins s σ H Q I h
  rw [evalPart_none]
  exact wpAny_pure ⟨none, H, I, .none, h⟩
theorem po_some (h : PE X e te) : PO X (some e) (tPart te) := by
  intro pins s σ H Q I hw
  rw [evalPart_some]
  refine thn (h pins s σ H _ I hw) fun u s1 ⟨x, H1, I1, r1, q1⟩ => ?_
  obtain ⟨i, rfl, q⟩ := q1
  obtain ⟨t, rfl⟩ := r1
  exact ⟨some i, H1, I1, .int i t, q⟩

/-- what a slice of a value is, by values: the slice object stands at sl -/
def SlR (X : Cx) (r : V → Option Int → Option Int → Hp → VK → Prop) : Prop :=
  ∀ (pins : List (Addr × Obj)) (s : Shared) (σ : St) (H : Hp) (x : V) (v vl vu : Value) (lo hi : Option Int) (sl : Addr) (Q : VK), Inv X pins σ H s → RelV x v → s.heap.IsSliceOf sl vl vu .none → IsPart vl lo → IsPart vu hi → r x lo hi H Q →
    ∃ T id, typeLookup (.type T) "__getitem__" = pure (some (.builtin id)) ∧ s.TypeIs v T ∧ wpAny (model X.prog X.w) X.A (getItem v (.ref sl)) (EP X pins σ Q) X.xe s
def tSl (r : V → Option Int → Option Int → Hp → VK → Prop) (te : TE) (tl th : TO) : TE := fun σ H Q => te σ H fun x H1 => tl σ H1 fun l H2 => th σ H2 fun u H3 => r x l u H3 Q
/-- a[lo:hi], any a -/
theorem pe_slice {r : V → Option Int → Option Int → Hp → VK → Prop} (hr : SlR X r) (he : PE X e te) (hl : PO X lo tl) (hu : PO X hi th) : PE X (.Subscript e (.Slice lo hi none p2) pos) (tSl r te tl th) := by
  intro pins s σ H Q I h
  refine Subscript_ (thn (he pins s σ H _ I h) fun v s1 ⟨x, H1, I1, r1, q1⟩ => ?_)
  refine wpAny_Slice (thn (hl pins s1 σ H1 _ I1 q1) fun vl s2 ⟨l, H2, I2, pl, q2⟩ => thn (hu pins s2 σ H2 _ I2 q2) fun vu s3 ⟨u, H3, I3, pu, q3⟩ => ?_)
  rw [evalPart_none]
  refine wpAny_pure ?_
  have I4 : Inv X pins σ H3 { s3 with heap := s3.heap.push { cls := .type "slice", data := .fields #[vl, vu, .none] } } := I3.kept (t' := s3.toks) fun b ob q => Heap.get?_push_of_some _ q
  obtain ⟨T, id, hT, ht, hg⟩ := hr pins { s3 with heap := s3.heap.push { cls := .type "slice", data := .fields #[vl, vu, .none] } } σ H3 x v vl vu l u s3.heap.objs.size Q I4 r1 (Heap.IsSliceOf.new ..) pl pu q3
  show wpAny (model X.prog X.w) X.A (subscriptTail e (.Slice lo hi none p2) v (.ref s3.heap.objs.size)) (EP X pins σ Q) X.xe { s3 with heap := s3.heap.push { cls := .type "slice", data := .fields #[vl, vu, .none] } }
  exact tail_any (ops := [.ref s3.heap.objs.size, v]) ht hT hg (by with_unfolding_all rfl)

/-- the items of xs[lo:hi] -/
def cutV (xs : List V) (lo hi : Option Int) : List V := (xs.drop (HT.sIx xs.length 0 lo)).take (HT.sIx xs.length xs.length hi - HT.sIx xs.length 0 lo)
theorem cutV_length (xs : List V) (lo hi : Option Int) : (cutV xs lo hi).length ≤ xs.length := by
  unfold cutV
  rw [List.length_take, List.length_drop]
  omega

/-! ### t < u, t + u -/
end
end L2

namespace L2
open PySem PySem.Spec PyProof.Rows

/-! ### places -/
/-- the place that an index of any sign means -/
def ixN (n : Nat) (i : Int) : Option Nat := if 0 ≤ i then (if i < n then some i.toNat else none) else if -(n : Int) ≤ i then some (i + n).toNat else none
def atI {α : Type} (xs : List α) (i : Int) : Option α := (ixN xs.length i).bind fun j => xs[j]?
theorem ixN_seq {n : Nat} {i : Int} {j : Nat} (h : ixN n i = some j) : seqIndex? i n = some j ∧ j < n ∧ -(n : Int) ≤ i ∧ i < n := by
  unfold ixN at h
  by_cases h0 : 0 ≤ i
  · rw [if_pos h0] at h
    by_cases h1 : i < n
    · rw [if_pos h1] at h
      have e : i.toNat = j := Option.some.inj h
      exact ⟨by rw [seqIndex_of h0 h1, e], by omega, by omega, h1⟩
    · rw [if_neg h1] at h; cases h
  · rw [if_neg h0] at h
    by_cases h1 : -(n : Int) ≤ i
    · rw [if_pos h1] at h
      have e : (i + n).toNat = j := Option.some.inj h
      exact ⟨by rw [seqIndex_neg (by omega) h1, e], by omega, h1, by omega⟩
    · rw [if_neg h1] at h; cases h
theorem atI_get {α : Type} {xs : List α} {i : Int} {v : α} (h : atI xs i = some v) : ∃ j, seqIndex? i xs.length = some j ∧ xs[j]? = some v ∧ j < xs.length ∧ -(xs.length : Int) ≤ i ∧ i < xs.length := by
  unfold atI at h
  cases e : ixN xs.length i with
  | none => rw [e] at h; cases h
  | some j =>
    rw [e] at h
    obtain ⟨h1, h2, h3, h4⟩ := ixN_seq e
    exact ⟨j, h1, h, h2, h3, h4⟩
theorem atI_nat {α : Type} {xs : List α} {j : Nat} {v : α} (h : xs[j]? = some v) : atI xs (j : Int) = some v := by
  have hj : j < xs.length := (List.getElem?_eq_some_iff.mp h).1
  have e : ixN xs.length (j : Int) = some j := by
    unfold ixN
    rw [if_pos (by omega), if_pos (by omega)]; simp
  unfold atI; rw [e]; exact h

/-! ### what may be subscripted -/
/-- what stands as an index of a plain subscript -/
def PlainIx (b : Expr) : Prop := ∀ o i, subscripted b false o i = operate [o, i] (getItem o i)
/-- a subscript by values -/
def IxR (X : Cx) (r : R2) : Prop :=
  ∀ (value slice : Expr) (pins : List (Addr × Obj)) (s : Shared) (σ : St) (H : Hp) (x y : V) (v u : Value) (Q : VK), Inv X pins σ H s → RelV x v → RelV y u → r x y H Q →
    subscripted slice false v u = operate [v, u] (getItem v u) → wpAny (model X.prog X.w) X.A (subscriptTail value slice v u) (EP X pins σ Q) X.xe s
/-- a call of a builtin's method by values: the receiver, the arguments -/
def MtR (X : Cx) (id : String) (r : V → List V → Hp → VK → Prop) : Prop :=
  ∀ (pins : List (Addr × Obj)) (s : Shared) (σ : St) (H : Hp) (x : V) (xs : List V) (v : Value) (us : List Value) (Q : VK), Inv X pins σ H s → RelV x v → Vals xs us → r x xs H Q →
    wpAny (model X.prog X.w) X.A (call (.builtin id) (v :: us)) (EP X pins σ Q) X.xe s
section
variable {X : Cx} {a b : Expr} {ta tb : TE} {pos : Pos}
/-- a[b] -/
theorem pe_ix {r : R2} (hr : IxR X r) (ha : PE X a ta) (hb : PE X b tb) (hs : PlainIx b) : PE X (.Subscript a b pos) (tOp r ta tb) := by
  intro pins s σ H Q I h
  exact Subscript_ (binT ha hb I h fun v u s2 x y H2 I2 rx ry q => hr a b pins s2 σ H2 x y v u Q I2 rx ry q (hs _ _))

def rIxL (K : PySem.W.Frag) : R2 := fun x y H Q => ∃ p xs i v, x = .ref p ∧ y = .int i ∧ SqL K H p xs ∧ atI xs i = some v ∧ Q v H
def rIxT (K : PySem.W.Frag) : R2 := fun x y H Q => ∃ p xs i v, x = .ref p ∧ y = .int i ∧ SqT K H p xs ∧ atI xs i = some v ∧ Q v H
theorem ix_list : IxR X (rIxL X.K) := by
  intro value slice pins s σ H x y v u Q I rx ry h hs
  obtain ⟨p, xs, i, z, rfl, rfl, hq, he, q⟩ := h
  cases rx
  obtain ⟨t, rfl⟩ := ry
  obtain ⟨its, r, pl, hz⟩ := I.list hq
  obtain ⟨j, h1, h2, h3, h4, h5⟩ := atI_get he
  obtain ⟨w, ew, rw'⟩ := r.get h2
  have hl := r.length
  have hn := line63
  have fin : EP X pins σ Q w s := ⟨z, H, I, rw', q⟩
  by_cases h0 : 0 ≤ i
  · have hj : i.toNat = j := by
      rw [seqIndex_of h0 h5] at h1
      exact Option.some.inj h1
    exact item_listR pl.isList h0 (by omega) (by rw [hj]; simpa using ew) fin hs
  · have hj : (i + (its.toArray.size : Int)).toNat = j := by
      rw [seqIndex_neg (by omega) h4] at h1
      rw [List.size_toArray, ← hl]
      exact Option.some.inj h1
    exact subscriptTail_builtinR (x := w) pl.isList.typeIs slot_list_getitem.lookup
      (wpAny_getItem_list_neg (Q := fun r s' => r = w ∧ EP X pins σ Q r s') pl.isList (by omega) (by rw [List.size_toArray] <;> omega) (by omega) (by rw [hj]; simpa using ew) ⟨rfl, fin⟩) hs
theorem ix_tup : IxR X (rIxT X.K) := by
  intro value slice pins s σ H x y v u Q I rx ry h hs
  obtain ⟨p, xs, i, z, rfl, rfl, hq, he, q⟩ := h
  cases rx
  obtain ⟨t, rfl⟩ := ry
  obtain ⟨its, r, pl, hz⟩ := I.tuple hq
  obtain ⟨j, h1, h2, h3, h4, h5⟩ := atI_get he
  obtain ⟨w, ew, rw'⟩ := r.get h2
  have hl := r.length
  have hn := line63
  have fin : EP X pins σ Q w s := ⟨z, H, I, rw', q⟩
  exact subscriptTail_builtinR (x := w) pl.typeIs slot_tuple_getitem.lookup
    (getItem_tuple (j := j) (Q := fun r s' => r = w ∧ EP X pins σ Q r s') pl (by omega) (by omega) (by rw [List.size_toArray, ← hl]; exact h1) (by simpa using ew) ⟨rfl, fin⟩) hs

/-! ### xs[i] = v, any sign -/

/-! ### slices -/
theorem slice_bounds (lo hi : Option Int) (n : Nat) : (sliceBounds lo hi none n).1 = ((HT.sIx n 0 lo : Nat) : Int) ∧ (sliceBounds lo hi none n).2.1 = ((HT.sIx n n hi : Nat) : Int) ∧ (sliceBounds lo hi none n).2.2 = 1 := by
  refine ⟨?_, ?_, rfl⟩
  · cases lo with
    | none => simp [sliceBounds, HT.sIx]
    | some i =>
      simp only [sliceBounds, HT.sIx, Option.getD_none, show (1 : Int) > 0 by decide, if_true]
      by_cases h : i < 0
      · simp only [h, if_true] <;> omega
      · simp only [h, if_false] <;> omega
  · cases hi with
    | none => simp [sliceBounds, HT.sIx]
    | some i =>
      simp only [sliceBounds, HT.sIx, Option.getD_none, show (1 : Int) > 0 by decide, if_true]
      by_cases h : i < 0
      · simp only [h, if_true] <;> omega
      · simp only [h, if_false] <;> omega
theorem slicePick_cut (its : List Value) (lo hi : Option Int) : slicePick its.toArray lo hi none = ((its.drop (HT.sIx its.length 0 lo)).take (HT.sIx its.length its.length hi - HT.sIx its.length 0 lo)).toArray := by
  obtain ⟨h1, h2, h3⟩ := slice_bounds lo hi its.toArray.size
  unfold slicePick
  rw [h1, h2, h3]
  simp only [sliceRange_one, pick_run, List.size_toArray] <;> rfl
/-- xs[lo:hi] of a list: a new list -/
def rSlL (K : PySem.W.Frag) : V → Option Int → Option Int → Hp → VK → Prop := fun x lo hi H Q => ∃ a xs, x = .ref a ∧ SqL K H a xs ∧ ∀ p, H p = none → Q (.ref p) (upd H p (.lst (cutV xs lo hi)))
theorem sl_list : SlR X (rSlL X.K) := by
  intro pins s σ H x v vl vu lo hi sl Q I rx hs pl pu h
  obtain ⟨a, xs, rfl, hx, q⟩ := h
  cases rx
  obtain ⟨its, r, ht, hz⟩ := I.list hx
  have hlen := r.length
  refine ⟨"list", _, slot_list_getitem.lookup, ht.isList.typeIs, ?_⟩
  refine wpAny_getItem_list_slice ht.isList hs pl pu .none (by simp) ?_ (by rw [List.size_toArray] <;> omega)
  rw [slicePick_cut, ← hlen]
  refine ⟨.ref s.heap.objs.size, _, I.laid (t' := s.toks) (o := .lst (cutV xs lo hi)) (fun b ob q => Heap.get?_push_of_some _ q) (Nat.le_refl _) ?_, rfl, q _ (I.hok.fresh (Nat.le_refl _))⟩
  exact ⟨Nat.le_trans (cutV_length xs lo hi) hz, _, 0, (r.drop (HT.sIx xs.length 0 lo)).take (HT.sIx xs.length xs.length hi - HT.sIx xs.length 0 lo), Heap.get?_push_size _ rfl⟩

/-! ### in, not in: flat items -/

/-! ### len, list(x), tuple(x) of any list or tuple that is read -/
theorem call_len_seq : CallR X (.builtin "len") (fun xs H Q => ∃ p ys, xs = [.ref p] ∧ (SqL X.K H p ys ∨ SqT X.K H p ys) ∧ Q (.int ys.length) H) := by
  intro pins s σ H xs us Q I r h
  obtain ⟨p, ys, rfl, hq, q⟩ := h
  obtain ⟨u, rfl, rx⟩ := vals1 r
  cases rx
  have hn := line63
  rcases hq with hq | hq
  · obtain ⟨its, r', pl, hz⟩ := I.list hq
    have hlen := r'.length
    exact Calls.call_len_list pl.isList (by simp only [List.size_toArray] <;> omega) ⟨.int ys.length, H, I.tok _, ⟨s.toks + 1, by rw [List.size_toArray, hlen]⟩, q⟩
  · obtain ⟨its, r', pl, hz⟩ := I.tuple hq
    have hlen := r'.length
    exact len_tuple pl (by simp only [List.size_toArray] <;> omega) ⟨.int ys.length, H, I.tok _, ⟨s.toks + 1, by rw [List.size_toArray, hlen]⟩, q⟩

/-! ### the call of a builtin's method: o.m(..) -/
/-- the value is of that builtin type -/
def tyV (K : PySem.W.Frag) (T : String) (x : V) (H : Hp) : Prop := match x with
  | .str _ => T = "str"
  | .int _ => T = "int"
  | .ref p => (T = "list" ∧ ∃ xs, SqL K H p xs) ∨ (T = "tuple" ∧ ∃ o, K.lookup p = some o ∧ o.cls = .type "tuple" ∧ o.dict = none) ∨
      (T = "dict" ∧ ((∃ kvs, H p = some (.dK kvs)) ∨ ∃ kvs, H p = some (.dT kvs))) ∨ (T = "set" ∧ ∃ S n, H p = some (.set S n))
  | _ => False
theorem tyV_is {pins : List (Addr × Obj)} {σ : St} {H : Hp} {s : Shared} {T : String} {x : V} {v : Value} (I : Inv X pins σ H s) (r : RelV x v) (ty : tyV X.K T x H) :
    s.TypeIs v T ∧ ∀ a, v = .ref a → ∃ ob, s.heap.get? a = some ob ∧ ob.dict = none := by
  cases x with
  | str z =>
    obtain ⟨t, rfl⟩ := r
    cases (show T = "str" from ty)
    exact ⟨typeIs_str s z t, fun _ e => nomatch e⟩
  | int i =>
    obtain ⟨t, rfl⟩ := r
    cases (show T = "int" from ty)
    exact ⟨typeIs_int s i t, fun _ e => nomatch e⟩
  | ref p =>
    cases r
    rcases ty with ⟨rfl, xs, hq⟩ | ⟨rfl, o, hk, hc, hd⟩ | ⟨rfl, hk⟩ | ⟨rfl, S, n, hk⟩
    · obtain ⟨its, _, pl, _⟩ := I.list hq
      refine ⟨pl.isList.typeIs, fun a e => ?_⟩
      cases e
      obtain ⟨o, n, e, c, hd, _⟩ := pl
      exact ⟨o, e, hd⟩
    · refine ⟨⟨o, I.kIn p o hk, hc⟩, fun a e => ?_⟩
      cases e
      exact ⟨o, I.kIn _ o hk, hd⟩
    · have z : ∃ o, s.heap.get? p = some o ∧ o.ExactDict := by
        rcases hk with ⟨kvs, hk⟩ | ⟨kvs, hk⟩
        · obtain ⟨_, _, _, _, o, _, _, e, ex, _⟩ := I.hok p _ hk
          exact ⟨o, e, ex⟩
        · obtain ⟨_, _, _, _, o, _, _, e, ex, _⟩ := I.hok p _ hk
          exact ⟨o, e, ex⟩
      obtain ⟨o, e, ex⟩ := z
      refine ⟨⟨o, e, ex.1⟩, fun a e2 => ?_⟩
      cases e2
      exact ⟨o, e, ex.2.1⟩
    · obtain ⟨o, _, _, _, e, ex, _⟩ := I.hok p _ hk
      refine ⟨⟨o, e, ex.1⟩, fun a e2 => ?_⟩
      cases e2
      exact ⟨o, e, ex.2.1⟩
  | _ => exact False.elim ty
def tBM (K : PySem.W.Frag) (T : String) (r : V → List V → Hp → VK → Prop) (to : TE) (t : TA) : TE := fun σ H Q => to σ H fun x H1 => tyV K T x H1 ∧ t σ H1 fun xs H2 => r x xs H2 Q
variable {o e : Expr} {es : List Expr} {to : TE} {t : TA} {name : Str} {apos cpos : Pos} {T id : String} {r : V → List V → Hp → VK → Prop}
theorem pe_bm (pa : PlainAttrs T) (slot : Slot T name id) (hty : typeOf (.builtin id) = pure (.type "method_descriptor")) (hm : MtR X id r) (ho : PE X o to) (ha : PA X (e :: es) t)
    (hbase : attributeBase o name X.env (eval o X.env) = eval o X.env := by rfl)
    (hfew : ((backTo cpos (starEach (e :: es) X.env)).all (fun x => !x.1) && (backToKw cpos (keywordEach [] X.env)).all (fun x => x.1.isSome)
      && decide ((e :: es).length + ([] : List Keyword).length + (if ([] : List Keyword).isEmpty then 0 else 1) < 30)) = true := by rfl)
    (hline : (apos.endLine == cpos.line) = true := by rfl) (hs : starEach (e :: es) X.env = (false, eval e X.env) :: starEach es X.env := by rfl) (hplain : (backTo cpos (starEach es X.env)).any (·.1) = false := by rfl) :
    PE X (.Call (.Attribute o name apos) (e :: es) [] cpos) (tBM X.K T r to t) := by
  intro pins s σ H Q I h
  refine wpAny_Call_method_late hbase hfew hline rfl (thn (ho pins s σ H _ I h) fun v s1 ⟨x, H1, I1, r1, ty, q1⟩ => ?_)
  obtain ⟨h1, h2⟩ := tyV_is I1 r1 ty
  refine ⟨T, id, pa, slot, hty, h1, h2, ?_⟩
  have hA := ha cpos pins s1 σ H1 _ I1 q1
  rw [hs] at hA ⊢
  refine Calls.callWith_builtin (by show (false || (backTo cpos (starEach es X.env)).any (·.1)) = false; rw [hplain] <;> rfl) (Calls.evalArgs_plain ?_)
  exact thn hA fun us s2 ⟨vs, H2, I2, r2, q2⟩ => hm pins s2 σ H2 x vs v us Q I2 r1 r2 q2
/- xs.append(e), list.index on a module's tuple .. are MtR facts of 06m -/
end
end L2

namespace L2
open PySem PySem.Spec PyProof.Rows

def MtM (X : Cx) (id : String) (r : V → List V → Hp → VK → Prop) : Prop :=
  ∀ (pins : List (Addr × Obj)) (s : Shared) (σ : St) (H : Hp) (x : V) (xs : List V) (v : Value) (us : List Value) (Q : VK), Inv X pins σ H s → RelV x v → Vals xs us → r x xs H Q →
    wpAny (model X.prog X.w) X.A (call (.builtin id) (v :: us)) (EP X pins σ Q) X.xe s

/-! ### lists of values -/
theorem Vals.one : ∀ {x : V} {us : List Value}, Vals [x] us → ∃ u, us = [u] ∧ RelV x u
  | _, _, .cons r .nil => ⟨_, rfl, r⟩

section
variable {X : Cx} {pins : List (Addr × Obj)} {σ : St} {H : Hp} {s : Shared} {l b : Addr} {xs ys zs : List V}

/-! ### the two steps: a tracked list is rewritten, a new list is laid -/
theorem Inv.lset {its its' : List Value} {n : Nat} {f : Array Value → Array Value} {t' : Nat} (I : Inv X pins σ H s) (hH : H l = some (.lst xs))
    (e : s.heap.get? l = some { cls := .type "list", data := .seq its.toArray n }) (hf : f its.toArray = its'.toArray) (hv : Vals ys its') (hz : ys.length ≤ sizeLine) :
    Inv X pins σ (upd H l (.lst ys)) { s with heap := s.heap.update l (Obj.mapSeq f), toks := t' } := by
  have q := PySem.IsL.update e f
  rw [hf] at q
  refine I.write (x := l) (e := l) (by rw [hH]; exact trivial) (.inl rfl) (fun b' u hb hu => (Heap.get?_update_other s.heap (Obj.mapSeq f) (Ne.symm hb)).trans hu) ⟨_, q⟩ ?_
  exact ⟨hz, its', _, hv, q⟩
theorem Inv.lstM (I : Inv X pins σ H s) (hH : H l = some (.lst xs)) : xs.length ≤ sizeLine ∧ ∃ (its : List Value) (n : Nat), Vals xs its ∧ xs.length = its.length ∧ s.heap.get? l = some { cls := .type "list", data := .seq its.toArray n } := by
  obtain ⟨z, its, n, r, e⟩ := I.hok l _ hH
  exact ⟨z, its, n, r, r.length, e⟩

end

section
variable {X : Cx}

/-! ### methods -/
def rAppend : V → List V → Hp → VK → Prop := fun x vs H Q => ∃ l xs y, x = .ref l ∧ vs = [y] ∧ H l = some (.lst xs) ∧ xs.length < sizeLine ∧ Q .non (upd H l (.lst (xs ++ [y])))
theorem mt_append : MtM X "list.append" rAppend := by
  intro pins s σ H x vs v us Q I rx rv h
  obtain ⟨l, xs, y, rfl, rfl, hH, hz, q⟩ := h
  cases rx
  obtain ⟨u, rfl, ru⟩ := rv.one
  obtain ⟨z, its, n, r, hl, e⟩ := I.lstM hH
  refine call_meets F.slot_list_append ⟨_, e, rfl⟩ F.entry_list_append (F.args_list_append_2 _ _) (PySem.list_append l its.toArray n u (by rw [List.size_toArray]; omega)) ⟨e, ?_⟩
  refine ⟨.non, _, I.lset (its' := its ++ [u]) hH e (by simp) (r.append (.cons ru .nil)) ?_, rfl, q⟩
  rw [List.length_append, List.length_singleton]
  omega






/-! ### list + list, list += list, list * int -/

/-! ### del xs[i] -/
end

/-! ### xs[a:b] = ys -/
section
variable {prog : Program} {w : World} {A : Around} {E : Value → Shared → Prop} {s : Shared}
set_option maxRecDepth 100000 in
end

section
variable {X : Cx}
end
end L2

namespace Att
open PySem PySem.W PySem.Calls PyProof.Rows

/-! ### the script -/
theorem ints_of_wellAll {P : Params} {h : Heap} : ∀ (ns : List Int) (vs : List Value), WellAll P h vs (ns.map WData.int) → IntsAre vs ns := by
  intro ns
  induction ns with
  | nil =>
    intro vs w
    rw [List.map_nil] at w
    cases w
    exact .nil
  | cons n ns ih =>
    intro vs w
    rw [List.map_cons] at w
    cases w with
    | cons a b =>
      cases a
      exact .cons _ _ (ih _ b)

theorem script_of {l : OpenLaw} {n : Nat} (hn : l.most = some n) {P : Params} {h : Heap} {args : List WData} {vals : List Value}
    (hpre : l.row.toRowW.claim.pre args = true) (hwl : WellAll P h vals args) :
    ∃ a vs ns, vals = [Value.ref a] ∧ args = [WData.list (ns.map WData.int)] ∧ h.get? a = some { cls := .type "list", data := .seq vs.toArray } ∧ IntsAre vs ns ∧ ns.length ≤ n := by
  have hsh : WShape.hasAll [] args [.list .int] = true := (pre_splitW hpre).1
  have hc : l.pre.holds [] { args := args } = true := (pre_splitW hpre).2
  obtain ⟨d, r, rfl, h1, h2⟩ := hasAllW_cons hsh
  obtain rfl := hasAllW_nil h2
  obtain ⟨xs, rfl, h3⟩ := hasW_list h1
  obtain ⟨ns, rfl⟩ := items_int h3
  have hlen : ns.length ≤ n := by
    unfold OpenLaw.pre at hc
    have h4 : (WTm.not (.lt (.lit (.int (n : Int))) (.len (.arg 0)))).holds [] { args := [.list (ns.map .int)] } = true := by
      have h4 := (holds_andW hc).1
      rw [hn] at h4
      exact h4
    have h5 := condW_of h4 (w_not (w_lt w_lit (w_len_list (w_arg rfl))))
    rw [List.length_map] at h5
    refine Nat.le_of_not_lt fun q => ?_
    have q' : (n : Int) < ((ns.length : Nat) : Int) := by omega
    first
      | (rw [decide_eq_true q'] at h5; exact absurd h5 (by decide))
      | (simp at h5; omega)
  cases hwl with
  | cons w1 w2 =>
    cases w2
    cases w1 with
    | list ho hall => exact ⟨_, _, ns, rfl, rfl, ho, ints_of_wellAll ns _ hall, hlen⟩

theorem post_true (l : OpenLaw) (args : List WData) : l.row.toRowW.claim.post args (.bool true) args = true :=
  postW_of (r := l.row.toRowW) (X := (true == true))
    (show WShape.has [] (.bool true) .bool = true by first | rfl | decide | simp [WShape.has, WShape.arms, WShape.armsAll])
    (show (WTm.eq .res (.lit (.bool true))).value [] { args := args, res := some (.bool true), after := args } = some (.bool (true == true)) from w_eq_bool (w_res rfl) w_lit) rfl

/-! ### the attachment: holds_open's last premise (the goal 'hc' behind k_head) from a wpAny of the law's body -/



/-! ### rules over ANY heap (no ledger) from facts about the written part K: the library's own take a ledger (News) for what they write -/
section
variable {prog : Program} {w : World} {A : Around} {E : Value → Shared → Prop} {s : Shared} {K : Frag}





/-! the whole heap as the ledger: makes every rule that writes through a ledger a rule over any heap -/

end
end Att

namespace L2
open PySem PySem.Spec PyProof.Rows

theorem vals_ints : ∀ {vs : List Value} {ns : List Int}, IntsAre vs ns → Vals (ns.map V.int) vs
  | _, _, .nil => .nil
  | _, _, .cons n t h => .cons ⟨t, rfl⟩ (vals_ints h)

/-- nothing is tracked but the script, known to the object (or it is an object of the module) -/
def Only (H : Hp) : Prop := ∀ b, H b = none ∨ ∃ o xs, H b = some (.frz o (.lst xs))

/-- THE HEAD: the law's promise, at the heap behind the top. F, the promise of the law's def, may use that base is part of the heap (so K.In base, base.Ns mainGlobals mg stand in Mod) -/
theorem law_call {P : Program} {w : World} {K : PySem.W.Frag} {mg mb : Str → Option Value} {CX : CXT} {k : Nat} {fa a : Addr} {fd : FuncData} {x : Str} {sp : Sp} {s₁ : Shared} {vs : List Value} {ns : List Int}
    (KX : K.In s₁.heap) (hns : s₁.heap.Ns mainGlobals mg) (hb : s₁.heap.Ns builtinsNs mb) (hbb : ∀ x : Str, x ≠ "__name__" → mb x = bootBuiltins x) (hlim : s₁.heap.NoLimit) (hg : s₁.gens = #[])
    (ha : s₁.heap.get? a = some { cls := .type "list", data := .seq vs.toArray }) (hi : IntsAre vs ns) (hl : ns.length ≤ sizeLine) (hr : Room k callerA)
    (F : ∀ base : Heap, K.In base → base.Ns mainGlobals mg → FnOk P w K mg base CX k fa fd [x] sp) (hbind : ∀ (s : Shared) (u : Value), BindsTo s fd ⟨[u], []⟩ [(x, u)])
    (hsp : ∀ H : Hp, Only H → SqL K H a (ns.map V.int) → sp [.ref a] H (fun v _ => v = .bl true) fun _ _ _ => False)
    (hCX : ∀ H e s', CX [] H s₁ (fun _ _ _ => False) e s' → False) :
    codeAny (model P w) callerA (.call (.ref fa) ⟨[.ref a], []⟩) (fun r s' => r = .ok (.ret (.bool true)) ∧ OldK s₁.heap s'.heap ∧ s'.os = s₁.os ∧ AllBare s'.gens) s₁ := by
  have rv := vals_ints hi
  have lenV := hi.length
  -- from an abstract heap in which nothing but the script may be tracked
  have core : ∀ H : Hp, Only H → SqL K H a (ns.map V.int) → HOk P w H s₁.heap → (∀ b, H b ≠ none → b = a) → (H a ≠ none → K.lookup a = none) →
      codeAny (model P w) callerA (.call (.ref fa) ⟨[.ref a], []⟩) (fun r s' => r = .ok (.ret (.bool true)) ∧ OldK s₁.heap s'.heap ∧ s'.os = s₁.os ∧ AllBare s'.gens) s₁ := by
    intro H hO hS hok hA hK
    have base_of : ∀ {b : Addr} {o : Obj}, s₁.heap.get? b = some o → H b = none → (hidT s₁.heap H).get? b = some o := fun e n => hidT_get e n
    have noA : ∀ {b : Addr} {o : Obj} {es : Array DictEntry} {ep : Nat}, s₁.heap.get? b = some o → o.data = .dict es ep → H b = none := fun {b o es ep} e d => by
      cases q : H b with
      | none => rfl
      | some u =>
        have e' : b = a := hA b (by rw [q]; simp)
        subst e'
        rw [ha] at e; cases e
        have d' : Data.seq vs.toArray _ = Data.dict es ep := d
        cases d'
    have nsK : ∀ {b : Addr} {m : Str → Option Value}, s₁.heap.Ns b m → (hidT s₁.heap H).Ns b m := fun {b m} ⟨o, es, ep, e, d, r⟩ => ⟨o, es, ep, base_of e (noA e d), d, r⟩
    have hKb : K.In (hidT s₁.heap H) := fun b o e => base_of (KX b o e) (by
      cases q : H b with
      | none => rfl
      | some u =>
        have e' : b = a := hA b (by rw [q]; simp)
        subst e'
        rw [hK (by rw [q]; simp)] at e; cases e)
    have hM : Mod K mg (hidT s₁.heap H) := ⟨hKb, nsK hns, ⟨mb, nsK hb, hbb⟩, let ⟨mc, h1, h2⟩ := hlim; ⟨mc, nsK h1, h2⟩⟩
    have e0 : Env0 P w K mg (hidT s₁.heap H) callerA [] s₁ H := ⟨rfl, hM, fun b o e => of_hidT e, Nat.le_of_eq (hidT_size _ _), trivial, fun b hb => absurd (show b ∈ ([] : List Addr) from hb) (by simp), hok, .of_eq hg⟩
    refine codeAny_mono ((F _ hKb (nsK hns)).run callerA [] s₁ H ⟨[.ref a], []⟩ [.ref a] [.ref a] _ _ hr e0 (hbind s₁ (.ref a)) (.cons rfl .nil) (hsp H hO hS)) fun r s' h => ?_
    cases r with
    | error e => exact (hCX H e s' h).elim
    | ok fl =>
      cases fl with
      | next => exact False.elim h
      | brk => exact False.elim h
      | cont => exact False.elim h
      | ret u =>
        obtain ⟨v, H', os, bare, un, hok', r', q⟩ := h
        have q' : v = .bl true := q
        subst q'
        obtain rfl : u = Value.bool true := r'
        refine ⟨rfl, OldK.of_keep fun b o e => ?_, os, bare⟩
        cases q : H b with
        | none => exact un.keep b o e q (by intro z; exact absurd (show b ∈ ([] : List Addr) from z) (by simp)) (by simp)
        | some u =>
          rcases hO b with z | ⟨ob, xs, z⟩
          · rw [q] at z; cases z
          · have z2 := un.frzs b ob _ z
            obtain ⟨e1, _⟩ := hok b _ z
            obtain ⟨e2, _⟩ := hok' b _ z2
            rw [e] at e1; cases e1
            exact e2
  cases hk : K.lookup a with
  | some o =>
    -- the script is one of the module's own objects
    have e := KX a o hk
    rw [ha] at e
    cases e
    refine core (fun _ => none) (fun _ => .inl rfl) (.inr ⟨_, vs.toArray, _, hk, rfl, rfl, rfl, by rw [List.size_toArray, lenV]; exact hl, by simpa using rv⟩) (fun b u z => by have z' : (none : Option HO) = some u := z; cases z') (fun b z => absurd rfl z) fun z => absurd rfl z
  | none =>
    refine core (fun b => if b = a then some (.frz { cls := .type "list", data := .seq vs.toArray } (.lst (ns.map V.int))) else none) (fun b => ?_) (.inl (.inr ⟨{ cls := .type "list", data := .seq vs.toArray }, if_pos rfl⟩)) (fun b u z => ?_) (fun b z => ?_) fun _ => hk
    · by_cases hb : b = a
      · exact .inr ⟨_, _, if_pos hb⟩
      · exact .inl (if_neg hb)
    · by_cases hb : b = a
      · have z' := (if_pos hb).symm.trans z
        cases z'
        subst hb
        exact ⟨ha, by rw [List.length_map]; exact hl, vs, _, rv, ha⟩
      · have z' := (if_neg hb).symm.trans z
        cases z'
    · by_cases hb : b = a
      · exact hb
      · exact absurd (if_neg hb) z
end L2

namespace L2
open PySem PySem.Spec PyProof.Rows

abbrev KOf {K : PySem.W.Frag} {h : Heap} (_ : K.In h) : PySem.W.Frag := K

end L2

/- THE LAST THEOREM (shape; LID, My.* are yours):
   My.Adr: a structure of the addresses that your layer names (classes, functions); My.Txt K t: a structure (Prop) of the equations over K;
   My.txt_mk : {K} {implicit addresses ..} (e1 : nsIn K mainGlobals "law" = some (some (.ref f))) (e2 : K.lookup f = some ⟨oc, od, .func (fnOf "law" "law" params body scope dV kV doc pm an cdv ct), sl⟩) (e3 : codeIn K cdv "law" = true) .. : ∃ t, My.Txt K t

set_option maxRecDepth 100000 in
set_option maxHeartbeats 0 in
theorem PySem.Challenge.cw_LID_holds : PySem.Challenge.rw_LID.Holds := by
  w_on; o_law; k_head; (case hw => w_witness2)
  k_fill
  refine L2.walk_of (l := PySem.Challenge.rw_LID) (n := 63) (k := 40) (x := "script") (CX := fun w => ..) (sp := fun _ => My.sp_law) rfl (by decide) rfl ⟨rfl, by decide, by decide⟩ (fun w h Y => PySem.W.kIn_of Y) ?F ?S ?C
  case F =>
    intro w mg fa h KX G hmg
    have T : ∃ t, My.Txt (L2.KOf KX) t := by
      dsimp only [L2.KOf]                          -- K must stand as «<heap const> w.params» for k_is
      refine' My.txt_mk ?e1 ?e2 ?e3 ..
      (case e1 => PySem.W.k_is)                    -- in the order: a name -> its address -> its object -> its parts
      (case e2 => PySem.W.k_is)
      ..
    obtain ⟨t, T⟩ := T
    have e0 := hmg.symm.trans (PySem.W.mg_of KX G T.law)
    cases e0                                       -- fa is the law's own address
    exact ⟨_, fun s u => .of_eq rfl, fun base kb nb => My.law_fn T kb nb⟩     -- if «.of_eq rfl» comes too early: refine' ⟨_, ?b, fun base kb nb => My.law_fn T kb nb⟩; exact fun s u => .of_eq rfl
  case S => exact fun w H a ns hl hO hS => ..
  case C => exact ..
(the tactic k_is has no namespace: write k_is) -/

/-! SHORT WORDS over the layer: a def of the text, its body, what a loop and a test want. -/
namespace L2
open PySem PySem.Spec PyProof.Rows

/-! ### the text by places -/
def defArgs (s : Stmt) : Arguments := match s with
  | .FunctionDef _ a _ _ _ _ _ _ _ _ => a
  | _ => { posonlyargs := [], args := [], vararg := none, kwonlyargs := [], kw_defaults := [], kwarg := none, defaults := [] }
def defBody (s : Stmt) : List Stmt := match s with
  | .FunctionDef _ _ b _ _ _ _ _ _ _ => b
  | _ => []
def defScope (s : Stmt) : Scope := match s with
  | .FunctionDef _ _ _ _ _ _ sc _ _ _ => sc
  | _ => { kind := .function, names := [], isGenerator := false, isCoroutine := false }

/-! ### no exception leaves a def -/
abbrev CX0 : CXT := fun _ _ _ _ _ _ => False
abbrev E0 : XK := fun _ _ _ => False
theorem pass0 {X : Cx} : Passes CX0 X E0 := fun _ _ _ _ _ _ _ h => h.elim

/-! ### a def (or method) of the text as it stands behind the top -/
structure Fun (K : PySem.W.Frag) (x qual : Str) (st : Stmt) (f : Addr) (fd : FuncData) : Prop where
  ex : ∃ (oc : Value) (od : Option Addr) (kV doc pm : Value) (an : Option Addr) (cdv ct : Value) (osl : Array (Option Value)),
    fd = PySem.W.fnOf x qual (defArgs st) (defBody st) (defScope st) .none kV doc pm an cdv ct ∧ K.lookup f = some ⟨oc, od, .func fd, osl⟩ ∧ PySem.W.codeIn K cdv qual = true
  kp : PySem.W.keepIn K (.ref f) = true
section
variable {P : Program} {w : World} {K : PySem.W.Frag} {mg : Str → Option Value} {base : Heap}
/-- THE RULE for a def: its body as a term of rules, and the reading of that term -/
theorem Fun.ok {x qual : Str} {st : Stmt} {f : Addr} {fd : FuncData} {N ps : List Str} {k : Nat} {sp : Sp} (F : Fun K x qual st f fd) (S : FnScope N ps (defScope st)) (len : ∀ vs H Q E, sp vs H Q E → vs.length = ps.length)
    (hbody : ∀ (cdv : Value) (A : Around) (outer : List Env) (s : Shared) (H : Hp) (vs : List V) (Q : VK) (E : XK), Room k (A.deeper (envOfC qual (defScope st) s.heap.objs.size f cdv)) → sp vs H Q E →
      ∃ t, PSs (cxOf CX0 P w K mg base N qual (defScope st) f cdv A outer s H E).nox (defBody st) t ∧ t { nx := fun _ H' => Q .non H', rt := Q } (start N vs) H) : FnOk P w K mg base CX0 (k + 1) f fd ps sp := by
  obtain ⟨oc, od, kV, doc, pm, an, cdv, ct, osl, rfl, lk, hcd⟩ := F.ex
  refine fn_of lk hcd S len fun A outer s H vs Q E hr hsp => ?_
  obtain ⟨t, h, q⟩ := hbody cdv A outer s H vs Q E hr hsp
  exact ⟨t, h.nox, q⟩
/-- how its arguments bind (no defaults): h is «fun _ _ _ _ _ _ us hl => match us, hl with | [_, _], _ => rfl», one _ a parameter -/
theorem Fun.binds {x qual : Str} {st : Stmt} {f : Addr} {fd : FuncData} {ps : List Str} (F : Fun K x qual st f fd)
    (h : ∀ (kV doc pm : Value) (an : Option Addr) (cdv ct : Value) (us : List Value), us.length = ps.length → bindArgs (PySem.W.fnOf x qual (defArgs st) (defBody st) (defScope st) .none kV doc pm an cdv ct) ⟨us, []⟩ = pure (ps.zip us)) : Binds K fd ps [] := by
  obtain ⟨oc, od, kV, doc, pm, an, cdv, ct, osl, rfl, lk, hcd⟩ := F.ex
  exact .all (h kV doc pm an cdv ct)
theorem fun_mk {x qual : Str} {st : Stmt} {f : Addr} {oc : Value} {od an : Option Addr} {osl : Array (Option Value)} {kV doc pm cdv ct : Value} (l : K.lookup f = some ⟨oc, od, .func (PySem.W.fnOf x qual (defArgs st) (defBody st) (defScope st) .none kV doc pm an cdv ct), osl⟩)
    (c : PySem.W.codeIn K cdv qual = true) (k : PySem.W.keepIn K (.ref f) = true) : Fun K x qual st f (PySem.W.fnOf x qual (defArgs st) (defBody st) (defScope st) .none kV doc pm an cdv ct) := ⟨⟨oc, od, kV, doc, pm, an, cdv, ct, osl, rfl, l, c⟩, k⟩
end
theorem small1000 {n : Nat} (h : n ≤ 1000) : n < sizeLine := Nat.lt_of_le_of_lt h (by decide)

/-! ### expressions in short: the name that stands in the i-th slot -/
section
variable {X : Cx}
theorem pv (i : Nat) {x : Str} {pos : Pos} (hN : X.N[i]? = some x := by rfl) (hv : Vis X.env.scope x := by first | exact Or.inl rfl | exact Or.inr (Or.inl rfl) | exact Or.inr (Or.inr rfl)) (hd : (x == ("__debug__" : Str)) = false := by decide)
    (hcd : (x == ("__classdict__" : Str)) = false := by decide) : PE X (.Name x pos) (tVar i) := pe_var hN hv hd hcd
end

/-! ### tests -/
theorem iteF {A B : Prop} (h : B) : if false = true then A else B := by
  rw [if_neg Bool.false_ne_true]
  exact h
theorem iteT {A B : Prop} (h : A) : if true = true then A else B := by
  rw [if_pos rfl]
  exact h
theorem ite2 {c A B : Prop} [Decidable c] (h1 : c → A) (h2 : ¬ c → B) : if c then A else B := by
  by_cases h : c
  · rw [if_pos h]
    exact h1 h
  · rw [if_neg h]
    exact h2 h
theorem iteNS {c A B : Prop} [Decidable c] (hc : c) (h : B) : if (!decide c) = true then A else B := by
  rw [decide_eq_true hc]
  exact iteF h

/-! ### heaps -/
/-- all that was tracked is as it was -/
def Same (H H' : Hp) : Prop := ∀ b o, H b = some o → H' b = some o
theorem Same.refl (H : Hp) : Same H H := fun _ _ h => h
theorem Same.trans {H H1 H2 : Hp} (a : Same H H1) (b : Same H1 H2) : Same H H2 := fun c o h => b c o (a c o h)
theorem Same.seq {K : PySem.W.Frag} {H H' : Hp} {a : Addr} {xs : List V} (e : Same H H') (h : SqL K H a xs) : SqL K H' a xs := by
  rcases h with (h | ⟨o, h⟩) | h
  · exact .inl (.inl (e _ _ h))
  · exact .inl (.inr ⟨o, e _ _ h⟩)
  · exact .inr h

end L2

namespace FW
/-- one fold: the cell c of the floor before, of the width s, laid into the quarter q -/
def into (c : Int × Int) (s q : Int) : Int × Int :=
  if q = 0 then (c.2, c.1) else if q = 1 then (c.1, c.2 + s) else if q = 2 then (c.1 + s, c.2 + s) else (2 * s - 1 - c.2, s - 1 - c.1)
/-- the walk, by the digits of the place to the base 4 -/
def cw : Nat → Int → Int × Int
  | 0, _ => (0, 0)
  | n + 1, p => into (cw n p) (2 ^ n) (p / 4 ^ n % 4)
theorem p2 (n : Nat) : (0 : Int) < 2 ^ n := Int.pow_pos (by decide)
theorem p4 (n : Nat) : (0 : Int) < 4 ^ n := Int.pow_pos (by decide)
theorem p2s (n : Nat) : (2 : Int) ^ (n + 1) = 2 * 2 ^ n := by rw [Int.pow_succ, Int.mul_comm]
theorem p4s (n : Nat) : (4 : Int) ^ (n + 1) = 4 * 4 ^ n := by rw [Int.pow_succ, Int.mul_comm]
theorem p4e : ∀ n : Nat, (4 : Int) ^ n = 2 ^ n * 2 ^ n
  | 0 => rfl
  | n + 1 => by
    rw [p4s, p2s, p4e n]
    rw [Int.mul_assoc 2, Int.mul_left_comm (2 ^ n) 2, ← Int.mul_assoc 2 2]
    rfl
theorem p2mono {m n : Nat} (h : m ≤ n) : (2 : Int) ^ m ≤ 2 ^ n := by
  obtain ⟨k, rfl⟩ := Nat.exists_eq_add_of_le h
  induction k with
  | zero => exact Int.le_refl _
  | succ k ih =>
    have := ih (by omega)
    have e : (2 : Int) ^ (m + (k + 1)) = 2 * 2 ^ (m + k) := p2s (m + k)
    have := p2 (m + k)
    omega
theorem p4mono {m n : Nat} (h : m ≤ n) : (4 : Int) ^ m ≤ 4 ^ n := by
  obtain ⟨k, rfl⟩ := Nat.exists_eq_add_of_le h
  induction k with
  | zero => exact Int.le_refl _
  | succ k ih =>
    have := ih (by omega)
    have e : (4 : Int) ^ (m + (k + 1)) = 4 * 4 ^ (m + k) := p4s (m + k)
    have := p4 (m + k)
    omega
/-- a digit lies from 0 to 3 -/
theorem dig (n : Nat) (p : Int) : 0 ≤ p / 4 ^ n % 4 ∧ p / 4 ^ n % 4 < 4 := ⟨Int.emod_nonneg _ (by decide), Int.emod_lt_of_pos _ (by decide)⟩
theorem q4 {q : Int} (h : 0 ≤ q ∧ q < 4) : q = 0 ∨ q = 1 ∨ q = 2 ∨ q = 3 := by omega
theorem into0 (c : Int × Int) (s : Int) : into c s 0 = (c.2, c.1) := rfl
theorem into1 (c : Int × Int) (s : Int) : into c s 1 = (c.1, c.2 + s) := rfl
theorem into2 (c : Int × Int) (s : Int) : into c s 2 = (c.1 + s, c.2 + s) := rfl
theorem into3 (c : Int × Int) (s : Int) : into c s 3 = (2 * s - 1 - c.2, s - 1 - c.1) := rfl
theorem cw_on : ∀ (n : Nat) (p : Int), 0 ≤ (cw n p).1 ∧ (cw n p).1 < 2 ^ n ∧ 0 ≤ (cw n p).2 ∧ (cw n p).2 < 2 ^ n
  | 0, _ => by simp [cw]
  | n + 1, p => by
    obtain ⟨a, b, c, d⟩ := cw_on n p
    have h := p2 n
    rw [p2s]
    have e0 : cw (n + 1) p = into (cw n p) (2 ^ n) (p / 4 ^ n % 4) := rfl
    rw [e0]
    generalize cw n p = u at *
    generalize (2 : Int) ^ n = s at *
    rcases q4 (dig n p) with e | e | e | e <;> rw [e]
    · rw [into0]; dsimp only; omega
    · rw [into1]; dsimp only; omega
    · rw [into2]; dsimp only; omega
    · rw [into3]; dsimp only; omega
/-- digits below the m-th don't see a multiple of 4 ^ m -/
theorem cw_add : ∀ (n m : Nat) (p q : Int), n ≤ m → cw n (p + q * 4 ^ m) = cw n p
  | 0, _, _, _, _ => rfl
  | n + 1, m, p, q, h => by
    show into (cw n (p + q * 4 ^ m)) (2 ^ n) ((p + q * 4 ^ m) / 4 ^ n % 4) = into (cw n p) (2 ^ n) (p / 4 ^ n % 4)
    rw [cw_add n m p q (by omega)]
    have e : (p + q * 4 ^ m) / 4 ^ n % 4 = p / 4 ^ n % 4 := by
      obtain ⟨k, rfl⟩ := Nat.exists_eq_add_of_le (show n + 1 ≤ m from h)
      have e1 : q * (4 : Int) ^ (n + 1 + k) = (q * 4 ^ k * 4) * 4 ^ n := by
        rw [Int.pow_add, p4s, Int.mul_comm 4 (4 ^ n), Int.mul_assoc (4 ^ n) 4, ← Int.mul_assoc q, Int.mul_comm q (4 ^ n), Int.mul_assoc (4 ^ n), Int.mul_comm (4 ^ n), Int.mul_comm 4 (4 ^ k), ← Int.mul_assoc q]
      rw [e1, Int.add_mul_ediv_right _ _ (by have := p4 n; omega), Int.add_mul_emod_self_right]
    rw [e]
theorem top_dig {n : Nat} {p q : Int} (h0 : 0 ≤ p) (h1 : p < 4 ^ n) (hq : 0 ≤ q ∧ q < 4) : (p + q * 4 ^ n) / 4 ^ n % 4 = q := by
  rw [Int.add_mul_ediv_right _ _ (by have := p4 n; omega), Int.ediv_eq_zero_of_lt h0 h1, Int.zero_add, Int.emod_eq_of_lt hq.1 hq.2]
/-- THE FOLD: what the document says of the walk of one fold more -/
theorem cw_fold {n : Nat} {p q : Int} (h0 : 0 ≤ p) (h1 : p < 4 ^ n) (hq : 0 ≤ q ∧ q < 4) : cw (n + 1) (p + q * 4 ^ n) = into (cw n p) (2 ^ n) q := by
  show into (cw n (p + q * 4 ^ n)) (2 ^ n) ((p + q * 4 ^ n) / 4 ^ n % 4) = _
  rw [cw_add n n p q (Nat.le_refl _), top_dig h0 h1 hq]
/-- a place of n + 1 folds is a place of n folds in a quarter -/
theorem split {n : Nat} {p : Int} (h0 : 0 ≤ p) (h1 : p < 4 ^ (n + 1)) : ∃ r q, 0 ≤ r ∧ r < 4 ^ n ∧ (0 ≤ q ∧ q < 4) ∧ p = r + q * 4 ^ n := by
  have hp := p4 n
  rw [p4s] at h1
  refine ⟨p % 4 ^ n, p / 4 ^ n, Int.emod_nonneg _ (by omega), Int.emod_lt_of_pos _ hp, ⟨Int.ediv_nonneg h0 (by omega), Int.ediv_lt_of_lt_mul hp h1⟩, ?_⟩
  have := Int.emod_add_mul_ediv p (4 ^ n)
  rw [Int.mul_comm] at this
  omega
def outq (c : Int × Int) (s q : Int) : Int × Int :=
  if q = 0 then (c.2, c.1) else if q = 1 then (c.1, c.2 - s) else if q = 2 then (c.1 - s, c.2 - s) else (s - 1 - c.2, 2 * s - 1 - c.1)
def qof (c : Int × Int) (s : Int) : Int := if c.1 < s then (if c.2 < s then 0 else 1) else (if c.2 < s then 3 else 2)
def On (c : Int × Int) (s : Int) : Prop := 0 ≤ c.1 ∧ c.1 < s ∧ 0 ≤ c.2 ∧ c.2 < s
def pl : Nat → Int × Int → Int
  | 0, _ => 0
  | n + 1, c => qof c (2 ^ n) * 4 ^ n + pl n (outq c (2 ^ n) (qof c (2 ^ n)))
theorem out0 (c : Int × Int) (s : Int) : outq c s 0 = (c.2, c.1) := rfl
theorem out1 (c : Int × Int) (s : Int) : outq c s 1 = (c.1, c.2 - s) := rfl
theorem out2 (c : Int × Int) (s : Int) : outq c s 2 = (c.1 - s, c.2 - s) := rfl
theorem out3 (c : Int × Int) (s : Int) : outq c s 3 = (s - 1 - c.2, 2 * s - 1 - c.1) := rfl
theorem qof_q (c : Int × Int) (s : Int) : 0 ≤ qof c s ∧ qof c s < 4 := by
  unfold qof
  split <;> split <;> decide
theorem qof_cases (c : Int × Int) (s : Int) : (qof c s = 0 ∧ c.1 < s ∧ c.2 < s) ∨ (qof c s = 1 ∧ c.1 < s ∧ s ≤ c.2) ∨ (qof c s = 2 ∧ s ≤ c.1 ∧ s ≤ c.2) ∨ (qof c s = 3 ∧ s ≤ c.1 ∧ c.2 < s) := by
  unfold qof
  split <;> split <;> omega
theorem out_on {c : Int × Int} {s : Int} (h : On c (2 * s)) : On (outq c s (qof c s)) s := by
  unfold On at *
  rcases qof_cases c s with ⟨e, h1⟩ | ⟨e, h1⟩ | ⟨e, h1⟩ | ⟨e, h1⟩ <;> rw [e]
  · rw [out0]; dsimp only; omega
  · rw [out1]; dsimp only; omega
  · rw [out2]; dsimp only; omega
  · rw [out3]; dsimp only; omega
theorem into_out (c : Int × Int) (s : Int) : into (outq c s (qof c s)) s (qof c s) = c := by
  rcases qof_cases c s with ⟨e, h1⟩ | ⟨e, h1⟩ | ⟨e, h1⟩ | ⟨e, h1⟩ <;> rw [e]
  · rw [out0, into0]
  · rw [out1, into1]; refine Prod.ext ?_ ?_ <;> dsimp only <;> omega
  · rw [out2, into2]; refine Prod.ext ?_ ?_ <;> dsimp only <;> omega
  · rw [out3, into3]; refine Prod.ext ?_ ?_ <;> dsimp only <;> omega
theorem qof_into {u : Int × Int} {s q : Int} (h : On u s) (hq : 0 ≤ q ∧ q < 4) : qof (into u s q) s = q := by
  unfold On at h
  rcases q4 hq with e | e | e | e <;> subst e
  · rw [into0]; unfold qof; rw [if_pos (by dsimp only; omega), if_pos (by dsimp only; omega)]
  · rw [into1]; unfold qof; rw [if_pos (by dsimp only; omega), if_neg (by dsimp only; omega)]
  · rw [into2]; unfold qof; rw [if_neg (by dsimp only; omega), if_neg (by dsimp only; omega)]
  · rw [into3]; unfold qof; rw [if_neg (by dsimp only; omega), if_pos (by dsimp only; omega)]
theorem out_into {u : Int × Int} {s q : Int} (hq : 0 ≤ q ∧ q < 4) : outq (into u s q) s q = u := by
  rcases q4 hq with e | e | e | e <;> subst e
  · rw [into0, out0]
  · rw [into1, out1]; refine Prod.ext ?_ ?_ <;> dsimp only <;> omega
  · rw [into2, out2]; refine Prod.ext ?_ ?_ <;> dsimp only <;> omega
  · rw [into3, out3]; refine Prod.ext ?_ ?_ <;> dsimp only <;> omega
theorem pl_range : ∀ (n : Nat) (c : Int × Int), On c (2 ^ n) → 0 ≤ pl n c ∧ pl n c < 4 ^ n
  | 0, c, _ => by simp [pl]
  | n + 1, c, h => by
    rw [p2s] at h
    have ih := pl_range n _ (out_on h)
    have hq := qof_q c (2 ^ n)
    have e : pl (n + 1) c = qof c (2 ^ n) * 4 ^ n + pl n (outq c (2 ^ n) (qof c (2 ^ n))) := rfl
    have hz := p4 n
    rw [e, p4s]
    rcases q4 hq with e | e | e | e <;> rw [e] at ih ⊢ <;> omega
theorem cw_pl : ∀ (n : Nat) (c : Int × Int), On c (2 ^ n) → cw n (pl n c) = c
  | 0, c, h => by
    unfold On at h
    rw [Int.pow_zero] at h
    refine Prod.ext ?_ ?_ <;> show (0 : Int) = _ <;> omega
  | n + 1, c, h => by
    rw [p2s] at h
    have r := pl_range n _ (out_on h)
    have e : pl (n + 1) c = pl n (outq c (2 ^ n) (qof c (2 ^ n))) + qof c (2 ^ n) * 4 ^ n := Int.add_comm _ _
    rw [e, cw_fold r.1 r.2 (qof_q _ _), cw_pl n _ (out_on h), into_out]
theorem pl_cw : ∀ (n : Nat) (p : Int), 0 ≤ p → p < 4 ^ n → pl n (cw n p) = p
  | 0, p, h0, h1 => by rw [Int.pow_zero] at h1; show (0 : Int) = p; omega
  | n + 1, p, h0, h1 => by
    obtain ⟨r, q, r0, r1, hq, rfl⟩ := split h0 h1
    rw [cw_fold r0 r1 hq]
    have e : pl (n + 1) (into (cw n r) (2 ^ n) q) = qof (into (cw n r) (2 ^ n) q) (2 ^ n) * 4 ^ n + pl n (outq (into (cw n r) (2 ^ n) q) (2 ^ n) (qof (into (cw n r) (2 ^ n) q) (2 ^ n))) := rfl
    rw [e, qof_into (cw_on n r) hq, out_into hq, pl_cw n r r0 r1, Int.add_comm]
end FW

namespace FW
theorem div_mirror {a t y : Int} (ht : 0 < t) : (a * t - 1 - y) / t = a - 1 - y / t := by
  have h0 := Int.emod_nonneg y (show t ≠ 0 by omega)
  have h1 := Int.emod_lt_of_pos y ht
  have e := Int.emod_add_mul_ediv y t
  have e2 : a * t - 1 - y = (t - 1 - y % t) + (a - 1 - y / t) * t := by
    rw [Int.sub_mul, Int.sub_mul, Int.one_mul, Int.mul_comm (y / t) t]; omega
  rw [e2, Int.add_mul_ediv_right _ _ (by omega), Int.ediv_eq_zero_of_lt (by omega) (by omega), Int.zero_add]
theorem into_div {u v : Int × Int} {s t q : Int} (ht : 0 < t) (hq : 0 ≤ q ∧ q < 4) (h1 : u.1 / t = v.1) (h2 : u.2 / t = v.2) : (into u (s * t) q).1 / t = (into v s q).1 ∧ (into u (s * t) q).2 / t = (into v s q).2 := by
  have a1 : ∀ x : Int, (x + s * t) / t = x / t + s := fun x => Int.add_mul_ediv_right _ _ (by omega)
  rcases q4 hq with e | e | e | e <;> subst e
  · rw [into0, into0]; exact ⟨h2, h1⟩
  · rw [into1, into1]; dsimp only; rw [a1, h1, h2]; exact ⟨rfl, rfl⟩
  · rw [into2, into2]; dsimp only; rw [a1, a1, h1, h2]; exact ⟨rfl, rfl⟩
  · rw [into3, into3]; dsimp only; rw [← Int.mul_assoc, div_mirror ht, div_mirror ht, h1, h2]; exact ⟨rfl, rfl⟩
theorem p2add (m k : Nat) : (2 : Int) ^ (m + k) = 2 ^ m * 2 ^ k := Int.pow_add 2 m k
theorem p4add (m k : Nat) : (4 : Int) ^ (m + k) = 4 ^ m * 4 ^ k := Int.pow_add 4 m k
/-- the walk seen by squares of the size k is the walk of m folds -/
theorem cw_coarse (k : Nat) : ∀ (m : Nat) (p : Int), 0 ≤ p → p < 4 ^ (m + k) → (cw (m + k) p).1 / 2 ^ k = (cw m (p / 4 ^ k)).1 ∧ (cw (m + k) p).2 / 2 ^ k = (cw m (p / 4 ^ k)).2
  | 0, p, h0, h1 => by
    have on := cw_on (0 + k) p
    rw [Nat.zero_add] at on ⊢
    exact ⟨Int.ediv_eq_zero_of_lt on.1 on.2.1, Int.ediv_eq_zero_of_lt on.2.2.1 on.2.2.2⟩
  | m + 1, p, h0, h1 => by
    have en : m + 1 + k = (m + k) + 1 := by omega
    rw [en] at h1 ⊢
    obtain ⟨r, q, r0, r1, hq, rfl⟩ := split h0 h1
    have ih := cw_coarse k m r r0 r1
    have hk := p4 k
    have ed : (r + q * 4 ^ (m + k)) / 4 ^ k = r / 4 ^ k + q * 4 ^ m := by
      rw [p4add, ← Int.mul_assoc, Int.add_mul_ediv_right _ _ (by omega)]
    have d0 : 0 ≤ r / 4 ^ k := Int.ediv_nonneg r0 (by omega)
    have d1 : r / 4 ^ k < 4 ^ m := Int.ediv_lt_of_lt_mul hk (by rw [← p4add]; exact r1)
    rw [cw_fold r0 r1 hq, ed, cw_fold d0 d1 hq, p2add]
    exact into_div (p2 k) hq ih.1 ih.2
end FW

namespace FW
/-! ### boxes, and their parts in the quarters -/
/-- the cell lies in the box -/
def inB (c : Int × Int) (l b r t : Int) : Bool := decide (l ≤ c.1) && decide (c.1 ≤ r) && (decide (b ≤ c.2) && decide (c.2 ≤ t))
theorem inB_iff {c : Int × Int} {l b r t : Int} : inB c l b r t = true ↔ (l ≤ c.1 ∧ c.1 ≤ r) ∧ (b ≤ c.2 ∧ c.2 ≤ t) := by
  unfold inB
  simp only [Bool.and_eq_true, decide_eq_true_eq]
structure B4 where
  l : Int
  b : Int
  r : Int
  t : Int
abbrev Bx := Option B4
def inO : Bx → Int × Int → Bool
  | none, _ => false
  | some x, c => inB c x.l x.b x.r x.t
structure Box (s : Int) (x : B4) : Prop where
  l0 : 0 ≤ x.l
  lr : x.l ≤ x.r
  r1 : x.r < s
  b0 : 0 ≤ x.b
  bt : x.b ≤ x.t
  t1 : x.t < s
def Good (x : Bx) (s : Int) : Prop := ∀ y, x = some y → Box s y
def ar : Bx → Int
  | none => 0
  | some x => (x.r - x.l + 1) * (x.t - x.b + 1)
def mn (a b : Int) : Int := if b < a then b else a
def mx (a b : Int) : Int := if b > a then b else a
theorem mn_min (a b : Int) : mn a b = min a b := by unfold mn; split <;> omega
theorem mx_max (a b : Int) : mx a b = max a b := by unfold mx; split <;> omega
def cut (c o : Int × Int) (s : Int) : B4 := ⟨mx 0 (mn c.1 o.1), mx 0 (mn c.2 o.2), mn (s - 1) (mx c.1 o.1), mn (s - 1) (mx c.2 o.2)⟩
def emp (x : B4) : Bx := if x.l > x.r then none else if x.b > x.t then none else some x
def part : Bx → Int → Int → Bx
  | none, _, _ => none
  | some x, s, q => emp (cut (outq (x.l, x.b) s q) (outq (x.r, x.t) s q) s)
theorem part_good (x : Bx) (s q : Int) : Good (part x s q) s := by
  intro y e
  cases x with
  | none => cases e
  | some x =>
    have e : emp (cut (outq (x.l, x.b) s q) (outq (x.r, x.t) s q) s) = some y := e
    generalize outq (x.l, x.b) s q = c at e
    generalize outq (x.r, x.t) s q = o at e
    unfold emp at e
    split at e
    · cases e
    split at e
    · cases e
    cases e
    rename_i h1 h2
    unfold cut at *
    simp only [mn_min, mx_max] at *
    constructor <;> dsimp only <;> omega
theorem inO_emp {x : B4} {c : Int × Int} : inO (emp x) c = inB c x.l x.b x.r x.t := by
  unfold emp
  rw [Bool.eq_iff_iff, inB_iff]
  split
  · simp only [inO]; constructor
    · intro h; cases h
    · intro h; omega
  split
  · simp only [inO]; constructor
    · intro h; cases h
    · intro h; omega
  · simp only [inO]; exact inB_iff
theorem clipL {a b y s : Int} (h : a ≤ b) (h0 : 0 ≤ y) (h1 : y < s) : (max 0 (min a b) ≤ y ∧ y ≤ min (s - 1) (max a b)) ↔ (a ≤ y ∧ y ≤ b) := by
  rw [Int.min_eq_left h, Int.max_eq_right h]; omega
theorem clipR {a b y s : Int} (h : b ≤ a) (h0 : 0 ≤ y) (h1 : y < s) : (max 0 (min a b) ≤ y ∧ y ≤ min (s - 1) (max a b)) ↔ (b ≤ y ∧ y ≤ a) := by
  rw [Int.min_eq_right h, Int.max_eq_left h]; omega
theorem part_in {x : Bx} {s q : Int} {c : Int × Int} (g : Good x (2 * s)) (hc : On c s) (hq : 0 ≤ q ∧ q < 4) : inO (part x s q) c = inO x (into c s q) := by
  cases x with
  | none => rfl
  | some x =>
    have g := g x rfl
    have h2 := g.lr
    have h5 := g.bt
    obtain ⟨a1, a2, a3, a4⟩ := hc
    clear g
    show inO (emp _) c = inB _ _ _ _ _
    rw [inO_emp, Bool.eq_iff_iff, inB_iff, inB_iff]
    unfold cut
    simp only [mn_min, mx_max]
    rcases q4 hq with e | e | e | e <;> subst e
    · rw [into0, out0, out0]; dsimp only; rw [clipL h5 a1 a2, clipL h2 a3 a4, and_comm]
    · rw [into1, out1, out1]; dsimp only; rw [clipL h2 a1 a2, clipL (by omega) a3 a4]; omega
    · rw [into2, out2, out2]; dsimp only; rw [clipL (by omega) a1 a2, clipL (by omega) a3 a4]; omega
    · rw [into3, out3, out3]; dsimp only; rw [clipR (by omega) a1 a2, clipR (by omega) a3 a4]; omega
/-- how many of the lines l to r lie below s, and from s on -/
def wl (l r s : Int) : Int := max 0 (min r (s - 1) - l + 1)
def wr (l r s : Int) : Int := max 0 (r - max l s + 1)
theorem wlr {l r s : Int} (h1 : 0 ≤ l) (h2 : l ≤ r) (h3 : r < 2 * s) : wl l r s + wr l r s = r - l + 1 := by unfold wl wr; omega
theorem ar_emp {x : B4} {u v : Int} (h1 : u = max 0 (x.r - x.l + 1)) (h2 : v = max 0 (x.t - x.b + 1)) : ar (emp x) = u * v := by
  unfold emp
  split
  · have : u = 0 := by omega
    rw [this, Int.zero_mul]; rfl
  split
  · have : v = 0 := by omega
    rw [this, Int.mul_zero]; rfl
  · have e1 : u = x.r - x.l + 1 := by omega
    have e2 : v = x.t - x.b + 1 := by omega
    rw [e1, e2]; rfl
theorem w0 {a b s : Int} (h0 : 0 ≤ a) (h : a ≤ b) : wl a b s = max 0 (min (s - 1) (max a b) - max 0 (min a b) + 1) := by
  rw [Int.min_eq_left h, Int.max_eq_right h, Int.max_eq_right h0, Int.min_comm]; rfl
theorem w1 {a b s : Int} (h : a ≤ b) (hb : b < 2 * s) : wr a b s = max 0 (min (s - 1) (max (a - s) (b - s)) - max 0 (min (a - s) (b - s)) + 1) := by
  rw [Int.min_eq_left (show a - s ≤ b - s by omega), Int.max_eq_right (show a - s ≤ b - s by omega), Int.min_eq_right (show b - s ≤ s - 1 by omega)]
  unfold wr; omega
theorem w2 {a b s : Int} (h0 : 0 ≤ a) (h : a ≤ b) : wl a b s = max 0 (min (s - 1) (max (s - 1 - a) (s - 1 - b)) - max 0 (min (s - 1 - a) (s - 1 - b)) + 1) := by
  rw [Int.min_eq_right (show s - 1 - b ≤ s - 1 - a by omega), Int.max_eq_left (show s - 1 - b ≤ s - 1 - a by omega), Int.min_eq_right (show s - 1 - a ≤ s - 1 by omega)]
  unfold wl; omega
theorem w3 {a b s : Int} (h : a ≤ b) (hb : b < 2 * s) : wr a b s = max 0 (min (s - 1) (max (2 * s - 1 - a) (2 * s - 1 - b)) - max 0 (min (2 * s - 1 - a) (2 * s - 1 - b)) + 1) := by
  rw [Int.min_eq_right (show 2 * s - 1 - b ≤ 2 * s - 1 - a by omega), Int.max_eq_left (show 2 * s - 1 - b ≤ 2 * s - 1 - a by omega), Int.max_eq_right (show 0 ≤ 2 * s - 1 - b by omega)]
  unfold wr; omega
theorem ar_part {x : B4} {s : Int} (g : Box (2 * s) x) :
    ar (part (some x) s 0) = wl x.b x.t s * wl x.l x.r s ∧ ar (part (some x) s 1) = wl x.l x.r s * wr x.b x.t s ∧
    ar (part (some x) s 2) = wr x.l x.r s * wr x.b x.t s ∧ ar (part (some x) s 3) = wl x.b x.t s * wr x.l x.r s := by
  obtain ⟨h1, h2, h3, h4, h5, h6⟩ := g
  refine ⟨ar_emp ?_ ?_, ar_emp ?_ ?_, ar_emp ?_ ?_, ar_emp ?_ ?_⟩ <;> unfold cut <;> simp only [mn_min, mx_max]
  · exact w0 h4 h5
  · exact w0 h1 h2
  · exact w0 h1 h2
  · exact w1 h5 h6
  · exact w1 h2 h3
  · exact w1 h5 h6
  · exact w2 h4 h5
  · exact w3 h2 h3
theorem ar_sum {x : Bx} {s : Int} (g : Good x (2 * s)) : ar (part x s 0) + ar (part x s 1) + ar (part x s 2) + ar (part x s 3) = ar x := by
  cases x with
  | none => rfl
  | some x =>
    have gx := g x rfl
    obtain ⟨e0, e1, e2, e3⟩ := ar_part gx
    obtain ⟨h1, h2, h3, h4, h5, h6⟩ := gx
    rw [e0, e1, e2, e3]
    show _ = (x.r - x.l + 1) * (x.t - x.b + 1)
    rw [← wlr h1 h2 h3, ← wlr h4 h5 h6, Int.add_mul, Int.mul_add, Int.mul_add, Int.mul_comm (wl x.b x.t s) (wl x.l x.r s), Int.mul_comm (wl x.b x.t s) (wr x.l x.r s)]
    omega
/-! ### counted -/
def cnt (i : Bool) (m : Nat) (x : Bx) : Nat → Int
  | 0 => 0
  | k + 1 => cnt i m x k + if inO x (cw m k) = i then 1 else 0
def ct (i : Bool) (m : Nat) (x : Bx) (p : Int) : Int := cnt i m x p.toNat
theorem ct_zero (i : Bool) (m : Nat) (x : Bx) : ct i m x 0 = 0 := rfl
theorem ct_succ {i : Bool} {m : Nat} {x : Bx} {p : Int} (h : 0 ≤ p) : ct i m x (p + 1) = ct i m x p + if inO x (cw m p) = i then 1 else 0 := by
  obtain ⟨k, rfl⟩ := Int.eq_ofNat_of_zero_le h
  unfold ct
  rw [show ((k : Int) + 1).toNat = k + 1 by omega, Int.toNat_natCast]
  rfl
theorem ct_rise {i : Bool} {m : Nat} {x : Bx} {p : Int} (h : 0 ≤ p) : ∀ k : Nat, ct i m x p ≤ ct i m x (p + k) ∧ ct i m x (p + k) ≤ ct i m x p + k
  | 0 => by rw [show p + ((0 : Nat) : Int) = p by omega]; omega
  | k + 1 => by
    have ih := ct_rise (i := i) (m := m) (x := x) h k
    rw [show p + ((k + 1 : Nat) : Int) = (p + k) + 1 by omega, ct_succ (by omega)]
    split <;> omega
theorem ct_mono {i : Bool} {m : Nat} {x : Bx} {p r : Int} (h : 0 ≤ p) (h2 : p ≤ r) : ct i m x p ≤ ct i m x r ∧ ct i m x r ≤ ct i m x p + (r - p) := by
  obtain ⟨k, hk⟩ := Int.eq_ofNat_of_zero_le (show 0 ≤ r - p by omega)
  have := ct_rise (i := i) (m := m) (x := x) h k
  rw [show p + (k : Int) = r by omega] at this
  omega
theorem ct_nonneg {i : Bool} {m : Nat} {x : Bx} {p : Int} (h : 0 ≤ p) : 0 ≤ ct i m x p := by
  have := ct_mono (i := i) (m := m) (x := x) (Int.le_refl 0) h
  rw [ct_zero] at this
  omega
/-- where as many are counted, none lies between -/
theorem ct_none {i : Bool} {m : Nat} {x : Bx} {p r t : Int} (h : 0 ≤ p) (e : ct i m x p = ct i m x r) (h1 : p ≤ t) (h2 : t < r) : inO x (cw m t) ≠ i := by
  intro hit
  have a1 := ct_mono (i := i) (m := m) (x := x) h h1
  have a2 := ct_mono (i := i) (m := m) (x := x) (show 0 ≤ t + 1 by omega) (show t + 1 ≤ r by omega)
  rw [ct_succ (by omega), if_pos hit] at a2
  omega
theorem ct_both {m : Nat} {x : Bx} {p : Int} (h : 0 ≤ p) : ct true m x p + ct false m x p = p := by
  obtain ⟨k, rfl⟩ := Int.eq_ofNat_of_zero_le h
  clear h
  induction k with
  | zero => rfl
  | succ k ih =>
    rw [show ((k + 1 : Nat) : Int) = (k : Int) + 1 by omega, ct_succ (by omega), ct_succ (by omega)]
    cases inO x (cw m k) <;> simp <;> omega
/-- the count in a quarter -/
theorem ct_quarter {i : Bool} {m : Nat} {x : Bx} {q : Int} (g : Good x (2 * 2 ^ m)) (hq : 0 ≤ q ∧ q < 4) : ∀ k : Nat, (k : Int) ≤ 4 ^ m → ct i (m + 1) x (q * 4 ^ m + k) = ct i (m + 1) x (q * 4 ^ m) + ct i m (part x (2 ^ m) q) k
  | 0, _ => by
    rw [show q * 4 ^ m + ((0 : Nat) : Int) = q * 4 ^ m by omega]
    show _ = _ + ct i m _ 0
    rw [ct_zero]; omega
  | k + 1, h => by
    have ih := ct_quarter (i := i) g hq k (by omega)
    have hz := p4 m
    have hm := Int.mul_nonneg hq.1 (show (0 : Int) ≤ 4 ^ m by omega)
    rw [show q * 4 ^ m + ((k + 1 : Nat) : Int) = (q * 4 ^ m + k) + 1 by omega, ct_succ (by omega), ih, show ((k + 1 : Nat) : Int) = (k : Int) + 1 by omega, ct_succ (p := (k : Int)) (by omega)]
    rw [show q * 4 ^ m + (k : Int) = k + q * 4 ^ m by omega, cw_fold (by omega) (by omega) hq, part_in g (cw_on m k) hq]
    omega
theorem ct_quarter' {i : Bool} {m : Nat} {x : Bx} {q r : Int} (g : Good x (2 * 2 ^ m)) (hq : 0 ≤ q ∧ q < 4) (h0 : 0 ≤ r) (h1 : r ≤ 4 ^ m) : ct i (m + 1) x (q * 4 ^ m + r) = ct i (m + 1) x (q * 4 ^ m) + ct i m (part x (2 ^ m) q) r := by
  obtain ⟨k, rfl⟩ := Int.eq_ofNat_of_zero_le h0
  exact ct_quarter g hq k h1
/-- how many cells lie in it, or out of it -/
def held (i : Bool) (x : Bx) (a : Int) : Int := if i = true then ar x else a - ar x
theorem ct_next {i : Bool} {m : Nat} {x : Bx} {q : Int} (g : Good x (2 * 2 ^ m)) (hq : 0 ≤ q ∧ q < 4) : ct i (m + 1) x ((q + 1) * 4 ^ m) = ct i (m + 1) x (q * 4 ^ m) + ct i m (part x (2 ^ m) q) (4 ^ m) := by
  have := p4 m
  rw [← ct_quarter' g hq (by omega) (Int.le_refl _), Int.add_mul, Int.one_mul]
theorem ct_full (i : Bool) : ∀ (m : Nat) (x : Bx), Good x (2 ^ m) → ct i m x (4 ^ m) = held i x (4 ^ m)
  | 0, x, g => by
    show ct i 0 x (0 + 1) = _
    rw [ct_succ (Int.le_refl 0), ct_zero]
    unfold held
    cases x with
    | none => cases i <;> rfl
    | some x =>
      have gx : Box 1 x := g x rfl
      obtain ⟨h1, h2, h3, h4, h5, h6⟩ := gx
      have e : inO (some x) (cw 0 0) = true := by
        show inB (0, 0) _ _ _ _ = true
        rw [inB_iff]; dsimp only; omega
      have ea : ar (some x) = 1 := by
        show (x.r - x.l + 1) * (x.t - x.b + 1) = 1
        rw [show x.r - x.l + 1 = 1 by omega, show x.t - x.b + 1 = 1 by omega]; rfl
      rw [e, ea]
      cases i <;> rfl
  | m + 1, x, g => by
    rw [p2s] at g
    have f := fun q => ct_full i m (part x (2 ^ m) q) (part_good _ _ _)
    have n0 := ct_next (i := i) (q := 0) g ⟨by decide, by decide⟩
    have n1 := ct_next (i := i) (q := 1) g ⟨by decide, by decide⟩
    have n2 := ct_next (i := i) (q := 2) g ⟨by decide, by decide⟩
    have n3 := ct_next (i := i) (q := 3) g ⟨by decide, by decide⟩
    rw [f] at n0 n1 n2 n3
    rw [Int.zero_mul, ct_zero] at n0
    rw [show (0 : Int) + 1 = 1 from rfl] at n0
    rw [show (1 : Int) + 1 = 2 from rfl] at n1
    rw [show (2 : Int) + 1 = 3 from rfl] at n2
    rw [show (3 : Int) + 1 = 4 from rfl] at n3
    have s := ar_sum g
    rw [p4s, n3, n2, n1, n0]
    unfold held
    cases i
    · simp only [Bool.false_eq_true, if_false]; omega
    · simp only [if_true]; omega
theorem ct_le {i : Bool} {n : Nat} {x : Bx} {p : Int} (g : Good x (2 ^ n)) (h0 : 0 ≤ p) (h1 : p ≤ 4 ^ n) : ct i n x p ≤ held i x (4 ^ n) := by
  rw [← ct_full i n x g]
  exact (ct_mono h0 h1).1
/-! ### the place of a number -/
def qh (i : Bool) (m : Nat) (x : Bx) (k : Int) : Int × Int :=
  if k < held i (part x (2 ^ m) 0) (4 ^ m) then (0, k) else
  if k - held i (part x (2 ^ m) 0) (4 ^ m) < held i (part x (2 ^ m) 1) (4 ^ m) then (1, k - held i (part x (2 ^ m) 0) (4 ^ m)) else
  if k - held i (part x (2 ^ m) 0) (4 ^ m) - held i (part x (2 ^ m) 1) (4 ^ m) < held i (part x (2 ^ m) 2) (4 ^ m) then (2, k - held i (part x (2 ^ m) 0) (4 ^ m) - held i (part x (2 ^ m) 1) (4 ^ m)) else
  (3, k - held i (part x (2 ^ m) 0) (4 ^ m) - held i (part x (2 ^ m) 1) (4 ^ m) - held i (part x (2 ^ m) 2) (4 ^ m))
def nthp (i : Bool) : Nat → Bx → Int → Int
  | 0, _, _ => 0
  | m + 1, x, k => (qh i m x k).1 * 4 ^ m + nthp i m (part x (2 ^ m) (qh i m x k).1) (qh i m x k).2
def qtl (i : Bool) (m : Nat) (x : Bx) : Nat → Int → Int → Int × Int
  | 0, q, r => (q, r)
  | c + 1, q, r => if r < held i (part x (2 ^ m) q) (4 ^ m) then (q, r) else qtl i m x c (q + 1) (r - held i (part x (2 ^ m) q) (4 ^ m))
def nq (i : Bool) (n : Nat) (x : Bx) (k : Int) : Option Int := if k < held i x (4 ^ n) then some (nthp i n x k) else none
structure IsNth (i : Bool) (n : Nat) (x : Bx) (k r : Int) : Prop where
  r0 : 0 ≤ r
  r1 : r < 4 ^ n
  hit : inO x (cw n r) = i
  num : ct i n x r = k
theorem qh_ok {i : Bool} {m : Nat} {x : Bx} {k : Int} (g : Good x (2 * 2 ^ m)) (h0 : 0 ≤ k) (h1 : k < held i x (4 * 4 ^ m)) :
    (0 ≤ (qh i m x k).1 ∧ (qh i m x k).1 < 4) ∧ 0 ≤ (qh i m x k).2 ∧ (qh i m x k).2 < held i (part x (2 ^ m) (qh i m x k).1) (4 ^ m) ∧ ct i (m + 1) x ((qh i m x k).1 * 4 ^ m) + (qh i m x k).2 = k := by
  have f := fun q => ct_full i m (part x (2 ^ m) q) (part_good _ _ _)
  have n0 := ct_next (i := i) (q := 0) g ⟨by decide, by decide⟩
  have n1 := ct_next (i := i) (q := 1) g ⟨by decide, by decide⟩
  have n2 := ct_next (i := i) (q := 2) g ⟨by decide, by decide⟩
  rw [f] at n0 n1 n2
  rw [Int.zero_mul, ct_zero] at n0
  rw [show (0 : Int) + 1 = 1 from rfl] at n0
  rw [show (1 : Int) + 1 = 2 from rfl] at n1
  rw [show (2 : Int) + 1 = 3 from rfl] at n2
  have s : held i (part x (2 ^ m) 0) (4 ^ m) + held i (part x (2 ^ m) 1) (4 ^ m) + held i (part x (2 ^ m) 2) (4 ^ m) + held i (part x (2 ^ m) 3) (4 ^ m) = held i x (4 * 4 ^ m) := by
    have s := ar_sum g
    unfold held
    cases i
    · simp only [Bool.false_eq_true, if_false]; omega
    · simp only [if_true]; omega
  unfold qh
  split
  · dsimp only; refine ⟨⟨by decide, by decide⟩, h0, by assumption, ?_⟩; rw [Int.zero_mul, ct_zero]; omega
  split
  · dsimp only; refine ⟨⟨by decide, by decide⟩, by omega, by assumption, ?_⟩; omega
  split
  · dsimp only; refine ⟨⟨by decide, by decide⟩, by omega, by assumption, ?_⟩; omega
  · dsimp only; refine ⟨⟨by decide, by decide⟩, by omega, by omega, ?_⟩; omega
theorem nth_ok (i : Bool) : ∀ (n : Nat) (x : Bx) (k : Int), Good x (2 ^ n) → 0 ≤ k → k < held i x (4 ^ n) → IsNth i n x k (nthp i n x k)
  | 0, x, k, g, h0, h1 => by
    have f := ct_full i 0 x g
    rw [show (4 : Int) ^ 0 = 0 + 1 from rfl, ct_succ (Int.le_refl 0), ct_zero] at f
    have h1 : k < held i x (0 + 1) := h1
    rw [← f] at h1
    refine ⟨Int.le_refl 0, (by show (0 : Int) < 1; decide), ?_, ?_⟩
    · show inO x (cw 0 0) = i
      refine Classical.byContradiction fun hn => ?_
      rw [if_neg hn] at h1
      omega
    · show ct i 0 x 0 = k
      rw [ct_zero]
      split at h1 <;> omega
  | m + 1, x, k, g, h0, h1 => by
    rw [p2s] at g
    rw [p4s] at h1
    obtain ⟨hq, r0, r1, e⟩ := qh_ok g h0 h1
    have ih := nth_ok i m (part x (2 ^ m) (qh i m x k).1) (qh i m x k).2 (part_good _ _ _) r0 r1
    have hz := p4 m
    have hm := Int.mul_nonneg hq.1 (show (0 : Int) ≤ 4 ^ m by omega)
    refine ⟨?_, ?_, ?_, ?_⟩
    · show 0 ≤ (qh i m x k).1 * 4 ^ m + _
      have := ih.r0
      omega
    · show (qh i m x k).1 * 4 ^ m + _ < _
      have a1 := ih.r1
      rw [p4s]
      rcases q4 hq with e | e | e | e <;> rw [e] at a1 ⊢ <;> omega
    · show inO x (cw (m + 1) ((qh i m x k).1 * 4 ^ m + nthp i m (part x (2 ^ m) (qh i m x k).1) (qh i m x k).2)) = i
      rw [Int.add_comm, cw_fold ih.r0 ih.r1 hq, ← part_in g (cw_on m _) hq]
      exact ih.hit
    · show ct i (m + 1) x ((qh i m x k).1 * 4 ^ m + nthp i m (part x (2 ^ m) (qh i m x k).1) (qh i m x k).2) = k
      rw [ct_quarter' g hq ih.r0 (by have := ih.r1; omega), ih.num, e]
/-- the place of the number is not ahead of a place with so many counted -/
theorem IsNth.from {i : Bool} {n : Nat} {x : Bx} {k r p : Int} (h : IsNth i n x k r) (hp : 0 ≤ p) (e : ct i n x p = k) : p ≤ r := by
  refine Classical.byContradiction fun hn => ?_
  have a := ct_mono (i := i) (m := n) (x := x) (show 0 ≤ r + 1 by have := h.r0; omega) (show r + 1 ≤ p by omega)
  rw [ct_succ h.r0, if_pos h.hit, h.num] at a
  omega
/-- the next one from p on: a place, or none is left -/
def nx (i : Bool) (n : Nat) (x : Bx) (p : Int) : Option Int := if ct i n x p < held i x (4 ^ n) then some (nthp i n x (ct i n x p)) else none
/-! ### stretches -/
/-- the place behind the k-th stretch -/
def sf (n : Nat) (x : Bx) : Nat → Int
  | 0 => 0
  | k + 1 => (nx false n x (nthp true n x (ct true n x (sf n x k)))).getD (4 ^ n)
/-- the first place of the k-th stretch -/
def s1 (n : Nat) (x : Bx) (k : Nat) : Int := nthp true n x (ct true n x (sf n x k))
theorem nx_some {i : Bool} {n : Nat} {x : Bx} {p r : Int} (g : Good x (2 ^ n)) (h0 : 0 ≤ p) (h : nx i n x p = some r) : IsNth i n x (ct i n x p) r ∧ p ≤ r := by
  unfold nx at h
  split at h
  · rename_i hc
    cases h
    have a := nth_ok i n x _ g (ct_nonneg h0) hc
    exact ⟨a, a.from h0 rfl⟩
  · cases h
theorem nx_none {i : Bool} {n : Nat} {x : Bx} {p : Int} (g : Good x (2 ^ n)) (h0 : 0 ≤ p) (h1 : p ≤ 4 ^ n) (h : nx i n x p = none) : ct i n x p = ct i n x (4 ^ n) := by
  unfold nx at h
  split at h
  · cases h
  · rename_i hc
    rw [ct_full i n x g]
    have := ct_le (i := i) g h0 h1
    omega
structure Strt (n : Nat) (x : Bx) (k : Nat) : Prop where
  from0 : sf n x k ≤ s1 n x k
  lt : s1 n x k < sf n x (k + 1)
  top : sf n x (k + 1) ≤ 4 ^ n
  first : inO x (cw n (s1 n x k)) = true
  gap : ∀ t, sf n x k ≤ t → t < s1 n x k → inO x (cw n t) = false
  all : ∀ t, s1 n x k ≤ t → t < sf n x (k + 1) → inO x (cw n t) = true
  out : sf n x (k + 1) < 4 ^ n → inO x (cw n (sf n x (k + 1))) = false
  same : ct true n x (s1 n x k) = ct true n x (sf n x k)
  num : ct true n x (sf n x (k + 1)) = ct true n x (sf n x k) + (sf n x (k + 1) - s1 n x k)
theorem str_ok {n : Nat} {x : Bx} {k : Nat} (g : Good x (2 ^ n)) (h0 : 0 ≤ sf n x k) (hc : ct true n x (sf n x k) < ar x) : Strt n x k := by
  have a : IsNth true n x (ct true n x (sf n x k)) (s1 n x k) := nth_ok true n x _ g (ct_nonneg h0) hc
  have af := a.from h0 rfl
  have hz := p4 n
  have hb1 := ct_both (m := n) (x := x) (p := s1 n x k) a.r0
  have hgap : ∀ t, sf n x k ≤ t → t < s1 n x k → inO x (cw n t) = false := fun t t0 t1 => by
    have := ct_none h0 a.num.symm t0 t1
    simpa using this
  have e : sf n x (k + 1) = (nx false n x (s1 n x k)).getD (4 ^ n) := rfl
  cases hx : nx false n x (s1 n x k) with
  | some r =>
    rw [hx] at e
    have e : sf n x (k + 1) = r := e
    obtain ⟨b, bf⟩ := nx_some g a.r0 hx
    have hne : s1 n x k ≠ r := fun z => by
      have h1 := a.hit
      have h2 := b.hit
      rw [← z, h1] at h2
      cases h2
    have hb2 := ct_both (m := n) (x := x) (p := r) b.r0
    have hnum := b.num
    refine ⟨af, by omega, by rw [e]; have := b.r1; omega, a.hit, hgap, fun t t0 t1 => ?_, fun _ => by rw [e]; exact b.hit, a.num, by rw [e]; have := a.num; omega⟩
    rw [e] at t1
    have := ct_none a.r0 hnum.symm t0 t1
    simpa using this
  | none =>
    rw [hx] at e
    have e : sf n x (k + 1) = 4 ^ n := e
    have c := nx_none g a.r0 (by have := a.r1; omega) hx
    have hb2 := ct_both (m := n) (x := x) (p := 4 ^ n) (by omega)
    refine ⟨af, by rw [e]; exact a.r1, by omega, a.hit, hgap, fun t t0 t1 => ?_, fun h => by omega, a.num, by rw [e]; have := a.num; omega⟩
    rw [e] at t1
    have := ct_none a.r0 c t0 t1
    simpa using this
end FW

namespace FW
theorem in_square {c : Int × Int} {X Y t : Int} (ht : 0 < t) : inB c (X * t) (Y * t) (X * t + t - 1) (Y * t + t - 1) = decide (c.1 / t = X ∧ c.2 / t = Y) := by
  have one : ∀ x Z : Int, (Z * t ≤ x ∧ x ≤ Z * t + t - 1) ↔ x / t = Z := fun x Z => by
    have a0 := Int.emod_nonneg x (show t ≠ 0 by omega)
    have a1 := Int.emod_lt_of_pos x ht
    have e := Int.emod_add_mul_ediv x t
    rw [Int.mul_comm] at e
    constructor
    · rintro ⟨h1, h2⟩
      have e2 : x = (x - Z * t) + Z * t := by omega
      rw [e2, Int.add_mul_ediv_right _ _ (by omega), Int.ediv_eq_zero_of_lt (by omega) (by omega), Int.zero_add]
    · rintro rfl
      omega
  unfold inB
  rw [Bool.eq_iff_iff]
  simp only [Bool.and_eq_true, decide_eq_true_eq]
  rw [one, one]
theorem same_block {n k : Nat} {p o : Int} (hk : k ≤ n) (p0 : 0 ≤ p) (p1 : p < 4 ^ n) (o0 : 0 ≤ o) (o1 : o < 4 ^ n) :
    inB (cw n o) ((cw n p).1 / 2 ^ k * 2 ^ k) ((cw n p).2 / 2 ^ k * 2 ^ k) ((cw n p).1 / 2 ^ k * 2 ^ k + 2 ^ k - 1) ((cw n p).2 / 2 ^ k * 2 ^ k + 2 ^ k - 1) = decide (o / 4 ^ k = p / 4 ^ k) := by
  obtain ⟨m, rfl⟩ : ∃ m, n = m + k := ⟨n - k, by omega⟩
  rw [in_square (p2 k)]
  have c1 := cw_coarse k m p p0 p1
  have c2 := cw_coarse k m o o0 o1
  have hz := p4 k
  have d0 : 0 ≤ p / 4 ^ k := Int.ediv_nonneg p0 (by omega)
  have d1 : p / 4 ^ k < 4 ^ m := Int.ediv_lt_of_lt_mul hz (by rw [← p4add]; exact p1)
  have e0 : 0 ≤ o / 4 ^ k := Int.ediv_nonneg o0 (by omega)
  have e1 : o / 4 ^ k < 4 ^ m := Int.ediv_lt_of_lt_mul hz (by rw [← p4add]; exact o1)
  rw [c1.1, c1.2, c2.1, c2.2]
  rw [Bool.eq_iff_iff]
  simp only [decide_eq_true_eq]
  constructor
  · rintro ⟨h1, h2⟩
    have : cw m (o / 4 ^ k) = cw m (p / 4 ^ k) := Prod.ext h1 h2
    rw [← pl_cw m _ e0 e1, this, pl_cw m _ d0 d1]
  · intro h
    rw [h]
    exact ⟨rfl, rfl⟩
theorem square_on {n k : Nat} {x : Int} (hk : k ≤ n) (h0 : 0 ≤ x) (h1 : x < 2 ^ n) : 0 ≤ x / 2 ^ k * 2 ^ k ∧ x / 2 ^ k * 2 ^ k + 2 ^ k - 1 < 2 ^ n ∧ x / 2 ^ k * 2 ^ k % 2 ^ k = 0 := by
  obtain ⟨m, rfl⟩ : ∃ m, n = m + k := ⟨n - k, by omega⟩
  have ht := p2 k
  have d0 : 0 ≤ x / 2 ^ k := Int.ediv_nonneg h0 (by omega)
  have d1 : x / 2 ^ k < 2 ^ m := Int.ediv_lt_of_lt_mul ht (by rw [← p2add]; exact h1)
  have m0 := Int.mul_nonneg d0 (show (0 : Int) ≤ 2 ^ k by omega)
  have m1 := Int.mul_le_mul_of_nonneg_right (show x / 2 ^ k + 1 ≤ 2 ^ m by omega) (show (0 : Int) ≤ 2 ^ k by omega)
  rw [Int.add_mul, Int.one_mul, ← p2add] at m1
  exact ⟨m0, by omega, Int.mul_emod_left _ _⟩
/-- a cell of the square of a whole block lies in the box when the block's places do -/
theorem corner {n k : Nat} {x : Bx} {p : Int} {c : Int × Int} (hk : k ≤ n) (p0 : 0 ≤ p) (hm : p % 4 ^ k = 0) (p1 : p + 4 ^ k ≤ 4 ^ n) (hc : On c (2 ^ n))
    (h1 : c.1 / 2 ^ k = (cw n p).1 / 2 ^ k) (h2 : c.2 / 2 ^ k = (cw n p).2 / 2 ^ k) (hall : ∀ t, p ≤ t → t < p + 4 ^ k → inO x (cw n t) = true) : inO x c = true := by
  have hz := p4 k
  have rg := pl_range n c hc
  have e := same_block (o := pl n c) hk p0 (by omega) rg.1 rg.2
  rw [in_square (p2 k), cw_pl n c hc, decide_eq_true ⟨h1, h2⟩] at e
  have e2 : pl n c / 4 ^ k = p / 4 ^ k := of_decide_eq_true e.symm
  have a0 := Int.emod_nonneg (pl n c) (show (4 : Int) ^ k ≠ 0 by omega)
  have a1 := Int.emod_lt_of_pos (pl n c) hz
  have ea := Int.emod_add_mul_ediv (pl n c) (4 ^ k)
  have eb := Int.emod_add_mul_ediv p (4 ^ k)
  rw [e2] at ea
  have := hall (pl n c) (by omega) (by omega)
  rw [cw_pl n c hc] at this
  exact this
theorem corners {n k : Nat} {x : Bx} {p : Int} (hk : k ≤ n) (p0 : 0 ≤ p) (hm : p % 4 ^ k = 0) (p1 : p + 4 ^ k ≤ 4 ^ n) (hall : ∀ t, p ≤ t → t < p + 4 ^ k → inO x (cw n t) = true) :
    inO x ((cw n p).1 / 2 ^ k * 2 ^ k, (cw n p).2 / 2 ^ k * 2 ^ k) = true ∧ inO x ((cw n p).1 / 2 ^ k * 2 ^ k + 2 ^ k - 1, (cw n p).2 / 2 ^ k * 2 ^ k + 2 ^ k - 1) = true := by
  have on := cw_on n p
  have q1 := square_on hk on.1 on.2.1
  have q2 := square_on hk on.2.2.1 on.2.2.2
  have ht := p2 k
  have up : ∀ y : Int, (y / 2 ^ k * 2 ^ k + 2 ^ k - 1) / 2 ^ k = y / 2 ^ k := fun y => by
    rw [show y / 2 ^ k * 2 ^ k + 2 ^ k - 1 = (2 ^ k - 1) + y / 2 ^ k * 2 ^ k by omega, Int.add_mul_ediv_right _ _ (by omega), Int.ediv_eq_zero_of_lt (by omega) (by omega), Int.zero_add]
  have lo : ∀ y : Int, (y / 2 ^ k * 2 ^ k) / 2 ^ k = y / 2 ^ k := fun y => Int.mul_ediv_cancel _ (by omega)
  exact ⟨corner hk p0 hm p1 ⟨by dsimp only; omega, by dsimp only; omega, by dsimp only; omega, by dsimp only; omega⟩ (lo _) (lo _) hall, corner hk p0 hm p1 ⟨by dsimp only; omega, by dsimp only; omega, by dsimp only; omega, by dsimp only; omega⟩ (up _) (up _) hall⟩
/-! ### all stretches together -/
theorem sf_mono {n : Nat} {x : Bx} (g : Good x (2 ^ n)) : ∀ k : Nat, (∀ j, j < k → ct true n x (sf n x j) < ar x) → 0 ≤ sf n x k ∧ sf n x k ≤ 4 ^ n
  | 0, _ => ⟨Int.le_refl 0, by show (0 : Int) ≤ 4 ^ n; have := p4 n; omega⟩
  | k + 1, h => by
    have ih := sf_mono g k fun j hj => h j (by omega)
    have S := str_ok g ih.1 (h k (by omega))
    have a := S.from0
    have b := S.lt
    exact ⟨by omega, S.top⟩
/-- a place below the end of the k-th stretch lies in one of them just where its cell lies in the box -/
theorem any_str {n : Nat} {x : Bx} (g : Good x (2 ^ n)) : ∀ k : Nat, (∀ j, j < k → ct true n x (sf n x j) < ar x) → ∀ p : Int, 0 ≤ p → p < sf n x k → ((∃ j, j < k ∧ s1 n x j ≤ p ∧ p ≤ sf n x (j + 1) - 1) ↔ inO x (cw n p) = true)
  | 0, _, p, h0, h1 => by have : sf n x 0 = 0 := rfl; omega
  | k + 1, h, p, h0, h1 => by
    have m := sf_mono g k fun j hj => h j (by omega)
    have S := str_ok g m.1 (h k (by omega))
    by_cases hp : p < sf n x k
    · have ih := any_str g k (fun j hj => h j (by omega)) p h0 hp
      rw [← ih]
      constructor
      · rintro ⟨j, hj, a, b⟩
        refine ⟨j, ?_, a, b⟩
        refine Classical.byContradiction fun hn => ?_
        have : j = k := by omega
        subst this
        have := S.from0
        omega
      · rintro ⟨j, hj, a, b⟩
        exact ⟨j, by omega, a, b⟩
    · constructor
      · rintro ⟨j, hj, a, b⟩
        by_cases hj2 : j < k
        · have Sj := str_ok g (sf_mono g j fun i hi => h i (by omega)).1 (h j (by omega))
          exact Sj.all p a (by omega)
        · have : j = k := by omega
          subst this
          exact S.all p a (by omega)
      · intro hit
        refine ⟨k, by omega, ?_, by omega⟩
        refine Classical.byContradiction fun hn => ?_
        rw [S.gap p (by omega) (by omega)] at hit
        cases hit
theorem any_all {n : Nat} {x : Bx} {k : Nat} (g : Good x (2 ^ n)) (h : ∀ j, j < k → ct true n x (sf n x j) < ar x) (he : ¬ ct true n x (sf n x k) < ar x) {p : Int} (h0 : 0 ≤ p) (h1 : p < 4 ^ n) :
    ((∃ j, j < k ∧ s1 n x j ≤ p ∧ p ≤ sf n x (j + 1) - 1) ↔ inO x (cw n p) = true) := by
  have m := sf_mono g k h
  by_cases hp : p < sf n x k
  · exact any_str g k h p h0 hp
  have f := ct_full true n x g
  have f : ct true n x (4 ^ n) = ar x := f
  have le := (ct_mono (i := true) (m := n) (x := x) m.1 m.2).1
  have no : inO x (cw n p) ≠ true := ct_none (r := 4 ^ n) m.1 (by omega) (by omega) h1
  constructor
  · rintro ⟨j, hj, a, b⟩
    have Sj := str_ok g (sf_mono g j fun i hi => h i (by omega)).1 (h j hj)
    exact Sj.all p a (by omega)
  · intro hit
    exact absurd hit no
def ln (n : Nat) (x : Bx) (j : Nat) : Int := sf n x (j + 1) - 1 - s1 n x j + 1
theorem sum_str {n : Nat} {x : Bx} (g : Good x (2 ^ n)) : ∀ k : Nat, (∀ j, j < k → ct true n x (sf n x j) < ar x) → ((List.range k).map (ln n x)).sum = ct true n x (sf n x k)
  | 0, _ => rfl
  | k + 1, h => by
    have ih := sum_str g k fun j hj => h j (by omega)
    have m := sf_mono g k fun j hj => h j (by omega)
    have S := str_ok g m.1 (h k (by omega))
    rw [List.range_succ, List.map_append, List.sum_append, ih, S.num]
    show _ + (ln n x k + 0) = _
    unfold ln
    omega
/-- the whole: as many places as cells -/
theorem sum_all {n : Nat} {x : Bx} {k : Nat} (g : Good x (2 ^ n)) (h : ∀ j, j < k → ct true n x (sf n x j) < ar x) (he : ¬ ct true n x (sf n x k) < ar x) : ((List.range k).map (ln n x)).sum = ar x := by
  rw [sum_str g k h]
  have m := sf_mono g k h
  have := ct_le (i := true) g m.1 m.2
  have : ct true n x (sf n x k) ≤ ar x := this
  omega
/-- a place is left out between two stretches -/
theorem str_gap {n : Nat} {x : Bx} {k : Nat} (g : Good x (2 ^ n)) (h : ∀ j, j ≤ k + 1 → ct true n x (sf n x j) < ar x) : sf n x (k + 1) < s1 n x (k + 1) := by
  have m := sf_mono g k fun j hj => h j (by omega)
  have S := str_ok g m.1 (h k (by omega))
  have m2 := sf_mono g (k + 1) fun j hj => h j (by omega)
  have S2 := str_ok g m2.1 (h (k + 1) (by omega))
  have a := S2.from0
  have b := S2.lt
  have c := S2.top
  refine Classical.byContradiction fun hn => ?_
  have e : s1 n x (k + 1) = sf n x (k + 1) := by omega
  have hit := S2.first
  rw [e, S.out (by omega)] at hit
  cases hit
/-- where one more is left, the walk is out of the box behind the stretch -/
theorem nx_out {n : Nat} {x : Bx} {k : Nat} (g : Good x (2 ^ n)) (h : ∀ j, j ≤ k + 1 → ct true n x (sf n x j) < ar x) : nx false n x (s1 n x k) = some (sf n x (k + 1)) := by
  have hk := h (k + 1) (by omega)
  have f := ct_full true n x g
  have f : ct true n x (4 ^ n) = ar x := f
  have e : sf n x (k + 1) = (nx false n x (s1 n x k)).getD (4 ^ n) := rfl
  cases hx : nx false n x (s1 n x k) with
  | none =>
    rw [hx] at e
    have e : sf n x (k + 1) = 4 ^ n := e
    rw [e, f] at hk
    omega
  | some r =>
    rw [hx] at e
    have e : sf n x (k + 1) = r := e
    rw [e]
theorem nx_in {n : Nat} {x : Bx} {k : Nat} (h : ct true n x (sf n x k) < ar x) : nx true n x (sf n x k) = some (s1 n x k) := if_pos h
end FW

namespace L2
open PySem PySem.Spec PyProof.Rows
section
variable {X : Cx}
/-- a product that fits -/
theorem op_mulB : OpR X (binaryOp .Mult) (rI (fun i j => IntMulOk i j) fun i j => .int (i * j)) := opI fun _ _ _ _ _ _ _ hc q => mul_int q hc
/-- isinstance(x, T), T a built-in class -/
theorem call_isinst : CallR X (.builtin "isinstance") (fun xs H Q => ∃ x t T b, xs = [x, .ty T] ∧ TyOf X.K H x t ∧ PySem.W.kitOne X.K t (.type T) = some b ∧ Q (.bl b) H) := by
  intro pins s σ H xs us Q I r h
  obtain ⟨x, t, T, b, rfl, ty, e, q⟩ := h
  cases r with
  | cons r1 r2 =>
    cases r2 with
    | cons r3 r4 =>
      cases r4
      cases (show _ = Value.type T from r3)
      exact isinst_ok I r1 ty e fun tk => ⟨.bl b, H, I.tok tk, rfl, q⟩
end
section
variable {prog : Program} {w : World} {A : Around} {E : Value → Shared → Prop} {s : Shared}
theorem min_pair {l : Addr} {a b : Int} {t u : Tok} {Q : Value → Shared → Prop} (hh : A.handled = none) (hT0 : s.heap.IsTuple l #[.int a t, .int b u])
    (h : ∀ h' tk, (∀ c o, s.heap.get? c = some o → h'.get? c = some o) → Q (if b < a then .int b u else .int a t) { s with heap := h', toks := tk }) :
    wpAny (model prog w) A (call (.builtin "min") [.ref l]) Q E s := by
  have hT : s.heap.IsTuple l (intItems #[(a, t), (b, u)]) := by simpa [intItems] using hT0
  have hlt : l < s.heap.objs.size := by obtain ⟨o, e, _⟩ := id hT0; exact Heap.lt_size e
  refine call_min_walk (wpAny_pyIter_tuple hT ?_)
  refine ⟨_, [_, l], [_], _, _, _, _, rfl, Walks.tuple (A := A.in1) hh _ l (Nat.ne_of_lt hlt) (intItems #[(a, t), (b, u)]),
    ⟨⟨_, Heap.get?_push_size _ rfl, rfl, rfl⟩, hT.push _⟩, fun c hc => ?_, by simp [intItems], CmpOf.ints_lt (numAt #[(a, t), (b, u)]) (fun _ _ => intItems_at), fun v h' tk hP hk => ?_⟩
  · show c < (s.heap.push _).objs.size
    rw [Heap.size_push]
    rcases List.mem_cons.mp hc with rfl | hc
    · exact Nat.lt_succ_self _
    · rcases List.mem_cons.mp hc with rfl | hc
      · exact Nat.lt_succ_of_lt hlt
      · cases hc
  · have hold : ∀ c o, s.heap.get? c = some o → h'.get? c = some o := fun c o e => by
      refine hk c o (fun hm => ?_) (Heap.get?_push_of_some _ e)
      rcases List.mem_cons.mp hm with e1 | hm
      · have := Heap.lt_size e; rw [e1] at this; exact Nat.lt_irrefl _ this
      · cases hm
    have := h h' tk hold
    have hv : v = if b < a then Value.int b u else Value.int a t := by
      have hP' : (intItems #[(a, t), (b, u)])[argBest (fun i j => decide (numAt #[(a, t), (b, u)] i < numAt #[(a, t), (b, u)] j)) 1]? = some v := by
        have hsz2 : (intItems #[(a, t), (b, u)]).size - 1 = 1 := by simp [intItems]
        rw [← hsz2]; exact hP
      by_cases hba : b < a
      · have e : argBest (fun i j => decide (numAt #[(a, t), (b, u)] i < numAt #[(a, t), (b, u)] j)) 1 = 1 := by simp [argBest, numAt, hba]
        rw [e] at hP'
        simpa [intItems, hba] using hP'.symm
      · have e : argBest (fun i j => decide (numAt #[(a, t), (b, u)] i < numAt #[(a, t), (b, u)] j)) 1 = 0 := by simp [argBest, numAt, hba]
        rw [e] at hP'
        simpa [intItems, hba] using hP'.symm
    rw [hv]; exact this
theorem max_pair {l : Addr} {a b : Int} {t u : Tok} {Q : Value → Shared → Prop} (hh : A.handled = none) (hT0 : s.heap.IsTuple l #[.int a t, .int b u])
    (h : ∀ h' tk, (∀ c o, s.heap.get? c = some o → h'.get? c = some o) → Q (if b > a then .int b u else .int a t) { s with heap := h', toks := tk }) :
    wpAny (model prog w) A (call (.builtin "max") [.ref l]) Q E s := by
  have hT : s.heap.IsTuple l (intItems #[(a, t), (b, u)]) := by simpa [intItems] using hT0
  have hlt : l < s.heap.objs.size := by obtain ⟨o, e, _⟩ := id hT0; exact Heap.lt_size e
  refine call_max_walk (wpAny_pyIter_tuple hT ?_)
  refine ⟨_, [_, l], [_], _, _, _, _, rfl, Walks.tuple (A := A.in1) hh _ l (Nat.ne_of_lt hlt) (intItems #[(a, t), (b, u)]),
    ⟨⟨_, Heap.get?_push_size _ rfl, rfl, rfl⟩, hT.push _⟩, fun c hc => ?_, by simp [intItems], CmpOf.ints_gt (numAt #[(a, t), (b, u)]) (fun _ _ => intItems_at), fun v h' tk hP hk => ?_⟩
  · show c < (s.heap.push _).objs.size
    rw [Heap.size_push]
    rcases List.mem_cons.mp hc with rfl | hc
    · exact Nat.lt_succ_self _
    · rcases List.mem_cons.mp hc with rfl | hc
      · exact Nat.lt_succ_of_lt hlt
      · cases hc
  · have hold : ∀ c o, s.heap.get? c = some o → h'.get? c = some o := fun c o e => by
      refine hk c o (fun hm => ?_) (Heap.get?_push_of_some _ e)
      rcases List.mem_cons.mp hm with e1 | hm
      · have := Heap.lt_size e; rw [e1] at this; exact Nat.lt_irrefl _ this
      · cases hm
    have := h h' tk hold
    have hv : v = if b > a then Value.int b u else Value.int a t := by
      have hP' : (intItems #[(a, t), (b, u)])[argBest (fun i j => decide (numAt #[(a, t), (b, u)] i > numAt #[(a, t), (b, u)] j)) 1]? = some v := by
        have hsz2 : (intItems #[(a, t), (b, u)]).size - 1 = 1 := by simp [intItems]
        rw [← hsz2]; exact hP
      by_cases hba : b > a
      · have e : argBest (fun i j => decide (numAt #[(a, t), (b, u)] i > numAt #[(a, t), (b, u)] j)) 1 = 1 := by simp [argBest, numAt, hba]
        rw [e] at hP'
        simpa [intItems, hba] using hP'.symm
      · have e : argBest (fun i j => decide (numAt #[(a, t), (b, u)] i > numAt #[(a, t), (b, u)] j)) 1 = 0 := by simp [argBest, numAt, hba]
        rw [e] at hP'
        simpa [intItems, hba] using hP'.symm
    rw [hv]; exact this
end
section
variable {X : Cx}
theorem pair_of {its : List Value} {i j : Int} (r : Vals [V.int i, V.int j] its) : ∃ t u, its = [.int i t, .int j u] := by
  cases r with
  | cons a b =>
    cases b with
    | cons c d =>
      cases d
      obtain ⟨t, rfl⟩ := a
      obtain ⟨u, rfl⟩ := c
      exact ⟨t, u, rfl⟩
/-- min and max of a pair of ints -/
theorem call_minP (hc : X.calm = true) : CallR X (.builtin "min") (fun xs H Q => ∃ a i j, xs = [.ref a] ∧ SqT X.K H a [.int i, .int j] ∧ Q (.int (if j < i then j else i)) H) := by
  intro pins s σ H xs us Q I r h
  obtain ⟨a, i, j, rfl, hS, q⟩ := h
  obtain ⟨u, rfl, e⟩ := vals1 r
  cases e
  obtain ⟨its, r1, p1, _⟩ := I.tuple hS
  obtain ⟨t, u, rfl⟩ := pair_of r1
  refine min_pair (I.ok.hd hc) (show s.heap.IsTuple a #[.int i t, .int j u] from p1) fun h' tk k => ⟨_, H, I.kept k, ?_, q⟩
  by_cases hj : j < i
  · rw [if_pos hj, if_pos hj]; exact ⟨_, rfl⟩
  · rw [if_neg hj, if_neg hj]; exact ⟨_, rfl⟩
theorem call_maxP (hc : X.calm = true) : CallR X (.builtin "max") (fun xs H Q => ∃ a i j, xs = [.ref a] ∧ SqT X.K H a [.int i, .int j] ∧ Q (.int (if j > i then j else i)) H) := by
  intro pins s σ H xs us Q I r h
  obtain ⟨a, i, j, rfl, hS, q⟩ := h
  obtain ⟨u, rfl, e⟩ := vals1 r
  cases e
  obtain ⟨its, r1, p1, _⟩ := I.tuple hS
  obtain ⟨t, u, rfl⟩ := pair_of r1
  refine max_pair (I.ok.hd hc) (show s.heap.IsTuple a #[.int i t, .int j u] from p1) fun h' tk k => ⟨_, H, I.kept k, ?_, q⟩
  by_cases hj : j > i
  · rw [if_pos hj, if_pos hj]; exact ⟨_, rfl⟩
  · rw [if_neg hj, if_neg hj]; exact ⟨_, rfl⟩
end
/-! ### a def of the text, and what it keeps -/
def DefAt (K : PySem.W.Frag) (mg : Str → Option Value) (x : Str) (st : Stmt) : Prop := ∃ f fd, Fun K x x st f fd ∧ mg x = some (.ref f)
theorem DefAt.of {K : PySem.W.Frag} {h : Heap} {mg : Str → Option Value} {x : Str} {st : Stmt} {f : Addr} {oc : Value} {od an : Option Addr} {osl : Array (Option Value)} {kV doc pm cdv ct : Value} (X : K.In h) (G : h.Ns mainGlobals mg)
    (a : PySem.W.nsIn K mainGlobals x = some (some (.ref f))) (l : K.lookup f = some ⟨oc, od, .func (PySem.W.fnOf x x (defArgs st) (defBody st) (defScope st) .none kV doc pm an cdv ct), osl⟩)
    (c : PySem.W.codeIn K cdv x = true) (k : PySem.W.keepIn K (.ref f) = true) : DefAt K mg x st := ⟨f, _, fun_mk l c k, PySem.W.mg_of X G a⟩
def FdAt (K : PySem.W.Frag) (f : Addr) (fd : FuncData) : Prop := ∃ oc od osl, K.lookup f = some ⟨oc, od, .func fd, osl⟩
theorem Fun.fdAt {K : PySem.W.Frag} {x qual : Str} {st : Stmt} {f : Addr} {fd : FuncData} (F : Fun K x qual st f fd) : FdAt K f fd := by
  obtain ⟨oc, od, kV, doc, pm, an, cdv, ct, osl, e, lk, hcd⟩ := F.ex
  exact ⟨oc, od, osl, lk⟩
def FnAt (P : Program) (w : World) (K : PySem.W.Frag) (mg : Str → Option Value) (base : Heap) (k : Nat) (x : Str) (ps : List Str) (sp : Sp) : Prop :=
  ∃ f fd, FnOk P w K mg base CX0 k f fd ps sp ∧ Binds K fd ps [] ∧ PySem.W.keepIn K (.ref f) = true ∧ mg x = some (.ref f) ∧ FdAt K f fd
section
variable {P : Program} {w : World} {K : PySem.W.Frag} {mg : Str → Option Value} {base : Heap}
theorem FnAt.mk {x : Str} {st : Stmt} {N ps : List Str} {k : Nat} {sp : Sp} (D : DefAt K mg x st) (S : FnScope N ps (defScope st))
    (h : ∀ (kV doc pm : Value) (an : Option Addr) (cdv ct : Value) (us : List Value), us.length = ps.length → bindArgs (PySem.W.fnOf x x (defArgs st) (defBody st) (defScope st) .none kV doc pm an cdv ct) ⟨us, []⟩ = pure (ps.zip us))
    (len : ∀ vs H Q E, sp vs H Q E → vs.length = ps.length)
    (hbody : ∀ (f : Addr) (cdv : Value) (A : Around) (outer : List Env) (s : Shared) (H : Hp) (vs : List V) (Q : VK) (E : XK), Room k (A.deeper (envOfC x (defScope st) s.heap.objs.size f cdv)) → sp vs H Q E →
      ∃ t, PSs (cxOf CX0 P w K mg base N x (defScope st) f cdv A outer s H E).nox (defBody st) t ∧ t { nx := fun _ H' => Q .non H', rt := Q } (start N vs) H) : FnAt P w K mg base (k + 1) x ps sp := by
  obtain ⟨f, fd, F, m⟩ := D
  exact ⟨f, fd, F.ok S len (hbody f), F.binds h, F.kp, m, F.fdAt⟩
end
section
variable {X : Cx} {k : Nat} {ps : List Str} {sp : Sp} {x : Str} {p pos : Pos} {e : Expr} {es : List Expr} {t : TA}
theorem pe_fn (F : FnAt X.prog X.w X.K X.mg X.base k x ps sp) (hr : Room k X.A) (hg : Gl X x) (ha : PA X (e :: es) t)
    (hdb : (x == ("__debug__" : Str)) = false := by decide) (he : starEach (e :: es) X.env = (false, eval e X.env) :: starEach es X.env := by rfl) (hpl : (backTo pos (starEach es X.env)).any (·.1) = false := by rfl) :
    PE X (.Call (.Name x p) (e :: es) [] pos) (tCall sp [] E0 t) := by
  obtain ⟨f, fd, F, b, kp, m, _⟩ := F
  exact pe_call F hr hg m kp b .nil pass0 ha (hdb := hdb) (he := he) (hpl := hpl)
end
/-! ### the head, with the size of the script's ints -/
theorem bits_of_lay {ns : List Int} (h : PySem.W.WData.layableAll [.list (ns.map .int)] = true) : ∀ n ∈ ns, Builtin.Int.intBits n ≤ 2 ^ 20 := fun n hn => by
  have h1 := PySem.W.layableW_arg h _ (List.mem_singleton.mpr rfl)
  have h2 := PySem.W.layableW_item h1 (.int n) (List.mem_map.mpr ⟨n, hn, rfl⟩)
  have h3 := (PySem.W.layableW_iff.mp h2).2.2
  simpa only [PySem.W.WData.weight, Builtin.Int.intBits] using h3
end L2
namespace Att
open PySem PySem.W PyProof.Rows PySem.Calls PySem.Spec
theorem attach_callB {l : OpenLaw} {n : Nat} {q : Program} {loose : List Str} {XP : (Str → Option Value) → Heap → Prop} {YP : World → Heap → Prop} {d : DefRec}
    (hn : l.most = some n) (hdf : d.params.defaults = [])
    (call : ∀ (w : World) (s₀ s₁ : Shared) (mg mb : Str → Option Value) (fa : Addr) (o : Obj) (pm cd doc : Value) (a : Addr) (vs : List Value) (ns : List Int),
      Ground q loose [] XP w s₀ mg mb s₁.heap → YP w s₁.heap →
      s₁.heap.get? fa = some o → o.data = .func (docDef d.name d.params d.body d.scope pm cd doc) → s₁.heap.CodeRec cd d.name → mg d.name = some (.ref fa) →
      s₁.heap.get? a = some { cls := .type "list", data := .seq vs.toArray } → IntsAre vs ns → ns.length ≤ n → s₁.gens = #[] → (∀ n ∈ ns, Builtin.Int.intBits n ≤ 2 ^ 20) →
      codeAny (model l.prog w) callerA (.call (.ref fa) ⟨[.ref a], []⟩) (fun r s' => r = .ok (.ret (.bool true)) ∧ OldK s₁.heap s'.heap ∧ s'.os = s₁.os ∧ AllBare s'.gens) s₁) :
    WalkO q loose XP YP l.row.toRowW d [] (fun f vs => PySem.call f vs) := by
  intro w s₀ s₁ mg mb G Y fa o pm cd doc dV kV ho hd hcd hD hmg hg args vals as hpre hlay hrd hwl hlo
  obtain rfl : dV = .none := Dflts.none hD hdf
  obtain rfl : kV = .none := Dflts.noKw hD
  obtain ⟨a, vs, ns, rfl, rfl, hobj, hints, hlen⟩ := script_of hn hpre hwl
  refine enter_call (codeAny_mono (call w s₀ s₁ mg mb fa o pm cd doc a vs ns G Y ho (fd_plain hd) hcd hmg hobj hints hlen hg (L2.bits_of_lay hlay)) fun r s' hq => ?_)
  obtain ⟨rfl, h2, h3, h4⟩ := hq
  exact ⟨.inl ⟨.bool true, .bool true, [], rfl, fun _ => rfl, .bool true, post_true l _, fun _ => ⟨List.Pairwise.nil, fun _ hm => (nomatch hm)⟩⟩, h2, h3, h4⟩
end Att
namespace L2
open PySem PySem.Spec PyProof.Rows
theorem Fun.bind1 {K : PySem.W.Frag} {x qual : Str} {st : Stmt} {f : Addr} {fd : FuncData} {y : Str} (F : Fun K x qual st f fd)
    (h : ∀ (kV doc pm : Value) (an : Option Addr) (cdv ct : Value) (u : Value), bindArgs (PySem.W.fnOf x qual (defArgs st) (defBody st) (defScope st) .none kV doc pm an cdv ct) ⟨[u], []⟩ = pure [(y, u)]) (s : Shared) (u : Value) : BindsTo s fd ⟨[u], []⟩ [(y, u)] := by
  obtain ⟨oc, od, kV, doc, pm, an, cdv, ct, osl, rfl, lk, hcd⟩ := F.ex
  exact .of_eq (h kV doc pm an cdv ct u)
theorem walk_ofB {l : PySem.W.OpenLaw} {k : Nat} {q : Program} {loose : List Str} {XP : (Str → Option Value) → Heap → Prop} {YP : World → Heap → Prop} {d : DefRec} {K : Params → PySem.W.Frag} {sp : PySem.W.Frag → Sp} {x : Str}
    (hn : l.most = some 63) (hdf : d.params.defaults = []) (hr : Room k callerA)
    (hY : ∀ (w : World) (h : Heap), YP w h → (K w.params).In h)
    (F : ∀ (w : World) (mg : Str → Option Value) (h : Heap), (K w.params).In h → h.Ns mainGlobals mg →
        ∃ f fd, mg d.name = some (.ref f) ∧ (∀ (s : Shared) (u : Value), BindsTo s fd ⟨[u], []⟩ [(x, u)]) ∧ ∀ base : Heap, (K w.params).In base → base.Ns mainGlobals mg → FnOk l.prog w (K w.params) mg base CX0 k f fd [x] (sp (K w.params)))
    (hsp : ∀ (K : PySem.W.Frag) (H : Hp) (a : Addr) (ns : List Int), ns.length ≤ 63 → (∀ n ∈ ns, Builtin.Int.intBits n ≤ 2 ^ 20) → Only H → SqL K H a (ns.map V.int) → sp K [.ref a] H (fun v _ => v = .bl true) fun _ _ _ => False) :
    PySem.W.WalkO q loose XP YP l.row.toRowW d [] (fun f vs => PySem.call f vs) := by
  refine Att.attach_callB hn hdf fun w s₀ s₁ mg mb fa o pm cd doc a vs ns G Y ho hd hcd hmg hobj hints hlen hg hbit => ?_
  have KX := hY w _ Y
  obtain ⟨f, fd, hm, hb, hF⟩ := F w mg _ KX G.T.g
  have e := hmg.symm.trans hm
  cases e
  exact law_call KX G.T.g G.T.b G.T.builtins G.T.nolimit hg hobj hints (Nat.le_trans hlen (by decide)) hr hF hb (fun H hO hS => hsp _ H a ns hlen hbit hO hS) fun H e s' z => z
end L2

namespace L2
open PySem PySem.Spec PyProof.Rows
/-! ### exceptions -/
theorem ObjOk.got {P : Program} {w : World} {H : Hp} {h : Heap} {a : Addr} {o : HO} (x : ObjOk P w H h a o) : ∃ ob, h.get? a = some ob := by
  cases o with
  | lst xs => obtain ⟨_, _, _, _, e⟩ := x; exact ⟨_, e⟩
  | tup xs => obtain ⟨_, _, _, ob, e, _⟩ := x; exact ⟨_, e⟩
  | dK kvs => obtain ⟨_, _, _, _, o, _, _, e, _⟩ := x; exact ⟨_, e⟩
  | dT kvs => obtain ⟨_, _, _, _, o, _, _, e, _⟩ := x; exact ⟨_, e⟩
  | set S n => obtain ⟨o, _, _, _, e, _⟩ := x; exact ⟨_, e⟩
  | ins C dx fs => obtain ⟨_, _, _, e, _⟩ := x; exact ⟨_, e⟩
  | own y => exact x
  | xd fs => obtain ⟨_, ⟨_, _, _, e, _⟩, _⟩ := x; exact ⟨_, e⟩
  | rng lo hi => obtain ⟨_, _, _, e⟩ := x; exact ⟨_, e⟩
  | frz ob u => obtain ⟨e, _⟩ := x; exact ⟨_, e⟩
  | tbl ps => exact ⟨_, (show h.get? a = some _ from x)⟩
  | met f y => exact ⟨_, (show h.get? a = some _ from x)⟩
  | ext φ => obtain ⟨_, e, _⟩ := x; exact e
/-- an exception of the class at C, at a, has left a call: B is what stands as it is however far it flies -/
structure FlyAt (P : Program) (w : World) (outer : List Env) (H : Hp) (s : Shared) (C : Addr) (H' : Hp) (B : Heap) (a : Addr) (s' : Shared) : Prop where
  fly : ∃ a0, Heap.FlyingW B outer a (.ref C) a0 s'.heap
  os : s'.os = s.os
  bare : AllBare s'.gens
  hok : HOk P w H' B
  keep : ∀ b o, s.heap.get? b = some o → H b = none → b ∉ frs outer → B.get? b = some o
  there : ∀ b o, s.heap.get? b = some o → b ∉ frs outer → ∃ o', B.get? b = some o'
  slot : ∀ b o, s.heap.get? b = some o → H b = none → b ∈ frs outer → ∃ sl, s'.heap.get? b = some { o with slots := sl }
  free : ∀ b o, s.heap.get? b = some o → H b = none → H' b = none
  tups : ∀ b xs, H b = some (.tup xs) → H' b = some (.tup xs)
  frzs : ∀ b o u, H b = some (.frz o u) → H' b = some (.frz o u)
  tbls : ∀ b ps, H b = some (.tbl ps) → ∃ more, H' b = some (.tbl (ps ++ more))
def CX1 (P : Program) (w : World) : CXT := fun outer H s E e s' => ∃ (C : Addr) (H' : Hp) (B : Heap) (a : Addr), e = .ref a ∧ FlyAt P w outer H s C H' B a s' ∧ E (.ref C) none H'
theorem FlyAt.un {P : Program} {w : World} {outer : List Env} {H H' : Hp} {s s' : Shared} {C a : Addr} {B h'' : Heap} (F : FlyAt P w outer H s C H' B a s') (hf : ∀ b ∈ frs outer, H b = none) (st : B.StaysIn h'') (up : s'.heap.UpToSlots h'') :
    Un (frs outer) [] H H' s.heap h'' := by
  have slot : ∀ b o, s.heap.get? b = some o → H b = none → b ∈ frs outer → ∃ sl, h''.get? b = some { o with slots := sl } := fun b o e n hb => by
    obtain ⟨sl, e1⟩ := F.slot b o e n hb
    obtain ⟨a0, _, _, ff, _⟩ := F.fly
    obtain ⟨_, o', e2, nd⟩ := ff.mem hb
    rw [e1] at e2
    cases e2
    obtain ⟨sl', e3⟩ := up b _ e1 nd
    exact ⟨sl', e3⟩
  refine ⟨fun b o e n hb _ => st b o (F.keep b o e n hb), fun b o e n hb _ => slot b o e n hb, fun b o e n _ => F.free b o e n, fun b o e _ => ?_, F.tups, F.frzs, F.tbls⟩
  by_cases hb : b ∈ frs outer
  · obtain ⟨sl, e1⟩ := slot b o e (hf b hb) hb
    exact ⟨_, e1⟩
  · obtain ⟨o', e1⟩ := F.there b o e hb
    exact ⟨o', st b o' e1⟩
section
variable {X : Cx} {pins : List (Addr × Obj)} {σ : St} {H H' : Hp} {s s' : Shared} {C a : Addr} {B : Heap}
theorem Inv.flown (I : Inv X pins σ H s) (F : FlyAt X.prog X.w X.stack H s C H' B a s') {h'' : Heap} (st : B.StaysIn h'') (up : s'.heap.UpToSlots h'') : Inv X pins σ H' { s' with heap := h'' } := by
  have J := I.call (h' := h'') (g' := s'.gens) (d' := s'.drawn) (t' := s'.toks) (ch := []) (F.un I.stkFree st up) (F.hok.kept st) F.bare (fun b z => absurd z (by simp))
  obtain ⟨hh, g, d, t, os'⟩ := s'
  obtain rfl : os' = s.os := F.os
  exact J
end
section
variable {P : Program} {w : World} {K : PySem.W.Frag} {mg : Str → Option Value} {base : Heap} {N : List Str} {qual : Str} {scope : Scope} {f : Addr} {cd : Value} {A : Around} {outer : List Env} {s₀ : Shared} {H₀ : Hp} {E : XK}
/-- an exception of a callee goes on through a def's body -/
theorem pass1 : Passes (CX1 P w) (cxOf (CX1 P w) P w K mg base N qual scope f cd A outer s₀ H₀ E) E := by
  intro pins σ H s e s' I h
  obtain ⟨C, H', B, a, rfl, F, q⟩ := h
  obtain ⟨a0, fl⟩ := id F.fly
  have nst : ∀ b o, s₀.heap.get? b = some o → b ∉ frs outer → b ∉ frs (cxOf (CX1 P w) P w K mg base N qual scope f cd A outer s₀ H₀ E).stack := fun b o e hb z => by
    rcases List.mem_cons.mp (I.stkSub b z) with r | r
    · exact absurd (Heap.lt_size e) (by rw [r]; exact Nat.lt_irrefl _)
    · exact hb r
  refine wpAny_leaves_onW I.ok.frames rfl fl fun h'' fl' up => ?_
  have J := I.flown F fl'.1 up
  refine ⟨C, H', B, a, rfl, ⟨⟨a0, fl'⟩, J.os, J.bare, F.hok, fun b o e n hb => ?_, fun b o e hb => ?_, fun b o e n hb => ?_, fun b o e n => ?_, J.base.tups, J.base.frzs, J.base.tbls⟩, q⟩
  · exact F.keep b o (I.base.keep b o e n hb (by intro z; exact nomatch z)) (I.base.free b o e n (by intro z; exact nomatch z)) (nst b o e hb)
  · obtain ⟨o', e1⟩ := I.base.there b o e (by intro z; exact nomatch z)
    exact F.there b o' e1 (nst b o e hb)
  · exact J.base.slot b o e n hb (by intro z; exact nomatch z)
  · exact J.base.free b o e n (by intro z; exact nomatch z)
/-- what a body wants of an exception that it makes -/
def Throws (X : Cx) (E : XK) : Prop := ∀ (pins : List (Addr × Obj)) (σ : St) (H : Hp) (s : Shared) (h' : Heap) (e C : Addr) (vs : List Value), Inv X pins σ H s → Heap.MadeExcOf s.heap h' e (.ref C) vs → E (.ref C) none H → X.xe (.ref e) { s with heap := h' }
theorem throw1 : Throws (cxOf (CX1 P w) P w K mg base N qual scope f cd A outer s₀ H₀ E) E := by
  intro pins σ H s h' e C vs I hx q
  have nst : ∀ b o, s₀.heap.get? b = some o → b ∉ frs outer → b ∉ frs (cxOf (CX1 P w) P w K mg base N qual scope f cd A outer s₀ H₀ E).stack := fun b o e hb z => by
    rcases List.mem_cons.mp (I.stkSub b z) with r | r
    · exact absurd (Heap.lt_size e) (by rw [r]; exact Nat.lt_irrefl _)
    · exact hb r
  have hin : ∀ env ∈ (cxOf (CX1 P w) P w K mg base N qual scope f cd A outer s₀ H₀ E).stack, ∀ b, env.frame = some b → b ∈ frs (cxOf (CX1 P w) P w K mg base N qual scope f cd A outer s₀ H₀ E).stack := fun env he b hb => List.mem_filterMap.mpr ⟨env, he, hb⟩
  refine wpAny_leaves_madeW (base := PySem.W.hideAll s.heap (frs (cxOf (CX1 P w) P w K mg base N qual scope f cd A outer s₀ H₀ E).stack)) (h := s.heap) I.ok.frames rfl (fun b o q => PySem.W.of_hideAll _ q) (PySem.W.funFrames_hide I.stack hin) hx fun h'' t fl _ _ up => ?_
  refine ⟨C, H, _, e, rfl, ⟨⟨_, fl⟩, I.os, I.bare, fun b o eb => ?_, fun b o eb n hb => ?_, fun b o eb hb => ?_, fun b o eb n hb => ?_, fun b o eb n => ?_, I.base.tups, I.base.frzs, I.base.tbls⟩, q⟩
  · refine (I.hok b o eb).stay (fun c u hc qc => PySem.W.hideAll_get _ qc fun z => ?_) (fun _ z => z) fun _ _ z => z
    have fr := I.stkFree c z
    rcases hc with rfl | hc
    · rw [fr] at eb; cases eb
    · rw [fr] at hc; cases hc
  · exact PySem.W.hideAll_get _ (I.base.keep b o eb n hb (by intro z; exact nomatch z)) (nst b o eb hb)
  · obtain ⟨o', e1⟩ := I.base.there b o eb (by intro z; exact nomatch z)
    exact ⟨o', PySem.W.hideAll_get _ e1 (nst b o eb hb)⟩
  · obtain ⟨sl, e1⟩ := I.base.slot b o eb n hb (by intro z; exact nomatch z)
    obtain ⟨_, o', e2, nd⟩ := I.funs.mem hb
    rw [e1] at e2
    cases e2
    obtain ⟨sl', e3⟩ := up b _ (hx.keeps b _ e1) nd
    exact ⟨sl', e3⟩
  · exact I.base.free b o eb n (by intro z; exact nomatch z)
end
/-! ### raise C(..) -/
/-- the class at C stands under ValueError; x is its name -/
structure Exc (K : PySem.W.Frag) (mg : Str → Option Value) (x : Str) (C : Addr) : Prop where
  nm : mg x = some (.ref C)
  ex : PySem.W.excIn K C [.type "ValueError", .type "Exception", .type "BaseException", .type "object"] "ValueError.__new__" = true
theorem exc_obj {K : PySem.W.Frag} {h : Heap} {C : Addr} {bmB : List Value} {newId : String} (X : K.In h) (q : PySem.W.excIn K C bmB newId = true) :
    ∃ bm N nm q bs hdct sn sub ab col dd k0 k1 k2 k3 k5 mN, h.get? C = some (excClassObj nm q C N bs bm hdct sn sub ab col dd k0 k1 k2 k3 k5 newId) ∧ h.Ns N mN ∧ mN "__init__" = none ∧ OwnTail h bmB bm := by
  unfold PySem.W.excIn at q
  split at q
  · rename_i dd cd sl ho
    split at q
    · rename_i C' bm k0 k1 k2 k3 n k5 hm hs
      simp only [Bool.and_eq_true, beq_iff_eq, Bool.not_eq_true'] at q
      obtain ⟨⟨⟨⟨⟨rfl, rfl⟩, hdel⟩, ht⟩, hok⟩, hni⟩ := q
      obtain ⟨nm, bs, mro, ns, qn, hd, sn, sub, ab, col, del⟩ := cd
      dsimp only at hm hdel hok hni
      subst hm hdel
      have hsl : sl = #[k0, k1, k2, k3, some (.builtin n), k5] := by
        obtain ⟨l⟩ := sl
        simp only at hs
        rw [hs]
      subst hsl
      exact ⟨bm, ns, nm, qn, bs, hd, sn, sub, ab, col, dd, k0, k1, k2, k3, k5, _, X _ _ ho, .of_isNs (PySem.W.isNs_of_in X hok), PySem.W.nsMap_none_of_in X hok hni, PySem.W.tail_of_in X ht⟩
    · cases q
  · cases q
def tRaise (C : Addr) (E : XK) (ta : TA) : TS := fun _ σ H => ta σ H fun vs H1 => vs.length ≤ sizeLine ∧ E (.ref C) none H1
section
variable {X : Cx}
theorem ps_raise {x : Str} {C : Addr} {E : XK} {e₀ : Expr} {rest : List Expr} {ta : TA} {np cpos pos : Pos} (O : Exc X.K X.mg x C) (T : Throws X E) (hc : X.calm = true) (hg : Gl X x) (ha : PA X (e₀ :: rest) ta) (hd : (x == ("__debug__" : Str)) = false := by decide)
    (he : starEach (e₀ :: rest) X.env = (false, eval e₀ X.env) :: starEach rest X.env := by rfl) (hpl : (backTo cpos (starEach rest X.env)).any (·.1) = false := by rfl) :
    PS X (.Raise (some (.Call (.Name x np) (e₀ :: rest) [] cpos)) none pos) (tRaise C E ta) := by
  intro pins s σ H D I h
  obtain ⟨tl, N, nm, q, bs, hdct, sn, sub, ab, col, dd, k0, k1, k2, k3, k5, mN, hC, hN, hni, TL⟩ := exc_obj I.mod.kin O.ex
  refine wpAny_Raise_call_subT (C := C) (nm := nm) (q := q) (N := N) (bs := bs) (bm := tl) (hdct := hdct) (sn := sn) (sub := sub) (ab := ab) (col := col) (dd := dd) (k0 := k0) (k1 := k1) (k2 := k2) (k3 := k3) (k5 := k5)
    F.excBase_ValueError (mN := mN) (TL.hasType F.excBase_ValueError.hasBase) (I.ok.hd hc) (by rw [he]; show (false || (backTo cpos (starEach rest X.env)).any (·.1)) = false; rw [hpl]; rfl) hni (ld_glob I hg O.nm ⟨rfl, ?_⟩ hd)
  have ha' := ha cpos pins s σ H _ I h
  rw [he] at ha' ⊢
  exact Calls.evalArgs_plain (wpAny_mono ha' (fun vs s₂ ⟨us, H2, I2, r, z, q⟩ => ⟨rfl, by rw [← r.length]; exact z, I2.bk _ _ hC, hN.keeps I2.bk, TL.keeps I2.bk, fun h' e hx => T pins σ H2 s₂ h' e C _ I2 hx q⟩) fun _ _ y => y)
end
/-! ### defs that may raise -/
section
variable {P : Program} {w : World} {K : PySem.W.Frag} {mg : Str → Option Value} {base : Heap}
theorem FnOk.up {CX CX' : CXT} {k : Nat} {f : Addr} {fd : FuncData} {ps : List Str} {sp sp' : Sp} (F : FnOk P w K mg base CX k f fd ps sp)
    (h : ∀ vs H Q E, sp' vs H Q E → ∃ E', sp vs H Q E' ∧ ∀ outer s e s', CX outer H s E' e s' → CX' outer H s E e s') : FnOk P w K mg base CX' k f fd ps sp' := by
  refine ⟨fun vs H Q E q => ?_, fun A outer s H args us vs Q E hr he hb hv hs => ?_⟩
  · obtain ⟨E', q', _⟩ := h vs H Q E q
    exact F.len _ _ _ _ q'
  · obtain ⟨E', q', k'⟩ := h vs H Q E hs
    refine codeAny_mono (F.run A outer s H args us vs Q E' hr he hb hv q') fun r s' hq => ?_
    cases r with
    | error e => exact k' outer s e s' hq
    | ok fl => cases fl <;> exact hq
def FnAt1 (P : Program) (w : World) (K : PySem.W.Frag) (mg : Str → Option Value) (base : Heap) (k : Nat) (x : Str) (ps : List Str) (sp : Sp) : Prop :=
  ∃ f fd, FnOk P w K mg base (CX1 P w) k f fd ps sp ∧ Binds K fd ps [] ∧ PySem.W.keepIn K (.ref f) = true ∧ mg x = some (.ref f) ∧ FdAt K f fd
theorem FnAt1.mk {x : Str} {st : Stmt} {N ps : List Str} {k : Nat} {sp : Sp} (D : DefAt K mg x st) (S : FnScope N ps (defScope st))
    (h : ∀ (kV doc pm : Value) (an : Option Addr) (cdv ct : Value) (us : List Value), us.length = ps.length → bindArgs (PySem.W.fnOf x x (defArgs st) (defBody st) (defScope st) .none kV doc pm an cdv ct) ⟨us, []⟩ = pure (ps.zip us))
    (len : ∀ vs H Q E, sp vs H Q E → vs.length = ps.length)
    (hbody : ∀ (f : Addr) (cdv : Value) (A : Around) (outer : List Env) (s : Shared) (H : Hp) (vs : List V) (Q : VK) (E : XK), Room k (A.deeper (envOfC x (defScope st) s.heap.objs.size f cdv)) → sp vs H Q E →
      ∃ t, PSs (cxOf (CX1 P w) P w K mg base N x (defScope st) f cdv A outer s H E) (defBody st) t ∧ t { nx := fun _ H' => Q .non H', rt := Q } (start N vs) H) : FnAt1 P w K mg base (k + 1) x ps sp := by
  obtain ⟨f, fd, F, m⟩ := D
  refine ⟨f, fd, ?_, F.binds h, F.kp, m, F.fdAt⟩
  obtain ⟨oc, od, kV, doc, pm, an, cdv, ct, osl, rfl, lk, hcd⟩ := F.ex
  exact fn_of lk hcd S len fun A outer s H vs Q E hr hsp => hbody f cdv A outer s H vs Q E hr hsp
/-- two promises of one def -/
theorem FnAt1.or {x : Str} {ps : List Str} {k : Nat} {sp sp' : Sp} (F : FnAt1 P w K mg base k x ps sp) (G : FnAt1 P w K mg base k x ps sp') : FnAt1 P w K mg base k x ps (fun vs H Q E => sp vs H Q E ∨ sp' vs H Q E) := by
  obtain ⟨f, fd, F, b, kp, m, d⟩ := F
  obtain ⟨f', fd', F', b', kp', m', d'⟩ := G
  have e : f = f' := by
    rw [m] at m'
    cases m'
    rfl
  subst e
  have e : fd = fd' := by
    obtain ⟨_, _, _, l⟩ := d
    obtain ⟨_, _, _, l'⟩ := d'
    rw [l] at l'
    cases l'
    rfl
  subst e
  exact ⟨f, fd, ⟨fun vs H Q E h => h.elim (F.len vs H Q E) (F'.len vs H Q E), fun A outer s H args us vs Q E hr he hb hv h => h.elim (F.run A outer s H args us vs Q E hr he hb hv) (F'.run A outer s H args us vs Q E hr he hb hv)⟩, b, kp, m, d⟩
/-- a def that never raises -/
theorem FnAt.to1 {x : Str} {ps : List Str} {k : Nat} {sp : Sp} (F : FnAt P w K mg base k x ps sp) (h : ∀ vs H Q E E', sp vs H Q E → sp vs H Q E') : FnAt1 P w K mg base k x ps sp := by
  obtain ⟨f, fd, F, r⟩ := F
  exact ⟨f, fd, F.up fun vs H Q E q => ⟨E, q, fun _ _ _ _ z => z.elim⟩, r⟩
end
section
variable {X : Cx} {k : Nat} {ps : List Str} {sp : Sp} {E : XK} {x : Str} {p pos : Pos} {e : Expr} {es : List Expr} {t : TA}
theorem pe_fn1 (F : FnAt1 X.prog X.w X.K X.mg X.base k x ps sp) (hx : Passes (CX1 X.prog X.w) X E) (hr : Room k X.A) (hg : Gl X x) (ha : PA X (e :: es) t)
    (hdb : (x == ("__debug__" : Str)) = false := by decide) (he : starEach (e :: es) X.env = (false, eval e X.env) :: starEach es X.env := by rfl) (hpl : (backTo pos (starEach es X.env)).any (·.1) = false := by rfl) :
    PE X (.Call (.Name x p) (e :: es) [] pos) (tCall sp [] E t) := by
  obtain ⟨f, fd, F, b, kp, m, _⟩ := F
  exact pe_call F hr hg m kp b .nil hx ha (hdb := hdb) (he := he) (hpl := hpl)
end
end L2

namespace L2
open PySem PySem.Spec PyProof.Rows
/-- a caught exception, as a thing of the abstract heap -/
def excO (a C : Addr) : HO := .ext fun h => ∃ o vs, h.get? a = some o ∧ o.cls = .ref C ∧ o.data = .fields vs
/-- with other pins that every state bears -/
abbrev Cx.pnd (X : Cx) (pn : List (Addr × Obj)) : Cx := { X with pn := pn }
theorem Cx.Ok.pnd {X : Cx} (ok : X.Ok) (pn : List (Addr × Obj)) : (X.pnd pn).Ok :=
  ⟨ok.mod, ok.kind, ok.glob, ok.blt, ok.above, ok.inj, ok.has, ok.cab, ok.hd, ok.frames, ok.stk, ok.exf, ok.bs, ok.bsz, ok.noex, ok.exfs, ok.funs, ok.frf⟩
theorem Cx.Ok.unpnd {X : Cx} {pn : List (Addr × Obj)} (ok : (X.pnd pn).Ok) : X.Ok :=
  ⟨ok.mod, ok.kind, ok.glob, ok.blt, ok.above, ok.inj, ok.has, ok.cab, ok.hd, ok.frames, ok.stk, ok.exf, ok.bs, ok.bsz, ok.noex, ok.exfs, ok.funs, ok.frf⟩
section
variable {X : Cx} {pins : List (Addr × Obj)} {σ : St} {H H' : Hp} {s s' : Shared} {C a : Addr} {B : Heap}
theorem Inv.pnd (I : Inv X pins σ H s) : Inv (X.pnd (X.pn ++ pins)) [] σ H s :=
  ⟨I.ok.pnd _, I.os, I.bare, I.base, I.loc, I.cell, I.free, I.freeC, fun p hp => I.pin p (by simpa using hp), I.hok, I.len⟩
theorem Inv.unpnd (I : Inv (X.pnd (X.pn ++ pins)) [] σ H s) : Inv X pins σ H s :=
  ⟨I.ok.unpnd, I.os, I.bare, I.base, I.loc, I.cell, I.free, I.freeC, fun p hp => I.pin p (by simpa using hp), I.hok, I.len⟩
/-- an exception that came out of a call, tracked by o -/
theorem Inv.flownT (I : Inv X pins σ H s) (F : FlyAt X.prog X.w X.stack H s C H' B a s') {h'' : Heap} {o : HO} (st : B.StaysIn h'') (up : s'.heap.UpToSlots h'') (new : ObjOk X.prog X.w (upd H' a o) h'' a o) : Inv X pins σ (upd H' a o) { s' with heap := h'' } := by
  obtain ⟨a0, _, hBa, ff, oe, vs, T, oT, ts, he, _, hd, _⟩ := id F.fly
  have nfr : a ∉ frs X.stack := fun z => by
    obtain ⟨_, o', e2, nd⟩ := ff.mem z
    rw [he] at e2; cases e2
    exact nd vs hd
  have fresh : s.heap.get? a = none := by
    cases q : s.heap.get? a with
    | none => rfl
    | some u =>
      obtain ⟨o', e⟩ := F.there a u q nfr
      rw [hBa] at e; cases e
  have ne : ∀ b u, s.heap.get? b = some u → b ≠ a := fun b u e z => by rw [z, fresh] at e; cases e
  have neH : ∀ b u, H b = some u → b ≠ a := fun b u e => by
    obtain ⟨ob, e'⟩ := (I.hok b u e).got
    exact ne b ob e'
  have hna : H' a = none := by
    cases q : H' a with
    | none => rfl
    | some u =>
      obtain ⟨ob, e⟩ := (F.hok a u q).got
      rw [hBa] at e; cases e
  have u0 := F.un I.stkFree st up
  have u1 : Un (frs X.stack) [] H (upd H' a o) s.heap h'' :=
    ⟨u0.keep, u0.slot, fun b ob e n hx => by rw [upd_ne (ne b ob e)]; exact u0.free b ob e n hx, u0.there, fun b xs e => by rw [upd_ne (neH b _ e)]; exact u0.tups b xs e, fun b ob xs e => by rw [upd_ne (neH b _ e)]; exact u0.frzs b ob xs e,
      fun b ps e => by rw [upd_ne (neH b _ e)]; exact u0.tbls b ps e⟩
  have hok : HOk X.prog X.w (upd H' a o) h'' := fun b u e => by
    by_cases hb : b = a
    · subst hb; rw [upd_same] at e; cases e; exact new
    · rw [upd_ne hb] at e
      exact ((F.hok.kept st) b u e).stay (fun c v _ q => q) (fun c q => by rw [upd_ne (ne_of_none q hna)]; exact q) fun c xs q => by rw [upd_ne (ne_of_none q hna)]; exact q
  have J := I.call (h' := h'') (g' := s'.gens) (d' := s'.drawn) (t' := s'.toks) (ch := []) u1 hok F.bare (fun b z => absurd z (by simp))
  obtain ⟨hh, g, d, t, os'⟩ := s'
  obtain rfl : os' = s.os := F.os
  exact J
end
/-- what is wanted of an exception in the body of a try: XQ of the names' values, its class, the heap -/
def XE (X : Cx) (pn : List (Addr × Obj)) (XQ : St → Addr → Hp → Prop) (e : Value) (s' : Shared) : Prop :=
  ∃ (σ' : St) (H' : Hp) (C a : Addr) (B : Heap) (a0 : Value), e = .ref a ∧ Heap.FlyingW B X.stack a (.ref C) a0 s'.heap ∧ H' a = none ∧
    (∀ (h'' : Heap) (o : HO), B.StaysIn h'' → s'.heap.UpToSlots h'' → ObjOk X.prog X.w (upd H' a o) h'' a o → Inv (X.pnd pn) [] σ' (upd H' a o) { s' with heap := h'' }) ∧ XQ σ' C H'
abbrev tryCx (X : Cx) (pn : List (Addr × Obj)) (XQ : St → Addr → Hp → Prop) : Cx := (X.pnd pn).wish (XE X pn XQ)
/-- the suite of a handler -/
abbrev hanCx (X : Cx) (a : Addr) : Cx := { X with A := X.A.mark (some (.ref a)), calm := false, xe := fun _ _ => False }
theorem Inv.han {X : Cx} {pins : List (Addr × Obj)} {σ : St} {H : Hp} {s : Shared} (I : Inv X pins σ H s) (a : Addr) : Inv (hanCx X a) pins σ H s :=
  ⟨⟨I.ok.mod, I.ok.kind, I.ok.glob, I.ok.blt, I.ok.above, I.ok.inj, I.ok.has, I.ok.cab, (fun z => by cases z), I.ok.frames, I.ok.stk, I.ok.exf, I.ok.bs, I.ok.bsz, I.ok.noex, I.ok.exfs, I.ok.funs, I.ok.frf⟩, I.os, I.bare, I.base, I.loc, I.cell, I.free, I.freeC, I.pin, I.hok, I.len⟩
theorem Inv.unhan {X : Cx} {a : Addr} {pins : List (Addr × Obj)} {σ : St} {H : Hp} {s : Shared} (I : Inv (hanCx X a) pins σ H s) (hd : X.calm = true → X.A.handled = none) : Inv X pins σ H s :=
  ⟨⟨I.ok.mod, I.ok.kind, I.ok.glob, I.ok.blt, I.ok.above, I.ok.inj, I.ok.has, I.ok.cab, hd, I.ok.frames, I.ok.stk, I.ok.exf, I.ok.bs, I.ok.bsz, I.ok.noex, I.ok.exfs, I.ok.funs, I.ok.frf⟩, I.os, I.bare, I.base, I.loc, I.cell, I.free, I.freeC, I.pin, I.hok, I.len⟩
theorem SP.unhan {X : Cx} {a : Addr} {pins : List (Addr × Obj)} {D : Ends} {f : Flow} {s' : Shared} (h : SP (hanCx X a) pins D f s') (hd : X.calm = true → X.A.handled = none) : SP X pins D f s' := by
  cases f with
  | next => obtain ⟨σ', H', I, q⟩ := h; exact ⟨σ', H', I.unhan hd, q⟩
  | brk => obtain ⟨σ', H', I, q⟩ := h; exact ⟨σ', H', I.unhan hd, q⟩
  | cont => obtain ⟨σ', H', I, q⟩ := h; exact ⟨σ', H', I.unhan hd, q⟩
  | ret u => obtain ⟨v, σ', H', I, r, q⟩ := h; exact ⟨v, σ', H', I.unhan hd, r, q⟩
theorem SP.unpnd {X : Cx} {pins : List (Addr × Obj)} {D : Ends} {f : Flow} {s' : Shared} (h : SP (X.pnd (X.pn ++ pins)) [] D f s') : SP X pins D f s' := by
  cases f with
  | next => obtain ⟨σ', H', I, q⟩ := h; exact ⟨σ', H', I.unpnd, q⟩
  | brk => obtain ⟨σ', H', I, q⟩ := h; exact ⟨σ', H', I.unpnd, q⟩
  | cont => obtain ⟨σ', H', I, q⟩ := h; exact ⟨σ', H', I.unpnd, q⟩
  | ret u => obtain ⟨v, σ', H', I, r, q⟩ := h; exact ⟨v, σ', H', I.unpnd, r, q⟩
/-- a call in the body of a try: the names' values are as they were -/
def tCallT (sp : Sp) (dvs : List V) (XQ : St → Addr → Hp → Prop) (t : TA) : TE := fun σ H Q => t σ H fun vs H1 => sp (vs ++ dvs) H1 Q fun Cv _ H2 => ∃ C, Cv = .ref C ∧ XQ σ C H2
section
variable {X : Cx} {pn : List (Addr × Obj)} {XQ : St → Addr → Hp → Prop} {k : Nat} {f : Addr} {fd : FuncData} {ps : List Str} {sp : Sp} {dvs : List V} {ds : List Value} {x : Str} {p pos : Pos} {e : Expr} {es : List Expr} {t : TA}
theorem run_fnT {pins : List (Addr × Obj)} {σ : St} {H : Hp} {s : Shared} {Q : VK} {us : List Value} {vs : List V} (F : FnOk X.prog X.w X.K X.mg X.base (CX1 X.prog X.w) k f fd ps sp) (hr : Room k X.A) (hb : Binds X.K fd ps ds) (hd : Vals dvs ds)
    (I : Inv (tryCx X pn XQ) pins σ H s) (r : Vals vs us) (h : sp (vs ++ dvs) H Q fun Cv _ H2 => ∃ C, Cv = .ref C ∧ XQ σ C H2) : wpAny (model X.prog X.w) X.A (call (.ref f) us) (EP (tryCx X pn XQ) pins σ Q) (tryCx X pn XQ).xe s := by
  have r2 : Vals (vs ++ dvs) (us ++ ds) := r.append hd
  have hl : (us ++ ds).length = ps.length := by rw [← r2.length]; exact F.len _ _ _ _ h
  refine wpAny_call (codeAny_mono (F.run X.A X.stack s H ⟨us, []⟩ (us ++ ds) (vs ++ dvs) Q _ hr I.env0 (hb s us I.kIn hl) r2 h) fun r s' hq => ?_)
  cases r with
  | error e =>
    obtain ⟨C, H', B, a, rfl, FA, C', ec, q⟩ := hq
    cases ec
    obtain ⟨a0, fl⟩ := id FA.fly
    have hna : H' a = none := by
      cases q : H' a with
      | none => rfl
      | some u =>
        obtain ⟨ob, e⟩ := (FA.hok a u q).got
        rw [fl.2.1] at e; cases e
    exact ⟨σ, H', C, a, B, a0, rfl, fl, hna, fun h'' o st up new => ((I.flownT FA st up new).pins_of (pins' := []) fun p hp => absurd hp (by simp)).unwish, q⟩
  | ok fl =>
    cases fl with
    | ret u => exact I.after hq
    | next => exact False.elim hq
    | brk => exact False.elim hq
    | cont => exact False.elim hq
theorem pe_callT (F : FnOk X.prog X.w X.K X.mg X.base (CX1 X.prog X.w) k f fd ps sp) (hr : Room k X.A) (hg : Gl X x) (hm : X.mg x = some (.ref f)) (hk : PySem.W.keepIn X.K (.ref f) = true) (hb : Binds X.K fd ps ds) (hd : Vals dvs ds)
    (ha : PA (tryCx X pn XQ) (e :: es) t) (hdb : (x == ("__debug__" : Str)) = false := by decide) (he : starEach (e :: es) X.env = (false, eval e X.env) :: starEach es X.env := by rfl) (hpl : (backTo pos (starEach es X.env)).any (·.1) = false := by rfl) :
    PE (tryCx X pn XQ) (.Call (.Name x p) (e :: es) [] pos) (tCallT sp dvs XQ t) := by
  intro pins s σ H Q I h
  refine wpAny_Call_Name_kw (ld_glob I hg hm ?_ hdb)
  refine PySem.W.callWith_K (h₀ := X.base) I.ok.mod.kin hk (thn (ha pos pins s σ H _ I h) fun us s1 ⟨vs, H1, I1, r, q⟩ => ⟨I1.kIn, ?_⟩) he hpl
  exact run_fnT F hr hb hd I1 r q
theorem pe_fnT (F : FnAt1 X.prog X.w X.K X.mg X.base k x ps sp) (hr : Room k X.A) (hg : Gl X x) (ha : PA (tryCx X pn XQ) (e :: es) t)
    (hdb : (x == ("__debug__" : Str)) = false := by decide) (he : starEach (e :: es) X.env = (false, eval e X.env) :: starEach es X.env := by rfl) (hpl : (backTo pos (starEach es X.env)).any (·.1) = false := by rfl) :
    PE (tryCx X pn XQ) (.Call (.Name x p) (e :: es) [] pos) (tCallT sp [] XQ t) := by
  obtain ⟨f, fd, F, b, kp, m, _⟩ := F
  exact pe_callT F hr hg m kp b .nil ha (hdb := hdb) (he := he) (hpl := hpl)
end
/-! ### try: .. except C: .. -/
def tTry (K : PySem.W.Frag) (W : Addr) (tb : (St → Addr → Hp → Prop) → TS) (th : TS) : TS := fun D σ H => ∃ XQ : St → Addr → Hp → Prop,
  (∀ σ' C H' a, XQ σ' C H' → H' a = none → PySem.W.exmOne K (.ref C) (.ref W) = some true ∧ th D σ' (upd H' a (excO a C))) ∧ tb XQ D σ H
theorem excO_ok {P : Program} {w : World} {H : Hp} {h : Heap} {a C : Addr} {o : Obj} {vs : Array Value} (e : h.get? a = some o) (c : o.cls = .ref C) (d : o.data = .fields vs) : ObjOk P w H h a (excO a C) :=
  ⟨⟨o, vs, e, c, d⟩, ⟨o, e⟩, fun h1 h2 ⟨o1, v1, e1, r⟩ k => ⟨o1, v1, k o1 e1, r⟩⟩
section
variable {X : Cx} {x : Str} {W : Addr} {body suite : List Stmt} {b₀ : Stmt} {np hp pos : Pos} {tb : (St → Addr → Hp → Prop) → TS} {th : TS}
theorem ps_try (hc : X.calm = true) (hst : X.stack = X.env :: X.outer) (hfr : X.env.frame = some X.env.locals) (hg : Gl X x) (hm : X.mg x = some (.ref W)) (hb : ∀ pn XQ, PSs (tryCx X pn XQ) body (tb XQ)) (hh : ∀ a, PSs (hanCx X a) (b₀ :: suite) th)
    (hd : (x == ("__debug__" : Str)) = false := by decide) : PS X (.Try body [.ExceptHandler (some (.Name x np)) none (b₀ :: suite) hp] [] [] pos) (tTry X.K W tb th) := by
  intro pins s σ H D I h
  obtain ⟨XQ, hX, hbody⟩ := h
  have hcalm := I.ok.hd
  refine wpAny_Try_except (wpAny_mono (hb (X.pn ++ pins) XQ [] s σ H D (I.pnd.wish _) hbody) (fun f s₁ q => ?_) fun e s₁ q => ?_)
  · have q1 := SP.unpnd (SP.unwish q)
    cases f with
    | next => exact wpAny_execs_nil q1
    | brk => exact q1
    | cont => exact q1
    | ret u => exact q1
  · obtain ⟨σ', H', C, a, B, a0, rfl, fl, hna, inv, xq⟩ := q
    obtain ⟨hex, hth⟩ := hX σ' C H' a xq hna
    rw [hst] at fl
    have hfrs : X.A.frames = some (X.env :: X.outer) := by rw [← hst]; exact I.ok.frames
    refine wpAny_looks_onW hfrs hfr fl fun h₄ hheld₄ hsm₄ => ?_
    refine wpAny_landsW hheld₄ fun h₅ hfl₅ hsm₅ => ?_
    have ok5 : ∀ {h : Heap} {l : List Env}, Heap.FlyingW B l a (.ref C) a0 h → ObjOk X.prog X.w (upd H' a (excO a C)) h a (excO a C) := fun {h l} z => by
      obtain ⟨_, _, _, oe, vs, _, _, _, he, hcl, hdt, _⟩ := z
      exact excO_ok he hcl.1 hdt
    have J5 := inv h₅ (excO a C) hfl₅.1 (hsm₄.trans hsm₅) (ok5 hfl₅)
    have I5 := J5.unpnd.han a
    refine wpAny_handleBy_cons (codeAny_handlers_test ?_) (by intro q; cases q)
    refine ld_glob (X := hanCx X a) I5 hg hm ?_ hd
    have LT : PySem.W.Looks (model X.prog X.w) h₅ (typeOf (.ref a)) (.ref C) := by
      obtain ⟨ob, hob, hobc⟩ := hfl₅.there
      exact hobc ▸ (PySem.W.Looks.ld hob).andThen .now
    refine PySem.W.exm_one (show X.K.In h₅ from I5.kIn) LT hex _ _ _ _ (fun _ _ e => e) ?_
    refine codeAny_handlers_suite (lands_againW hfl₅ fun h₆ hfl₆ hsm₆ => ?_)
    have J6 := inv h₆ (excO a C) hfl₆.1 ((hsm₄.trans hsm₅).trans hsm₆) (ok5 hfl₆)
    exact wpAny_mono (hh a pins _ σ' _ D (J6.unpnd.han a) hth) (fun f s₂ q => SP.unhan q hcalm) (fun _ _ z => z.elim)
end
end L2

namespace L2
open PySem PySem.Spec PyProof.Rows
/-! ### [e for x in ..] -/
theorem compLoop_own {prog : Program} {w : World} {A : Around} {R : Result → Shared → Prop} {s : Shared} {elt target iter : Expr} {scope : Scope} {pos : Pos} {it acc : Value} {env : Env} (J : Nat → Shared → Prop)
    (turn : ∀ n s, J n s → wpAny (model prog w) A (pyNext it) (fun r s₁ => match r with
      | none => R (.ok .next) s₁
      | some v => wpAny (model prog w) A (letOwnedTupleGo target it v) (fun _ s₂ => wpAny (model prog w) A (assign target env v) (fun _ s₃ => wpAny (model prog w) A (eval elt env) (fun x s₄ =>
          wpAny (model prog w) A (call (.builtin "list.append") [acc, x]) (fun _ s₅ => ∃ m, m < n ∧ J m s₅) (fun _ _ => False) s₄)
          (fun _ _ => False) s₃) (fun _ _ => False) s₂) (fun _ _ => False) s₁) (fun _ _ => False) s) (n : Nat) (h : J n s) :
    codeAny (model prog w) A (.compLoop (.ListComp elt [⟨target, iter, [], 0⟩] scope pos) 0 it acc env) R s := by
  refine codeAny_loop rfl J (fun n s hI => ?_) n h
  show wpAny _ _ ((compTurn (.ListComp elt [⟨target, iter, [], 0⟩] scope pos) 0 it acc env).onRaise (fun x => do noteFrame x env; theTreesLotGoes x)) _ _ s
  refine wpAny_noted ?_
  rw [compTurn_list1]
  refine wpAny_bind (wpAny_standAt (wpAny_bind (wpAny_mono (turn n s hI) (fun r s₁ h₁ => ?_) fun _ _ z => z.elim)))
  cases r with
  | none => exact wpAny_pure h₁
  | some v =>
    refine wpAny_bind (wpAny_mono h₁ (fun _ s₂ h₂ => ?_) fun _ _ z => z.elim)
    refine wpAny_bind (wpAny_mono h₂ (fun _ s₃ h₃ => ?_) fun _ _ z => z.elim)
    refine wpAny_bind (wpAny_bind (wpAny_mono h₃ (fun x s₄ h₄ => ?_) fun _ _ z => z.elim))
    exact wpAny_bind (wpAny_mono h₄ (fun _ s₅ h₅ => wpAny_pure (wpAny_pure ⟨rfl, h₅⟩)) fun _ _ z => z.elim)
/-- the block's context -/
def compCx (X : Cx) (scope : Scope) (cl : List (Str × Addr)) (bn : List Str) (s₀ : Shared) (H₀ : Hp) (ex : List Addr) : Cx where
  prog := X.prog
  w := X.w
  K := X.K
  mg := X.mg
  base := X.base
  A := X.A
  N := bn
  s₀ := s₀
  H₀ := H₀
  env := compEnvC scope cl s₀.heap.objs.size X.env
  outer := X.stack
  stack := X.stack
  ex := ex
  fn := fun _ => false
  calm := X.calm
  pn := []
  xe := fun _ _ => False
/-- how the block's names stand to those of the def: x its own, fr the captured ones, at the places js -/
structure CompScope (X : Cx) (scope : Scope) (cl : List (Str × Addr)) (x : Str) (fr : List Str) (js : List Nat) : Prop where
  clos : closureFor scope X.env = pure cl
  cls : ∀ p ∈ cl, X.env.cells.lookup p.1 = some p.2
  nocell : ∀ y ∈ scope.names, y.2 ≠ .cell
  kind : scope.kind = .function
  names : ∀ y ∈ scope.names, y.2 = .local → scope.names.lookup y.1 = some .local
  xl : scope.names.lookup x = some .local
  free : ∀ y ∈ scope.names, y.2 = .free → ∃ c, cl.lookup y.1 = some c
  cap : ∀ (k : Nat) (y : Str), fr[k]? = some y → ∃ j, js[k]? = some j ∧ X.N[j]? = some y ∧ X.env.scope.names.lookup y = some .cell ∧ scope.names.lookup y = some .free ∧ y ≠ x
  len : fr.length = js.length
  nd : (x :: fr).Nodup
def tComp (wi : TI) (js : List Nat) (te : TE) : TE := fun σ H Q => wi σ H fun J H1 => ∀ D, H1 D = none → ∃ (n : Nat) (Pv : Nat → Hp → Prop), Pv 0 (upd H1 D (.lst [])) ∧
  ∀ i H2, Pv i H2 → (J.stop i H2 ∧ Q (.ref D) H2) ∨ (i < n ∧ J.go i H2 ∧ ∀ v H3, J.yld i H2 v H3 → te (some v :: js.map fun k => (σ[k]?).join) H3 fun y H4 => ∃ ys, H4 D = some (.lst ys) ∧ ys.length < sizeLine ∧ Pv (i + 1) (upd H4 D (.lst (ys ++ [y]))))
theorem relabel_free {env : Env} : ∀ {names : List (Str × NameKind)} {y : Str} {k : NameKind}, (names.map fun (n, k) => if (k == NameKind.free && env.scope.kind == .function && env.kindOf n == some .cell) then (n, NameKind.cell) else (n, k)).lookup y = some k →
    names.lookup y = some k ∨ (k = .cell ∧ names.lookup y = some .free)
  | [], y, k, h => by simp at h
  | (n, k') :: r, y, k, h => by
    have ih := @relabel_free env r y k
    have h : List.lookup y ((if (k' == NameKind.free && env.scope.kind == .function && env.kindOf n == some .cell) = true then (n, NameKind.cell) else (n, k')) :: _) = some k := h
    by_cases hc : (k' == NameKind.free && env.scope.kind == .function && env.kindOf n == some .cell) = true
    · rw [if_pos hc] at h
      cases hy : y == n with
      | true =>
        simp only [List.lookup_cons, hy] at h ⊢
        cases h
        have : k' = .free := by
          have := (Bool.and_eq_true_iff.mp (Bool.and_eq_true_iff.mp hc).1).1
          simpa using this
        exact .inr ⟨rfl, by rw [this]⟩
      | false =>
        simp only [List.lookup_cons, hy] at h ⊢
        exact ih h
    · rw [if_neg hc] at h
      cases hy : y == n with
      | true => simp only [List.lookup_cons, hy] at h ⊢; exact .inl h
      | false => simp only [List.lookup_cons, hy] at h ⊢; exact ih h
section
variable {X : Cx}
theorem comp_inv {scope : Scope} {cl : List (Str × Addr)} {x : Str} {fr : List Str} {js : List Nat} (S : CompScope X scope cl x fr js) {pins : List (Addr × Obj)} {σ : St} {H : Hp} {s : Shared} {fp : List Addr} {h' : Heap} {t' : Nat}
    (I : Inv X pins σ H s) (hf : ∀ b ∈ fp, FpOk X pins H b) (hlt : ∀ b ∈ fp, b < s.heap.objs.size) (hns : ∃ m, h'.Ns s.heap.objs.size m) (hk : ∀ b o, s.heap.get? b = some o → h'.get? b = some o) :
    Inv (compCx X scope cl (x :: fr) s H fp) [] (none :: js.map fun k => (σ[k]?).join) H { s with heap := h', toks := t' } := by
  have clX : ∀ y c, cl.lookup y = some c → X.env.cells.lookup y = some c := fun y c e => S.cls (y, c) (PySem.mem_of_lookup e)
  have kfree : ∀ y k, (relabel scope X.env).names.lookup y = some k → (k = .cell ∨ k = .free) → ∃ c, cl.lookup y = some c := fun y k e hk => by
    rcases relabel_free e with e1 | ⟨_, e1⟩
    · rcases hk with rfl | rfl
      · exact absurd rfl (S.nocell _ (PySem.mem_of_lookup e1))
      · exact S.free _ (PySem.mem_of_lookup e1) rfl
    · exact S.free _ (PySem.mem_of_lookup e1) rfl
  obtain ⟨m, hn⟩ := hns
  have ok : (compCx X scope cl (x :: fr) s H fp).Ok := by
    refine ⟨I.ok.mod, S.kind, I.ok.glob, I.ok.blt, Nat.le_refl _, fun y z c h1 h2 => I.ok.inj y z c (clX y c h1) (clX z c h2), fun y hy => ?_, (fun y c h => by cases h), I.ok.hd, I.ok.frames, .inl rfl, fun b hb => ⟨Nat.ne_of_lt (hlt b hb), fun y c e => (hf b hb).2.2.2.2.1 y c (clX y c e)⟩, I.bs, Nat.le_trans I.ok.bsz I.sz, fun b o e hb => ?_, fun b hb hz => ?_, I.stack, I.stkFree⟩
    · rcases hy with hy | hy
      · exact kfree y _ hy (.inl rfl)
      · exact kfree y _ hy (.inr rfl)
    · rcases (hf b hb).2.2.2.1 with z | z
      · exact I.ok.noex b o e z
      · exact absurd (Nat.lt_of_lt_of_le (Heap.lt_size e) I.ok.bsz) (Nat.not_lt.mpr z)
    · rcases List.mem_cons.mp (I.stkSub b hz) with z | z
      · exact (hf b hb).2.1 z
      · exact (hf b hb).2.2.1 z
  refine ⟨ok, rfl, I.bare, Un.kept hk, ⟨m, hn, fun i y v e1 e2 e3 => ?_⟩, fun y c e => ?_, I.hok.fresh (Nat.le_refl _), fun y c e => I.freeC y c (clX y c e), fun p hp => absurd (show p ∈ ([] : List (Addr × Obj)) from hp) (by simp), I.hok.kept hk, by show (none :: js.map _).length = (x :: fr).length; simp [S.len]⟩
  · cases i with
    | zero =>
      have e2' : some (none : Option V) = some (some v) := e2
      cases e2'
    | succ k =>
      have e1' : fr[k]? = some y := e1
      obtain ⟨j, hj, hN, hc, hfree, _⟩ := S.cap k y e1'
      have e2' : (js.map fun k => (σ[k]?).join)[k]? = some (some v) := e2
      rw [List.getElem?_map, hj] at e2'
      have e4 : (σ[j]?).join = some v := Option.some.inj e2'
      have e5 : σ[j]? = some (some v) := by
        cases q : σ[j]? with
        | none => rw [q] at e4; cases e4
        | some z => rw [q] at e4; exact congrArg some e4
      obtain ⟨m', hn', hl⟩ := I.loc
      obtain ⟨u, r, l⟩ := hl j y v hN e5 (.inr (.inl hc))
      refine ⟨u, r, ?_⟩
      obtain ⟨c, hcl⟩ := S.free _ (PySem.mem_of_lookup hfree) rfl
      rcases l with ⟨k1, _⟩ | ⟨_, c', e6, o, ho, hd⟩
      · have k2 : some NameKind.cell = some NameKind.local := hc.symm.trans k1
        cases k2
      · have := clX y c hcl
        rw [e6] at this
        cases this
        refine .inr ⟨?_, _, hcl, o, hk _ _ ho, hd⟩
        have e3' : Vis (relabel scope X.env) y := e3
        rcases e3' with z | z | z
        · rcases relabel_free z with z1 | ⟨z1, _⟩
          · rw [hfree] at z1; cases z1
          · cases z1
        · exact .inl z
        · exact .inr z
  · obtain ⟨v, o, ho, hd⟩ := I.cell y c (clX y c e)
    exact ⟨v, o, hk _ _ ho, hd⟩
theorem pe_comp {elt iter : Expr} {x : Str} {px pos : Pos} {scope : Scope} {cl : List (Str × Addr)} {fr : List Str} {js : List Nat} {wi : TI} {te : TE} (hc : X.calm = true) (S : CompScope X scope cl x fr js) (hi : PI X (.Name x px) iter wi)
    (he : ∀ s₀ H₀ ex, PE (compCx X scope cl (x :: fr) s₀ H₀ ex) elt te) (hs : ∀ x, foldedSetIterable iter X.env x = pure x := by intro _; rfl) :
    PE X (.ListComp elt [⟨.Name x px, iter, [], 0⟩] scope pos) (tComp wi js te) := by
  intro pins s σ H Q I h
  rw [eval_ListComp]
  refine wpAny_comprehension_free (use := none) rfl hs S.clos S.kind S.names (thn (hi pins s σ H _ I h) fun v s1 h1 => thn h1 fun itv s2 h2 => ?_)
  obtain ⟨it, fp, tn, J, H2, rfl, I2, T, st2, f2, R⟩ := h2
  have hlt : ∀ b ∈ fp, b < s2.heap.objs.size := fun b hb => by
    obtain ⟨o, e, _⟩ := T.obj 0 _ st2 b hb
    exact Heap.lt_size e
  refine wpAny_newObj_type ?_
  have fD : H2 s2.heap.objs.size = none := I2.hok.fresh (Nat.le_refl _)
  have I3 : Inv X pins σ (upd H2 s2.heap.objs.size (.lst [])) { s2 with heap := s2.heap.push { cls := .type "list", data := .seq ([] : List Value).toArray } } :=
    I2.laid (t' := s2.toks) (fun b u e => Heap.get?_push_of_some _ e) (Nat.le_refl _) ⟨by decide, [], 0, .nil, Heap.get?_push_size _ rfl⟩
  obtain ⟨n, Pv, p0, turn⟩ := R _ fD
  generalize hs3 : ({ s2 with heap := s2.heap.push { cls := .type "list", data := .seq ([] : List Value).toArray } } : Shared) = s3 at I3
  have kp23 : ∀ b o, s2.heap.get? b = some o → s3.heap.get? b = some o := fun b o e => by rw [← hs3]; exact Heap.get?_push_of_some _ e
  have hlt3 : ∀ b ∈ fp, b < s3.heap.objs.size := fun b hb => by
    obtain ⟨o, e, _⟩ := T.obj 0 _ st2 b hb
    exact Heap.lt_size (kp23 b o e)
  have hf3 : ∀ b ∈ fp, FpOk X pins (upd H2 s2.heap.objs.size (.lst [])) b := fun b hb => ⟨by rw [upd_ne (Nat.ne_of_lt (hlt b hb))]; exact (f2 b hb).1, (f2 b hb).2⟩
  refine wpAny_newFunctionEnv S.nocell (by intro y hy; simp at hy) (fun h₁ hns₁ hsb₁ => ?_) S.kind
  have keeps : ∀ b o, s3.heap.get? b = some o → h₁.get? b = some o := fun b o e => hsb₁.extBut b o (Nat.ne_of_lt (Heap.lt_size e)) (Heap.get?_push_of_some _ e)
  have IY := comp_inv S (t' := s3.toks + ([] : List (Str × Value)).length) I3 hf3 hlt3 ⟨_, hns₁⟩ keeps
  have st4 : tn 0 h₁ := T.keep 0 _ _ st2 fun b hb o e => keeps b o (kp23 b o e)
  have stat : ∀ {H' : Hp}, (∀ b ∈ fp, H' b = none) → ∀ b ∈ fp, FpOk (compCx X scope cl (x :: fr) s3 (upd H2 s2.heap.objs.size (.lst [])) fp) [] H' b := fun {H'} hn b hb =>
    ⟨hn b hb, Nat.ne_of_lt (hlt3 b hb), IY.ok.exfs b hb, .inl hb, fun y c e => (IY.ok.exf b hb).2 y c e, fun p hp => absurd (show p ∈ ([] : List (Addr × Obj)) from hp) (by simp)⟩
  have nd : (compCx X scope cl (x :: fr) s3 (upd H2 s2.heap.objs.size (.lst [])) fp).N.Nodup := S.nd
  have hxl : (compCx X scope cl (x :: fr) s3 (upd H2 s2.heap.objs.size (.lst [])) fp).env.scope.names.lookup x = some .local := lookup_relabel_local S.xl
  have fin : ∀ {v0 : Option V} {H' : Hp} {s1 : Shared}, Inv (compCx X scope cl (x :: fr) s3 (upd H2 s2.heap.objs.size (.lst [])) fp) [] (v0 :: js.map fun k => (σ[k]?).join) H' s1 → Q (.ref s2.heap.objs.size) H' →
      ∃ m, s1.heap.Ns s3.heap.objs.size m ∧ ∀ h', Heap.SameBut s3.heap.objs.size s1.heap h' → EP X pins σ Q (.ref s2.heap.objs.size) { s1 with heap := h' } := fun {v0 H' s1} I1 q => by
    obtain ⟨m, hm, _⟩ := id I1.loc
    refine ⟨m, hm, fun h' hs => ?_⟩
    have ne : ∀ b o, s3.heap.get? b = some o → b ≠ s3.heap.objs.size := fun b o e => Nat.ne_of_lt (Heap.lt_size e)
    have u := I1.base
    have u1 : Un (frs X.stack) fp (upd H2 s2.heap.objs.size (.lst [])) H' s3.heap h' :=
      ⟨fun b o e nn hb hx => (hs.2 b (ne b o e)).trans (u.keep b o e nn hb hx), fun b o e nn hb hx => by
        obtain ⟨sl, e1⟩ := u.slot b o e nn hb hx
        exact ⟨sl, (hs.2 b (ne b o e)).trans e1⟩, u.free, fun b o e hx => by
        obtain ⟨o', e1⟩ := u.there b o e hx
        exact ⟨o', (hs.2 b (ne b o e)).trans e1⟩, u.tups, u.frzs, u.tbls⟩
    have hokk : HOk X.prog X.w H' h' := fun b ob e => by
      have fc : H' s3.heap.objs.size = none := I1.free
      refine (I1.hok b ob e).stay (fun c w' hcc qq => (hs.2 c ?_).trans qq) (fun _ qq => qq) fun _ _ qq => qq
      rintro rfl
      rcases hcc with rfl | hcc
      · rw [fc] at e; cases e
      · rw [fc] at hcc; cases hcc
    have J1 := I3.call (h' := h') (g' := s1.gens) (d' := s1.drawn) (t' := s1.toks) (ch := fp) u1 hokk I1.bare fun b hb => ⟨(hf3 b hb).2.2.2.1, (hf3 b hb).2.1, (hf3 b hb).2.2.2.2.1, (hf3 b hb).2.2.2.2.2⟩
    have eo : s1.os = s3.os := I1.os
    obtain ⟨hh, g, d, t, os'⟩ := s1
    obtain rfl : os' = s3.os := eo
    exact ⟨.ref s2.heap.objs.size, H', J1, rfl, q⟩
  have loop : ∀ s4 : Shared, s4 = { s3 with heap := h₁, toks := s3.toks + ([] : List (Str × Value)).length } →
      codeAny (model X.prog X.w) X.A (.compLoop (.ListComp elt [⟨.Name x px, iter, [], 0⟩] scope pos) 0 (.ref it) (.ref s2.heap.objs.size) (compEnvC scope cl s3.heap.objs.size X.env))
        (compPost (model X.prog X.w) X.A X.xe none (EP X pins σ Q) (.ref s2.heap.objs.size) s3.heap.objs.size) s4 := by
    rintro s4 rfl
    refine compLoop_own (fun k s' => ∃ (i : Nat) (v0 : Option V) (H' : Hp), Inv (compCx X scope cl (x :: fr) s3 (upd H2 s2.heap.objs.size (.lst [])) fp) [] (v0 :: js.map fun k => (σ[k]?).join) H' s' ∧ tn i s'.heap ∧ (∀ b ∈ fp, H' b = none) ∧ Pv i H' ∧ k = n - i) ?_ n
      ⟨0, none, _, IY, st4, fun b hb => (hf3 b hb).1, p0, rfl⟩
    rintro k s' ⟨i, v0, H', I', st', fr', pv, rfl⟩
    rcases turn i H' pv with ⟨stop, q⟩ | ⟨hin, go, step⟩
    · refine thn (T.done (compCx X scope cl (x :: fr) s3 (upd H2 s2.heap.objs.size (.lst [])) fp) rfl rfl rfl hc i [] s' _ H' _ I' (stat fr') st' stop) fun r s1 ⟨hr, I1⟩ => ?_
      subst hr
      exact fin I1 q
    · refine thn (T.item (compCx X scope cl (x :: fr) s3 (upd H2 s2.heap.objs.size (.lst [])) fp) rfl rfl rfl hc i [] s' _ H' _ I' (stat fr') st' go) fun r s1 ⟨u, hr, h4⟩ => ?_
      subst hr
      refine thn h4 fun _ s5 ⟨xv, H5, I5, r5, y5, st5, fr5⟩ => ?_
      have I5' := I5.pinned (stat fr5) (T.obj _ _ st5)
      refine thn (pg_name (X := compCx X scope cl (x :: fr) s3 (upd H2 s2.heap.objs.size (.lst [])) fp) (i := 0) nd rfl (Or.inl hxl) (.inr hxl) _ s5 _ H5 xv u (fun σ6 H6 => σ6 = (some xv :: js.map fun k => (σ[k]?).join) ∧ H6 = H5) I5' r5 ⟨rfl, rfl⟩) fun _ s6 ⟨σ6, H6, I6, e6, e6'⟩ => ?_
      subst e6 e6'
      refine thn (he s3 _ fp _ s6 _ _ _ I6 (step xv _ y5)) fun y s7 ⟨yv, H7, I7, r7, ys, hD, hz, pv'⟩ => ?_
      refine thn (mt_append (X := compCx X scope cl (x :: fr) s3 (upd H2 s2.heap.objs.size (.lst [])) fp) _ s7 _ H7 (.ref s2.heap.objs.size) [yv] (.ref s2.heap.objs.size) [y] (fun _ H8 => H8 = upd H7 s2.heap.objs.size (.lst (ys ++ [yv]))) I7 rfl (.cons r7 .nil)
        ⟨s2.heap.objs.size, ys, yv, rfl, rfl, hD, hz, rfl⟩) fun _ s8 ⟨_, H8, I8, _, e8⟩ => ?_
      subst e8
      refine ⟨n - (i + 1), by omega, i + 1, some xv, _, I8.unpinned, T.keep _ _ _ st5 fun b hb o e => (I8.pin (b, o) (List.mem_append_right _ (List.mem_append_right _ (mem_pinsAt hb e)))).1, fun b hb => ?_, pv', rfl⟩
      obtain ⟨o, e, d⟩ := T.obj _ _ st5 b hb
      exact (I8.pin (b, o) (List.mem_append_right _ (List.mem_append_right _ (mem_pinsAt hb e)))).2.1

  exact codeAny_compStart_list (loop _ rfl) (T.self _ 0 _ _ _ st4 (loop _ rfl))
end
end L2

namespace L2
open PySem PySem.Spec PyProof.Rows
/-- // by a positive divisor that is not huge -/
theorem op_fdivL {X : Cx} : OpR X (binaryOp .FloorDiv) (rI (fun _ j => 0 < j ∧ j < 2 ^ 200) fun i j => .int (i / j)) := opI fun i j _ _ _ _ _ hc q => by
  have h1 : (0 : Int) < j := hc.1
  have h2 : j < 2 ^ 200 := hc.2
  refine floordiv_int (by omega) (by rw [Int.fdiv_eq_ediv_of_nonneg i (by omega)]; exact q) (.inl (PyProof.noPylong_of_log2 ?_))
  have h3 : j.natAbs < 2 ^ 200 := by omega
  have h4 := (Nat.log2_lt (by omega)).mpr h3
  omega
/-! ### all, any, sum of a list -/
theorem all_range (bs : List Bool) : (List.range bs.length).all (fun i => bs.getD i true) = bs.all id := by
  rw [Bool.eq_iff_iff, List.all_eq_true, List.all_eq_true]
  constructor
  · intro h b hb
    obtain ⟨i, hi, rfl⟩ := List.mem_iff_getElem.mp hb
    have := h i (List.mem_range.mpr hi)
    rw [List.getD_eq_getElem?_getD, List.getElem?_eq_getElem hi] at this
    exact this
  · intro h i hi
    have hi' := List.mem_range.mp hi
    rw [List.getD_eq_getElem?_getD, List.getElem?_eq_getElem hi']
    exact h _ (List.getElem_mem hi')
theorem any_range (bs : List Bool) : (List.range bs.length).any (fun i => bs.getD i true) = bs.any id := by
  rw [Bool.eq_iff_iff, List.any_eq_true, List.any_eq_true]
  constructor
  · rintro ⟨i, hi, h⟩
    have hi' := List.mem_range.mp hi
    rw [List.getD_eq_getElem?_getD, List.getElem?_eq_getElem hi'] at h
    exact ⟨_, List.getElem_mem hi', h⟩
  · rintro ⟨b, hb, h⟩
    obtain ⟨i, hi, rfl⟩ := List.mem_iff_getElem.mp hb
    refine ⟨i, List.mem_range.mpr hi, ?_⟩
    rw [List.getD_eq_getElem?_getD, List.getElem?_eq_getElem hi]
    exact h
theorem preSum_sum : ∀ (ns : List Int) (k : Nat), k ≤ ns.length → preSum (fun i => ns.getD i 0) k = (ns.take k).sum
  | ns, 0, _ => by simp [preSum]
  | ns, k + 1, h => by
    have ih := preSum_sum ns k (by omega)
    show preSum _ k + ns.getD k 0 = _
    rw [ih, List.take_add_one, List.sum_append, List.getD_eq_getElem?_getD, List.getElem?_eq_getElem (by omega)]
    simp
section
variable {X : Cx}
theorem bools_at {its : List Value} {bs : List Bool} (r : Vals (bs.map V.bl) its) {i : Nat} {v : Value} (e : its.toArray[i]? = some v) : v = .bool (bs.getD i true) := by
  have hl := r.length
  rw [List.length_map] at hl
  have hi : i < its.length := by
    have := (Array.getElem?_eq_some_iff.mp e).1
    simpa using this
  obtain ⟨u, e1, e2⟩ := r.get (i := i) (x := V.bl bs[i]) (by rw [List.getElem?_map, List.getElem?_eq_getElem (by omega)]; rfl)
  have e3 : its[i]? = some v := by simpa using e
  rw [e1] at e3
  cases e3
  rw [List.getD_eq_getElem?_getD, List.getElem?_eq_getElem (by omega)]
  exact e2
theorem ints_at {its : List Value} {ns : List Int} (r : Vals (ns.map V.int) its) {i : Nat} {v : Value} (e : its.toArray[i]? = some v) : ∃ t, v = .int (ns.getD i 0) t := by
  have hl := r.length
  rw [List.length_map] at hl
  have hi : i < its.length := by
    have := (Array.getElem?_eq_some_iff.mp e).1
    simpa using this
  obtain ⟨u, e1, e2⟩ := r.get (i := i) (x := V.int ns[i]) (by rw [List.getElem?_map, List.getElem?_eq_getElem (by omega)]; rfl)
  have e3 : its[i]? = some v := by simpa using e
  rw [e1] at e3
  cases e3
  rw [List.getD_eq_getElem?_getD, List.getElem?_eq_getElem (by omega)]
  exact e2
theorem call_allL (hc : X.calm = true) : CallR X (.builtin "all") (fun xs H Q => ∃ (p : Addr) (bs : List Bool), xs = [.ref p] ∧ SqL X.K H p (bs.map V.bl) ∧ Q (.bl (bs.all id)) H) := by
  intro pins s σ H xs us Q I r h
  obtain ⟨p, bs, rfl, hS, q⟩ := h
  obtain ⟨u, rfl, e⟩ := vals1 r
  cases e
  obtain ⟨its, rv, p1, hz⟩ := I.list hS
  have hlt : p < s.heap.objs.size := by obtain ⟨o, n, e, _⟩ := id p1; exact Heap.lt_size e
  have hl := rv.length
  rw [List.length_map] at hl
  refine call_all_walk (wpAny_pyIter_list p1.isList ?_)
  refine ⟨_, [_, p], [_], _, _, _, fun i => bs.getD i true, rfl, Walks.list (A := X.A.in1) (I.ok.hd hc) _ p (Nat.ne_of_lt hlt) its.toArray, ⟨⟨_, Heap.get?_push_size _ rfl, rfl, rfl⟩, p1.isList.push _⟩, fun i v s' Q' E' e q' => ?_, fun h' tk hk => ?_⟩
  · rw [bools_at rv e]; exact wpAny_truthy_bool q'
  · have e1 : (List.range its.toArray.size).all (fun i => bs.getD i true) = bs.all id := by rw [List.size_toArray, ← hl]; exact all_range bs
    rw [e1]
    exact ⟨.bl _, H, I.kept fun b u e => hk b u (by simp only [List.mem_singleton]; exact Nat.ne_of_lt (Heap.lt_size e)) (Heap.get?_push_of_some _ e), rfl, q⟩
theorem call_anyL (hc : X.calm = true) : CallR X (.builtin "any") (fun xs H Q => ∃ (p : Addr) (bs : List Bool), xs = [.ref p] ∧ SqL X.K H p (bs.map V.bl) ∧ Q (.bl (bs.any id)) H) := by
  intro pins s σ H xs us Q I r h
  obtain ⟨p, bs, rfl, hS, q⟩ := h
  obtain ⟨u, rfl, e⟩ := vals1 r
  cases e
  obtain ⟨its, rv, p1, hz⟩ := I.list hS
  have hlt : p < s.heap.objs.size := by obtain ⟨o, n, e, _⟩ := id p1; exact Heap.lt_size e
  have hl := rv.length
  rw [List.length_map] at hl
  refine call_any_walk (wpAny_pyIter_list p1.isList ?_)
  refine ⟨_, [_, p], [_], _, _, _, fun i => bs.getD i true, rfl, Walks.list (A := X.A.in1) (I.ok.hd hc) _ p (Nat.ne_of_lt hlt) its.toArray, ⟨⟨_, Heap.get?_push_size _ rfl, rfl, rfl⟩, p1.isList.push _⟩, fun i v s' Q' E' e q' => ?_, fun h' tk hk => ?_⟩
  · rw [bools_at rv e]; exact wpAny_truthy_bool q'
  · have e1 : (List.range its.toArray.size).any (fun i => bs.getD i true) = bs.any id := by rw [List.size_toArray, ← hl]; exact any_range bs
    rw [e1]
    exact ⟨.bl _, H, I.kept fun b u e => hk b u (by simp only [List.mem_singleton]; exact Nat.ne_of_lt (Heap.lt_size e)) (Heap.get?_push_of_some _ e), rfl, q⟩
theorem call_sumL (hc : X.calm = true) : CallR X (.builtin "sum") (fun xs H Q => ∃ (p : Addr) (ns : List Int), xs = [.ref p] ∧ SqL X.K H p (ns.map V.int) ∧ Q (.int ns.sum) H) := by
  intro pins s σ H xs us Q I r h
  obtain ⟨p, ns, rfl, hS, q⟩ := h
  obtain ⟨u, rfl, e⟩ := vals1 r
  cases e
  obtain ⟨its, rv, p1, hz⟩ := I.list hS
  have hlt : p < s.heap.objs.size := by obtain ⟨o, n, e, _⟩ := id p1; exact Heap.lt_size e
  have hl := rv.length
  rw [List.length_map] at hl
  refine call_sum_walkAnyS (wpAny_pyIter_list p1.isList ?_)
  refine ⟨_, [_, p], [_], _, _, _, _, fun i => ns.getD i 0, rfl, (Walks.list (A := X.A.in1) (I.ok.hd hc) _ p (Nat.ne_of_lt hlt) its.toArray).toS, ⟨⟨_, Heap.get?_push_size _ rfl, rfl, rfl⟩, p1.isList.push _⟩, fun b hb => ?_, fun i v e => ints_at rv e, fun s' t' hm => ?_⟩
  · rw [Heap.size_push]
    rcases List.mem_cons.mp hb with rfl | hb
    · exact Nat.lt_succ_self _
    · rcases List.mem_cons.mp hb with rfl | hb
      · exact Nat.lt_succ_of_lt hlt
      · cases hb
  · have e1 : preSum (fun i => ns.getD i 0) its.toArray.size = ns.sum := by rw [List.size_toArray, ← hl, preSum_sum ns _ (Nat.le_refl _), List.take_length]
    rw [e1]
    obtain ⟨hh, g, d, t, os⟩ := s'
    obtain ⟨m1, m2, m3, m4, _⟩ := hm
    have m2 : g = s.gens := m2
    have m3 : d = s.drawn := m3
    have m4 : os = s.os := m4
    subst m2 m3 m4
    exact ⟨.int ns.sum, H, I.kept (h' := hh) (t' := t) fun b u e => m1 b u (by simp only [List.mem_singleton]; exact Nat.ne_of_lt (Heap.lt_size e)) (Heap.get?_push_of_some _ e), ⟨t', rfl⟩, q⟩
/-! ### == and != of two lists of bools -/
end
end L2

namespace L2
open PySem PySem.Spec PyProof.Rows
/-- what holds behind a statement, told on the way -/
def tMid (t : TS) : TS := fun D σ H => ∃ N : St → Hp → Prop, t { D with nx := N } σ H ∧ ∀ σ' H', N σ' H' → D.nx σ' H'
theorem ps_mid {X : Cx} {st : Stmt} {t : TS} (h : PS X st t) : PS X st (tMid t) := by
  intro pins s σ H D I hw
  obtain ⟨N, h1, h2⟩ := hw
  refine wpAny_mono (h pins s σ H _ I h1) (fun f s' q => ?_) (fun _ _ z => z)
  cases f with
  | next => obtain ⟨σ', H', I', q'⟩ := q; exact ⟨σ', H', I', h2 _ _ q'⟩
  | brk => exact q
  | cont => exact q
  | ret u => exact q
end L2

namespace L2
open PySem PySem.Spec PyProof.Rows
/-! ### a def with defaults -/
def DefAtD (K : PySem.W.Frag) (mg : Str → Option Value) (x : Str) (st : Stmt) (dV : Value) : Prop :=
  ∃ (f : Addr) (oc : Value) (od : Option Addr) (kV doc pm : Value) (an : Option Addr) (cdv ct : Value) (osl : Array (Option Value)),
    K.lookup f = some ⟨oc, od, .func (PySem.W.fnOf x x (defArgs st) (defBody st) (defScope st) dV kV doc pm an cdv ct), osl⟩ ∧ PySem.W.codeIn K cdv x = true ∧ PySem.W.keepIn K (.ref f) = true ∧ mg x = some (.ref f)
theorem DefAtD.of {K : PySem.W.Frag} {h : Heap} {mg : Str → Option Value} {x : Str} {st : Stmt} {f : Addr} {oc : Value} {od an : Option Addr} {osl : Array (Option Value)} {dV kV doc pm cdv ct : Value} (X : K.In h) (G : h.Ns mainGlobals mg)
    (a : PySem.W.nsIn K mainGlobals x = some (some (.ref f))) (l : K.lookup f = some ⟨oc, od, .func (PySem.W.fnOf x x (defArgs st) (defBody st) (defScope st) dV kV doc pm an cdv ct), osl⟩)
    (c : PySem.W.codeIn K cdv x = true) (k : PySem.W.keepIn K (.ref f) = true) : DefAtD K mg x st dV := ⟨f, oc, od, kV, doc, pm, an, cdv, ct, osl, l, c, k, PySem.W.mg_of X G a⟩
/-- .. with one default, an int -/
theorem DefAtD.ofInt {K : PySem.W.Frag} {h : Heap} {mg : Str → Option Value} {x : Str} {st : Stmt} {f : Addr} {oc : Value} {od an : Option Addr} {osl : Array (Option Value)} {kV doc pm cdv ct : Value} {T : Addr} {o : Obj} {v : Int} {t : Tok} {n : Nat} (X : K.In h) (G : h.Ns mainGlobals mg)
    (a : PySem.W.nsIn K mainGlobals x = some (some (.ref f))) (l : K.lookup f = some ⟨oc, od, .func (PySem.W.fnOf x x (defArgs st) (defBody st) (defScope st) (.ref T) kV doc pm an cdv ct), osl⟩)
    (c : PySem.W.codeIn K cdv x = true) (k : PySem.W.keepIn K (.ref f) = true) (ho : K.lookup T = some o) (hs : o.data = .seq #[.int v t] n) : ∃ T o t n, DefAtD K mg x st (.ref T) ∧ K.lookup T = some o ∧ o.data = .seq #[.int v t] n :=
  ⟨T, o, t, n, .of X G a l c k, ho, hs⟩
section
variable {P : Program} {w : World} {K : PySem.W.Frag} {mg : Str → Option Value} {base : Heap}
theorem FnAt1.mkD {x : Str} {st : Stmt} {N ps : List Str} {k : Nat} {sp : Sp} {T : Addr} {o : Obj} {items : Array Value} {n : Nat} (D : DefAtD K mg x st (.ref T)) (ho : K.lookup T = some o) (hs : o.data = .seq items n) (S : FnScope N ps (defScope st))
    (h : ∀ (kV doc pm : Value) (an : Option Addr) (cdv ct : Value) (us : List Value), us.length = ps.length → ∃ k : Option (Array Value) → Sem (List (Str × Value)),
      bindArgs (PySem.W.fnOf x x (defArgs st) (defBody st) (defScope st) (.ref T) kV doc pm an cdv ct) ⟨us, []⟩ = seqItems? (.ref T) >>= k ∧ k (some items) = pure (ps.zip us))
    (len : ∀ vs H Q E, sp vs H Q E → vs.length = ps.length)
    (hbody : ∀ (f : Addr) (cdv : Value) (A : Around) (outer : List Env) (s : Shared) (H : Hp) (vs : List V) (Q : VK) (E : XK), Room k (A.deeper (envOfC x (defScope st) s.heap.objs.size f cdv)) → sp vs H Q E →
      ∃ t, PSs (cxOf (CX1 P w) P w K mg base N x (defScope st) f cdv A outer s H E) (defBody st) t ∧ t { nx := fun _ H' => Q .non H', rt := Q } (start N vs) H) : FnAt1 P w K mg base (k + 1) x ps sp := by
  obtain ⟨f, oc, od, kV, doc, pm, an, cdv, ct, osl, lk, hcd, kp, m⟩ := D
  refine ⟨f, _, ?_, fun s us KX hl => ?_, kp, m, oc, od, osl, lk⟩
  rotate_left
  · rw [List.append_nil] at hl ⊢
    obtain ⟨k, h1, h2⟩ := h kV doc pm an cdv ct us hl
    exact BindsTo.of_defaults rfl (KX _ _ ho) hs h1 h2
  exact fn_of lk hcd S len fun A outer s H vs Q E hr hsp => hbody f cdv A outer s H vs Q E hr hsp
/-- called with the last arguments left out -/
def FnAtX (P : Program) (w : World) (K : PySem.W.Frag) (mg : Str → Option Value) (base : Heap) (k : Nat) (x : Str) (ps : List Str) (ds : List Value) (sp : Sp) : Prop :=
  ∃ f fd, FnOk P w K mg base (CX1 P w) k f fd ps sp ∧ Binds K fd ps ds ∧ PySem.W.keepIn K (.ref f) = true ∧ mg x = some (.ref f)
theorem FnAt1.dflt {x : Str} {st : Stmt} {ps : List Str} {ds : List Value} {k : Nat} {sp : Sp} {T : Addr} {o : Obj} {items : Array Value} {n : Nat} (F : FnAt1 P w K mg base k x ps sp) (D : DefAtD K mg x st (.ref T)) (ho : K.lookup T = some o) (hs : o.data = .seq items n)
    (h : ∀ (kV doc pm : Value) (an : Option Addr) (cdv ct : Value) (us : List Value), (us ++ ds).length = ps.length → ∃ k : Option (Array Value) → Sem (List (Str × Value)),
      bindArgs (PySem.W.fnOf x x (defArgs st) (defBody st) (defScope st) (.ref T) kV doc pm an cdv ct) ⟨us, []⟩ = seqItems? (.ref T) >>= k ∧ k (some items) = pure (ps.zip (us ++ ds))) : FnAtX P w K mg base k x ps ds sp := by
  obtain ⟨f, fd, F, b, kp, m, d⟩ := F
  obtain ⟨f', oc, od, kV, doc, pm, an, cdv, ct, osl, lk, hcd, kp', m'⟩ := D
  have e : f = f' := by
    rw [m] at m'
    cases m'
    rfl
  subst e
  obtain ⟨_, _, _, l⟩ := d
  rw [lk] at l
  cases l
  refine ⟨f, _, F, fun s us KX hl => ?_, kp, m⟩
  obtain ⟨k, h1, h2⟩ := h kV doc pm an cdv ct us hl
  exact BindsTo.of_defaults rfl (KX _ _ ho) hs h1 h2
end
section
variable {X : Cx} {pn : List (Addr × Obj)} {XQ : St → Addr → Hp → Prop} {k : Nat} {ps : List Str} {sp : Sp} {dvs : List V} {ds : List Value} {x : Str} {p pos : Pos} {e : Expr} {es : List Expr} {t : TA}
theorem pe_fnTX (F : FnAtX X.prog X.w X.K X.mg X.base k x ps ds sp) (hd : Vals dvs ds) (hr : Room k X.A) (hg : Gl X x) (ha : PA (tryCx X pn XQ) (e :: es) t)
    (hdb : (x == ("__debug__" : Str)) = false := by decide) (he : starEach (e :: es) X.env = (false, eval e X.env) :: starEach es X.env := by rfl) (hpl : (backTo pos (starEach es X.env)).any (·.1) = false := by rfl) :
    PE (tryCx X pn XQ) (.Call (.Name x p) (e :: es) [] pos) (tCallT sp dvs XQ t) := by
  obtain ⟨f, fd, F, b, kp, m⟩ := F
  exact pe_callT F hr hg m kp b hd ha (hdb := hdb) (he := he) (hpl := hpl)
end
end L2

namespace FW
open PySem L2
set_option maxHeartbeats 4000000
def top (i : Nat) : Stmt := PySem.Challenge.pw_foldwalk_k09_whole_stretches.main.body.getD i (.Pass ⟨0, 0, 0, 0⟩)
abbrev s_side_of : Stmt := top 10
abbrev s_cells_of : Stmt := top 11
abbrev s_check_folds : Stmt := top 12
abbrev s_check_place : Stmt := top 13
abbrev s_check_cell : Stmt := top 14
abbrev s_into_quarter : Stmt := top 15
abbrev s_out_of_quarter : Stmt := top 16
abbrev s_quarter_of : Stmt := top 17
abbrev s_cell_at : Stmt := top 18
abbrev s_place_of : Stmt := top 19
abbrev s_check_box : Stmt := top 21
abbrev s_check_number : Stmt := top 22
abbrev s_cells_in : Stmt := top 23
abbrev s_part_in : Stmt := top 24
abbrev s_count_ahead : Stmt := top 26
abbrev s_cells_held : Stmt := top 27
abbrev s_quarter_holding : Stmt := top 28
abbrev s_place_numbered : Stmt := top 29
abbrev s_counted : Stmt := top 30
abbrev s_next_in : Stmt := top 33
abbrev s_next_out : Stmt := top 34
abbrev s_end_of_stretch : Stmt := top 35
abbrev s_stretches : Stmt := top 36
abbrev s_law_cell_at : Stmt := top 38
abbrev s_law_whole : Stmt := top 39
abbrev s_law_folds : Stmt := top 40
abbrev s_law_place : Stmt := top 41
abbrev s_law_line : Stmt := top 42
abbrev s_law_span : Stmt := top 43
abbrev s_law_box : Stmt := top 44
abbrev s_law_within : Stmt := top 45
abbrev s_law_in_order : Stmt := top 46
abbrev s_law_in_squares : Stmt := top 47
abbrev s_law_is_place : Stmt := top 48
abbrev s_law_more : Stmt := top 49
abbrev s_law_places : Stmt := top 50
abbrev s_law : Stmt := top 51
theorem iteDF {c A B : Prop} [Decidable c] (hc : ¬ c) (h : B) : if decide c = true then A else B := by
  rw [decide_eq_false hc]; exact iteF h
theorem iteDT {c A B : Prop} [Decidable c] (hc : c) (h : A) : if decide c = true then A else B := by
  rw [decide_eq_true hc]; exact iteT h
theorem iteVT {i j : Int} {A B : Prop} (hc : i = j) (h : A) : if decide (V.int i = V.int j) = true then A else B := iteDT (congrArg V.int hc) h
theorem iteVF {i j : Int} {A B : Prop} (hc : ¬ i = j) (h : B) : if decide (V.int i = V.int j) = true then A else B := iteDF (fun e => hc (V.int.inj e)) h
theorem same_new {H : Hp} {p : Addr} (h : H p = none) (o : HO) : Same H (upd H p o) := fun b u q => by rw [upd_ne (ne_of_none q h)]; exact q
theorem divs (i : Nat) (p : Int) : p / 4 ^ i / 4 = p / 4 ^ (i + 1) := by
  rw [Int.ediv_ediv_of_nonneg (by have := p4 i; omega), ← Int.pow_succ]
theorem _root_.L2.Same.tup {K : PySem.W.Frag} {H H' : Hp} {a : Addr} {xs : List V} (e : Same H H') (h : SqT K H a xs) : SqT K H' a xs := by
  rcases h with (h | ⟨o, h⟩) | h
  · exact .inl (.inl (e _ _ h))
  · exact .inl (.inr ⟨o, e _ _ h⟩)
  · exact .inr h
/-! ### the program's walk -/
def spSide : Sp := fun vs H Q _ => ∃ n : Nat, vs = [.int n] ∧ n ≤ 60 ∧ Q (.int (2 ^ n)) H
def spCells : Sp := fun vs H Q _ => ∃ n : Nat, vs = [.int n] ∧ n ≤ 60 ∧ Q (.int (4 ^ n)) H
def spChkF : Sp := fun vs H Q _ => ∃ n : Nat, vs = [.int n] ∧ n ≤ 60 ∧ Q .non H
def spChkP : Sp := fun vs H Q _ => ∃ p e : Int, vs = [.int p, .int e] ∧ 0 ≤ p ∧ p < e ∧ Q .non H
def spInto (K : PySem.W.Frag) : Sp := fun vs H Q _ => ∃ (a : Addr) (c : Int × Int) (s q : Int), vs = [.ref a, .int s, .int q] ∧ SqT K H a [.int c.1, .int c.2] ∧ (0 ≤ q ∧ q < 4) ∧
  ∀ p, H p = none → Q (.ref p) (upd H p (.tup [.int (into c s q).1, .int (into c s q).2]))
def spCellAt : Sp := fun vs H Q _ => ∃ (n : Nat) (p : Int), vs = [.int n, .int p] ∧ n ≤ 60 ∧ 0 ≤ p ∧ p < 4 ^ n ∧
  ∀ (a : Addr) (H' : Hp), Same H H' → H' a = some (.tup [.int (cw n p).1, .int (cw n p).2]) → Q (.ref a) H'
section
variable {P : Program} {w : World} {K : PySem.W.Frag} {mg : Str → Option Value} {base : Heap}
theorem sc_side_of : FnScope ["folds", "side", "fold"] ["folds"] (defScope s_side_of) := ⟨rfl, rfl, rfl, by decide +kernel, rfl, by decide +kernel, by decide +kernel⟩
theorem ok_side_of (D : DefAt K mg "side_of" s_side_of) (mr : mg "range" = none) : FnAt P w K mg base 1 "side_of" ["folds"] spSide := by
  refine FnAt.mk D sc_side_of (fun _ _ _ _ _ _ us hl => match us, hl with | [_], _ => rfl) (fun vs H Q E h => ?_) (fun f cdv A outer s H vs Q E hr h => ?_)
  · obtain ⟨n, rfl, _⟩ := h; rfl
  obtain ⟨n, rfl, hn, q⟩ := h
  refine ⟨_, pss_cons (ps_set (i := 1) sc_side_of.nd rfl (Or.inl rfl) pe_int)
    (pss_cons (ps_for PassesOwn.never rfl (pi_range1 rfl mr (pa_cons (pv 0) pa_nil)) (pg_name (i := 2) sc_side_of.nd rfl (Or.inl rfl))
      (pss_one (ps_set (i := 1) sc_side_of.nd rfl (Or.inl rfl) (pe_op op_mul pe_int (pv 1)))))
    (pss_one (ps_ret (pv 1)))), ?_⟩
  refine ⟨_, rfl, (n : Int), rfl, by omega, by omega, for_range (lo := 0) (n := (n : Int).toNat) (fun i σ H' => ∃ v, σ = [some (.int n), some (.int (2 ^ i)), v] ∧ H' = H) ⟨none, rfl, rfl⟩ ?_ ?_⟩
  · rintro i σ H' hi ⟨v, rfl, rfl⟩
    refine ⟨_, rfl, _, _, rfl, rfl, .inl ⟨by decide, by decide⟩, ?_⟩
    exact ⟨_, by rw [p2s]; rfl, rfl⟩
  · rintro σ H' ⟨v, rfl, rfl⟩
    exact ⟨_, rfl, q⟩
theorem sc_cells_of : FnScope ["folds", "side"] ["folds"] (defScope s_cells_of) := ⟨rfl, rfl, rfl, by decide +kernel, rfl, by decide +kernel, by decide +kernel⟩
theorem p2_60 {n : Nat} (h : n ≤ 60) : (2 : Int) ^ n ≤ 1152921504606846976 := p2mono h
theorem ok_cells_of (D : DefAt K mg "cells_of" s_cells_of) (G : FnAt P w K mg base 1 "side_of" ["folds"] spSide) : FnAt P w K mg base 2 "cells_of" ["folds"] spCells := by
  refine FnAt.mk D sc_cells_of (fun _ _ _ _ _ _ us hl => match us, hl with | [_], _ => rfl) (fun vs H Q E h => ?_) (fun f cdv A outer s H vs Q E hr h => ?_)
  · obtain ⟨n, rfl, _⟩ := h; rfl
  obtain ⟨n, rfl, hn, q⟩ := h
  refine ⟨_, pss_cons (ps_set (i := 1) sc_cells_of.nd rfl (Or.inl rfl) (pe_fn G hr (by rfl) (pa_cons (pv 0) pa_nil)))
    (pss_one (ps_ret (pe_op op_mul (pv 1) (pv 1)))), ?_⟩
  refine ⟨_, rfl, n, rfl, hn, ?_⟩
  have h1 := p2 n
  have h2 := p2_60 hn
  refine ⟨_, rfl, _, rfl, _, _, rfl, rfl, .inl ⟨by omega, by omega⟩, ?_⟩
  show Q (.int (2 ^ n * 2 ^ n)) H
  rw [← p4e]
  exact q
theorem sc_check_folds : FnScope ["folds"] ["folds"] (defScope s_check_folds) := ⟨rfl, rfl, rfl, by decide +kernel, rfl, by decide +kernel, by decide +kernel⟩
theorem ok_check_folds (D : DefAt K mg "check_folds" s_check_folds) (mM : ∃ t, mg "MOST_FOLDS" = some (.int 60 t)) : FnAt P w K mg base 1 "check_folds" ["folds"] spChkF := by
  obtain ⟨t, mM⟩ := mM
  refine FnAt.mk D sc_check_folds (fun _ _ _ _ _ _ us hl => match us, hl with | [_], _ => rfl) (fun vs H Q E h => ?_) (fun f cdv A outer s H vs Q E hr h => ?_)
  · obtain ⟨n, rfl, _⟩ := h; rfl
  obtain ⟨n, rfl, hn, q⟩ := h
  refine ⟨_, pss_one (ps_if (pw_or (pt_cmpR op_lt (pv 0) pe_int (nomark _)) (pw_or1 (pt_cmpR op_gt (pv 0) (pe_glob (v := .int 60) (by rfl) mM ⟨_, rfl⟩) (nomark _)))).pt pss_never pss_nil), ?_⟩
  refine ⟨_, rfl, _, _, rfl, rfl, _, rfl, iteDF (by omega) ?_⟩
  exact ⟨_, rfl, _, _, rfl, rfl, _, rfl, iteDF (by omega) q⟩
theorem sc_check_place : FnScope ["place", "end"] ["place", "end"] (defScope s_check_place) := ⟨rfl, rfl, rfl, by decide +kernel, rfl, by decide +kernel, by decide +kernel⟩
theorem ok_check_place (D : DefAt K mg "check_place" s_check_place) : FnAt P w K mg base 1 "check_place" ["place", "end"] spChkP := by
  refine FnAt.mk D sc_check_place (fun _ _ _ _ _ _ us hl => match us, hl with | [_, _], _ => rfl) (fun vs H Q E h => ?_) (fun f cdv A outer s H vs Q E hr h => ?_)
  · obtain ⟨p, e, rfl, _⟩ := h; rfl
  obtain ⟨p, e, rfl, h0, h1, q⟩ := h
  refine ⟨_, pss_one (ps_if (pw_or (pt_cmpR op_lt (pv 0) pe_int (nomark _)) (pw_or1 (pt_cmpR op_ge (pv 0) (pv 1) (nomark _)))).pt pss_never pss_nil), ?_⟩
  refine ⟨_, rfl, _, _, rfl, rfl, _, rfl, iteDF (by omega) ?_⟩
  exact ⟨_, rfl, _, rfl, _, _, rfl, rfl, _, rfl, iteDF (by omega) q⟩
theorem sc_into_quarter : FnScope ["cell", "side", "quarter", "x", "y"] ["cell", "side", "quarter"] (defScope s_into_quarter) := ⟨rfl, rfl, rfl, by decide +kernel, rfl, by decide +kernel, by decide +kernel⟩
theorem ok_into_quarter (D : DefAt K mg "into_quarter" s_into_quarter) : FnAt P w K mg base 1 "into_quarter" ["cell", "side", "quarter"] (spInto K) := by
  refine FnAt.mk D sc_into_quarter (fun _ _ _ _ _ _ us hl => match us, hl with | [_, _, _], _ => rfl) (fun vs H Q E h => ?_) (fun f cdv A outer s H vs Q E hr h => ?_)
  · obtain ⟨a, c, s, q, rfl, _⟩ := h; rfl
  obtain ⟨a, c, sd, q, rfl, hS, hq, k⟩ := h
  refine ⟨_, pss_cons (ps_set (i := 3) sc_into_quarter.nd rfl (Or.inl rfl) (pe_ix ix_tup (pv 0) pe_int (fun _ _ => rfl)))
    (pss_cons (ps_set (i := 4) sc_into_quarter.nd rfl (Or.inl rfl) (pe_ix ix_tup (pv 0) pe_int (fun _ _ => rfl)))
    (pss_cons (ps_if (pt_cmpR op_eq (pv 2) pe_int (nomark _)) (pss_one (ps_ret (pe_tup (pa_cons (pv 4) (pa_cons (pv 3) pa_nil))))) pss_nil)
    (pss_cons (ps_if (pt_cmpR op_eq (pv 2) pe_int (nomark _)) (pss_one (ps_ret (pe_tup (pa_cons (pv 3) (pa_cons (pe_op op_add (pv 4) (pv 1)) pa_nil))))) pss_nil)
    (pss_cons (ps_if (pt_cmpR op_eq (pv 2) pe_int (nomark _)) (pss_one (ps_ret (pe_tup (pa_cons (pe_op op_add (pv 3) (pv 1)) (pa_cons (pe_op op_add (pv 4) (pv 1)) pa_nil))))) pss_nil)
    (pss_one (ps_ret (pe_tup (pa_cons (pe_op op_sub (pe_op op_sub (pe_op op_mul pe_int (pv 1)) pe_int) (pv 4)) (pa_cons (pe_op op_sub (pe_op op_sub (pv 1) pe_int) (pv 3)) pa_nil))))))))), ?_⟩
  refine ⟨_, rfl, a, _, _, _, rfl, rfl, hS, rfl, ?_⟩
  refine ⟨_, rfl, a, _, _, _, rfl, rfl, hS, rfl, ?_⟩
  have z : ([V.non, V.non] : List V).length ≤ sizeLine := by show 2 ≤ sizeLine; decide
  rcases q4 hq with e | e | e | e <;> subst e
  · refine ⟨_, rfl, rfl, _, rfl, iteVT rfl ?_⟩
    exact ⟨_, rfl, _, rfl, z, fun p hp => k p hp⟩
  · refine ⟨_, rfl, rfl, _, rfl, iteVF (by decide) ?_⟩
    refine ⟨_, rfl, rfl, _, rfl, iteVT rfl ?_⟩
    exact ⟨_, rfl, _, rfl, _, rfl, _, _, rfl, rfl, z, fun p hp => k p hp⟩
  · refine ⟨_, rfl, rfl, _, rfl, iteVF (by decide) ?_⟩
    refine ⟨_, rfl, rfl, _, rfl, iteVF (by decide) ?_⟩
    refine ⟨_, rfl, rfl, _, rfl, iteVT rfl ?_⟩
    exact ⟨_, rfl, _, rfl, _, _, rfl, rfl, _, rfl, _, rfl, _, _, rfl, rfl, z, fun p hp => k p hp⟩
  · refine ⟨_, rfl, rfl, _, rfl, iteVF (by decide) ?_⟩
    refine ⟨_, rfl, rfl, _, rfl, iteVF (by decide) ?_⟩
    refine ⟨_, rfl, rfl, _, rfl, iteVF (by decide) ?_⟩
    exact ⟨_, rfl, _, _, rfl, rfl, .inl ⟨by decide, by decide⟩, _, _, rfl, rfl, _, rfl, _, _, rfl, rfl, _, rfl, _, _, rfl, rfl, _, rfl, _, _, rfl, rfl, z, fun p hp => k p hp⟩
theorem sc_cell_at : FnScope ["folds", "place", "cell", "side", "rest", "fold"] ["folds", "place"] (defScope s_cell_at) := ⟨rfl, rfl, rfl, by decide +kernel, rfl, by decide +kernel, by decide +kernel⟩
theorem ok_cell_at (D : DefAt K mg "cell_at" s_cell_at) (mr : mg "range" = none) (GF : FnAt P w K mg base 1 "check_folds" ["folds"] spChkF) (GP : FnAt P w K mg base 1 "check_place" ["place", "end"] spChkP)
    (GC : FnAt P w K mg base 2 "cells_of" ["folds"] spCells) (GI : FnAt P w K mg base 1 "into_quarter" ["cell", "side", "quarter"] (spInto K)) : FnAt P w K mg base 3 "cell_at" ["folds", "place"] spCellAt := by
  refine FnAt.mk D sc_cell_at (fun _ _ _ _ _ _ us hl => match us, hl with | [_, _], _ => rfl) (fun vs H Q E h => ?_) (fun f cdv A outer s H vs Q E hr h => ?_)
  · obtain ⟨n, p, rfl, _⟩ := h; rfl
  obtain ⟨n, p, rfl, hn, h0, h1, k⟩ := h
  have hr1 := hr.mono (j := 1) (by decide)
  refine ⟨_, pss_cons (ps_expr (pe_fn GF hr1 (by rfl) (pa_cons (pv 0) pa_nil)))
    (pss_cons (ps_expr (pe_fn GP hr1 (by rfl) (pa_cons (pv 1) (pa_cons (pe_fn GC hr (by rfl) (pa_cons (pv 0) pa_nil)) pa_nil))))
    (pss_cons (ps_set (i := 2) sc_cell_at.nd rfl (Or.inl rfl) (pe_tup (pa_cons pe_int (pa_cons pe_int pa_nil))))
    (pss_cons (ps_set (i := 3) sc_cell_at.nd rfl (Or.inl rfl) pe_int)
    (pss_cons (ps_set (i := 4) sc_cell_at.nd rfl (Or.inl rfl) (pv 1))
    (pss_cons (ps_for PassesOwn.never rfl (pi_range1 rfl mr (pa_cons (pv 0) pa_nil)) (pg_name (i := 5) sc_cell_at.nd rfl (Or.inl rfl))
      (pss_cons (ps_set (i := 2) sc_cell_at.nd rfl (Or.inl rfl) (pe_fn GI hr1 (by rfl) (pa_cons (pv 2) (pa_cons (pv 3) (pa_cons (pe_op op_mod (pv 4) pe_int) pa_nil)))))
      (pss_cons (ps_set (i := 4) sc_cell_at.nd rfl (Or.inl rfl) (pe_op op_fdiv (pv 4) pe_int))
      (pss_one (ps_set (i := 3) sc_cell_at.nd rfl (Or.inl rfl) (pe_op op_mul pe_int (pv 3)))))))
    (pss_one (ps_ret (pv 2)))))))), ?_⟩
  refine ⟨_, rfl, n, rfl, hn, ?_⟩
  refine ⟨_, rfl, _, rfl, n, rfl, hn, p, _, rfl, h0, h1, ?_⟩
  refine ⟨(by show 2 ≤ sizeLine; decide), fun c hc => ?_⟩
  have s0 : Same H (upd H c (.tup [.int 0, .int 0])) := same_new hc _
  refine ⟨_, rfl, ?_⟩
  refine ⟨_, rfl, (n : Int), rfl, by omega, by omega, for_range (lo := 0) (n := (n : Int).toNat) (fun i σ H' => ∃ (a : Addr) (v : Option V), σ = [some (.int n), some (.int p), some (.ref a), some (.int (2 ^ i)), some (.int (p / 4 ^ i)), v] ∧ Same H H' ∧
    H' a = some (.tup [.int (cw i p).1, .int (cw i p).2])) ⟨c, none, by rw [show p / 4 ^ 0 = p from Int.ediv_one p]; rfl, s0, upd_same⟩ ?_ ?_⟩
  · rintro i σ H' hi ⟨a, v, rfl, s1, ha⟩
    have dg := dig i p
    refine ⟨_, rfl, _, rfl, _, rfl, _, _, rfl, rfl, (by show (0 : Int) < 4; decide), a, cw i p, _, _, rfl, SqT.of ha, dg, fun b hb => ?_⟩
    refine ⟨_, rfl, _, _, rfl, rfl, ⟨by decide, by decide⟩, ?_⟩
    refine ⟨_, rfl, _, _, rfl, rfl, .inl ⟨by decide, by decide⟩, ?_⟩
    exact ⟨b, _, by rw [p2s, ← divs]; rfl, s1.trans (same_new hb _), upd_same⟩
  · rintro σ H' ⟨a, v, rfl, s1, ha⟩
    exact ⟨_, rfl, k a H' s1 ha⟩
end
def spOut (K : PySem.W.Frag) : Sp := fun vs H Q _ => ∃ (a : Addr) (c : Int × Int) (s q : Int), vs = [.ref a, .int s, .int q] ∧ SqT K H a [.int c.1, .int c.2] ∧ (0 ≤ q ∧ q < 4) ∧
  ∀ p, H p = none → Q (.ref p) (upd H p (.tup [.int (outq c s q).1, .int (outq c s q).2]))
theorem half_pow (m : Nat) : (2 : Int) ^ (m + 1) / 2 = 2 ^ m := by rw [p2s]; omega
section
variable {P : Program} {w : World} {K : PySem.W.Frag} {mg : Str → Option Value} {base : Heap}
theorem sc_out_of_quarter : FnScope ["cell", "side", "quarter", "x", "y"] ["cell", "side", "quarter"] (defScope s_out_of_quarter) := ⟨rfl, rfl, rfl, by decide +kernel, rfl, by decide +kernel, by decide +kernel⟩
theorem ok_out_of_quarter (D : DefAt K mg "out_of_quarter" s_out_of_quarter) : FnAt P w K mg base 1 "out_of_quarter" ["cell", "side", "quarter"] (spOut K) := by
  refine FnAt.mk D sc_out_of_quarter (fun _ _ _ _ _ _ us hl => match us, hl with | [_, _, _], _ => rfl) (fun vs H Q E h => ?_) (fun f cdv A outer s H vs Q E hr h => ?_)
  · obtain ⟨a, c, s, q, rfl, _⟩ := h; rfl
  obtain ⟨a, c, sd, q, rfl, hS, hq, k⟩ := h
  refine ⟨_, pss_cons (ps_set (i := 3) sc_out_of_quarter.nd rfl (Or.inl rfl) (pe_ix ix_tup (pv 0) pe_int (fun _ _ => rfl)))
    (pss_cons (ps_set (i := 4) sc_out_of_quarter.nd rfl (Or.inl rfl) (pe_ix ix_tup (pv 0) pe_int (fun _ _ => rfl)))
    (pss_cons (ps_if (pt_cmpR op_eq (pv 2) pe_int (nomark _)) (pss_one (ps_ret (pe_tup (pa_cons (pv 4) (pa_cons (pv 3) pa_nil))))) pss_nil)
    (pss_cons (ps_if (pt_cmpR op_eq (pv 2) pe_int (nomark _)) (pss_one (ps_ret (pe_tup (pa_cons (pv 3) (pa_cons (pe_op op_sub (pv 4) (pv 1)) pa_nil))))) pss_nil)
    (pss_cons (ps_if (pt_cmpR op_eq (pv 2) pe_int (nomark _)) (pss_one (ps_ret (pe_tup (pa_cons (pe_op op_sub (pv 3) (pv 1)) (pa_cons (pe_op op_sub (pv 4) (pv 1)) pa_nil))))) pss_nil)
    (pss_one (ps_ret (pe_tup (pa_cons (pe_op op_sub (pe_op op_sub (pv 1) pe_int) (pv 4)) (pa_cons (pe_op op_sub (pe_op op_sub (pe_op op_mul pe_int (pv 1)) pe_int) (pv 3)) pa_nil))))))))), ?_⟩
  refine ⟨_, rfl, a, _, _, _, rfl, rfl, hS, rfl, ?_⟩
  refine ⟨_, rfl, a, _, _, _, rfl, rfl, hS, rfl, ?_⟩
  have z : ([V.non, V.non] : List V).length ≤ sizeLine := by show 2 ≤ sizeLine; decide
  rcases q4 hq with e | e | e | e <;> subst e
  · refine ⟨_, rfl, rfl, _, rfl, iteVT rfl ?_⟩
    exact ⟨_, rfl, _, rfl, z, fun p hp => k p hp⟩
  · refine ⟨_, rfl, rfl, _, rfl, iteVF (by decide) ?_⟩
    refine ⟨_, rfl, rfl, _, rfl, iteVT rfl ?_⟩
    exact ⟨_, rfl, _, rfl, _, rfl, _, _, rfl, rfl, z, fun p hp => k p hp⟩
  · refine ⟨_, rfl, rfl, _, rfl, iteVF (by decide) ?_⟩
    refine ⟨_, rfl, rfl, _, rfl, iteVF (by decide) ?_⟩
    refine ⟨_, rfl, rfl, _, rfl, iteVT rfl ?_⟩
    exact ⟨_, rfl, _, rfl, _, _, rfl, rfl, _, rfl, _, rfl, _, _, rfl, rfl, z, fun p hp => k p hp⟩
  · refine ⟨_, rfl, rfl, _, rfl, iteVF (by decide) ?_⟩
    refine ⟨_, rfl, rfl, _, rfl, iteVF (by decide) ?_⟩
    refine ⟨_, rfl, rfl, _, rfl, iteVF (by decide) ?_⟩
    exact ⟨_, rfl, _, _, rfl, rfl, _, rfl, _, _, rfl, rfl, _, rfl, _, _, rfl, rfl, .inl ⟨by decide, by decide⟩, _, _, rfl, rfl, _, rfl, _, _, rfl, rfl, z, fun p hp => k p hp⟩
end
/-! ### the program's places -/
def spChkC (K : PySem.W.Frag) : Sp := fun vs H Q _ => ∃ (a : Addr) (c : Int × Int) (s : Int), vs = [.ref a, .int s] ∧ SqT K H a [.int c.1, .int c.2] ∧ On c s ∧ Q .non H
def spQof (K : PySem.W.Frag) : Sp := fun vs H Q _ => ∃ (a : Addr) (c : Int × Int) (s : Int), vs = [.ref a, .int s] ∧ SqT K H a [.int c.1, .int c.2] ∧ Q (.int (qof c s)) H
def spPlaceOf (K : PySem.W.Frag) : Sp := fun vs H Q _ => ∃ (n : Nat) (a : Addr) (c : Int × Int), vs = [.int n, .ref a] ∧ n ≤ 60 ∧ SqT K H a [.int c.1, .int c.2] ∧ On c (2 ^ n) ∧
  ∀ H' : Hp, Same H H' → Q (.int (pl n c)) H'
section
variable {P : Program} {w : World} {K : PySem.W.Frag} {mg : Str → Option Value} {base : Heap}
theorem sc_check_cell : FnScope ["cell", "side"] ["cell", "side"] (defScope s_check_cell) := ⟨rfl, rfl, rfl, by decide +kernel, rfl, by decide +kernel, by decide +kernel⟩
theorem ok_check_cell (D : DefAt K mg "check_cell" s_check_cell) (mn : mg "min" = none) (mx : mg "max" = none) : FnAt P w K mg base 1 "check_cell" ["cell", "side"] (spChkC K) := by
  refine FnAt.mk D sc_check_cell (fun _ _ _ _ _ _ us hl => match us, hl with | [_, _], _ => rfl) (fun vs H Q E h => ?_) (fun f cdv A outer s H vs Q E hr h => ?_)
  · obtain ⟨a, c, s, rfl, _⟩ := h; rfl
  obtain ⟨a, c, sd, rfl, hS, ⟨h1, h2, h3, h4⟩, q⟩ := h
  refine ⟨_, pss_one (ps_if (pw_or (pt_cmpR op_lt (pe_callB (call_minP rfl) (by rfl) mn PyProof.Rows.boot_min (pa_cons (pv 0) pa_nil)) pe_int (nomark _))
    (pw_or1 (pt_cmpR op_ge (pe_callB (call_maxP rfl) (by rfl) mx PyProof.Rows.boot_max (pa_cons (pv 0) pa_nil)) (pv 1) (nomark _)))).pt pss_never pss_nil), ?_⟩
  refine ⟨_, rfl, a, _, _, rfl, hS, _, _, rfl, rfl, _, rfl, iteDF (by split <;> omega) ?_⟩
  exact ⟨_, rfl, a, _, _, rfl, hS, _, rfl, _, _, rfl, rfl, _, rfl, iteDF (by split <;> omega) q⟩
theorem sc_quarter_of : FnScope ["cell", "side"] ["cell", "side"] (defScope s_quarter_of) := ⟨rfl, rfl, rfl, by decide +kernel, rfl, by decide +kernel, by decide +kernel⟩
theorem ok_quarter_of (D : DefAt K mg "quarter_of" s_quarter_of) : FnAt P w K mg base 1 "quarter_of" ["cell", "side"] (spQof K) := by
  refine FnAt.mk D sc_quarter_of (fun _ _ _ _ _ _ us hl => match us, hl with | [_, _], _ => rfl) (fun vs H Q E h => ?_) (fun f cdv A outer s H vs Q E hr h => ?_)
  · obtain ⟨a, c, s, rfl, _⟩ := h; rfl
  obtain ⟨a, c, sd, rfl, hS, q⟩ := h
  refine ⟨_, pss_cons (ps_if (pt_cmpR op_lt (pe_ix ix_tup (pv 0) pe_int (fun _ _ => rfl)) (pv 1) (nomark _)) (pss_one (ps_ret (pe_ifExp (pt_cmpR op_lt (pe_ix ix_tup (pv 0) pe_int (fun _ _ => rfl)) (pv 1) (nomark _)) pe_int pe_int))) pss_nil)
    (pss_one (ps_ret (pe_ifExp (pt_cmpR op_lt (pe_ix ix_tup (pv 0) pe_int (fun _ _ => rfl)) (pv 1) (nomark _)) pe_int pe_int))), ?_⟩
  unfold qof at q
  refine ⟨_, rfl, a, _, _, _, rfl, rfl, hS, rfl, _, rfl, _, _, rfl, rfl, _, rfl, ?_⟩
  by_cases h1 : c.1 < sd
  · rw [if_pos h1] at q
    refine iteDT h1 ⟨_, rfl, a, _, _, _, rfl, rfl, hS, rfl, _, rfl, _, _, rfl, rfl, _, rfl, ?_⟩
    by_cases h2 : c.2 < sd
    · rw [if_pos h2] at q; exact iteDT h2 q
    · rw [if_neg h2] at q; exact iteDF h2 q
  · rw [if_neg h1] at q
    refine iteDF h1 ⟨_, rfl, a, _, _, _, rfl, rfl, hS, rfl, _, rfl, _, _, rfl, rfl, _, rfl, ?_⟩
    by_cases h2 : c.2 < sd
    · rw [if_pos h2] at q; exact iteDT h2 q
    · rw [if_neg h2] at q; exact iteDF h2 q
theorem sc_place_of : FnScope ["folds", "cell", "side", "place", "inner", "fold", "quarter"] ["folds", "cell"] (defScope s_place_of) := ⟨rfl, rfl, rfl, by decide +kernel, rfl, by decide +kernel, by decide +kernel⟩
theorem ok_place_of (D : DefAt K mg "place_of" s_place_of) (mr : mg "range" = none) (GF : FnAt P w K mg base 1 "check_folds" ["folds"] spChkF) (GS : FnAt P w K mg base 1 "side_of" ["folds"] spSide) (GC : FnAt P w K mg base 1 "check_cell" ["cell", "side"] (spChkC K))
    (GQ : FnAt P w K mg base 1 "quarter_of" ["cell", "side"] (spQof K)) (GO : FnAt P w K mg base 1 "out_of_quarter" ["cell", "side", "quarter"] (spOut K)) : FnAt P w K mg base 2 "place_of" ["folds", "cell"] (spPlaceOf K) := by
  refine FnAt.mk D sc_place_of (fun _ _ _ _ _ _ us hl => match us, hl with | [_, _], _ => rfl) (fun vs H Q E h => ?_) (fun f cdv A outer s H vs Q E hr h => ?_)
  · obtain ⟨n, a, c, rfl, _⟩ := h; rfl
  obtain ⟨n, a, c, rfl, hn, hS, hon, k⟩ := h
  refine ⟨_, pss_cons (ps_expr (pe_fn GF hr (by rfl) (pa_cons (pv 0) pa_nil)))
    (pss_cons (ps_set (i := 2) sc_place_of.nd rfl (Or.inl rfl) (pe_fn GS hr (by rfl) (pa_cons (pv 0) pa_nil)))
    (pss_cons (ps_expr (pe_fn GC hr (by rfl) (pa_cons (pv 1) (pa_cons (pv 2) pa_nil))))
    (pss_cons (ps_set (i := 3) sc_place_of.nd rfl (Or.inl rfl) pe_int)
    (pss_cons (ps_set (i := 4) sc_place_of.nd rfl (Or.inl rfl) (pv 1))
    (pss_cons (ps_for PassesOwn.never rfl (pi_range1 rfl mr (pa_cons (pv 0) pa_nil)) (pg_name (i := 5) sc_place_of.nd rfl (Or.inl rfl))
      (pss_cons (ps_set (i := 2) sc_place_of.nd rfl (Or.inl rfl) (pe_op op_fdiv (pv 2) pe_int))
      (pss_cons (ps_set (i := 6) sc_place_of.nd rfl (Or.inl rfl) (pe_fn GQ hr (by rfl) (pa_cons (pv 4) (pa_cons (pv 2) pa_nil))))
      (pss_cons (ps_set (i := 3) sc_place_of.nd rfl (Or.inl rfl) (pe_op op_add (pe_op op_mul pe_int (pv 3)) (pv 6)))
      (pss_one (ps_set (i := 4) sc_place_of.nd rfl (Or.inl rfl) (pe_fn GO hr (by rfl) (pa_cons (pv 4) (pa_cons (pv 2) (pa_cons (pv 6) pa_nil))))))))))
    (pss_one (ps_ret (pv 3)))))))), ?_⟩
  refine ⟨_, rfl, n, rfl, hn, ?_⟩
  refine ⟨_, rfl, n, rfl, hn, ?_⟩
  refine ⟨_, rfl, _, rfl, a, c, _, rfl, hS, hon, ?_⟩
  refine ⟨_, rfl, ?_⟩
  refine ⟨_, rfl, (n : Int), rfl, by omega, by omega, for_range (lo := 0) (n := (n : Int).toNat) (fun i σ H' => i ≤ n ∧ ∃ (b : Addr) (p : Int) (d : Int × Int) (u v : Option V), σ = [some (.int n), some (.ref a), some (.int (2 ^ (n - i))), some (.int p), some (.ref b), u, v] ∧ Same H H' ∧
    SqT K H' b [.int d.1, .int d.2] ∧ On d (2 ^ (n - i)) ∧ p * 4 ^ (n - i) + pl (n - i) d = pl n c) ⟨Nat.zero_le _, a, 0, c, none, none, rfl, Same.refl _, hS, hon, by rw [Int.zero_mul, Int.zero_add]; rfl⟩ ?_ ?_⟩
  · rintro i σ H' hi ⟨hin, b, p, d, u, v, rfl, s1, hb, hd, hp⟩
    obtain ⟨m, em⟩ : ∃ m, n - i = m + 1 := ⟨n - i - 1, by omega⟩
    have em' : n - (i + 1) = m := by omega
    rw [em] at hd hp ⊢
    rw [em']
    refine ⟨_, rfl, _, _, rfl, rfl, ⟨by decide, by decide⟩, ?_⟩
    dsimp only
    rw [half_pow]
    refine ⟨_, rfl, _, rfl, b, d, _, rfl, hb, ?_⟩
    refine ⟨_, rfl, _, _, rfl, rfl, .inl ⟨by decide, by decide⟩, _, rfl, _, _, rfl, rfl, ?_⟩
    refine ⟨_, rfl, _, rfl, _, rfl, b, d, _, _, rfl, hb, qof_q _ _, fun e he => ?_⟩
    rw [p2s] at hd
    refine ⟨by omega, e, _, outq d (2 ^ m) (qof d (2 ^ m)), _, _, rfl, s1.trans (same_new he _), SqT.of upd_same, out_on hd, ?_⟩
    rw [← hp, p4s]
    show (4 * p + qof d (2 ^ m)) * 4 ^ m + _ = p * (4 * 4 ^ m) + (qof d (2 ^ m) * 4 ^ m + pl m (outq d (2 ^ m) (qof d (2 ^ m))))
    rw [Int.add_mul, ← Int.mul_assoc p 4, Int.mul_comm p 4, Int.add_assoc]
  · rintro σ H' ⟨hin, b, p, d, u, v, rfl, s1, hb, hd, hp⟩
    have e : n - (n : Int).toNat = 0 := by omega
    rw [e] at hp
    have ep : p = pl n c := by
      rw [← hp, Int.pow_zero, Int.mul_one]
      show p = p + 0
      omega
    subst ep
    exact ⟨_, rfl, k H' s1⟩
end
/-! ### the law's own readers -/
def spCell (K : PySem.W.Frag) : Sp := fun vs H Q _ => ∃ (a : Addr) (ns : List Int) (k : Nat), vs = [.ref a, .int k] ∧ SqL K H a (ns.map V.int) ∧ Q (.int (ns.getD k 0)) H
def spFolds : Sp := fun vs H Q _ => ∃ c : Int, vs = [.int c] ∧ ∀ n : Nat, n ≤ 60 → Q (.int n) H
def spPlace : Sp := fun vs H Q _ => ∃ (c : Int) (n : Nat), vs = [.int c, .int n] ∧ n ≤ 60 ∧ Builtin.Int.intBits c ≤ 2 ^ 20 ∧ ∀ p : Int, 0 ≤ p → p < 4 ^ n → Q (.int p) H
theorem bits_div {a b : Int} {m : Nat} (hb : 0 ≤ b) (h : Builtin.Int.intBits a ≤ m) : Builtin.Int.intBits (a / b) ≤ m := by
  rw [← Int.fdiv_eq_ediv_of_nonneg a hb]
  exact PyProof.Rows.bits_fdiv h
theorem bits_pow {k : Nat} (h : k ≤ 120) : Builtin.Int.intBits (1 * 2 ^ k) ≤ 200 := by
  refine PyProof.Rows.intBits_le ?_
  rw [Int.one_mul, Int.natAbs_pow]
  exact Nat.pow_lt_pow_right (by decide) (by omega)
theorem shl2 (n : Nat) : (1 : Int) * 2 ^ (2 * (n : Int)).toNat = 4 ^ n := by
  rw [Int.one_mul, show (2 * (n : Int)).toNat = 2 * n by omega, Int.pow_mul]
  rfl
theorem shl1 (n : Nat) : (1 : Int) * 2 ^ ((n : Int)).toNat = 2 ^ n := by
  rw [Int.one_mul, Int.toNat_natCast]
section
variable {P : Program} {w : World} {K : PySem.W.Frag} {mg : Str → Option Value} {base : Heap}
theorem sc_law_cell_at : FnScope ["_law_script", "_law_k"] ["_law_script", "_law_k"] (defScope s_law_cell_at) := ⟨rfl, rfl, rfl, by decide +kernel, rfl, by decide +kernel, by decide +kernel⟩
theorem ok_law_cell_at (D : DefAt K mg "_law_cell_at" s_law_cell_at) (ml : mg "len" = none) : FnAt P w K mg base 1 "_law_cell_at" ["_law_script", "_law_k"] (spCell K) := by
  refine FnAt.mk D sc_law_cell_at (fun _ _ _ _ _ _ us hl => match us, hl with | [_, _], _ => rfl) (fun vs H Q E h => ?_) (fun f cdv A outer s H vs Q E hr h => ?_)
  · obtain ⟨a, ns, k, rfl, _⟩ := h; rfl
  obtain ⟨a, ns, k, rfl, hS, q⟩ := h
  refine ⟨_, pss_cons (ps_if (pt_cmpR op_lt (pv 1) (pe_callB call_len_seq (by rfl) ml PySem.boot_len (pa_cons (pv 0) pa_nil)) (nomark _)) (pss_one (ps_ret (pe_ix ix_list (pv 0) (pv 1) (fun _ _ => rfl)))) pss_nil)
    (pss_one (ps_ret pe_int)), ?_⟩
  refine ⟨_, rfl, _, rfl, a, _, rfl, .inl hS, _, _, rfl, rfl, _, rfl, ?_⟩
  by_cases hk : k < ns.length
  · refine iteDT (by rw [List.length_map]; omega) ?_
    have e : ns.getD k 0 = ns[k] := by rw [List.getD_eq_getElem?_getD, List.getElem?_eq_getElem hk]; rfl
    rw [e] at q
    exact ⟨_, rfl, _, rfl, a, _, _, _, rfl, rfl, hS, atI_nat (by rw [List.getElem?_map, List.getElem?_eq_getElem hk]; rfl), q⟩
  · refine iteDF (by rw [List.length_map]; omega) ?_
    have e : ns.getD k 0 = 0 := by rw [List.getD_eq_getElem?_getD, List.getElem?_eq_none (by omega)]; rfl
    rw [e] at q
    exact q
theorem sc_law_place : FnScope ["_law_cell", "_law_folds_here", "_law_many", "_law_rest", "_law_block"] ["_law_cell", "_law_folds_here"] (defScope s_law_place) := ⟨rfl, rfl, rfl, by decide +kernel, rfl, by decide +kernel, by decide +kernel⟩
theorem ok_law_place (D : DefAt K mg "_law_place" s_law_place) : FnAt P w K mg base 1 "_law_place" ["_law_cell", "_law_folds_here"] spPlace := by
  refine FnAt.mk D sc_law_place (fun _ _ _ _ _ _ us hl => match us, hl with | [_, _], _ => rfl) (fun vs H Q E h => ?_) (fun f cdv A outer s H vs Q E hr h => ?_)
  · obtain ⟨c, n, rfl, _⟩ := h; rfl
  obtain ⟨c, n, rfl, hn, hb, q⟩ := h
  refine ⟨_, pss_cons (ps_set (i := 2) sc_law_place.nd rfl (Or.inl rfl) (pe_op op_shl pe_int (pe_op op_mul pe_int (pv 1))))
    (pss_cons (ps_set (i := 3) sc_law_place.nd rfl (Or.inl rfl) (pe_op op_fdiv (pv 0) pe_int))
    (pss_cons (ps_if (pt_cmpR op_eq (pe_op op_mod (pv 0) pe_int) pe_int (nomark _)) (pss_one (ps_ret (pe_op op_sub (pe_op op_sub (pv 2) pe_int) (pe_op op_mod (pv 3) (pv 2))))) pss_nil)
    (pss_cons (ps_if (pt_cmpR op_eq (pe_op op_mod (pv 0) pe_int) pe_int (nomark _)) (pss_one (ps_ret (pe_op op_mod (pe_op op_mulB (pv 3) (pe_op op_add (pe_op op_pow pe_int pe_int) pe_int)) (pv 2)))) pss_nil)
    (pss_cons (ps_if (pt_cmpR op_eq (pe_op op_mod (pv 0) pe_int) pe_int (nomark _))
      (pss_cons (ps_set (i := 4) sc_law_place.nd rfl (Or.inl rfl) (pe_op op_shl pe_int (pe_op op_mul pe_int (pe_op op_mod (pv 3) (pe_op op_add (pv 1) pe_int)))))
      (pss_one (ps_ret (pe_op op_mod (pe_op op_sub (pe_op op_mulB (pe_op op_fdiv (pv 3) (pe_op op_add (pv 1) pe_int)) (pv 4)) (pe_op op_mod (pe_op op_fdiv (pv 3) pe_int) pe_int)) (pv 2))))) pss_nil)
    (pss_one (ps_ret (pe_op op_mod (pv 3) (pv 2)))))))), ?_⟩
  have hp := p4 n
  have fin : ∀ x : Int, Q (.int (x % 4 ^ n)) H := fun x => q _ (Int.emod_nonneg x (by omega)) (Int.emod_lt_of_pos x hp)
  refine ⟨_, rfl, _, _, rfl, rfl, .inl ⟨by decide, by decide⟩, _, _, rfl, rfl, ⟨by omega, by omega, by decide⟩, ?_⟩
  dsimp only
  rw [shl2]
  refine ⟨_, rfl, _, _, rfl, rfl, ⟨by decide, by decide⟩, ?_⟩
  refine ⟨_, rfl, _, _, rfl, rfl, (by show (0 : Int) < 4; decide), rfl, _, rfl, ite2 (fun _ => ?_) (fun _ => ?_)⟩
  · refine ⟨_, rfl, _, _, rfl, rfl, _, rfl, _, rfl, _, _, rfl, rfl, hp, _, _, rfl, rfl, ?_⟩
    have a1 := Int.emod_nonneg (c / 4) (show (4 : Int) ^ n ≠ 0 by omega)
    have a2 := Int.emod_lt_of_pos (c / 4) hp
    exact q _ (by omega) (by omega)
  refine ⟨_, rfl, _, _, rfl, rfl, (by show (0 : Int) < 4; decide), rfl, _, rfl, ite2 (fun _ => ?_) (fun _ => ?_)⟩
  · refine ⟨_, rfl, _, _, rfl, rfl, ⟨by decide, by decide, by decide⟩, _, _, rfl, rfl, _, _, rfl, rfl, ?_, _, rfl, _, _, rfl, rfl, hp, fin _⟩
    exact IntMulOk.of_le (m := 2 ^ 20) (n := 200) (bits_div (by decide) hb) (by decide +kernel) (by decide)
  refine ⟨_, rfl, _, _, rfl, rfl, (by show (0 : Int) < 4; decide), rfl, _, rfl, ite2 (fun _ => ?_) (fun _ => ?_)⟩
  · have a1 := Int.emod_nonneg (c / 4) (show (n : Int) + 1 ≠ 0 by omega)
    have a2 := Int.emod_lt_of_pos (c / 4) (show (0 : Int) < (n : Int) + 1 by omega)
    refine ⟨_, rfl, _, rfl, _, _, rfl, rfl, _, _, rfl, rfl, (by show (0 : Int) < (n : Int) + 1; omega), _, _, rfl, rfl, .inl ⟨by decide, by decide⟩, _, _, rfl, rfl, ⟨by omega, by omega, by decide⟩, ?_⟩
    refine ⟨_, rfl, _, rfl, _, _, rfl, rfl, _, _, rfl, rfl, ⟨by omega, by omega⟩, _, rfl, _, _, rfl, rfl, ?_, _, rfl, _, _, rfl, rfl, ⟨by decide, by decide⟩, _, _, rfl, rfl, (by show (0 : Int) < 2; decide), _, _, rfl, rfl, _, rfl, _, _, rfl, rfl, hp, fin _⟩
    exact IntMulOk.of_le (m := 2 ^ 20) (n := 200) (bits_div (by omega) (bits_div (by decide) hb)) (bits_pow (by omega)) (by decide)
  · exact ⟨_, rfl, _, rfl, _, _, rfl, rfl, hp, fin _⟩
end
section
variable {P : Program} {w : World} {K : PySem.W.Frag} {mg : Str → Option Value} {base : Heap}
theorem sc_law_folds : FnScope ["_law_cell"] ["_law_cell"] (defScope s_law_folds) := ⟨rfl, rfl, rfl, by decide +kernel, rfl, by decide +kernel, by decide +kernel⟩
theorem ok_law_folds (D : DefAt K mg "_law_folds" s_law_folds) : FnAt P w K mg base 1 "_law_folds" ["_law_cell"] spFolds := by
  refine FnAt.mk D sc_law_folds (fun _ _ _ _ _ _ us hl => match us, hl with | [_], _ => rfl) (fun vs H Q E h => ?_) (fun f cdv A outer s H vs Q E hr h => ?_)
  · obtain ⟨c, rfl, _⟩ := h; rfl
  obtain ⟨c, rfl, q⟩ := h
  refine ⟨_, pss_cons (ps_if (pt_cmpR op_eq (pe_op op_mod (pv 0) pe_int) pe_int (nomark _)) (pss_one (ps_ret (pe_op op_mod (pe_op op_fdiv (pv 0) pe_int) pe_int))) pss_nil)
    (pss_one (ps_ret (pe_op op_mod (pe_op op_fdiv (pv 0) pe_int) pe_int))), ?_⟩
  have fin : ∀ m : Int, 0 < m → m ≤ 61 → Q (.int (c / 8 % m)) H := fun m h0 h1 => by
    have a1 := Int.emod_nonneg (c / 8) (show m ≠ 0 by omega)
    have a2 := Int.emod_lt_of_pos (c / 8) h0
    obtain ⟨n, e⟩ := Int.eq_ofNat_of_zero_le a1
    rw [e]
    exact q n (by omega)
  refine ⟨_, rfl, _, _, rfl, rfl, (by show (0 : Int) < 8; decide), rfl, _, rfl, ite2 (fun _ => ?_) (fun _ => ?_)⟩
  · exact ⟨_, rfl, _, _, rfl, rfl, ⟨by decide, by decide⟩, _, _, rfl, rfl, (by show (0 : Int) < 61; decide), fin 61 (by decide) (by decide)⟩
  · exact ⟨_, rfl, _, _, rfl, rfl, ⟨by decide, by decide⟩, _, _, rfl, rfl, (by show (0 : Int) < 8; decide), fin 8 (by decide) (by decide)⟩
end
def spWhole : Sp := fun vs H Q _ => ∃ i : Int, vs = [.int i] ∧ Q (.bl true) H
section
variable {P : Program} {w : World} {K : PySem.W.Frag} {mg : Str → Option Value} {base : Heap}
/-- the built-in names that the law asks -/
structure Blt (mg : Str → Option Value) : Prop where
  isi : mg "isinstance" = none
  int : mg "int" = none
  bool : mg "bool" = none
  tuple : mg "tuple" = none
  len : mg "len" = none
theorem kit_ii (K : PySem.W.Frag) : PySem.W.kitOne K (.type "int") (.type "int") = some true := by with_unfolding_all rfl
theorem kit_ib (K : PySem.W.Frag) : PySem.W.kitOne K (.type "int") (.type "bool") = some false := by with_unfolding_all rfl
theorem kit_tt (K : PySem.W.Frag) : PySem.W.kitOne K (.type "tuple") (.type "tuple") = some true := by with_unfolding_all rfl
theorem sc_law_whole : FnScope ["_law_found"] ["_law_found"] (defScope s_law_whole) := ⟨rfl, rfl, rfl, by decide +kernel, rfl, by decide +kernel, by decide +kernel⟩
theorem ok_law_whole (D : DefAt K mg "_law_whole" s_law_whole) (B : Blt mg) : FnAt P w K mg base 1 "_law_whole" ["_law_found"] spWhole := by
  refine FnAt.mk D sc_law_whole (fun _ _ _ _ _ _ us hl => match us, hl with | [_], _ => rfl) (fun vs H Q E h => ?_) (fun f cdv A outer s H vs Q E hr h => ?_)
  · obtain ⟨c, rfl, _⟩ := h; rfl
  obtain ⟨i, rfl, q⟩ := h
  refine ⟨_, pss_one (ps_ret (pe_and (pe_callB call_isinst (by rfl) B.isi PyProof.Rows.boot_isinstance (pa_cons (pv 0) (pa_cons (pe_bltn (v := .ty "int") (by rfl) B.int PyProof.Rows.boot_int rfl) pa_nil)))
    (pe_one (pe_not (pe_callB call_isinst (by rfl) B.isi PyProof.Rows.boot_isinstance (pa_cons (pv 0) (pa_cons (pe_bltn (v := .ty "bool") (by rfl) B.bool PyProof.Rows.boot_bool rfl) pa_nil))))))), ?_⟩
  refine ⟨_, rfl, _, _, _, _, rfl, .int i, kit_ii _, _, rfl, iteT ?_⟩
  exact ⟨_, rfl, _, _, _, _, rfl, .int i, kit_ib _, _, rfl, q⟩
end
theorem unit_div {x u : Int} (hu : 0 < u) (hx : 0 ≤ x) : 0 ≤ x / u * u ∧ x / u * u ≤ x := by
  have a1 := Int.emod_nonneg x (show u ≠ 0 by omega)
  have e := Int.emod_add_mul_ediv x u
  rw [Int.mul_comm] at e
  have h := Int.mul_nonneg (Int.ediv_nonneg hx (by omega) : 0 ≤ x / u) (by omega : 0 ≤ u)
  omega
/-! ### a part of the script -/
theorem p4_60 {n : Nat} (h : n ≤ 60) : (4 : Int) ^ n ≤ 1329227995784915872903807060280344576 := p4mono h
/-! ### a line of the floor -/
def spLine : Sp := fun vs H Q _ => ∃ (c : Int) (n : Nat), vs = [.int c, .int n] ∧ n ≤ 60 ∧ ∀ p : Int, 0 ≤ p → p < 2 ^ n → Q (.int p) H
section
variable {P : Program} {w : World} {K : PySem.W.Frag} {mg : Str → Option Value} {base : Heap}
theorem sc_law_line : FnScope ["_law_cell", "_law_folds_here", "_law_side", "_law_rest", "_law_unit"] ["_law_cell", "_law_folds_here"] (defScope s_law_line) := ⟨rfl, rfl, rfl, by decide +kernel, rfl, by decide +kernel, by decide +kernel⟩
theorem ok_law_line (D : DefAt K mg "_law_line" s_law_line) : FnAt P w K mg base 1 "_law_line" ["_law_cell", "_law_folds_here"] spLine := by
  refine FnAt.mk D sc_law_line (fun _ _ _ _ _ _ us hl => match us, hl with | [_, _], _ => rfl) (fun vs H Q E h => ?_) (fun f cdv A outer s H vs Q E hr h => ?_)
  · obtain ⟨c, n, rfl, _⟩ := h; rfl
  obtain ⟨c, n, rfl, hn, q⟩ := h
  refine ⟨_, pss_cons (ps_set (i := 2) sc_law_line.nd rfl (Or.inl rfl) (pe_op op_shl pe_int (pv 1)))
    (pss_cons (ps_set (i := 3) sc_law_line.nd rfl (Or.inl rfl) (pe_op op_fdiv (pv 0) pe_int))
    (pss_cons (ps_if (pt_cmpR op_eq (pe_op op_mod (pv 0) pe_int) pe_int (nomark _)) (pss_one (ps_ret (pe_op op_sub (pe_op op_sub (pv 2) pe_int) (pe_op op_mod (pv 3) (pv 2))))) pss_nil)
    (pss_cons (ps_if (pt_cmpR op_eq (pe_op op_mod (pv 0) pe_int) pe_int (nomark _)) (pss_one (ps_ret (pe_op op_mod (pe_op op_mul (pv 3) (pe_op op_add (pe_op op_pow pe_int pe_int) pe_int)) (pv 2)))) pss_nil)
    (pss_cons (ps_if (pt_cmpR op_eq (pe_op op_mod (pv 0) pe_int) pe_int (nomark _))
      (pss_cons (ps_set (i := 4) sc_law_line.nd rfl (Or.inl rfl) (pe_op op_shl pe_int (pe_op op_mod (pv 3) (pe_op op_add (pv 1) pe_int))))
      (pss_one (ps_ret (pe_op op_mod (pe_op op_sub (pe_op op_mul (pe_op op_fdiv (pv 3) (pe_op op_add (pv 1) pe_int)) (pv 4)) (pe_op op_mod (pe_op op_fdiv (pv 3) pe_int) pe_int)) (pv 2))))) pss_nil)
    (pss_one (ps_ret (pe_op op_mod (pv 3) (pv 2)))))))), ?_⟩
  have hp := p2 n
  have fin : ∀ x : Int, Q (.int (x % 2 ^ n)) H := fun x => q _ (Int.emod_nonneg x (by omega)) (Int.emod_lt_of_pos x hp)
  refine ⟨_, rfl, _, _, rfl, rfl, ⟨by omega, by omega, by decide⟩, ?_⟩
  dsimp only
  rw [shl1]
  refine ⟨_, rfl, _, _, rfl, rfl, ⟨by decide, by decide⟩, ?_⟩
  refine ⟨_, rfl, _, _, rfl, rfl, (by show (0 : Int) < 4; decide), rfl, _, rfl, ite2 (fun _ => ?_) (fun _ => ?_)⟩
  · refine ⟨_, rfl, _, _, rfl, rfl, _, rfl, _, rfl, _, _, rfl, rfl, hp, _, _, rfl, rfl, ?_⟩
    have a1 := Int.emod_nonneg (c / 4) (show (2 : Int) ^ n ≠ 0 by omega)
    have a2 := Int.emod_lt_of_pos (c / 4) hp
    exact q _ (by omega) (by omega)
  refine ⟨_, rfl, _, _, rfl, rfl, (by show (0 : Int) < 4; decide), rfl, _, rfl, ite2 (fun _ => ?_) (fun _ => ?_)⟩
  · exact ⟨_, rfl, _, _, rfl, rfl, ⟨by decide, by decide, by decide⟩, _, _, rfl, rfl, _, _, rfl, rfl, .inr ⟨by decide, by decide⟩, _, rfl, _, _, rfl, rfl, hp, fin _⟩
  refine ⟨_, rfl, _, _, rfl, rfl, (by show (0 : Int) < 4; decide), rfl, _, rfl, ite2 (fun _ => ?_) (fun _ => ?_)⟩
  · have a1 := Int.emod_nonneg (c / 4) (show (n : Int) + 1 ≠ 0 by omega)
    have a2 := Int.emod_lt_of_pos (c / 4) (show (0 : Int) < (n : Int) + 1 by omega)
    have b1 := p2_60 (n := (c / 4 % ((n : Int) + 1)).toNat) (by omega)
    have b2 := p2 (c / 4 % ((n : Int) + 1)).toNat
    refine ⟨_, rfl, _, rfl, _, _, rfl, rfl, _, _, rfl, rfl, (by show (0 : Int) < (n : Int) + 1; omega), _, _, rfl, rfl, ⟨by omega, by omega, by decide⟩, ?_⟩
    exact ⟨_, rfl, _, rfl, _, _, rfl, rfl, _, _, rfl, rfl, ⟨by omega, by omega⟩, _, rfl, _, _, rfl, rfl, .inr ⟨by omega, by omega⟩, _, rfl, _, _, rfl, rfl, ⟨by decide, by decide⟩, _, _, rfl, rfl, (by show (0 : Int) < 2; decide), _, _, rfl, rfl, _, rfl, _, _, rfl, rfl, hp, fin _⟩
  · exact ⟨_, rfl, _, rfl, _, _, rfl, rfl, hp, fin _⟩
end
/-! ### boxes -/
def spSpan : Sp := fun vs H Q _ => ∃ (c d : Int) (n : Nat), vs = [.int c, .int d, .int n] ∧ n ≤ 60 ∧
  ∀ (p : Addr) (H' : Hp) (lo hi : Int), Same H H' → H' p = some (.tup [.int lo, .int hi]) → 0 ≤ lo → lo ≤ hi → hi < 2 ^ n → Q (.ref p) H'
def spBox (K : PySem.W.Frag) : Sp := fun vs H Q _ => ∃ (a : Addr) (ns : List Int) (k n : Nat), vs = [.ref a, .int k, .int n] ∧ SqL K H a (ns.map V.int) ∧ n ≤ 60 ∧
  ∀ (p : Addr) (H' : Hp) (x : B4), Same H H' → H' p = some (.tup [.int x.l, .int x.b, .int x.r, .int x.t]) → Box (2 ^ n) x → Q (.ref p) H'
section
variable {P : Program} {w : World} {K : PySem.W.Frag} {mg : Str → Option Value} {base : Heap}
theorem sc_law_span : FnScope ["_law_one", "_law_two", "_law_folds_here", "_law_side", "_law_low", "_law_rest", "_law_unit", "_law_high"] ["_law_one", "_law_two", "_law_folds_here"] (defScope s_law_span) := ⟨rfl, rfl, rfl, by decide +kernel, rfl, by decide +kernel, by decide +kernel⟩
theorem ok_law_span (D : DefAt K mg "_law_span" s_law_span) (mn : mg "min" = none) (mx : mg "max" = none) (GL : FnAt P w K mg base 1 "_law_line" ["_law_cell", "_law_folds_here"] spLine) : FnAt P w K mg base 2 "_law_span" ["_law_one", "_law_two", "_law_folds_here"] spSpan := by
  refine FnAt.mk D sc_law_span (fun _ _ _ _ _ _ us hl => match us, hl with | [_, _, _], _ => rfl) (fun vs H Q E h => ?_) (fun f cdv A outer s H vs Q E hr h => ?_)
  · obtain ⟨c, d, n, rfl, _⟩ := h; rfl
  obtain ⟨c, d, n, rfl, hn, k⟩ := h
  refine ⟨_, pss_cons (ps_set (i := 3) sc_law_span.nd rfl (Or.inl rfl) (pe_op op_shl pe_int (pv 2)))
    (pss_cons (ps_set (i := 4) sc_law_span.nd rfl (Or.inl rfl) (pe_fn GL hr (by rfl) (pa_cons (pv 0) (pa_cons (pv 2) pa_nil))))
    (pss_cons (ps_set (i := 5) sc_law_span.nd rfl (Or.inl rfl) (pe_op op_fdiv (pv 1) pe_int))
    (pss_cons (ps_if (pt_cmpR op_eq (pe_op op_mod (pv 1) pe_int) pe_int (nomark _)) (pss_one (ps_ret (pe_tup (pa_cons (pv 4) (pa_cons (pe_callB (call_min2 rfl) (by rfl) mn PyProof.Rows.boot_min (pa_cons (pe_op op_add (pv 4) (pe_op op_mod (pv 5) pe_int)) (pa_cons (pe_op op_sub (pv 3) pe_int) pa_nil))) pa_nil))))) pss_nil)
    (pss_cons (ps_if (pt_cmpR op_eq (pe_op op_mod (pv 1) pe_int) pe_int (nomark _)) (pss_one (ps_ret (pe_ix ix_list (pe_lst (pa_cons (pe_tup (pa_cons pe_int (pa_cons (pv 4) pa_nil))) (pa_cons (pe_tup (pa_cons (pv 4) (pa_cons (pe_op op_sub (pv 3) pe_int) pa_nil))) pa_nil))) (pe_op op_mod (pv 5) pe_int) (fun _ _ => rfl)))) pss_nil)
    (pss_cons (ps_if (pt_cmpR op_eq (pe_op op_mod (pv 1) pe_int) pe_int (nomark _))
      (pss_cons (ps_set (i := 6) sc_law_span.nd rfl (Or.inl rfl) (pe_op op_shl pe_int (pe_op op_mod (pv 5) (pe_op op_add (pv 2) pe_int))))
      (pss_cons (ps_set (i := 4) sc_law_span.nd rfl (Or.inl rfl) (pe_op op_mul (pe_op op_fdivL (pv 4) (pv 6)) (pv 6)))
      (pss_one (ps_ret (pe_tup (pa_cons (pv 4) (pa_cons (pe_op op_sub (pe_callB (call_min2 rfl) (by rfl) mn PyProof.Rows.boot_min (pa_cons (pe_op op_add (pv 4) (pe_op op_mul (pv 6) (pe_op op_add pe_int (pe_op op_mod (pe_op op_fdiv (pv 5) (pe_op op_add (pv 2) pe_int)) pe_int)))) (pa_cons (pv 3) pa_nil))) pe_int) pa_nil))))))) pss_nil)
    (pss_cons (ps_set (i := 7) sc_law_span.nd rfl (Or.inl rfl) (pe_fn GL hr (by rfl) (pa_cons (pv 5) (pa_cons (pv 2) pa_nil))))
    (pss_one (ps_ret (pe_tup (pa_cons (pe_callB (call_min2 rfl) (by rfl) mn PyProof.Rows.boot_min (pa_cons (pv 4) (pa_cons (pv 7) pa_nil))) (pa_cons (pe_callB (call_max2 rfl) (by rfl) mx PyProof.Rows.boot_max (pa_cons (pv 4) (pa_cons (pv 7) pa_nil))) pa_nil))))))))))), ?_⟩
  have z2 : ([V.non, V.non] : List V).length ≤ sizeLine := by show 2 ≤ sizeLine; decide
  have hp2 := p2 n
  have hp60 := p2_60 hn
  refine ⟨_, rfl, _, _, rfl, rfl, ⟨by omega, by omega, by decide⟩, ?_⟩
  dsimp only
  rw [shl1]
  refine ⟨_, rfl, _, rfl, _, n, rfl, hn, fun x x0 x1 => ?_⟩
  refine ⟨_, rfl, _, _, rfl, rfl, ⟨by decide, by decide⟩, ?_⟩
  have m2 : 0 ≤ d / 4 % 8 := Int.emod_nonneg _ (by decide)
  refine ⟨_, rfl, _, _, rfl, rfl, (by show (0 : Int) < 4; decide), rfl, _, rfl, ite2 (fun _ => ?_) (fun _ => ?_)⟩
  · refine ⟨_, rfl, _, rfl, _, rfl, _, _, rfl, rfl, (by show (0 : Int) < 8; decide), _, _, rfl, rfl, _, rfl, _, _, rfl, rfl, _, _, rfl, z2, fun p hp => ?_⟩
    exact k p _ _ _ (same_new hp _) upd_same x0 (by split <;> omega) (by split <;> omega)
  refine ⟨_, rfl, _, _, rfl, rfl, (by show (0 : Int) < 4; decide), rfl, _, rfl, ite2 (fun _ => ?_) (fun _ => ?_)⟩
  · refine ⟨_, rfl, z2, fun t0 f0 => ?_⟩
    refine ⟨_, rfl, _, rfl, _, _, rfl, rfl, z2, fun t1 f1 => ?_⟩
    refine ⟨z2, fun l fl => ?_⟩
    have g0 := same_new f0 (.tup [.int 0, .int x])
    have g1 := same_new f1 (.tup [.int x, .int (2 ^ n - 1)])
    have g2 := same_new fl (.lst [.ref t0, .ref t1])
    refine ⟨_, rfl, _, _, rfl, rfl, (by show (0 : Int) < 2; decide), ?_⟩
    have : d / 4 % 2 = 0 ∨ d / 4 % 2 = 1 := by omega
    rcases this with e | e
    · refine ⟨l, _, d / 4 % 2, .ref t0, rfl, rfl, SqL.of upd_same, by rw [e]; rfl, ?_⟩
      exact k t0 _ _ _ ((g0.trans g1).trans g2) (g2 _ _ (g1 _ _ upd_same)) (Int.le_refl 0) x0 x1
    · refine ⟨l, _, d / 4 % 2, .ref t1, rfl, rfl, SqL.of upd_same, by rw [e]; rfl, ?_⟩
      exact k t1 _ _ _ ((g0.trans g1).trans g2) (g2 _ _ upd_same) x0 (by omega) (by omega)
  refine ⟨_, rfl, _, _, rfl, rfl, (by show (0 : Int) < 4; decide), rfl, _, rfl, ite2 (fun _ => ?_) (fun _ => ?_)⟩
  · have a1 := Int.emod_nonneg (d / 4) (show (n : Int) + 1 ≠ 0 by omega)
    have a2 := Int.emod_lt_of_pos (d / 4) (show (0 : Int) < (n : Int) + 1 by omega)
    refine ⟨_, rfl, _, rfl, _, _, rfl, rfl, _, _, rfl, rfl, (by show (0 : Int) < (n : Int) + 1; omega), _, _, rfl, rfl, ⟨by omega, by omega, by decide⟩, ?_⟩
    obtain ⟨j, hj⟩ : ∃ j, j = (d / 4 % ((n : Int) + 1)).toNat := ⟨_, rfl⟩
    have b1 := p2_60 (n := j) (by omega)
    have b2 := p2 j
    have b3 : (2 : Int) ^ j ≤ 2 ^ n := p2mono (by omega)
    dsimp only
    rw [Int.one_mul, ← hj]
    have ud := unit_div (u := 2 ^ j) b2 x0
    refine ⟨_, rfl, _, rfl, _, _, rfl, rfl, ⟨b2, by omega⟩, _, rfl, _, _, rfl, rfl, .inr ⟨by omega, by omega⟩, ?_⟩
    have m4 : 0 ≤ d / 4 / ((n : Int) + 1) % 4 := Int.emod_nonneg _ (by decide)
    have m5 : d / 4 / ((n : Int) + 1) % 4 < 4 := Int.emod_lt_of_pos _ (by decide)
    have mm : 2 ^ j * 1 ≤ 2 ^ j * (1 + d / 4 / ((n : Int) + 1) % 4) := Int.mul_le_mul_of_nonneg_left (by omega) (by omega)
    refine ⟨_, rfl, _, rfl, _, rfl, _, rfl, _, rfl, _, _, rfl, rfl, _, _, rfl, rfl, ⟨by omega, by omega⟩, _, _, rfl, rfl, (by show (0 : Int) < 4; decide), _, _, rfl, rfl, _, _, rfl, rfl, .inl ⟨by omega, by omega⟩, _, _, rfl, rfl, _, rfl, _, _, rfl, _, _, rfl, rfl, z2, fun p hp => ?_⟩
    exact k p _ _ _ (same_new hp _) upd_same ud.1 (by split <;> omega) (by split <;> omega)
  refine ⟨_, rfl, _, rfl, _, n, rfl, hn, fun y y0 y1 => ?_⟩
  refine ⟨_, rfl, _, rfl, _, _, rfl, _, rfl, _, rfl, _, _, rfl, z2, fun p hp => ?_⟩
  exact k p _ _ _ (same_new hp _) upd_same (by split <;> omega) (by split <;> split <;> omega) (by split <;> omega)
theorem sc_law_box : FnScope ["_law_script", "_law_at", "_law_folds_here", "_law_across", "_law_up"] ["_law_script", "_law_at", "_law_folds_here"] (defScope s_law_box) := ⟨rfl, rfl, rfl, by decide +kernel, rfl, by decide +kernel, by decide +kernel⟩
theorem ok_law_box (D : DefAt K mg "_law_box" s_law_box) (GR : FnAt P w K mg base 1 "_law_cell_at" ["_law_script", "_law_k"] (spCell K)) (GS : FnAt P w K mg base 2 "_law_span" ["_law_one", "_law_two", "_law_folds_here"] spSpan) :
    FnAt P w K mg base 3 "_law_box" ["_law_script", "_law_at", "_law_folds_here"] (spBox K) := by
  refine FnAt.mk D sc_law_box (fun _ _ _ _ _ _ us hl => match us, hl with | [_, _, _], _ => rfl) (fun vs H Q E h => ?_) (fun f cdv A outer s H vs Q E hr h => ?_)
  · obtain ⟨a, ns, k, n, rfl, _⟩ := h; rfl
  obtain ⟨a, ns, k, n, rfl, hS, hn, q⟩ := h
  have hr1 := hr.mono (j := 1) (by decide)
  refine ⟨_, pss_cons (ps_set (i := 3) sc_law_box.nd rfl (Or.inl rfl) (pe_fn GS hr (by rfl) (pa_cons (pe_fn GR hr1 (by rfl) (pa_cons (pv 0) (pa_cons (pv 1) pa_nil))) (pa_cons (pe_fn GR hr1 (by rfl) (pa_cons (pv 0) (pa_cons (pe_op op_add (pv 1) pe_int) pa_nil))) (pa_cons (pv 2) pa_nil)))))
    (pss_cons (ps_set (i := 4) sc_law_box.nd rfl (Or.inl rfl) (pe_fn GS hr (by rfl) (pa_cons (pe_fn GR hr1 (by rfl) (pa_cons (pv 0) (pa_cons (pe_op op_add (pv 1) pe_int) pa_nil))) (pa_cons (pe_fn GR hr1 (by rfl) (pa_cons (pv 0) (pa_cons (pe_op op_add (pv 1) pe_int) pa_nil))) (pa_cons (pv 2) pa_nil)))))
    (pss_one (ps_ret (pe_tup (pa_cons (pe_ix ix_tup (pv 3) pe_int (fun _ _ => rfl)) (pa_cons (pe_ix ix_tup (pv 4) pe_int (fun _ _ => rfl)) (pa_cons (pe_ix ix_tup (pv 3) pe_int (fun _ _ => rfl)) (pa_cons (pe_ix ix_tup (pv 4) pe_int (fun _ _ => rfl)) pa_nil)))))))), ?_⟩
  refine ⟨_, rfl, _, rfl, a, ns, k, rfl, hS, ?_⟩
  refine ⟨_, rfl, _, rfl, _, _, rfl, rfl, a, ns, k + 1, rfl, hS, ?_⟩
  refine ⟨_, rfl, _, _, n, rfl, hn, fun p H1 lo hi s1 e1 l0 l1 l2 => ?_⟩
  refine ⟨_, rfl, _, rfl, _, _, rfl, rfl, a, ns, k + 2, rfl, s1.seq hS, ?_⟩
  refine ⟨_, rfl, _, rfl, _, _, rfl, rfl, a, ns, k + 3, rfl, s1.seq hS, ?_⟩
  refine ⟨_, rfl, _, _, n, rfl, hn, fun p' H2 lo' hi' s2 e2 m0 m1 m2 => ?_⟩
  have e1' := s2 _ _ e1
  refine ⟨_, rfl, p, _, _, _, rfl, rfl, SqT.of e1', rfl, _, rfl, p', _, _, _, rfl, rfl, SqT.of e2, rfl, _, rfl, p, _, _, _, rfl, rfl, SqT.of e1', rfl, _, rfl, p', _, _, _, rfl, rfl, SqT.of e2, rfl, (by show 4 ≤ sizeLine; decide), fun b hb => ?_⟩
  exact q b _ ⟨lo, lo', hi, hi'⟩ ((s1.trans s2).trans (same_new hb _)) upd_same ⟨l0, l1, l2, m0, m1, m2⟩
end
def spWithin (K : PySem.W.Frag) : Sp := fun vs H Q _ => ∃ (a d : Addr) (c : Int × Int) (l b r t : Int), vs = [.ref a, .ref d] ∧ SqT K H a [.int c.1, .int c.2] ∧ SqT K H d [.int l, .int b, .int r, .int t] ∧ Q (.bl (inB c l b r t)) H
section
variable {P : Program} {w : World} {K : PySem.W.Frag} {mg : Str → Option Value} {base : Heap}
theorem sc_law_within : FnScope ["_law_cell", "_law_box_here"] ["_law_cell", "_law_box_here"] (defScope s_law_within) := ⟨rfl, rfl, rfl, by decide +kernel, rfl, by decide +kernel, by decide +kernel⟩
theorem ok_law_within (D : DefAt K mg "_law_within" s_law_within) : FnAt P w K mg base 1 "_law_within" ["_law_cell", "_law_box_here"] (spWithin K) := by
  refine FnAt.mk D sc_law_within (fun _ _ _ _ _ _ us hl => match us, hl with | [_, _], _ => rfl) (fun vs H Q E h => ?_) (fun f cdv A outer s H vs Q E hr h => ?_)
  · obtain ⟨a, d, c, l, b, r, t, rfl, _⟩ := h; rfl
  obtain ⟨a, d, c, l, b, r, t, rfl, ha, hd, q⟩ := h
  refine ⟨_, pss_one (ps_ret (pe_and (pe_chain op_le op_le (pe_ix ix_tup (pv 1) pe_int (fun _ _ => rfl)) (pe_ix ix_tup (pv 0) pe_int (fun _ _ => rfl)) (pe_ix ix_tup (pv 1) pe_int (fun _ _ => rfl)))
    (pe_one (pe_chain op_le op_le (pe_ix ix_tup (pv 1) pe_int (fun _ _ => rfl)) (pe_ix ix_tup (pv 0) pe_int (fun _ _ => rfl)) (pe_ix ix_tup (pv 1) pe_int (fun _ _ => rfl)))))), ?_⟩
  unfold inB at q
  refine ⟨_, rfl, d, _, _, _, rfl, rfl, hd, rfl, _, rfl, a, _, _, _, rfl, rfl, ha, rfl, _, _, rfl, rfl, _, rfl, ?_⟩
  by_cases h1 : l ≤ c.1
  · rw [decide_eq_true h1, Bool.true_and] at q
    refine iteDT h1 ⟨_, rfl, d, _, _, _, rfl, rfl, hd, rfl, _, _, rfl, rfl, _, rfl, ?_⟩
    by_cases h2 : c.1 ≤ r
    · rw [decide_eq_true h2, Bool.true_and] at q
      refine iteDT h2 ⟨_, rfl, d, _, _, _, rfl, rfl, hd, rfl, _, rfl, a, _, _, _, rfl, rfl, ha, rfl, _, _, rfl, rfl, _, rfl, ?_⟩
      by_cases h3 : b ≤ c.2
      · rw [decide_eq_true h3, Bool.true_and] at q
        exact iteDT h3 ⟨_, rfl, d, _, _, _, rfl, rfl, hd, rfl, _, _, rfl, rfl, q⟩
      · rw [decide_eq_false h3, Bool.false_and] at q
        exact iteDF h3 q
    · rw [decide_eq_false h2, Bool.false_and] at q
      exact iteDF h2 q
  · rw [decide_eq_false h1, Bool.false_and, Bool.false_and] at q
    exact iteDF h1 ⟨_, rfl, iteF q⟩
end
/-! ### the program's boxes -/
/-- the part of a box, as a value -/
def BxV (K : PySem.W.Frag) (H : Hp) (v : V) : Bx → Prop
  | none => v = .non
  | some y => ∃ a, v = .ref a ∧ SqT K H a [.int y.l, .int y.b, .int y.r, .int y.t]
theorem BxV.same {K : PySem.W.Frag} {H H' : Hp} {v : V} {x : Bx} (e : Same H H') (h : BxV K H v x) : BxV K H' v x := by
  cases x with
  | none => exact h
  | some y => obtain ⟨a, rfl, h⟩ := h; exact ⟨a, rfl, e.tup h⟩
def spChkB (K : PySem.W.Frag) : Sp := fun vs H Q _ => ∃ (a : Addr) (x : B4) (s : Int), vs = [.ref a, .int s] ∧ SqT K H a [.int x.l, .int x.b, .int x.r, .int x.t] ∧ Box s x ∧ Q .non H
def spChkN : Sp := fun vs H Q _ => ∃ p e : Int, vs = [.int p, .int e] ∧ 0 ≤ p ∧ p < e ∧ Q .non H
def spCellsIn (K : PySem.W.Frag) : Sp := fun vs H Q _ => ∃ (v : V) (x : Bx) (m : Nat), vs = [v] ∧ BxV K H v x ∧ Good x (2 ^ m) ∧ m ≤ 60 ∧ Q (.int (ar x)) H
def spPart (K : PySem.W.Frag) : Sp := fun vs H Q _ => ∃ (v : V) (x : Bx) (s q : Int), vs = [v, .int s, .int q] ∧ BxV K H v x ∧ (0 ≤ q ∧ q < 4) ∧ ∀ (H' : Hp) (u : V), Same H H' → BxV K H' u (part x s q) → Q u H'
section
variable {P : Program} {w : World} {K : PySem.W.Frag} {mg : Str → Option Value} {base : Heap}
theorem sc_check_box : FnScope ["box", "side"] ["box", "side"] (defScope s_check_box) := ⟨rfl, rfl, rfl, by decide +kernel, rfl, by decide +kernel, by decide +kernel⟩
theorem ok_check_box (D : DefAt K mg "check_box" s_check_box) : FnAt P w K mg base 1 "check_box" ["box", "side"] (spChkB K) := by
  refine FnAt.mk D sc_check_box (fun _ _ _ _ _ _ us hl => match us, hl with | [_, _], _ => rfl) (fun vs H Q E h => ?_) (fun f cdv A outer s H vs Q E hr h => ?_)
  · obtain ⟨a, x, e, rfl, _⟩ := h; rfl
  obtain ⟨a, x, e, rfl, hS, ⟨h1, h2, h3, h4, h5, h6⟩, q⟩ := h
  refine ⟨_, pss_cons (ps_if (pw_or (pt_cmpR op_lt (pe_ix ix_tup (pv 0) pe_int (fun _ _ => rfl)) pe_int (nomark _)) (pw_or (pt_cmpR op_gt (pe_ix ix_tup (pv 0) pe_int (fun _ _ => rfl)) (pe_ix ix_tup (pv 0) pe_int (fun _ _ => rfl)) (nomark _)) (pw_or1 (pt_cmpR op_ge (pe_ix ix_tup (pv 0) pe_int (fun _ _ => rfl)) (pv 1) (nomark _))))).pt pss_never pss_nil)
    (pss_one (ps_if (pw_or (pt_cmpR op_lt (pe_ix ix_tup (pv 0) pe_int (fun _ _ => rfl)) pe_int (nomark _)) (pw_or (pt_cmpR op_gt (pe_ix ix_tup (pv 0) pe_int (fun _ _ => rfl)) (pe_ix ix_tup (pv 0) pe_int (fun _ _ => rfl)) (nomark _)) (pw_or1 (pt_cmpR op_ge (pe_ix ix_tup (pv 0) pe_int (fun _ _ => rfl)) (pv 1) (nomark _))))).pt pss_never pss_nil)), ?_⟩
  refine ⟨_, rfl, a, _, _, _, rfl, rfl, hS, rfl, _, _, rfl, rfl, _, rfl, iteDF (by omega) ?_⟩
  refine ⟨_, rfl, a, _, _, _, rfl, rfl, hS, rfl, _, rfl, a, _, _, _, rfl, rfl, hS, rfl, _, _, rfl, rfl, _, rfl, iteDF (by omega) ?_⟩
  refine ⟨_, rfl, a, _, _, _, rfl, rfl, hS, rfl, _, rfl, _, _, rfl, rfl, _, rfl, iteDF (by omega) ?_⟩
  refine ⟨_, rfl, a, _, _, _, rfl, rfl, hS, rfl, _, _, rfl, rfl, _, rfl, iteDF (by omega) ?_⟩
  refine ⟨_, rfl, a, _, _, _, rfl, rfl, hS, rfl, _, rfl, a, _, _, _, rfl, rfl, hS, rfl, _, _, rfl, rfl, _, rfl, iteDF (by omega) ?_⟩
  exact ⟨_, rfl, a, _, _, _, rfl, rfl, hS, rfl, _, rfl, _, _, rfl, rfl, _, rfl, iteDF (by omega) q⟩
theorem sc_cells_in : FnScope ["box"] ["box"] (defScope s_cells_in) := ⟨rfl, rfl, rfl, by decide +kernel, rfl, by decide +kernel, by decide +kernel⟩
theorem ok_cells_in (D : DefAt K mg "cells_in" s_cells_in) : FnAt P w K mg base 1 "cells_in" ["box"] (spCellsIn K) := by
  refine FnAt.mk D sc_cells_in (fun _ _ _ _ _ _ us hl => match us, hl with | [_], _ => rfl) (fun vs H Q E h => ?_) (fun f cdv A outer s H vs Q E hr h => ?_)
  · obtain ⟨v, x, m, rfl, _⟩ := h; rfl
  obtain ⟨v, x, m, rfl, hv, hg, hm, q⟩ := h
  refine ⟨_, pss_cons (ps_if (pt_cmp (pc_isN (pv 0))) (pss_one (ps_ret pe_int)) pss_nil)
    (pss_one (ps_ret (pe_op op_mul (pe_op op_add (pe_op op_sub (pe_ix ix_tup (pv 0) pe_int (fun _ _ => rfl)) (pe_ix ix_tup (pv 0) pe_int (fun _ _ => rfl))) pe_int) (pe_op op_add (pe_op op_sub (pe_ix ix_tup (pv 0) pe_int (fun _ _ => rfl)) (pe_ix ix_tup (pv 0) pe_int (fun _ _ => rfl))) pe_int)))), ?_⟩
  cases x with
  | none =>
    cases hv
    exact ⟨_, rfl, _, rfl, iteDT rfl q⟩
  | some x =>
    obtain ⟨a, rfl, hS⟩ := hv
    obtain ⟨h1, h2, h3, h4, h5, h6⟩ := hg x rfl
    have b := p2_60 hm
    refine ⟨_, rfl, _, rfl, iteDF (by intro z; cases z) ?_⟩
    exact ⟨_, rfl, a, _, _, _, rfl, rfl, hS, rfl, _, rfl, a, _, _, _, rfl, rfl, hS, rfl, _, _, rfl, rfl, _, _, rfl, rfl, _, rfl, a, _, _, _, rfl, rfl, hS, rfl, _, rfl, a, _, _, _, rfl, rfl, hS, rfl, _, _, rfl, rfl, _, _, rfl, rfl, _, _, rfl, rfl, .inl ⟨by omega, by omega⟩, q⟩
theorem sc_part_in : FnScope ["box", "side", "quarter", "corner", "other", "left", "low", "right", "high"] ["box", "side", "quarter"] (defScope s_part_in) := ⟨rfl, rfl, rfl, by decide +kernel, rfl, by decide +kernel, by decide +kernel⟩
theorem ok_part_in (D : DefAt K mg "part_in" s_part_in) (mn : mg "min" = none) (mx : mg "max" = none) (GO : FnAt P w K mg base 1 "out_of_quarter" ["cell", "side", "quarter"] (spOut K)) : FnAt P w K mg base 2 "part_in" ["box", "side", "quarter"] (spPart K) := by
  refine FnAt.mk D sc_part_in (fun _ _ _ _ _ _ us hl => match us, hl with | [_, _, _], _ => rfl) (fun vs H Q E h => ?_) (fun f cdv A outer s H vs Q E hr h => ?_)
  · obtain ⟨v, x, s, q, rfl, _⟩ := h; rfl
  obtain ⟨v, x, sd, q, rfl, hv, hq, k⟩ := h
  refine ⟨_, pss_cons (ps_if (pt_cmp (pc_isN (pv 0))) (pss_one (ps_ret pe_non)) pss_nil)
    (pss_cons (ps_set (i := 3) sc_part_in.nd rfl (Or.inl rfl) (pe_fn GO hr (by rfl) (pa_cons (pe_tup (pa_cons (pe_ix ix_tup (pv 0) pe_int (fun _ _ => rfl)) (pa_cons (pe_ix ix_tup (pv 0) pe_int (fun _ _ => rfl)) pa_nil))) (pa_cons (pv 1) (pa_cons (pv 2) pa_nil)))))
    (pss_cons (ps_set (i := 4) sc_part_in.nd rfl (Or.inl rfl) (pe_fn GO hr (by rfl) (pa_cons (pe_tup (pa_cons (pe_ix ix_tup (pv 0) pe_int (fun _ _ => rfl)) (pa_cons (pe_ix ix_tup (pv 0) pe_int (fun _ _ => rfl)) pa_nil))) (pa_cons (pv 1) (pa_cons (pv 2) pa_nil)))))
    (pss_cons (ps_set (i := 5) sc_part_in.nd rfl (Or.inl rfl) (pe_callB (call_max2 rfl) (by rfl) mx PyProof.Rows.boot_max (pa_cons pe_int (pa_cons (pe_callB (call_min2 rfl) (by rfl) mn PyProof.Rows.boot_min (pa_cons (pe_ix ix_tup (pv 3) pe_int (fun _ _ => rfl)) (pa_cons (pe_ix ix_tup (pv 4) pe_int (fun _ _ => rfl)) pa_nil))) pa_nil))))
    (pss_cons (ps_set (i := 6) sc_part_in.nd rfl (Or.inl rfl) (pe_callB (call_max2 rfl) (by rfl) mx PyProof.Rows.boot_max (pa_cons pe_int (pa_cons (pe_callB (call_min2 rfl) (by rfl) mn PyProof.Rows.boot_min (pa_cons (pe_ix ix_tup (pv 3) pe_int (fun _ _ => rfl)) (pa_cons (pe_ix ix_tup (pv 4) pe_int (fun _ _ => rfl)) pa_nil))) pa_nil))))
    (pss_cons (ps_set (i := 7) sc_part_in.nd rfl (Or.inl rfl) (pe_callB (call_min2 rfl) (by rfl) mn PyProof.Rows.boot_min (pa_cons (pe_op op_sub (pv 1) pe_int) (pa_cons (pe_callB (call_max2 rfl) (by rfl) mx PyProof.Rows.boot_max (pa_cons (pe_ix ix_tup (pv 3) pe_int (fun _ _ => rfl)) (pa_cons (pe_ix ix_tup (pv 4) pe_int (fun _ _ => rfl)) pa_nil))) pa_nil))))
    (pss_cons (ps_set (i := 8) sc_part_in.nd rfl (Or.inl rfl) (pe_callB (call_min2 rfl) (by rfl) mn PyProof.Rows.boot_min (pa_cons (pe_op op_sub (pv 1) pe_int) (pa_cons (pe_callB (call_max2 rfl) (by rfl) mx PyProof.Rows.boot_max (pa_cons (pe_ix ix_tup (pv 3) pe_int (fun _ _ => rfl)) (pa_cons (pe_ix ix_tup (pv 4) pe_int (fun _ _ => rfl)) pa_nil))) pa_nil))))
    (pss_cons (ps_if (pw_or (pt_cmpR op_gt (pv 5) (pv 7) (nomark _)) (pw_or1 (pt_cmpR op_gt (pv 6) (pv 8) (nomark _)))).pt (pss_one (ps_ret pe_non)) pss_nil)
    (pss_one (ps_ret (pe_tup (pa_cons (pv 5) (pa_cons (pv 6) (pa_cons (pv 7) (pa_cons (pv 8) pa_nil)))))))))))))), ?_⟩
  cases x with
  | none =>
    cases hv
    exact ⟨_, rfl, _, rfl, iteDT rfl (k H .non (Same.refl _) rfl)⟩
  | some x =>
    obtain ⟨a, rfl, hS⟩ := hv
    have z2 : ([V.non, V.non] : List V).length ≤ sizeLine := by show 2 ≤ sizeLine; decide
    refine ⟨_, rfl, _, rfl, iteDF (by intro z; cases z) ?_⟩
    refine ⟨_, rfl, a, _, _, _, rfl, rfl, hS, rfl, _, rfl, a, _, _, _, rfl, rfl, hS, rfl, z2, fun t1 f1 => ?_⟩
    refine ⟨_, rfl, _, rfl, t1, (x.l, x.b), sd, q, rfl, SqT.of upd_same, hq, fun c fc => ?_⟩
    have g1 := (same_new f1 (.tup [.int x.l, .int x.b])).trans (same_new fc (.tup [.int (outq (x.l, x.b) sd q).1, .int (outq (x.l, x.b) sd q).2]))
    have hS1 := g1.tup hS
    refine ⟨_, rfl, a, _, _, _, rfl, rfl, hS1, rfl, _, rfl, a, _, _, _, rfl, rfl, hS1, rfl, z2, fun t2 f2 => ?_⟩
    refine ⟨_, rfl, _, rfl, t2, (x.r, x.t), sd, q, rfl, SqT.of upd_same, hq, fun o fo => ?_⟩
    have g2 := (same_new f2 (.tup [.int x.r, .int x.t])).trans (same_new fo (.tup [.int (outq (x.r, x.t) sd q).1, .int (outq (x.r, x.t) sd q).2]))
    have g := g1.trans g2
    have hC := g2.tup (K := K) (SqT.of (a := c) (xs := [.int (outq (x.l, x.b) sd q).1, .int (outq (x.l, x.b) sd q).2]) upd_same)
    have hO : SqT K _ o [.int (outq (x.r, x.t) sd q).1, .int (outq (x.r, x.t) sd q).2] := SqT.of (upd_same (H := upd (upd (upd H t1 (.tup [.int x.l, .int x.b])) c (.tup [.int (outq (x.l, x.b) sd q).1, .int (outq (x.l, x.b) sd q).2])) t2 (.tup [.int x.r, .int x.t])))
    refine ⟨_, rfl, c, _, _, _, rfl, rfl, hC, rfl, _, rfl, o, _, _, _, rfl, rfl, hO, rfl, _, _, rfl, _, _, rfl, ?_⟩
    refine ⟨_, rfl, c, _, _, _, rfl, rfl, hC, rfl, _, rfl, o, _, _, _, rfl, rfl, hO, rfl, _, _, rfl, _, _, rfl, ?_⟩
    refine ⟨_, rfl, _, _, rfl, rfl, _, rfl, c, _, _, _, rfl, rfl, hC, rfl, _, rfl, o, _, _, _, rfl, rfl, hO, rfl, _, _, rfl, _, _, rfl, ?_⟩
    refine ⟨_, rfl, _, _, rfl, rfl, _, rfl, c, _, _, _, rfl, rfl, hC, rfl, _, rfl, o, _, _, _, rfl, rfl, hO, rfl, _, _, rfl, _, _, rfl, ?_⟩
    have ep : part (some x) sd q = emp (cut (outq (x.l, x.b) sd q) (outq (x.r, x.t) sd q) sd) := rfl
    refine ⟨_, rfl, _, rfl, _, _, rfl, rfl, _, rfl, ?_⟩
    by_cases h1 : (cut (outq (x.l, x.b) sd q) (outq (x.r, x.t) sd q) sd).l > (cut (outq (x.l, x.b) sd q) (outq (x.r, x.t) sd q) sd).r
    · refine iteDT h1 (iteT (k _ .non g ?_))
      rw [ep]; unfold emp; rw [if_pos h1]; rfl
    refine iteDF h1 ⟨_, rfl, _, rfl, _, _, rfl, rfl, _, rfl, ?_⟩
    by_cases h2 : (cut (outq (x.l, x.b) sd q) (outq (x.r, x.t) sd q) sd).b > (cut (outq (x.l, x.b) sd q) (outq (x.r, x.t) sd q) sd).t
    · refine iteDT h2 (k _ .non g ?_)
      rw [ep]; unfold emp; rw [if_neg h1, if_pos h2]; rfl
    refine iteDF h2 ⟨_, rfl, _, rfl, _, rfl, _, rfl, (by show 4 ≤ sizeLine; decide), fun b hb => k _ _ (g.trans (same_new hb _)) ?_⟩
    rw [ep]; unfold emp; rw [if_neg h1, if_neg h2]
    exact ⟨b, rfl, SqT.of upd_same⟩
end
/-! ### the program's counts -/
def spCount (K : PySem.W.Frag) : Sp := fun vs H Q _ => ∃ (n : Nat) (a : Addr) (x : B4) (p : Int), vs = [.int n, .ref a, .int p] ∧ n ≤ 60 ∧ SqT K H a [.int x.l, .int x.b, .int x.r, .int x.t] ∧ Box (2 ^ n) x ∧ 0 ≤ p ∧ p ≤ 4 ^ n ∧
  ∀ H' : Hp, Same H H' → Q (.int (ct true n (some x) p)) H'
theorem Box.good {s : Int} {x : B4} (h : Box s x) : Good (some x) s := fun y e => by cases e; exact h
section
variable {P : Program} {w : World} {K : PySem.W.Frag} {mg : Str → Option Value} {base : Heap}
theorem sc_count_ahead : FnScope ["folds", "box", "place", "side", "found", "part", "rest", "fold", "quarter", "ahead"] ["folds", "box", "place"] (defScope s_count_ahead) := ⟨rfl, rfl, rfl, by decide +kernel, rfl, by decide +kernel, by decide +kernel⟩
theorem ok_count_ahead (D : DefAt K mg "count_ahead" s_count_ahead) (mr : mg "range" = none) (GS : FnAt P w K mg base 1 "side_of" ["folds"] spSide) (GN : FnAt P w K mg base 1 "cells_in" ["box"] (spCellsIn K))
    (GI : FnAt P w K mg base 2 "part_in" ["box", "side", "quarter"] (spPart K)) : FnAt P w K mg base 3 "count_ahead" ["folds", "box", "place"] (spCount K) := by
  refine FnAt.mk D sc_count_ahead (fun _ _ _ _ _ _ us hl => match us, hl with | [_, _, _], _ => rfl) (fun vs H Q E h => ?_) (fun f cdv A outer s H vs Q E hr h => ?_)
  · obtain ⟨n, a, x, p, rfl, _⟩ := h; rfl
  obtain ⟨n, a, x, p, rfl, hn, hS, hx, h0, h1, q⟩ := h
  have hr1 := hr.mono (j := 1) (by decide)
  refine ⟨_, pss_cons (ps_set (i := 3) sc_count_ahead.nd rfl (Or.inl rfl) (pe_fn GS hr1 (by rfl) (pa_cons (pv 0) pa_nil)))
    (pss_cons (ps_if (pt_cmpR op_eq (pv 2) (pe_op op_mul (pv 3) (pv 3)) (nomark _)) (pss_one (ps_ret (pe_fn GN hr1 (by rfl) (pa_cons (pv 1) pa_nil)))) pss_nil)
    (pss_cons (ps_set (i := 4) sc_count_ahead.nd rfl (Or.inl rfl) pe_int)
    (pss_cons (ps_set (i := 5) sc_count_ahead.nd rfl (Or.inl rfl) (pv 1))
    (pss_cons (ps_set (i := 6) sc_count_ahead.nd rfl (Or.inl rfl) (pv 2))
    (pss_cons (ps_for PassesOwn.never rfl (pi_range1 rfl mr (pa_cons (pv 0) pa_nil)) (pg_name (i := 7) sc_count_ahead.nd rfl (Or.inl rfl))
      (pss_cons (ps_set (i := 3) sc_count_ahead.nd rfl (Or.inl rfl) (pe_op op_fdiv (pv 3) pe_int))
      (pss_cons (ps_set (i := 8) sc_count_ahead.nd rfl (Or.inl rfl) (pe_op op_fdivL (pv 6) (pe_op op_mul (pv 3) (pv 3))))
      (pss_cons (ps_for PassesOwn.never rfl (pi_range1 rfl mr (pa_cons (pv 8) pa_nil)) (pg_name (i := 9) sc_count_ahead.nd rfl (Or.inl rfl))
        (pss_one (ps_set (i := 4) sc_count_ahead.nd rfl (Or.inl rfl) (pe_op op_add (pv 4) (pe_fn GN hr1 (by rfl) (pa_cons (pe_fn GI hr (by rfl) (pa_cons (pv 5) (pa_cons (pv 3) (pa_cons (pv 9) pa_nil)))) pa_nil))))))
      (pss_cons (ps_set (i := 5) sc_count_ahead.nd rfl (Or.inl rfl) (pe_fn GI hr (by rfl) (pa_cons (pv 5) (pa_cons (pv 3) (pa_cons (pv 8) pa_nil)))))
      (pss_one (ps_set (i := 6) sc_count_ahead.nd rfl (Or.inl rfl) (pe_op op_mod (pv 6) (pe_op op_mul (pv 3) (pv 3))))))))))
    (pss_one (ps_ret (pv 4)))))))), ?_⟩
  have hp2 := p2 n
  have hp60 := p2_60 hn
  refine ⟨_, rfl, n, rfl, hn, ?_⟩
  refine ⟨_, rfl, _, rfl, _, rfl, _, _, rfl, rfl, .inl ⟨by omega, by omega⟩, rfl, _, rfl, ?_⟩
  by_cases hp : p = 4 ^ n
  · subst hp
    have e := ct_full true n (some x) hx.good
    have e' : ct true n (some x) (4 ^ n) = ar (some x) := e
    have q' := q H (Same.refl _)
    rw [e'] at q'
    exact iteVT (p4e n) ⟨_, rfl, .ref a, some x, n, rfl, ⟨a, rfl, hS⟩, hx.good, hn, q'⟩
  refine iteVF (by rw [← p4e]; exact hp) ?_
  refine ⟨_, rfl, ?_⟩
  refine ⟨_, rfl, ?_⟩
  refine ⟨_, rfl, (n : Int), rfl, by omega, by omega, for_range (lo := 0) (n := (n : Int).toNat) (fun i σ H' => i ≤ n ∧ ∃ (f r : Int) (v : V) (y : Bx) (u1 u2 u3 : Option V), σ = [some (.int n), some (.ref a), some (.int p), some (.int (2 ^ (n - i))), some (.int f), some v, some (.int r), u1, u2, u3] ∧ Same H H' ∧
    BxV K H' v y ∧ Good y (2 ^ (n - i)) ∧ 0 ≤ r ∧ r < 4 ^ (n - i) ∧ f + ct true (n - i) y r = ct true n (some x) p)
    ⟨Nat.zero_le _, 0, p, .ref a, some x, none, none, none, rfl, Same.refl _, ⟨a, rfl, hS⟩, hx.good, h0, (by show p < 4 ^ n; omega), (by rw [Int.zero_add]; rfl)⟩ ?_ ?_⟩
  · rintro i σ H' hi ⟨hin, f, r, v, y, u1, u2, u3, rfl, s1, hv, hg, r0, r1, he⟩
    obtain ⟨m, em⟩ : ∃ m, n - i = m + 1 := ⟨n - i - 1, by omega⟩
    have em' : n - (i + 1) = m := by omega
    rw [em] at hg r1 he ⊢
    rw [em']
    refine ⟨_, rfl, _, _, rfl, rfl, ⟨by decide, by decide⟩, ?_⟩
    dsimp only
    rw [half_pow]
    have hm60 := p2_60 (n := m) (by omega)
    have hm2 := p2 m
    have hm4 := p4 m
    have hm460 := p4_60 (n := m) (by omega)
    refine ⟨_, rfl, _, rfl, _, rfl, _, _, rfl, rfl, .inl ⟨by omega, by omega⟩, _, _, rfl, rfl, ?_, ?_⟩
    · show 0 < (2 : Int) ^ m * 2 ^ m ∧ _ < _
      rw [← p4e]
      exact ⟨hm4, by omega⟩
    dsimp only
    rw [← p4e]
    rw [p4s] at r1
    rw [p2s] at hg
    have hq : 0 ≤ r / 4 ^ m ∧ r / 4 ^ m < 4 := ⟨Int.ediv_nonneg r0 (by omega), Int.ediv_lt_of_lt_mul hm4 r1⟩
    have em0 := Int.emod_add_mul_ediv r (4 ^ m)
    have em1 := Int.emod_nonneg r (show (4 : Int) ^ m ≠ 0 by omega)
    have em2 := Int.emod_lt_of_pos r hm4
    rw [Int.mul_comm] at em0
    generalize hQ : r / 4 ^ m = qq at hq em0 ⊢
    refine ⟨_, rfl, qq, rfl, by omega, by omega, for_range (lo := 0) (n := qq.toNat) (fun j σ H2 => ∃ (u : Option V), σ = [some (.int n), some (.ref a), some (.int p), some (.int (2 ^ m)), some (.int (f + ct true (m + 1) y ((j : Int) * 4 ^ m))), some v, some (.int r), some (.int (0 + i)), some (.int qq), u] ∧ Same H' H2)
      ⟨u3, (by rw [show ((0 : Nat) : Int) * 4 ^ m = 0 from Int.zero_mul _, ct_zero, Int.add_zero]; rfl), Same.refl _⟩ ?_ ?_⟩
    · rintro j σ H2 hj ⟨u, rfl, s2⟩
      have hq' : 0 ≤ (0 + (j : Int)) ∧ (0 + (j : Int)) < 4 := by omega
      refine ⟨_, rfl, _, rfl, _, rfl, _, rfl, v, y, 2 ^ m, 0 + (j : Int), rfl, hv.same s2, hq', fun H3 u' s3 hu => ?_⟩
      refine ⟨u', part y (2 ^ m) (0 + (j : Int)), m, rfl, hu, part_good _ _ _, by omega, _, _, rfl, rfl, ?_⟩
      refine ⟨some (.int (0 + (j : Int))), ?_, s2.trans s3⟩
      have e1 := ct_next (i := true) (q := (j : Int)) hg ⟨by omega, by omega⟩
      rw [ct_full true m _ (part_good _ _ _)] at e1
      have e2 : held true (part y (2 ^ m) j) (4 ^ m) = ar (part y (2 ^ m) (j : Int)) := rfl
      rw [e2] at e1
      have e3 : ar (part y (2 ^ m) (j : Int)) = ar (part y (2 ^ m) (0 + (j : Int))) := by rw [Int.zero_add]
      rw [e3] at e1
      rw [show ((j + 1 : Nat) : Int) = (j : Int) + 1 by omega, e1, ← Int.add_assoc]
      rfl
    · rintro σ H2 ⟨u, rfl, s2⟩
      refine ⟨_, rfl, _, rfl, _, rfl, v, y, 2 ^ m, qq, rfl, hv.same s2, hq, fun H3 u' s3 hu => ?_⟩
      refine ⟨_, rfl, _, rfl, _, rfl, _, _, rfl, rfl, .inl ⟨by omega, by omega⟩, _, _, rfl, rfl, ?_, ?_⟩
      · show 0 < (2 : Int) ^ m * 2 ^ m
        rw [← p4e]
        exact hm4
      dsimp only
      rw [← p4e]
      refine ⟨by omega, _, _, u', part y (2 ^ m) qq, _, _, _, rfl, (s1.trans s2).trans s3, hu, part_good _ _ _, em1, em2, ?_⟩
      have e1 := ct_quarter' (i := true) (r := r % 4 ^ m) hg hq em1 (by omega)
      rw [show qq * 4 ^ m + r % 4 ^ m = r by omega] at e1
      rw [show ((qq.toNat : Nat) : Int) = qq by omega, ← he, e1]
      omega
  · rintro σ H' ⟨hin, f, r, v, y, u1, u2, u3, rfl, s1, hv, hg, r0, r1, he⟩
    have e : n - (n : Int).toNat = 0 := by omega
    rw [e] at he r1
    have : r = 0 := by rw [Int.pow_zero] at r1; omega
    subst this
    rw [ct_zero, Int.add_zero] at he
    subst he
    exact ⟨_, rfl, q H' s1⟩
theorem sc_counted : FnScope ["folds", "box", "place"] ["folds", "box", "place"] (defScope s_counted) := ⟨rfl, rfl, rfl, by decide +kernel, rfl, by decide +kernel, by decide +kernel⟩
theorem ok_counted (D : DefAt K mg "counted" s_counted) (GF : FnAt P w K mg base 1 "check_folds" ["folds"] spChkF) (GB : FnAt P w K mg base 1 "check_box" ["box", "side"] (spChkB K)) (GS : FnAt P w K mg base 1 "side_of" ["folds"] spSide)
    (GP : FnAt P w K mg base 1 "check_place" ["place", "end"] spChkP) (GC : FnAt P w K mg base 2 "cells_of" ["folds"] spCells) (GA : FnAt P w K mg base 3 "count_ahead" ["folds", "box", "place"] (spCount K)) : FnAt P w K mg base 4 "counted" ["folds", "box", "place"] (spCount K) := by
  refine FnAt.mk D sc_counted (fun _ _ _ _ _ _ us hl => match us, hl with | [_, _, _], _ => rfl) (fun vs H Q E h => ?_) (fun f cdv A outer s H vs Q E hr h => ?_)
  · obtain ⟨n, a, x, p, rfl, _⟩ := h; rfl
  obtain ⟨n, a, x, p, rfl, hn, hS, hx, h0, h1, q⟩ := h
  have hr1 := hr.mono (j := 1) (by decide)
  have hr2 := hr.mono (j := 2) (by decide)
  refine ⟨_, pss_cons (ps_expr (pe_fn GF hr1 (by rfl) (pa_cons (pv 0) pa_nil)))
    (pss_cons (ps_expr (pe_fn GB hr1 (by rfl) (pa_cons (pv 1) (pa_cons (pe_fn GS hr1 (by rfl) (pa_cons (pv 0) pa_nil)) pa_nil))))
    (pss_cons (ps_expr (pe_fn GP hr1 (by rfl) (pa_cons (pv 2) (pa_cons (pe_op op_add (pe_fn GC hr2 (by rfl) (pa_cons (pv 0) pa_nil)) pe_int) pa_nil))))
    (pss_one (ps_ret (pe_fn GA hr (by rfl) (pa_cons (pv 0) (pa_cons (pv 1) (pa_cons (pv 2) pa_nil)))))))), ?_⟩
  refine ⟨_, rfl, n, rfl, hn, ?_⟩
  refine ⟨_, rfl, _, rfl, n, rfl, hn, a, x, _, rfl, hS, hx, ?_⟩
  refine ⟨_, rfl, _, rfl, n, rfl, hn, _, _, rfl, rfl, p, _, rfl, h0, by omega, ?_⟩
  exact ⟨_, rfl, _, rfl, _, rfl, n, a, x, p, rfl, hn, hS, hx, h0, h1, q⟩
end
/-! ### the program's places of numbers -/
def ov : Option Int → V
  | none => .non
  | some r => .int r
def spHeld (K : PySem.W.Frag) : Sp := fun vs H Q _ => ∃ (v : V) (x : Bx) (m : Nat) (i : Bool), vs = [v, .int (2 ^ m), .bl i] ∧ BxV K H v x ∧ Good x (2 ^ m) ∧ m ≤ 60 ∧ Q (.int (held i x (4 ^ m))) H
def spQh (K : PySem.W.Frag) : Sp := fun vs H Q _ => ∃ (v : V) (x : Bx) (m : Nat) (k : Int) (i : Bool), vs = [v, .int (2 ^ m), .int k, .bl i] ∧ BxV K H v x ∧ m ≤ 60 ∧
  ∀ (p : Addr) (H' : Hp), Same H H' → H' p = some (.tup [.int (qh i m x k).1, .int (qh i m x k).2]) → Q (.ref p) H'
def spNumb (K : PySem.W.Frag) : Sp := fun vs H Q _ => ∃ (n : Nat) (a : Addr) (x : B4) (k : Int) (i : Bool), vs = [.int n, .ref a, .int k, .bl i] ∧ n ≤ 60 ∧ SqT K H a [.int x.l, .int x.b, .int x.r, .int x.t] ∧ Box (2 ^ n) x ∧ 0 ≤ k ∧
  ∀ H' : Hp, Same H H' → Q (ov (nq i n (some x) k)) H'
section
variable {P : Program} {w : World} {K : PySem.W.Frag} {mg : Str → Option Value} {base : Heap}
theorem sc_cells_held : FnScope ["part", "side", "inside"] ["part", "side", "inside"] (defScope s_cells_held) := ⟨rfl, rfl, rfl, by decide +kernel, rfl, by decide +kernel, by decide +kernel⟩
theorem ok_cells_held (D : DefAt K mg "cells_held" s_cells_held) (GN : FnAt P w K mg base 1 "cells_in" ["box"] (spCellsIn K)) : FnAt P w K mg base 2 "cells_held" ["part", "side", "inside"] (spHeld K) := by
  refine FnAt.mk D sc_cells_held (fun _ _ _ _ _ _ us hl => match us, hl with | [_, _, _], _ => rfl) (fun vs H Q E h => ?_) (fun f cdv A outer s H vs Q E hr h => ?_)
  · obtain ⟨v, x, m, i, rfl, _⟩ := h; rfl
  obtain ⟨v, x, m, i, rfl, hv, hg, hm, q⟩ := h
  refine ⟨_, pss_cons (ps_if (pt_val (pv 2)) (pss_one (ps_ret (pe_fn GN hr (by rfl) (pa_cons (pv 0) pa_nil)))) pss_nil)
    (pss_one (ps_ret (pe_op op_sub (pe_op op_mul (pv 1) (pv 1)) (pe_fn GN hr (by rfl) (pa_cons (pv 0) pa_nil))))), ?_⟩
  have hp2 := p2 m
  have hp60 := p2_60 hm
  refine ⟨_, rfl, i, rfl, ?_⟩
  cases i with
  | true => exact iteT ⟨_, rfl, v, x, m, rfl, hv, hg, hm, q⟩
  | false =>
    refine iteF ⟨_, rfl, _, rfl, _, _, rfl, rfl, .inl ⟨by omega, by omega⟩, _, rfl, v, x, m, rfl, hv, hg, hm, _, _, rfl, rfl, ?_⟩
    have q' : Q (.int (4 ^ m - ar x)) H := q
    rw [p4e] at q'
    exact q'
theorem sc_quarter_holding : FnScope ["box", "side", "number", "inside", "rest", "quarter", "held"] ["box", "side", "number", "inside"] (defScope s_quarter_holding) := ⟨rfl, rfl, rfl, by decide +kernel, rfl, by decide +kernel, by decide +kernel⟩
theorem ok_quarter_holding (D : DefAt K mg "quarter_holding" s_quarter_holding) (mr : mg "range" = none) (GH : FnAt P w K mg base 2 "cells_held" ["part", "side", "inside"] (spHeld K)) (GI : FnAt P w K mg base 2 "part_in" ["box", "side", "quarter"] (spPart K)) :
    FnAt P w K mg base 3 "quarter_holding" ["box", "side", "number", "inside"] (spQh K) := by
  refine FnAt.mk D sc_quarter_holding (fun _ _ _ _ _ _ us hl => match us, hl with | [_, _, _, _], _ => rfl) (fun vs H Q E h => ?_) (fun f cdv A outer s H vs Q E hr h => ?_)
  · obtain ⟨v, x, m, k, i, rfl, _⟩ := h; rfl
  obtain ⟨v, x, m, k, i, rfl, hv, hm, q⟩ := h
  refine ⟨_, pss_cons (ps_set (i := 4) sc_quarter_holding.nd rfl (Or.inl rfl) (pv 2))
    (pss_cons (ps_for PassesOwn.never rfl (pi_range1 rfl mr (pa_cons pe_int pa_nil)) (pg_name (i := 5) sc_quarter_holding.nd rfl (Or.inl rfl))
      (pss_cons (ps_set (i := 6) sc_quarter_holding.nd rfl (Or.inl rfl) (pe_fn GH hr (by rfl) (pa_cons (pe_fn GI hr (by rfl) (pa_cons (pv 0) (pa_cons (pv 1) (pa_cons (pv 5) pa_nil)))) (pa_cons (pv 1) (pa_cons (pv 3) pa_nil)))))
      (pss_cons (ps_if (pt_cmpR op_lt (pv 4) (pv 6) (nomark _)) (pss_one (ps_ret (pe_tup (pa_cons (pv 5) (pa_cons (pv 4) pa_nil))))) pss_nil)
      (pss_one (ps_set (i := 4) sc_quarter_holding.nd rfl (Or.inl rfl) (pe_op op_sub (pv 4) (pv 6)))))))
    (pss_one (ps_ret (pe_tup (pa_cons pe_int (pa_cons (pv 4) pa_nil)))))), ?_⟩
  have z2 : ([V.non, V.non] : List V).length ≤ sizeLine := by show 2 ≤ sizeLine; decide
  refine ⟨_, rfl, ?_⟩
  refine ⟨3, rfl, by decide, by decide, for_range (lo := 0) (n := 3) (fun j σ H' => ∃ (r : Int) (u1 u2 : Option V), σ = [some v, some (.int (2 ^ m)), some (.int k), some (.bl i), some (.int r), u1, u2] ∧ Same H H' ∧ qtl i m x (3 - j) j r = qh i m x k)
    ⟨k, none, none, rfl, Same.refl _, rfl⟩ ?_ ?_⟩
  · rintro j σ H' hj ⟨r, u1, u2, rfl, s1, he⟩
    have hq : 0 ≤ (0 + (j : Int)) ∧ (0 + (j : Int)) < 4 := by omega
    refine ⟨_, rfl, _, rfl, _, rfl, v, x, 2 ^ m, 0 + (j : Int), rfl, hv.same s1, hq, fun H2 u s2 hu => ?_⟩
    refine ⟨_, rfl, _, rfl, u, part x (2 ^ m) (0 + (j : Int)), m, i, rfl, hu, part_good _ _ _, hm, ?_⟩
    obtain ⟨c, hc⟩ : ∃ c, 3 - j = c + 1 := ⟨3 - j - 1, by omega⟩
    have hc' : 3 - (j + 1) = c := by omega
    rw [hc] at he
    have he : (if r < held i (part x (2 ^ m) j) (4 ^ m) then ((j : Int), r) else qtl i m x c (j + 1) (r - held i (part x (2 ^ m) j) (4 ^ m))) = qh i m x k := he
    rw [Int.zero_add]
    refine ⟨_, rfl, _, rfl, _, _, rfl, rfl, _, rfl, ?_⟩
    by_cases hlt : r < held i (part x (2 ^ m) (j : Int)) (4 ^ m)
    · rw [if_pos hlt] at he
      refine iteDT hlt ⟨_, rfl, _, rfl, z2, fun p hp => q p _ ((s1.trans s2).trans (same_new hp _)) ?_⟩
      rw [← he]
      exact upd_same
    · rw [if_neg hlt] at he
      refine iteDF hlt ⟨_, rfl, _, rfl, _, _, rfl, rfl, ?_⟩
      refine ⟨_, _, _, rfl, s1.trans s2, ?_⟩
      rw [hc']
      exact he
  · rintro σ H' ⟨r, u1, u2, rfl, s1, he⟩
    refine ⟨_, rfl, z2, fun p hp => q p _ (s1.trans (same_new hp _)) ?_⟩
    rw [← he]
    exact upd_same
theorem sc_place_numbered : FnScope ["folds", "box", "number", "inside", "side", "place", "part", "rest", "fold", "held"] ["folds", "box", "number", "inside"] (defScope s_place_numbered) := ⟨rfl, rfl, rfl, by decide +kernel, rfl, by decide +kernel, by decide +kernel⟩
theorem ok_place_numbered (D : DefAt K mg "place_numbered" s_place_numbered) (mr : mg "range" = none) (GS : FnAt P w K mg base 1 "side_of" ["folds"] spSide) (GH : FnAt P w K mg base 2 "cells_held" ["part", "side", "inside"] (spHeld K)) (GI : FnAt P w K mg base 2 "part_in" ["box", "side", "quarter"] (spPart K))
    (GQ : FnAt P w K mg base 3 "quarter_holding" ["box", "side", "number", "inside"] (spQh K)) : FnAt P w K mg base 4 "place_numbered" ["folds", "box", "number", "inside"] (spNumb K) := by
  refine FnAt.mk D sc_place_numbered (fun _ _ _ _ _ _ us hl => match us, hl with | [_, _, _, _], _ => rfl) (fun vs H Q E h => ?_) (fun f cdv A outer s H vs Q E hr h => ?_)
  · obtain ⟨n, a, x, k, i, rfl, _⟩ := h; rfl
  obtain ⟨n, a, x, k, b, rfl, hn, hS, hx, k0, q⟩ := h
  have hr1 := hr.mono (j := 1) (by decide)
  have hr2 := hr.mono (j := 2) (by decide)
  refine ⟨_, pss_cons (ps_set (i := 4) sc_place_numbered.nd rfl (Or.inl rfl) (pe_fn GS hr1 (by rfl) (pa_cons (pv 0) pa_nil)))
    (pss_cons (ps_if (pt_cmpR op_ge (pv 2) (pe_fn GH hr2 (by rfl) (pa_cons (pv 1) (pa_cons (pv 4) (pa_cons (pv 3) pa_nil)))) (nomark _)) (pss_one (ps_ret pe_non)) pss_nil)
    (pss_cons (ps_set (i := 5) sc_place_numbered.nd rfl (Or.inl rfl) pe_int)
    (pss_cons (ps_set (i := 6) sc_place_numbered.nd rfl (Or.inl rfl) (pv 1))
    (pss_cons (ps_set (i := 7) sc_place_numbered.nd rfl (Or.inl rfl) (pv 2))
    (pss_cons (ps_for PassesOwn.never rfl (pi_range1 rfl mr (pa_cons (pv 0) pa_nil)) (pg_name (i := 8) sc_place_numbered.nd rfl (Or.inl rfl))
      (pss_cons (ps_set (i := 4) sc_place_numbered.nd rfl (Or.inl rfl) (pe_op op_fdiv (pv 4) pe_int))
      (pss_cons (ps_set (i := 9) sc_place_numbered.nd rfl (Or.inl rfl) (pe_fn GQ hr (by rfl) (pa_cons (pv 6) (pa_cons (pv 4) (pa_cons (pv 7) (pa_cons (pv 3) pa_nil))))))
      (pss_cons (ps_set (i := 5) sc_place_numbered.nd rfl (Or.inl rfl) (pe_op op_add (pe_op op_mul pe_int (pv 5)) (pe_ix ix_tup (pv 9) pe_int (fun _ _ => rfl))))
      (pss_cons (ps_set (i := 6) sc_place_numbered.nd rfl (Or.inl rfl) (pe_fn GI hr2 (by rfl) (pa_cons (pv 6) (pa_cons (pv 4) (pa_cons (pe_ix ix_tup (pv 9) pe_int (fun _ _ => rfl)) pa_nil)))))
      (pss_one (ps_set (i := 7) sc_place_numbered.nd rfl (Or.inl rfl) (pe_ix ix_tup (pv 9) pe_int (fun _ _ => rfl)))))))))
    (pss_one (ps_ret (pv 5)))))))), ?_⟩
  refine ⟨_, rfl, n, rfl, hn, ?_⟩
  refine ⟨_, rfl, _, rfl, _, rfl, _, rfl, .ref a, some x, n, b, rfl, ⟨a, rfl, hS⟩, hx.good, hn, _, _, rfl, rfl, _, rfl, ?_⟩
  by_cases hk : k < held b (some x) (4 ^ n)
  rotate_left
  · refine iteDT (by omega) ?_
    have q' := q H (Same.refl _)
    unfold nq at q'
    rw [if_neg hk] at q'
    exact q'
  refine iteDF (by omega) ?_
  refine ⟨_, rfl, ?_⟩
  refine ⟨_, rfl, ?_⟩
  refine ⟨_, rfl, (n : Int), rfl, by omega, by omega, for_range (lo := 0) (n := (n : Int).toNat) (fun i σ H' => i ≤ n ∧ ∃ (p r : Int) (v : V) (y : Bx) (u1 u2 : Option V), σ = [some (.int n), some (.ref a), some (.int k), some (.bl b), some (.int (2 ^ (n - i))), some (.int p), some v, some (.int r), u1, u2] ∧ Same H H' ∧
    BxV K H' v y ∧ Good y (2 ^ (n - i)) ∧ 0 ≤ r ∧ r < held b y (4 ^ (n - i)) ∧ p * 4 ^ (n - i) + nthp b (n - i) y r = nthp b n (some x) k)
    ⟨Nat.zero_le _, 0, k, .ref a, some x, none, none, rfl, Same.refl _, ⟨a, rfl, hS⟩, hx.good, k0, hk, (by rw [Int.zero_mul, Int.zero_add]; rfl)⟩ ?_ ?_⟩
  · rintro i σ H' hi ⟨hin, p, r, v, y, u1, u2, rfl, s1, hv, hg, r0, r1, he⟩
    obtain ⟨m, em⟩ : ∃ m, n - i = m + 1 := ⟨n - i - 1, by omega⟩
    have em' : n - (i + 1) = m := by omega
    rw [em] at hg r1 he ⊢
    rw [em']
    refine ⟨_, rfl, _, _, rfl, rfl, ⟨by decide, by decide⟩, ?_⟩
    dsimp only
    rw [half_pow]
    rw [p4s] at r1
    rw [p2s] at hg
    obtain ⟨hq, t0, t1, _⟩ := qh_ok hg r0 r1
    refine ⟨_, rfl, _, rfl, _, rfl, _, rfl, v, y, m, r, b, rfl, hv, by omega, fun t H2 s2 e2 => ?_⟩
    refine ⟨_, rfl, _, _, rfl, rfl, .inl ⟨by decide, by decide⟩, _, rfl, t, _, _, _, rfl, rfl, SqT.of e2, rfl, _, _, rfl, rfl, ?_⟩
    refine ⟨_, rfl, _, rfl, _, rfl, t, _, _, _, rfl, rfl, SqT.of e2, rfl, v, y, 2 ^ m, (qh b m y r).1, rfl, hv.same s2, hq, fun H3 u s3 hu => ?_⟩
    refine ⟨_, rfl, t, _, _, _, rfl, rfl, SqT.of (s3 _ _ e2), rfl, ?_⟩
    refine ⟨by omega, _, _, u, part y (2 ^ m) (qh b m y r).1, _, _, rfl, (s1.trans s2).trans s3, hu, part_good _ _ _, t0, t1, ?_⟩
    rw [← he, p4s]
    show (4 * p + (qh b m y r).1) * 4 ^ m + _ = p * (4 * 4 ^ m) + ((qh b m y r).1 * 4 ^ m + nthp b m (part y (2 ^ m) (qh b m y r).1) (qh b m y r).2)
    rw [Int.add_mul, ← Int.mul_assoc p 4, Int.mul_comm p 4, Int.add_assoc]
  · rintro σ H' ⟨hin, p, r, v, y, u1, u2, rfl, s1, hv, hg, r0, r1, he⟩
    have e : n - (n : Int).toNat = 0 := by omega
    rw [e] at he
    have ep : p = nthp b n (some x) k := by
      rw [← he, Int.pow_zero, Int.mul_one]
      show p = p + 0
      omega
    subst ep
    have q' := q H' s1
    unfold nq at q'
    rw [if_pos hk] at q'
    exact ⟨_, rfl, q'⟩
end
def spNext (K : PySem.W.Frag) (i : Bool) : Sp := fun vs H Q _ => ∃ (n : Nat) (a : Addr) (x : B4) (p : Int), vs = [.int n, .ref a, .int p] ∧ n ≤ 60 ∧ SqT K H a [.int x.l, .int x.b, .int x.r, .int x.t] ∧ Box (2 ^ n) x ∧ 0 ≤ p ∧ p ≤ 4 ^ n ∧
  ∀ H' : Hp, Same H H' → Q (ov (nx i n (some x) p)) H'
section
variable {P : Program} {w : World} {K : PySem.W.Frag} {mg : Str → Option Value} {base : Heap}
theorem sc_next_in : FnScope ["folds", "box", "place", "met"] ["folds", "box", "place"] (defScope s_next_in) := ⟨rfl, rfl, rfl, by decide +kernel, rfl, by decide +kernel, by decide +kernel⟩
theorem ok_next_in (D : DefAt K mg "next_in" s_next_in) (GC : FnAt P w K mg base 4 "counted" ["folds", "box", "place"] (spCount K)) (GN : FnAt P w K mg base 4 "place_numbered" ["folds", "box", "number", "inside"] (spNumb K)) : FnAt P w K mg base 5 "next_in" ["folds", "box", "place"] (spNext K true) := by
  refine FnAt.mk D sc_next_in (fun _ _ _ _ _ _ us hl => match us, hl with | [_, _, _], _ => rfl) (fun vs H Q E h => ?_) (fun f cdv A outer s H vs Q E hr h => ?_)
  · obtain ⟨n, a, x, k, rfl, _⟩ := h; rfl
  obtain ⟨n, a, x, p, rfl, hn, hS, hx, h0, h1, q⟩ := h
  refine ⟨_, pss_cons (ps_set (i := 3) sc_next_in.nd rfl (Or.inl rfl) (pe_fn GC hr (by rfl) (pa_cons (pv 0) (pa_cons (pv 1) (pa_cons (pv 2) pa_nil)))))
    (pss_one (ps_ret (pe_fn GN hr (by rfl) (pa_cons (pv 0) (pa_cons (pv 1) (pa_cons (pv 3) (pa_cons pe_bl pa_nil))))))), ?_⟩
  refine ⟨_, rfl, _, rfl, _, rfl, n, a, x, p, rfl, hn, hS, hx, h0, h1, fun H1 s1 => ?_⟩
  exact ⟨_, rfl, _, rfl, _, rfl, n, a, x, _, true, rfl, hn, s1.tup hS, hx, ct_nonneg h0, fun H2 s2 => q H2 (s1.trans s2)⟩
theorem sc_next_out : FnScope ["folds", "box", "place", "met"] ["folds", "box", "place"] (defScope s_next_out) := ⟨rfl, rfl, rfl, by decide +kernel, rfl, by decide +kernel, by decide +kernel⟩
theorem ok_next_out (D : DefAt K mg "next_out" s_next_out) (GC : FnAt P w K mg base 4 "counted" ["folds", "box", "place"] (spCount K)) (GN : FnAt P w K mg base 4 "place_numbered" ["folds", "box", "number", "inside"] (spNumb K)) : FnAt P w K mg base 5 "next_out" ["folds", "box", "place"] (spNext K false) := by
  refine FnAt.mk D sc_next_out (fun _ _ _ _ _ _ us hl => match us, hl with | [_, _, _], _ => rfl) (fun vs H Q E h => ?_) (fun f cdv A outer s H vs Q E hr h => ?_)
  · obtain ⟨n, a, x, k, rfl, _⟩ := h; rfl
  obtain ⟨n, a, x, p, rfl, hn, hS, hx, h0, h1, q⟩ := h
  refine ⟨_, pss_cons (ps_set (i := 3) sc_next_out.nd rfl (Or.inl rfl) (pe_fn GC hr (by rfl) (pa_cons (pv 0) (pa_cons (pv 1) (pa_cons (pv 2) pa_nil)))))
    (pss_one (ps_ret (pe_fn GN hr (by rfl) (pa_cons (pv 0) (pa_cons (pv 1) (pa_cons (pe_op op_sub (pv 2) (pv 3)) (pa_cons pe_bl pa_nil))))))), ?_⟩
  have e := ct_both (m := n) (x := some x) h0
  have e' : p - ct true n (some x) p = ct false n (some x) p := by omega
  refine ⟨_, rfl, _, rfl, _, rfl, n, a, x, p, rfl, hn, hS, hx, h0, h1, fun H1 s1 => ?_⟩
  refine ⟨_, rfl, _, rfl, _, rfl, _, rfl, _, _, rfl, rfl, n, a, x, p - ct true n (some x) p, false, rfl, hn, s1.tup hS, hx, by rw [e']; exact ct_nonneg h0, fun H2 s2 => ?_⟩
  rw [e']
  exact q H2 (s1.trans s2)
end
section
variable {P : Program} {w : World} {K : PySem.W.Frag} {mg : Str → Option Value} {base : Heap}
theorem sc_check_number : FnScope ["number", "end"] ["number", "end"] (defScope s_check_number) := ⟨rfl, rfl, rfl, by decide +kernel, rfl, by decide +kernel, by decide +kernel⟩
theorem ok_check_number (D : DefAt K mg "check_number" s_check_number) : FnAt P w K mg base 1 "check_number" ["number", "end"] spChkN := by
  refine FnAt.mk D sc_check_number (fun _ _ _ _ _ _ us hl => match us, hl with | [_, _], _ => rfl) (fun vs H Q E h => ?_) (fun f cdv A outer s H vs Q E hr h => ?_)
  · obtain ⟨p, e, rfl, _⟩ := h; rfl
  obtain ⟨p, e, rfl, h0, h1, q⟩ := h
  refine ⟨_, pss_one (ps_if (pw_or (pt_cmpR op_lt (pv 0) pe_int (nomark _)) (pw_or1 (pt_cmpR op_ge (pv 0) (pv 1) (nomark _)))).pt pss_never pss_nil), ?_⟩
  refine ⟨_, rfl, _, _, rfl, rfl, _, rfl, iteDF (by omega) ?_⟩
  exact ⟨_, rfl, _, rfl, _, _, rfl, rfl, _, rfl, iteDF (by omega) q⟩
end
/-- refused with the class at C -/
abbrev Rf (C : Addr) (H : Hp) (E : XK) : Prop := ∀ H', Same H H' → E (.ref C) none H'
def bdF (cF : Addr) : Sp := fun vs H _ E => ∃ n : Int, vs = [.int n] ∧ ¬ (0 ≤ n ∧ n ≤ 60) ∧ E (.ref cF) none H
def bdP (cP : Addr) : Sp := fun vs H _ E => ∃ p e : Int, vs = [.int p, .int e] ∧ ¬ (0 ≤ p ∧ p < e) ∧ E (.ref cP) none H
def bdB (K : PySem.W.Frag) (cB : Addr) : Sp := fun vs H _ E => ∃ (a : Addr) (x : B4) (s : Int), vs = [.ref a, .int s] ∧ SqT K H a [.int x.l, .int x.b, .int x.r, .int x.t] ∧ ¬ Box s x ∧ E (.ref cB) none H
/-- what a def keeps: it answers, or refuses -/
abbrev F1 (P : Program) (w : World) (K : PySem.W.Frag) (mg : Str → Option Value) (base : Heap) (k : Nat) (x : Str) (ps : List Str) (sp sp' : Sp) : Prop := FnAt1 P w K mg base k x ps (fun vs H Q E => sp vs H Q E ∨ sp' vs H Q E)
section
variable {P : Program} {w : World} {K : PySem.W.Frag} {mg : Str → Option Value} {base : Heap} {C : Addr}
theorem len1 : ([V.non] : List V).length ≤ sizeLine := by show 1 ≤ sizeLine; decide
theorem bd_check_folds (D : DefAt K mg "check_folds" s_check_folds) (mM : ∃ t, mg "MOST_FOLDS" = some (.int 60 t)) (O : Exc K mg "NoFloor" C) : FnAt1 P w K mg base 1 "check_folds" ["folds"] (bdF C) := by
  obtain ⟨t, mM⟩ := mM
  refine FnAt1.mk D sc_check_folds (fun _ _ _ _ _ _ us hl => match us, hl with | [_], _ => rfl) (fun vs H Q E h => ?_) (fun f cdv A outer s H vs Q E hr h => ?_)
  · obtain ⟨n, rfl, _⟩ := h; rfl
  obtain ⟨n, rfl, hn, q⟩ := h
  refine ⟨_, pss_one (ps_if (pw_or (pt_cmpR op_lt (pv 0) pe_int (nomark _)) (pw_or1 (pt_cmpR op_gt (pv 0) (pe_glob (v := .int 60) (by rfl) mM ⟨_, rfl⟩) (nomark _)))).pt (pss_one (ps_raise O throw1 rfl (by rfl) (pa_cons pe_str pa_nil))) pss_nil), ?_⟩
  refine ⟨_, rfl, _, _, rfl, rfl, _, rfl, ?_⟩
  by_cases h1 : n < 0
  · exact iteDT h1 (iteT ⟨len1, q⟩)
  · exact iteDF h1 ⟨_, rfl, _, _, rfl, rfl, _, rfl, iteDT (by omega) ⟨len1, q⟩⟩
theorem bd_check_number (D : DefAt K mg "check_number" s_check_number) (O : Exc K mg "NoNumber" C) : FnAt1 P w K mg base 1 "check_number" ["number", "end"] (bdP C) := by
  refine FnAt1.mk D sc_check_number (fun _ _ _ _ _ _ us hl => match us, hl with | [_, _], _ => rfl) (fun vs H Q E h => ?_) (fun f cdv A outer s H vs Q E hr h => ?_)
  · obtain ⟨p, e, rfl, _⟩ := h; rfl
  obtain ⟨p, e, rfl, hn, q⟩ := h
  refine ⟨_, pss_one (ps_if (pw_or (pt_cmpR op_lt (pv 0) pe_int (nomark _)) (pw_or1 (pt_cmpR op_ge (pv 0) (pv 1) (nomark _)))).pt (pss_one (ps_raise O throw1 rfl (by rfl) (pa_cons pe_str pa_nil))) pss_nil), ?_⟩
  refine ⟨_, rfl, _, _, rfl, rfl, _, rfl, ?_⟩
  by_cases h1 : p < 0
  · exact iteDT h1 (iteT ⟨len1, q⟩)
  · exact iteDF h1 ⟨_, rfl, _, rfl, _, _, rfl, rfl, _, rfl, iteDT (by omega) ⟨len1, q⟩⟩
theorem bd_check_box (D : DefAt K mg "check_box" s_check_box) (O : Exc K mg "NoBox" C) : FnAt1 P w K mg base 1 "check_box" ["box", "side"] (bdB K C) := by
  refine FnAt1.mk D sc_check_box (fun _ _ _ _ _ _ us hl => match us, hl with | [_, _], _ => rfl) (fun vs H Q E h => ?_) (fun f cdv A outer s H vs Q E hr h => ?_)
  · obtain ⟨a, x, e, rfl, _⟩ := h; rfl
  obtain ⟨a, x, e, rfl, hS, hn, q⟩ := h
  refine ⟨_, pss_cons (ps_if (pw_or (pt_cmpR op_lt (pe_ix ix_tup (pv 0) pe_int (fun _ _ => rfl)) pe_int (nomark _)) (pw_or (pt_cmpR op_gt (pe_ix ix_tup (pv 0) pe_int (fun _ _ => rfl)) (pe_ix ix_tup (pv 0) pe_int (fun _ _ => rfl)) (nomark _)) (pw_or1 (pt_cmpR op_ge (pe_ix ix_tup (pv 0) pe_int (fun _ _ => rfl)) (pv 1) (nomark _))))).pt (pss_one (ps_raise O throw1 rfl (by rfl) (pa_cons pe_str pa_nil))) pss_nil)
    (pss_one (ps_if (pw_or (pt_cmpR op_lt (pe_ix ix_tup (pv 0) pe_int (fun _ _ => rfl)) pe_int (nomark _)) (pw_or (pt_cmpR op_gt (pe_ix ix_tup (pv 0) pe_int (fun _ _ => rfl)) (pe_ix ix_tup (pv 0) pe_int (fun _ _ => rfl)) (nomark _)) (pw_or1 (pt_cmpR op_ge (pe_ix ix_tup (pv 0) pe_int (fun _ _ => rfl)) (pv 1) (nomark _))))).pt (pss_one (ps_raise O throw1 rfl (by rfl) (pa_cons pe_str pa_nil))) pss_nil)), ?_⟩
  refine ⟨_, rfl, a, _, _, _, rfl, rfl, hS, rfl, _, _, rfl, rfl, _, rfl, ?_⟩
  by_cases h1 : x.l < 0
  · exact iteDT h1 (iteT ⟨len1, q⟩)
  refine iteDF h1 ⟨_, rfl, a, _, _, _, rfl, rfl, hS, rfl, _, rfl, a, _, _, _, rfl, rfl, hS, rfl, _, _, rfl, rfl, _, rfl, ?_⟩
  by_cases h2 : x.r < x.l
  · exact iteDT h2 (iteT ⟨len1, q⟩)
  refine iteDF h2 ⟨_, rfl, a, _, _, _, rfl, rfl, hS, rfl, _, rfl, _, _, rfl, rfl, _, rfl, ?_⟩
  by_cases h3 : e ≤ x.r
  · exact iteDT h3 ⟨len1, q⟩
  refine iteDF h3 ⟨_, rfl, a, _, _, _, rfl, rfl, hS, rfl, _, _, rfl, rfl, _, rfl, ?_⟩
  by_cases h4 : x.b < 0
  · exact iteDT h4 (iteT ⟨len1, q⟩)
  refine iteDF h4 ⟨_, rfl, a, _, _, _, rfl, rfl, hS, rfl, _, rfl, a, _, _, _, rfl, rfl, hS, rfl, _, _, rfl, rfl, _, rfl, ?_⟩
  by_cases h5 : x.t < x.b
  · exact iteDT h5 (iteT ⟨len1, q⟩)
  refine iteDF h5 ⟨_, rfl, a, _, _, _, rfl, rfl, hS, rfl, _, rfl, _, _, rfl, rfl, _, rfl, iteDT ?_ ⟨len1, q⟩⟩
  refine Classical.byContradiction fun h6 => hn ⟨by omega, by omega, by omega, by omega, by omega, by omega⟩
end
/-! ### the program's stretches -/
def spEnd (K : PySem.W.Frag) : Sp := fun vs H Q _ => ∃ (n : Nat) (a : Addr) (x : B4) (p m : Int), vs = [.int n, .ref a, .int p, .int m] ∧ n ≤ 60 ∧ SqT K H a [.int x.l, .int x.b, .int x.r, .int x.t] ∧ Box (2 ^ n) x ∧ 0 ≤ p ∧ p ≤ 4 ^ n ∧ m = ct true n (some x) p ∧
  ∀ H' : Hp, Same H H' → Q (.int ((nx false n (some x) p).getD (4 ^ n))) H'
/-- the list of the first k stretches -/
structure Told (n : Nat) (x : B4) (H : Hp) (l : Addr) (k : Nat) (as : List Addr) : Prop where
  lst : H l = some (.lst (as.map V.ref))
  len : as.length = k
  tup : ∀ j b, as[j]? = some b → H b = some (.tup [.int (s1 n (some x) j), .int (sf n (some x) (j + 1) - 1)])
  lt : ∀ j, j < k → ct true n (some x) (sf n (some x) j) < ar (some x)
  s0 : 0 ≤ sf n (some x) k
  s1 : sf n (some x) k ≤ 4 ^ n
def spStr (K : PySem.W.Frag) (cF cB cN cT : Addr) : Sp := fun vs H Q E => ∃ (n : Int) (a : Addr) (x : B4) (m : Int), vs = [.int n, .ref a, .int m] ∧ SqT K H a [.int x.l, .int x.b, .int x.r, .int x.t] ∧
  ((¬ (0 ≤ n ∧ n ≤ 60) ∧ Rf cF H E) ∨ ∃ N : Nat, n = N ∧ N ≤ 60 ∧ ((¬ Box (2 ^ N) x ∧ Rf cB H E) ∨ Box (2 ^ N) x ∧ ((¬ (0 ≤ m ∧ m < 101) ∧ Rf cN H E) ∨ ∃ M : Nat, m = M ∧ M ≤ 100 ∧
    (∀ (H' : Hp) (l : Addr) (k : Nat) (as : List Addr), Same H H' → Told N x H' l k as → k ≤ M → ¬ ct true N (some x) (sf N (some x) k) < ar (some x) → Q (.ref l) H') ∧
    (∀ H', Same H H' → (∀ j, j ≤ M → ct true N (some x) (sf N (some x) j) < ar (some x)) → E (.ref cT) none H'))))
section
variable {P : Program} {w : World} {K : PySem.W.Frag} {mg : Str → Option Value} {base : Heap} {cF cP cC cS cB cN cT : Addr}
theorem sc_end_of_stretch : FnScope ["folds", "box", "first", "met", "end"] ["folds", "box", "first", "met"] (defScope s_end_of_stretch) := ⟨rfl, rfl, rfl, by decide +kernel, rfl, by decide +kernel, by decide +kernel⟩
theorem ok_end_of_stretch (D : DefAt K mg "end_of_stretch" s_end_of_stretch) (GN : FnAt P w K mg base 4 "place_numbered" ["folds", "box", "number", "inside"] (spNumb K)) (GC : FnAt P w K mg base 2 "cells_of" ["folds"] spCells) :
    FnAt P w K mg base 5 "end_of_stretch" ["folds", "box", "first", "met"] (spEnd K) := by
  refine FnAt.mk D sc_end_of_stretch (fun _ _ _ _ _ _ us hl => match us, hl with | [_, _, _, _], _ => rfl) (fun vs H Q E h => ?_) (fun f cdv A outer s H vs Q E hr h => ?_)
  · obtain ⟨n, a, x, p, m, rfl, _⟩ := h; rfl
  obtain ⟨n, a, x, p, m, rfl, hn, hS, hx, h0, h1, rfl, q⟩ := h
  have hr2 := hr.mono (j := 2) (by decide)
  refine ⟨_, pss_cons (ps_set (i := 4) sc_end_of_stretch.nd rfl (Or.inl rfl) (pe_fn GN hr (by rfl) (pa_cons (pv 0) (pa_cons (pv 1) (pa_cons (pe_op op_sub (pv 2) (pv 3)) (pa_cons pe_bl pa_nil))))))
    (pss_cons (ps_if (pt_cmp (pc_isN (pv 4))) (pss_one (ps_ret (pe_fn GC hr2 (by rfl) (pa_cons (pv 0) pa_nil)))) pss_nil)
    (pss_one (ps_ret (pv 4)))), ?_⟩
  have e := ct_both (m := n) (x := some x) h0
  have e' : p - ct true n (some x) p = ct false n (some x) p := by omega
  refine ⟨_, rfl, _, rfl, _, rfl, _, rfl, _, _, rfl, rfl, n, a, x, p - ct true n (some x) p, false, rfl, hn, hS, hx, by rw [e']; exact ct_nonneg h0, fun H1 s1 => ?_⟩
  rw [e']
  have q1 := q H1 s1
  have en : nq false n (some x) (ct false n (some x) p) = nx false n (some x) p := rfl
  rw [en]
  refine ⟨_, rfl, _, rfl, ?_⟩
  cases hnx : nx false n (some x) p with
  | none =>
    rw [hnx] at q1
    exact iteDT rfl ⟨_, rfl, n, rfl, hn, q1⟩
  | some r =>
    rw [hnx] at q1
    exact iteDF (by intro z; cases z) ⟨_, rfl, q1⟩
theorem sc_stretches : FnScope ["folds", "box", "most", "found", "met", "first", "end"] ["folds", "box", "most"] (defScope s_stretches) := ⟨rfl, rfl, rfl, by decide +kernel, rfl, by decide +kernel, by decide +kernel⟩
theorem ok_stretches {T : Addr} {o : Obj} {t16 : Tok} {nn : Nat} (D : DefAtD K mg "stretches" s_stretches (.ref T)) (ho : K.lookup T = some o) (hs : o.data = .seq #[.int 16 t16] nn) (mlen : mg "len" = none) (mT : ∃ t, mg "MOST_STRETCHES" = some (.int 100 t)) (O : Exc K mg "TooMany" cT)
    (GF : F1 P w K mg base 1 "check_folds" ["folds"] spChkF (bdF cF)) (GB : F1 P w K mg base 1 "check_box" ["box", "side"] (spChkB K) (bdB K cB)) (GS : FnAt P w K mg base 1 "side_of" ["folds"] spSide)
    (GN : F1 P w K mg base 1 "check_number" ["number", "end"] spChkN (bdP cN)) (GI : FnAt P w K mg base 1 "cells_in" ["box"] (spCellsIn K)) (GP : FnAt P w K mg base 4 "place_numbered" ["folds", "box", "number", "inside"] (spNumb K))
    (GE : FnAt P w K mg base 5 "end_of_stretch" ["folds", "box", "first", "met"] (spEnd K)) : FnAt1 P w K mg base 6 "stretches" ["folds", "box", "most"] (spStr K cF cB cN cT) := by
  obtain ⟨tT, mT⟩ := mT
  refine FnAt1.mkD D ho hs sc_stretches (fun _ _ _ _ _ _ us hl => match us, hl with | [_, _, _], _ => ⟨_, rfl, rfl⟩) (fun vs H Q E h => ?_) (fun f cdv A outer s H vs Q E hr h => ?_)
  · obtain ⟨n, a, x, m, rfl, _⟩ := h; rfl
  obtain ⟨n, a, x, m, rfl, hS, h⟩ := h
  have hr1 := hr.mono (j := 1) (by decide)
  have hr4 := hr.mono (j := 4) (by decide)
  refine ⟨_, pss_cons (ps_expr (pe_fn1 GF pass1 hr1 (by rfl) (pa_cons (pv 0) pa_nil)))
    (pss_cons (ps_expr (pe_fn1 GB pass1 hr1 (by rfl) (pa_cons (pv 1) (pa_cons (pe_fn GS hr1 (by rfl) (pa_cons (pv 0) pa_nil)) pa_nil))))
    (pss_cons (ps_expr (pe_fn1 GN pass1 hr1 (by rfl) (pa_cons (pv 2) (pa_cons (pe_op op_add (pe_glob (v := .int 100) (by rfl) mT ⟨_, rfl⟩) pe_int) pa_nil))))
    (pss_cons (ps_set (i := 3) sc_stretches.nd rfl (Or.inl rfl) (pe_lst pa_nil))
    (pss_cons (ps_set (i := 4) sc_stretches.nd rfl (Or.inl rfl) pe_int)
    (pss_cons (ps_while PassesOwn.leaving (pt_cmpR op_lt (pv 4) (pe_fn GI hr1 (by rfl) (pa_cons (pv 1) pa_nil)) (nomark _))
      (pss_cons (ps_if (pt_cmpR op_eq (pe_callB call_len_seq (by rfl) mlen PySem.boot_len (pa_cons (pv 3) pa_nil)) (pv 2) (nomark _)) (pss_one (ps_raise O throw1 rfl (by rfl) (pa_cons pe_str pa_nil))) pss_nil)
      (pss_cons (ps_set (i := 5) sc_stretches.nd rfl (Or.inl rfl) (pe_fn GP hr4 (by rfl) (pa_cons (pv 0) (pa_cons (pv 1) (pa_cons (pv 4) (pa_cons pe_bl pa_nil))))))
      (pss_cons (ps_set (i := 6) sc_stretches.nd rfl (Or.inl rfl) (pe_fn GE hr (by rfl) (pa_cons (pv 0) (pa_cons (pv 1) (pa_cons (pv 5) (pa_cons (pv 4) pa_nil))))))
      (pss_cons (ps_expr (pe_bm PySem.F.plainAttrs_list PySem.F.slot_list_append PySem.F.type_list_append mt_append (pv 3) (pa_cons (pe_tup (pa_cons (pv 5) (pa_cons (pe_op op_sub (pv 6) pe_int) pa_nil))) pa_nil)))
      (pss_one (ps_set (i := 4) sc_stretches.nd rfl (Or.inl rfl) (pe_op op_sub (pe_op op_add (pv 4) (pv 6)) (pv 5)))))))))
    (pss_one (ps_ret (pv 3)))))))), ?_⟩
  rcases h with ⟨hb, q⟩ | ⟨N, rfl, hn, ⟨hb, q⟩ | ⟨hx, ⟨hb, q⟩ | ⟨M, rfl, hM, q1, q2⟩⟩⟩
  · exact ⟨_, rfl, .inr ⟨n, rfl, hb, q H (Same.refl _)⟩⟩
  · refine ⟨_, rfl, .inl ⟨N, rfl, hn, ?_⟩⟩
    exact ⟨_, rfl, _, rfl, N, rfl, hn, .inr ⟨a, x, _, rfl, hS, hb, q H (Same.refl _)⟩⟩
  · refine ⟨_, rfl, .inl ⟨N, rfl, hn, ?_⟩⟩
    refine ⟨_, rfl, _, rfl, N, rfl, hn, .inl ⟨a, x, _, rfl, hS, hx, ?_⟩⟩
    exact ⟨_, rfl, _, _, rfl, rfl, .inr ⟨m, _, rfl, hb, q H (Same.refl _)⟩⟩
  · refine ⟨_, rfl, .inl ⟨N, rfl, hn, ?_⟩⟩
    refine ⟨_, rfl, _, rfl, N, rfl, hn, .inl ⟨a, x, _, rfl, hS, hx, ?_⟩⟩
    refine ⟨_, rfl, _, _, rfl, rfl, .inl ⟨M, _, rfl, by omega, (by show (M : Int) < 100 + 1; omega), ?_⟩⟩
    refine ⟨(by show 0 ≤ sizeLine; decide), fun l fl => ?_⟩
    have hp4 := p4 N
    refine ⟨fun μ σ H' => ∃ (k : Nat) (as : List Addr) (u5 u6 : Option V), σ = [some (.int N), some (.ref a), some (.int M), some (.ref l), some (.int (ct true N (some x) (sf N (some x) k))), u5, u6] ∧ Same H H' ∧ Told N x H' l k as ∧ k ≤ M ∧
      μ = (ar (some x) - ct true N (some x) (sf N (some x) k)).toNat, ⟨_, 0, [], none, none, rfl, same_new fl _, ⟨upd_same, rfl, fun j b e => by simp at e, fun j hj => absurd hj (Nat.not_lt_zero _), Int.le_refl 0, by show (0 : Int) ≤ 4 ^ N; omega⟩, Nat.zero_le _, rfl⟩, ?_⟩
    rintro μ σ H' ⟨k, as, u5, u6, rfl, sH, T, hk, rfl⟩
    have hS' := sH.tup hS
    refine ⟨_, rfl, _, rfl, .ref a, some x, N, rfl, ⟨a, rfl, hS'⟩, hx.good, hn, _, _, rfl, rfl, _, rfl, ?_⟩
    by_cases hlt : ct true N (some x) (sf N (some x) k) < ar (some x)
    rotate_left
    · exact iteDF hlt ⟨_, rfl, q1 H' l k as sH T hk hlt⟩
    refine iteDT hlt ⟨_, fun _ _ z => z, ?_⟩
    refine ⟨_, rfl, l, _, rfl, .inl (SqL.of T.lst), _, rfl, rfl, _, rfl, ?_⟩
    rw [List.length_map, T.len]
    by_cases hkM : k = M
    · refine iteVT (by rw [hkM]) ⟨len1, q2 H' sH fun j hj => ?_⟩
      by_cases hjk : j < k
      · exact T.lt j hjk
      · have : j = k := by omega
        rw [this]; exact hlt
    refine iteVF (by omega) ?_
    have S := str_ok hx.good T.s0 hlt
    have en : nq true N (some x) (ct true N (some x) (sf N (some x) k)) = some (FW.s1 N (some x) k) := if_pos hlt
    refine ⟨_, rfl, _, rfl, _, rfl, N, a, x, _, true, rfl, hn, hS', hx, ct_nonneg T.s0, fun H2 s2 => ?_⟩
    rw [en]
    have g1 := T.s0
    have g2 := S.from0
    have g3 := S.lt
    have g4 := S.top
    have hS2 := s2.tup hS'
    refine ⟨_, rfl, _, rfl, _, rfl, _, rfl, N, a, x, FW.s1 N (some x) k, _, rfl, hn, hS2, hx, by omega, by omega, S.same.symm, fun H3 s3 => ?_⟩
    have ee : (nx false N (some x) (FW.s1 N (some x) k)).getD (4 ^ N) = sf N (some x) (k + 1) := rfl
    rw [ee]
    have l3 := s3 _ _ (s2 _ _ T.lst)
    refine ⟨_, rfl, .inl ⟨rfl, _, SqL.of l3⟩, _, rfl, _, rfl, _, _, rfl, rfl, (by show 2 ≤ sizeLine; decide), fun t ft => ?_⟩
    have l4 := same_new ft (.tup [.int (FW.s1 N (some x) k), .int (sf N (some x) (k + 1) - 1)]) _ _ l3
    refine ⟨l, _, _, rfl, rfl, l4, ?_, ?_⟩
    · rw [List.length_map, T.len]
      exact small1000 (by omega)
    refine ⟨_, rfl, _, rfl, _, _, rfl, rfl, _, rfl, _, _, rfl, rfl, ?_⟩
    have num := S.num
    have sN : Same H (upd (upd H3 t (.tup [.int (FW.s1 N (some x) k), .int (sf N (some x) (k + 1) - 1)])) l (.lst (as.map V.ref ++ [.ref t]))) := fun b o e => by
      rw [upd_ne (ne_of_none e fl)]
      exact same_new ft _ _ _ (s3 _ _ (s2 _ _ (sH _ _ e)))
    refine ⟨_, ?_, k + 1, as ++ [t], some (.int (FW.s1 N (some x) k)), some (.int (sf N (some x) (k + 1))), ?_, sN, ⟨?_, ?_, fun j b e => ?_, fun j hj => ?_, by omega, g4⟩, by omega, rfl⟩
    · rw [num]; omega
    · rw [num, show ct true N (some x) (sf N (some x) k) + (sf N (some x) (k + 1) - FW.s1 N (some x) k) = ct true N (some x) (sf N (some x) k) + sf N (some x) (k + 1) - FW.s1 N (some x) k by omega]
      rfl
    · rw [upd_same, List.map_append]; rfl
    · rw [List.length_append, T.len]; rfl
    · have hne : ∀ {c : Addr} {ys : List V}, upd H3 t (.tup [.int (FW.s1 N (some x) k), .int (sf N (some x) (k + 1) - 1)]) c = some (.tup ys) → c ≠ l := fun {c ys} e => ne_of e l4 (by intro z; cases z)
      by_cases hj : j < as.length
      · rw [List.getElem?_append_left hj] at e
        have e1 := same_new ft (.tup [.int (FW.s1 N (some x) k), .int (sf N (some x) (k + 1) - 1)]) _ _ (s3 _ _ (s2 _ _ (T.tup j b e)))
        rw [upd_ne (hne e1)]
        exact e1
      · rw [List.getElem?_append_right (by omega)] at e
        have hj2 : j - as.length = 0 := by
          have := (List.getElem?_eq_some_iff.mp e).1
          simp at this
          omega
        rw [hj2] at e
        cases e
        have ej : j = k := by have := T.len; omega
        subst ej
        have e1 : upd H3 t (.tup [.int (FW.s1 N (some x) j), .int (sf N (some x) (j + 1) - 1)]) t = some (.tup [.int (FW.s1 N (some x) j), .int (sf N (some x) (j + 1) - 1)]) := upd_same
        rw [upd_ne (hne e1)]
        exact e1
    · by_cases hjk : j < k
      · exact T.lt j hjk
      · have : j = k := by omega
        rw [this]; exact hlt
end
/-! ### the law -/
theorem p4inj {a b : Nat} (h : (4 : Int) ^ a ≤ 4 ^ b) : a ≤ b := by
  refine Nat.le_of_not_lt fun hn => ?_
  have h1 : (4 : Int) ^ (b + 1) ≤ 4 ^ a := p4mono hn
  have h2 := p4 b
  rw [p4s] at h1
  omega
theorem kit_ll (K : PySem.W.Frag) : PySem.W.kitOne K (.type "list") (.type "list") = some true := by with_unfolding_all rfl
theorem Told.same {n : Nat} {x : B4} {H H' : Hp} {l : Addr} {k : Nat} {as : List Addr} (s : Same H H') (T : Told n x H l k as) : Told n x H' l k as := ⟨s _ _ T.lst, T.len, fun j b e => s _ _ (T.tup j b e), T.lt, T.s0, T.s1⟩
theorem Told.get {n : Nat} {x : B4} {H : Hp} {l : Addr} {k : Nat} {as : List Addr} {i : Nat} {y : V} (T : Told n x H l k as) (e : (as.map V.ref)[i]? = some y) : ∃ b, y = .ref b ∧ i < k ∧ H b = some (.tup [.int (FW.s1 n (some x) i), .int (sf n (some x) (i + 1) - 1)]) := by
  rw [List.getElem?_map] at e
  cases e1 : as[i]? with
  | none => rw [e1] at e; cases e
  | some b =>
    rw [e1] at e
    cases e
    have := (List.getElem?_eq_some_iff.mp e1).1
    have := T.len
    exact ⟨b, rfl, by omega, T.tup i b e1⟩
theorem ix_tupC {X : Cx} (K : PySem.W.Frag) (h : X.K = K) : IxR X (rIxT K) := h ▸ ix_tup
def spOrder : Sp := fun vs H Q _ => ∃ (l : Addr) (M n : Nat) (x : B4) (k : Nat) (as : List Addr), vs = [.ref l, .int M, .int (4 ^ n)] ∧ Told n x H l k as ∧ Box (2 ^ n) x ∧ k ≤ M ∧ Q (.bl true) H
def spInSq (K : PySem.W.Frag) : Sp := fun vs H Q _ => ∃ (n : Nat) (a b : Addr) (x : B4) (p q : Int), vs = [.int n, .ref a, .ref b] ∧ n ≤ 60 ∧ SqT K H a [.int x.l, .int x.b, .int x.r, .int x.t] ∧ H b = some (.tup [.int p, .int q]) ∧ 0 ≤ p ∧ p ≤ q ∧ q < 4 ^ n ∧
  (∀ t, p ≤ t → t ≤ q → inO (some x) (cw n t) = true) ∧ ∀ H', Same H H' → Q (.bl true) H'
def spIsPl : Sp := fun vs H Q _ => ∃ p l m : Int, vs = [.int p, .int l, .int m] ∧ l ≤ p ∧ p < m ∧ Q (.bl true) H
def spMore (K : PySem.W.Frag) : Sp := fun vs H Q _ => ∃ (n : Nat) (a : Addr) (x : B4) (M : Nat), vs = [.int n, .ref a, .int M] ∧ n ≤ 60 ∧ SqT K H a [.int x.l, .int x.b, .int x.r, .int x.t] ∧ Box (2 ^ n) x ∧ M ≤ 100 ∧ (∀ j, j ≤ M → ct true n (some x) (sf n (some x) j) < ar (some x)) ∧
  ∀ H', Same H H' → Q (.bl true) H'
def spPlaces (K : PySem.W.Frag) : Sp := fun vs H Q _ => ∃ (n : Nat) (a l c : Addr) (x : B4) (k : Nat) (as : List Addr) (ms : List Int), vs = [.int n, .ref a, .ref l, .ref c] ∧ n ≤ 60 ∧ SqT K H a [.int x.l, .int x.b, .int x.r, .int x.t] ∧ Box (2 ^ n) x ∧ Told n x H l k as ∧ k ≤ 100 ∧
  ¬ ct true n (some x) (sf n (some x) k) < ar (some x) ∧ H c = some (.lst (ms.map V.int)) ∧ (∀ m ∈ ms, Builtin.Int.intBits m ≤ 2 ^ 20) ∧ ∀ H', Same H H' → Q (.bl true) H'
def spLaw (K : PySem.W.Frag) : Sp := fun vs H Q _ => ∃ (a : Addr) (ns : List Int), vs = [.ref a] ∧ SqL K H a (ns.map V.int) ∧ (∀ n ∈ ns, Builtin.Int.intBits n ≤ 2 ^ 20) ∧ ∀ H', Q (.bl true) H'
section
variable {P : Program} {w : World} {K : PySem.W.Frag} {mg : Str → Option Value} {base : Heap} {cF cB cN cT : Addr}
theorem sc_law_in_order : FnScope ["_law_told", "_law_most", "_law_many", "_law_before", "_law_pair"] ["_law_told", "_law_most", "_law_many"] (defScope s_law_in_order) := ⟨rfl, rfl, rfl, by decide +kernel, rfl, by decide +kernel, by decide +kernel⟩
theorem ok_law_in_order (D : DefAt K mg "_law_in_order" s_law_in_order) (B : Blt mg) (mlist : mg "list" = none) (mx : mg "max" = none) (GW : FnAt P w K mg base 1 "_law_whole" ["_law_found"] spWhole) : FnAt P w K mg base 2 "_law_in_order" ["_law_told", "_law_most", "_law_many"] spOrder := by
  refine FnAt.mk D sc_law_in_order (fun _ _ _ _ _ _ us hl => match us, hl with | [_, _, _], _ => rfl) (fun vs H Q E h => ?_) (fun f cdv A outer s H vs Q E hr h => ?_)
  · obtain ⟨l, M, n, x, k, as, rfl, _⟩ := h; rfl
  obtain ⟨l, M, n, x, k, as, rfl, T, hx, hkM, q⟩ := h
  refine ⟨_, pss_cons (ps_if (pw_or (pt_not (pt_val (pe_callB call_isinst (by rfl) B.isi PyProof.Rows.boot_isinstance (pa_cons (pv 0) (pa_cons (pe_bltn (v := .ty "list") (by rfl) mlist PyProof.Rows.boot_list rfl) pa_nil)))))
      (pw_or1 (pt_cmpR op_gt (pe_callB call_len_seq (by rfl) B.len PySem.boot_len (pa_cons (pv 0) pa_nil)) (pv 1) (nomark _)))).pt (pss_one (ps_ret pe_bl)) pss_nil)
    (pss_cons (ps_set (i := 3) sc_law_in_order.nd rfl (Or.inl rfl) (pe_un un_neg pe_int))
    (pss_cons (ps_for PassesOwn.never rfl (pi_list (pv 0)) (pg_name (i := 4) sc_law_in_order.nd rfl (Or.inl rfl))
      (pss_cons (ps_if (pw_or (pt_not (pt_val (pe_callB call_isinst (by rfl) B.isi PyProof.Rows.boot_isinstance (pa_cons (pv 4) (pa_cons (pe_bltn (v := .ty "tuple") (by rfl) B.tuple PyProof.Rows.boot_tuple rfl) pa_nil)))))
        (pw_or1 (pt_cmpR op_ne (pe_callB call_len_seq (by rfl) B.len PySem.boot_len (pa_cons (pv 4) pa_nil)) pe_int (nomark _)))).pt (pss_one (ps_ret pe_bl)) pss_nil)
      (pss_cons (ps_if (pw_or (pt_not (pt_val (pe_fn GW hr (by rfl) (pa_cons (pe_ix ix_tup (pv 4) pe_int (fun _ _ => rfl)) pa_nil)))) (pw_or1 (pt_not (pt_val (pe_fn GW hr (by rfl) (pa_cons (pe_ix ix_tup (pv 4) pe_int (fun _ _ => rfl)) pa_nil)))))).pt (pss_one (ps_ret pe_bl)) pss_nil)
      (pss_cons (ps_if (pw_or (pt_cmpR op_lt (pe_ix ix_tup (pv 4) pe_int (fun _ _ => rfl)) (pe_callB (call_max2 rfl) (by rfl) mx PyProof.Rows.boot_max (pa_cons (pe_op op_add (pv 3) pe_int) (pa_cons pe_int pa_nil))) (nomark _))
        (pw_or (pt_cmpR op_lt (pe_ix ix_tup (pv 4) pe_int (fun _ _ => rfl)) (pe_ix ix_tup (pv 4) pe_int (fun _ _ => rfl)) (nomark _)) (pw_or1 (pt_cmpR op_ge (pe_ix ix_tup (pv 4) pe_int (fun _ _ => rfl)) (pv 2) (nomark _))))).pt (pss_one (ps_ret pe_bl)) pss_nil)
      (pss_one (ps_set (i := 3) sc_law_in_order.nd rfl (Or.inl rfl) (pe_ix ix_tup (pv 4) pe_int (fun _ _ => rfl))))))))
    (pss_one (ps_ret pe_bl)))), ?_⟩
  refine ⟨_, rfl, _, _, _, _, rfl, .lst T.lst, kit_ll _, _, rfl, iteF ?_⟩
  refine ⟨_, rfl, l, _, rfl, .inl (SqL.of T.lst), _, rfl, _, _, rfl, rfl, _, rfl, iteDF (by rw [List.length_map, T.len]; omega) ?_⟩
  refine ⟨_, rfl, ?_⟩
  refine ⟨_, rfl, l, rfl, ⟨_, SqL.of T.lst⟩, for_list (K := K) (a := l) (xs := as.map V.ref) (fun i σ H' => ∃ (bf : Int) (u : Option V), σ = [some (.ref l), some (.int M), some (.int (4 ^ n)), some (.int bf), u] ∧ H' = H ∧ (i = 0 ∧ bf = -2 ∨ ∃ j, i = j + 1 ∧ bf = sf n (some x) (j + 1) - 1))
    ⟨-2, none, rfl, rfl, .inl ⟨rfl, rfl⟩⟩ (fun i σ H' _ ⟨_, _, _, e, _⟩ => by rw [e]; exact SqL.of T.lst) ?_ ?_⟩
  · rintro i y σ H' hy ⟨bf, u, rfl, rfl, hbf⟩
    obtain ⟨b, rfl, hik, hb⟩ := T.get hy
    have S := str_ok hx.good (sf_mono hx.good i fun j hj => T.lt j (by omega)).1 (T.lt i hik)
    have m0 := (sf_mono hx.good i fun j hj => T.lt j (by omega)).1
    have g1 := S.from0
    have g2 := S.lt
    have g3 := S.top
    refine ⟨_, rfl, _, _, _, _, rfl, .tup hb, kit_tt _, _, rfl, iteF ?_⟩
    refine ⟨_, rfl, b, _, rfl, .inr (SqT.of hb), rfl, _, rfl, iteF ?_⟩
    refine ⟨_, rfl, b, _, _, _, rfl, rfl, SqT.of hb, rfl, _, rfl, _, rfl, iteF ?_⟩
    refine ⟨_, rfl, b, _, _, _, rfl, rfl, SqT.of hb, rfl, _, rfl, _, rfl, iteF ?_⟩
    refine ⟨_, rfl, b, _, _, _, rfl, rfl, SqT.of hb, rfl, _, rfl, _, _, rfl, rfl, _, _, rfl, _, _, rfl, rfl, _, rfl, iteDF ?_ ?_⟩
    · rcases hbf with ⟨rfl, rfl⟩ | ⟨j, rfl, rfl⟩
      · have : ¬ FW.s1 n (some x) 0 < 0 := by omega
        split <;> omega
      · have gp := str_gap hx.good (k := j) fun i hi => T.lt i (by omega)
        split <;> omega
    refine ⟨_, rfl, b, _, _, _, rfl, rfl, SqT.of hb, rfl, _, rfl, b, _, _, _, rfl, rfl, SqT.of hb, rfl, _, _, rfl, rfl, _, rfl, iteDF (by omega) ?_⟩
    refine ⟨_, rfl, b, _, _, _, rfl, rfl, SqT.of hb, rfl, _, rfl, _, _, rfl, rfl, _, rfl, iteDF (by omega) ?_⟩
    exact ⟨_, rfl, b, _, _, _, rfl, rfl, SqT.of hb, rfl, _, _, rfl, rfl, .inr ⟨i, rfl, rfl⟩⟩
  · rintro σ H' ⟨_, _, rfl, rfl, _⟩
    exact q
theorem sc_law_in_squares : FnScope ["_law_folds_here", "_law_box_here", "_law_pair", "_law_place_here", "_law_block", "_law_broad", "_law_x", "_law_y", "_law_left", "_law_low"] ["_law_folds_here", "_law_box_here", "_law_pair"] (defScope s_law_in_squares) := ⟨rfl, rfl, rfl, by decide +kernel, rfl, by decide +kernel, by decide +kernel⟩
theorem ok_law_in_squares (D : DefAt K mg "_law_in_squares" s_law_in_squares) (GA : FnAt P w K mg base 3 "cell_at" ["folds", "place"] spCellAt) (GW : FnAt P w K mg base 1 "_law_within" ["_law_cell", "_law_box_here"] (spWithin K)) :
    FnAt P w K mg base 4 "_law_in_squares" ["_law_folds_here", "_law_box_here", "_law_pair"] (spInSq K) := by
  refine FnAt.mk D sc_law_in_squares (fun _ _ _ _ _ _ us hl => match us, hl with | [_, _, _], _ => rfl) (fun vs H Q E h => ?_) (fun f cdv A outer s H vs Q E hr h => ?_)
  · obtain ⟨n, a, b, x, p, q, rfl, _⟩ := h; rfl
  obtain ⟨n, a, b, x, p₀, z, rfl, hn, hS, hb, p0, pz, z1, hall, q⟩ := h
  have hr1 := hr.mono (j := 1) (by decide)
  refine ⟨_, pss_cons (ps_set (i := 3) sc_law_in_squares.nd rfl (Or.inl rfl) (pe_ix ix_tup (pv 2) pe_int (fun _ _ => rfl)))
    (pss_cons (ps_while PassesOwn.never (pt_cmpR op_le (pv 3) (pe_ix ix_tup (pv 2) pe_int (fun _ _ => rfl)) (nomark _))
      (pss_cons (ps_set (i := 4) sc_law_in_squares.nd rfl (Or.inl rfl) pe_int)
      (pss_cons (ps_set (i := 5) sc_law_in_squares.nd rfl (Or.inl rfl) pe_int)
      (pss_cons (ps_mid (ps_while PassesOwn.never (pw_and (pt_cmpR op_eq (pe_op op_mod (pv 3) (pe_op op_mul pe_int (pv 4))) pe_int (nomark _)) (pw_and1 (pt_cmpR op_le (pe_op op_sub (pe_op op_add (pv 3) (pe_op op_mul pe_int (pv 4))) pe_int) (pe_ix ix_tup (pv 2) pe_int (fun _ _ => rfl)) (nomark _)))).pt
        (pss_cons (ps_set (i := 4) sc_law_in_squares.nd rfl (Or.inl rfl) (pe_op op_mul pe_int (pv 4))) (pss_one (ps_set (i := 5) sc_law_in_squares.nd rfl (Or.inl rfl) (pe_op op_mul pe_int (pv 5)))))))
      (pss_cons (ps_asg (pe_fn GA hr (by rfl) (pa_cons (pv 0) (pa_cons (pv 3) pa_nil))) (pg_tup rfl (pgs_cons (pg_name (i := 6) sc_law_in_squares.nd rfl (Or.inl rfl)) (pgs_cons (pg_name (i := 7) sc_law_in_squares.nd rfl (Or.inl rfl)) pgs_nil))))
      (pss_cons (ps_set (i := 8) sc_law_in_squares.nd rfl (Or.inl rfl) (pe_op op_mul (pe_op op_fdivL (pv 6) (pv 5)) (pv 5)))
      (pss_cons (ps_set (i := 9) sc_law_in_squares.nd rfl (Or.inl rfl) (pe_op op_mul (pe_op op_fdivL (pv 7) (pv 5)) (pv 5)))
      (pss_cons (ps_if (pw_or (pt_not (pt_val (pe_fn GW hr1 (by rfl) (pa_cons (pe_tup (pa_cons (pv 8) (pa_cons (pv 9) pa_nil))) (pa_cons (pv 1) pa_nil)))))
        (pw_or1 (pt_not (pt_val (pe_fn GW hr1 (by rfl) (pa_cons (pe_tup (pa_cons (pe_op op_sub (pe_op op_add (pv 8) (pv 5)) pe_int) (pa_cons (pe_op op_sub (pe_op op_add (pv 9) (pv 5)) pe_int) pa_nil))) (pa_cons (pv 1) pa_nil))))))).pt (pss_one (ps_ret pe_bl)) pss_nil)
      (pss_one (ps_set (i := 3) sc_law_in_squares.nd rfl (Or.inl rfl) (pe_op op_add (pv 3) (pv 4))))))))))))
    (pss_one (ps_ret pe_bl))), ?_⟩
  have z2 : ([V.non, V.non] : List V).length ≤ sizeLine := by show 2 ≤ sizeLine; decide
  refine ⟨_, rfl, b, _, _, _, rfl, rfl, SqT.of hb, rfl, ?_⟩
  refine ⟨fun μ σ H' => ∃ (p : Int) (u4 u5 u6 u7 u8 u9 : Option V), σ = [some (.int n), some (.ref a), some (.ref b), some (.int p), u4, u5, u6, u7, u8, u9] ∧ Same H H' ∧ p₀ ≤ p ∧ μ = (z + 1 - p).toNat, ⟨_, p₀, none, none, none, none, none, none, rfl, Same.refl _, Int.le_refl _, rfl⟩, ?_⟩
  rintro μ σ H1 ⟨p, u4, u5, u6, u7, u8, u9, rfl, s1, hp, rfl⟩
  have hb1 := s1 _ _ hb
  refine ⟨_, rfl, _, rfl, b, _, _, _, rfl, rfl, SqT.of hb1, rfl, _, _, rfl, rfl, _, rfl, ?_⟩
  by_cases hpz : p ≤ z
  rotate_left
  · exact iteDF hpz (q H1 s1)
  refine iteDT hpz ⟨_, fun _ _ h => h, ?_⟩
  refine ⟨fun σ' H' => ∃ (k : Nat), σ' = [some (.int n), some (.ref a), some (.ref b), some (.int p), some (.int (4 ^ k)), some (.int (2 ^ k)), u6, u7, u8, u9] ∧ H' = H1 ∧ p % 4 ^ k = 0 ∧ p + 4 ^ k - 1 ≤ z ∧ k ≤ n, ?_, ?_⟩
  · refine ⟨fun μ σ' H' => ∃ (k : Nat), σ' = [some (.int n), some (.ref a), some (.ref b), some (.int p), some (.int (4 ^ k)), some (.int (2 ^ k)), u6, u7, u8, u9] ∧ H' = H1 ∧ p % 4 ^ k = 0 ∧ p + 4 ^ k - 1 ≤ z ∧ k ≤ n ∧ μ = n - k, ⟨_, 0, rfl, rfl, Int.emod_one p, (by rw [Int.pow_zero]; omega), Nat.zero_le _, rfl⟩, ?_⟩
    rintro μ σ' H' ⟨k, rfl, rfl, hm, hz, hkn, rfl⟩
    have hk4 := p4 k
    refine ⟨_, rfl, _, rfl, _, _, rfl, rfl, .inl ⟨by decide, by decide⟩, _, _, rfl, rfl, (by show (0 : Int) < 4 * 4 ^ k; omega), rfl, _, rfl, ?_⟩
    by_cases h1 : p % (4 * 4 ^ k) = 0
    rotate_left
    · exact iteVF h1 (iteF ⟨k, rfl, rfl, hm, hz, hkn⟩)
    refine iteVT h1 ⟨_, rfl, _, rfl, _, _, rfl, rfl, .inl ⟨by decide, by decide⟩, _, _, rfl, rfl, _, _, rfl, rfl, _, rfl, b, _, _, _, rfl, rfl, SqT.of hb1, rfl, _, _, rfl, rfl, _, rfl, ?_⟩
    by_cases h2 : p + 4 * 4 ^ k - 1 ≤ z
    rotate_left
    · exact iteDF h2 ⟨k, rfl, rfl, hm, hz, hkn⟩
    refine iteDT h2 ⟨_, fun _ _ h => h, ?_⟩
    refine ⟨_, rfl, _, _, rfl, rfl, .inl ⟨by decide, by decide⟩, ?_⟩
    refine ⟨_, rfl, _, _, rfl, rfl, .inl ⟨by decide, by decide⟩, ?_⟩
    have hk1 : k + 1 ≤ n := p4inj (by rw [p4s]; omega)
    exact ⟨_, (by omega : n - (k + 1) < n - k), k + 1, by rw [p4s, p2s]; rfl, rfl, by rw [p4s]; exact h1, by rw [p4s]; exact h2, hk1, rfl⟩
  rintro σ' H' ⟨k, rfl, rfl, hm, hz, hkn⟩
  have hk4 := p4 k
  have hk2 := p2 k
  have hk60 := p2_60 (n := k) (by omega)
  refine ⟨_, rfl, _, rfl, n, p, rfl, hn, by omega, by omega, fun c H2 s2 e2 => ?_⟩
  refine ⟨c, _, rfl, SqT.of e2, rfl, _, _, rfl, _, _, rfl, rfl, ?_⟩
  refine ⟨_, rfl, _, rfl, _, _, rfl, rfl, ⟨hk2, by omega⟩, _, rfl, _, _, rfl, rfl, .inr ⟨by omega, by omega⟩, ?_⟩
  refine ⟨_, rfl, _, rfl, _, _, rfl, rfl, ⟨hk2, by omega⟩, _, rfl, _, _, rfl, rfl, .inr ⟨by omega, by omega⟩, ?_⟩
  have cs := corners (x := some x) hkn (show 0 ≤ p by omega) hm (by omega) fun t t0 t1 => hall t (by omega) (by omega)
  have hS2 := (s1.trans s2).tup hS
  refine ⟨_, rfl, _, rfl, z2, fun t1 f1 => ?_⟩
  have g1 := same_new f1 (.tup [.int ((cw n p).1 / 2 ^ k * 2 ^ k), .int ((cw n p).2 / 2 ^ k * 2 ^ k)])
  have c1 : inB ((cw n p).1 / 2 ^ k * 2 ^ k, (cw n p).2 / 2 ^ k * 2 ^ k) x.l x.b x.r x.t = true := cs.1
  refine ⟨_, rfl, t1, a, ((cw n p).1 / 2 ^ k * 2 ^ k, (cw n p).2 / 2 ^ k * 2 ^ k), _, _, _, _, rfl, SqT.of upd_same, g1.tup hS2, true, by rw [c1], iteF ?_⟩
  refine ⟨_, rfl, _, rfl, _, _, rfl, rfl, _, _, rfl, rfl, _, rfl, _, rfl, _, _, rfl, rfl, _, _, rfl, rfl, z2, fun t2 f2 => ?_⟩
  have g2 := same_new f2 (.tup [.int ((cw n p).1 / 2 ^ k * 2 ^ k + 2 ^ k - 1), .int ((cw n p).2 / 2 ^ k * 2 ^ k + 2 ^ k - 1)])
  have c2 : inB ((cw n p).1 / 2 ^ k * 2 ^ k + 2 ^ k - 1, (cw n p).2 / 2 ^ k * 2 ^ k + 2 ^ k - 1) x.l x.b x.r x.t = true := cs.2
  refine ⟨_, rfl, t2, a, ((cw n p).1 / 2 ^ k * 2 ^ k + 2 ^ k - 1, (cw n p).2 / 2 ^ k * 2 ^ k + 2 ^ k - 1), _, _, _, _, rfl, SqT.of upd_same, g2.tup (g1.tup hS2), true, by rw [c2], iteF ?_⟩
  refine ⟨_, rfl, _, rfl, _, _, rfl, rfl, ?_⟩
  exact ⟨_, (by omega : (z + 1 - (p + 4 ^ k)).toNat < (z + 1 - p).toNat), _, _, _, _, _, _, _, rfl, s1.trans (s2.trans (g1.trans g2)), by omega, rfl⟩
theorem sc_law_is_place : FnScope ["_law_found", "_law_least", "_law_many"] ["_law_found", "_law_least", "_law_many"] (defScope s_law_is_place) := ⟨rfl, rfl, rfl, by decide +kernel, rfl, by decide +kernel, by decide +kernel⟩
theorem ok_law_is_place (D : DefAt K mg "_law_is_place" s_law_is_place) (GW : FnAt P w K mg base 1 "_law_whole" ["_law_found"] spWhole) : FnAt P w K mg base 2 "_law_is_place" ["_law_found", "_law_least", "_law_many"] spIsPl := by
  refine FnAt.mk D sc_law_is_place (fun _ _ _ _ _ _ us hl => match us, hl with | [_, _, _], _ => rfl) (fun vs H Q E h => ?_) (fun f cdv A outer s H vs Q E hr h => ?_)
  · obtain ⟨p, l, m, rfl, _⟩ := h; rfl
  obtain ⟨p, l, m, rfl, h0, h1, q⟩ := h
  refine ⟨_, pss_one (ps_ret (pe_and (pe_fn GW hr (by rfl) (pa_cons (pv 0) pa_nil)) (pe_one (pe_chain op_le op_lt (pv 1) (pv 0) (pv 2))))), ?_⟩
  refine ⟨_, rfl, _, rfl, _, rfl, iteT ⟨_, rfl, _, rfl, _, _, rfl, rfl, _, rfl, iteDT h0 ⟨_, rfl, _, _, rfl, rfl, ?_⟩⟩⟩
  dsimp only
  rw [decide_eq_true h1]
  exact q
theorem sc_law_more : FnScope ["_law_folds_here", "_law_box_here", "_law_most", "_law_many", "_law_place_here", "_law_k", "_law_inward"] ["_law_folds_here", "_law_box_here", "_law_most"] (defScope s_law_more) := ⟨rfl, rfl, rfl, by decide +kernel, rfl, by decide +kernel, by decide +kernel⟩
theorem ok_law_more (D : DefAt K mg "_law_more" s_law_more) (mr : mg "range" = none) (GI : FnAt P w K mg base 5 "next_in" ["folds", "box", "place"] (spNext K true)) (GO : FnAt P w K mg base 5 "next_out" ["folds", "box", "place"] (spNext K false))
    (GL : FnAt P w K mg base 2 "_law_is_place" ["_law_found", "_law_least", "_law_many"] spIsPl) (GW : FnAt P w K mg base 1 "_law_within" ["_law_cell", "_law_box_here"] (spWithin K)) (GA : FnAt P w K mg base 3 "cell_at" ["folds", "place"] spCellAt) :
    FnAt P w K mg base 6 "_law_more" ["_law_folds_here", "_law_box_here", "_law_most"] (spMore K) := by
  refine FnAt.mk D sc_law_more (fun _ _ _ _ _ _ us hl => match us, hl with | [_, _, _], _ => rfl) (fun vs H Q E h => ?_) (fun f cdv A outer s H vs Q E hr h => ?_)
  · obtain ⟨n, a, x, M, rfl, _⟩ := h; rfl
  obtain ⟨n, a, x, M, rfl, hn, hS, hx, hM, hall, q⟩ := h
  have hr1 := hr.mono (j := 1) (by decide)
  have hr2 := hr.mono (j := 2) (by decide)
  have hr3 := hr.mono (j := 3) (by decide)
  refine ⟨_, pss_cons (ps_set (i := 3) sc_law_more.nd rfl (Or.inl rfl) (pe_op op_shl pe_int (pe_op op_mul pe_int (pv 0))))
    (pss_cons (ps_set (i := 4) sc_law_more.nd rfl (Or.inl rfl) pe_int)
    (pss_cons (ps_for PassesOwn.never rfl (pi_range1 rfl mr (pa_cons (pe_op op_add (pv 2) pe_int) pa_nil)) (pg_name (i := 5) sc_law_more.nd rfl (Or.inl rfl))
      (pss_cons (ps_set (i := 6) sc_law_more.nd rfl (Or.inl rfl) (pe_fn GI hr (by rfl) (pa_cons (pv 0) (pa_cons (pv 1) (pa_cons (pv 4) pa_nil)))))
      (pss_cons (ps_if (pw_or (pt_not (pt_val (pe_fn GL hr2 (by rfl) (pa_cons (pv 6) (pa_cons (pv 4) (pa_cons (pv 3) pa_nil)))))) (pw_or1 (pt_not (pt_val (pe_fn GW hr1 (by rfl) (pa_cons (pe_fn GA hr3 (by rfl) (pa_cons (pv 0) (pa_cons (pv 6) pa_nil))) (pa_cons (pv 1) pa_nil))))))).pt (pss_one (ps_ret pe_bl)) pss_nil)
      (pss_one (ps_if (pt_cmpR op_lt (pv 5) (pv 2) (nomark _))
        (pss_cons (ps_set (i := 4) sc_law_more.nd rfl (Or.inl rfl) (pe_fn GO hr (by rfl) (pa_cons (pv 0) (pa_cons (pv 1) (pa_cons (pv 6) pa_nil)))))
        (pss_one (ps_if (pw_or (pt_not (pt_val (pe_fn GL hr2 (by rfl) (pa_cons (pv 4) (pa_cons (pv 6) (pa_cons (pv 3) pa_nil)))))) (pw_or1 (pt_val (pe_fn GW hr1 (by rfl) (pa_cons (pe_fn GA hr3 (by rfl) (pa_cons (pv 0) (pa_cons (pv 4) pa_nil))) (pa_cons (pv 1) pa_nil)))))).pt (pss_one (ps_ret pe_bl)) pss_nil))) pss_nil)))))
    (pss_one (ps_ret pe_bl)))), ?_⟩
  refine ⟨_, rfl, _, _, rfl, rfl, .inl ⟨by decide, by decide⟩, _, _, rfl, rfl, ⟨by omega, by omega, by decide⟩, ?_⟩
  dsimp only
  rw [shl2]
  refine ⟨_, rfl, _, _, rfl, rfl, (M : Int) + 1, rfl, by omega, by omega, for_range (lo := 0) (n := ((M : Int) + 1).toNat) (fun j σ H' => ∃ (p : Int) (u5 u6 : Option V), σ = [some (.int n), some (.ref a), some (.int M), some (.int (4 ^ n)), some (.int p), u5, u6] ∧ Same H H' ∧ (j ≤ M → p = sf n (some x) j))
    ⟨0, none, none, rfl, Same.refl _, fun _ => rfl⟩ ?_ ?_⟩
  · rintro j σ H1 hj ⟨p, u5, u6, rfl, s1, hp⟩
    have hj : j ≤ M := by omega
    have hp := hp hj
    subst hp
    have m := sf_mono hx.good j fun i hi => hall i (by omega)
    have S := str_ok hx.good m.1 (hall j hj)
    have g1 := S.from0
    have g2 := S.lt
    have g3 := S.top
    have m0 := m.1
    have hS1 := s1.tup hS
    refine ⟨_, rfl, _, rfl, _, rfl, n, a, x, sf n (some x) j, rfl, hn, hS1, hx, m.1, m.2, fun H2 s2 => ?_⟩
    rw [nx_in (hall j hj)]
    have hS2 := s2.tup hS1
    refine ⟨_, rfl, _, rfl, _, rfl, FW.s1 n (some x) j, _, _, rfl, g1, by omega, _, rfl, iteF ?_⟩
    refine ⟨_, rfl, _, rfl, n, FW.s1 n (some x) j, rfl, hn, by omega, by omega, fun c H3 s3 e3 => ?_⟩
    have hS3 := s3.tup hS2
    have c1 : inB (cw n (FW.s1 n (some x) j)) x.l x.b x.r x.t = true := S.first
    refine ⟨_, rfl, c, a, cw n (FW.s1 n (some x) j), _, _, _, _, rfl, SqT.of e3, hS3, true, by rw [c1], iteF ?_⟩
    refine ⟨_, rfl, _, rfl, _, _, rfl, rfl, _, rfl, ?_⟩
    by_cases hjM : 0 + (j : Int) < M
    rotate_left
    · exact iteDF hjM ⟨_, _, _, rfl, s1.trans (s2.trans s3), fun h => by omega⟩
    refine iteDT hjM ?_
    have hall' : ∀ i, i ≤ j + 1 → ct true n (some x) (sf n (some x) i) < ar (some x) := fun i hi => hall i (by omega)
    have hlt : sf n (some x) (j + 1) < 4 ^ n := by
      refine Classical.byContradiction fun hn' => ?_
      have e : sf n (some x) (j + 1) = 4 ^ n := by omega
      have h1 := hall' (j + 1) (Nat.le_refl _)
      have f : ct true n (some x) (4 ^ n) = ar (some x) := ct_full true n (some x) hx.good
      rw [e, f] at h1
      omega
    refine ⟨_, rfl, _, rfl, _, rfl, n, a, x, FW.s1 n (some x) j, rfl, hn, hS3, hx, by omega, by omega, fun H4 s4 => ?_⟩
    rw [nx_out hx.good hall']
    have hS4 := s4.tup hS3
    refine ⟨_, rfl, _, rfl, _, rfl, sf n (some x) (j + 1), _, _, rfl, by omega, hlt, _, rfl, iteF ?_⟩
    refine ⟨_, rfl, _, rfl, n, sf n (some x) (j + 1), rfl, hn, by omega, hlt, fun c' H5 s5 e5 => ?_⟩
    have hS5 := s5.tup hS4
    have c2 : inB (cw n (sf n (some x) (j + 1))) x.l x.b x.r x.t = false := S.out hlt
    refine ⟨_, rfl, c', a, cw n (sf n (some x) (j + 1)), _, _, _, _, rfl, SqT.of e5, hS5, _, by rw [c2], iteF ?_⟩
    exact ⟨_, _, _, rfl, s1.trans (s2.trans (s3.trans (s4.trans s5))), fun _ => rfl⟩
  · rintro σ H1 ⟨p, u5, u6, rfl, s1, _⟩
    exact q H1 s1
theorem cut_map (ns : List Int) (lo hi : Option Int) : ∃ ms : List Int, cutV (ns.map V.int) lo hi = ms.map V.int ∧ ∀ m ∈ ms, m ∈ ns := by
  unfold cutV
  rw [← List.map_drop, ← List.map_take]
  exact ⟨_, rfl, fun m hm => List.mem_of_mem_drop (List.mem_of_mem_take hm)⟩
theorem sc_law_places : FnScope ["_law_folds_here", "_law_box_here", "_law_told", "_law_cells", "_law_cell", "_law_place_here", "_law_here"] ["_law_folds_here", "_law_box_here", "_law_told", "_law_cells"] (defScope s_law_places) := ⟨rfl, rfl, rfl, by decide +kernel, rfl, by decide +kernel, by decide +kernel⟩
theorem ok_law_places (D : DefAt K mg "_law_places" s_law_places) (many : mg "any" = none) (GP : FnAt P w K mg base 1 "_law_place" ["_law_cell", "_law_folds_here"] spPlace) (GA : FnAt P w K mg base 3 "cell_at" ["folds", "place"] spCellAt)
    (GW : FnAt P w K mg base 1 "_law_within" ["_law_cell", "_law_box_here"] (spWithin K)) (GO : FnAt P w K mg base 2 "place_of" ["folds", "cell"] (spPlaceOf K)) : FnAt P w K mg base 4 "_law_places" ["_law_folds_here", "_law_box_here", "_law_told", "_law_cells"] (spPlaces K) := by
  refine FnAt.mk D sc_law_places (fun _ _ _ _ _ _ us hl => match us, hl with | [_, _, _, _], _ => rfl) (fun vs H Q E h => ?_) (fun f cdv A outer s H vs Q E hr h => ?_)
  · obtain ⟨n, a, l, c, x, k, as, ms, rfl, _⟩ := h; rfl
  obtain ⟨n, a, l, c, x, k, as, ms, rfl, hn, hS, hx, T, hk, hd, hc, hb, q⟩ := h
  have hr1 := hr.mono (j := 1) (by decide)
  have hr2 := hr.mono (j := 2) (by decide)
  refine ⟨_, pss_cons (ps_for PassesOwn.never rfl (pi_list (pv 3)) (pg_name (i := 4) sc_law_places.nd rfl (Or.inl rfl))
      (pss_cons (ps_set (i := 5) sc_law_places.nd rfl (Or.inr rfl) (pe_fn GP hr1 (by rfl) (pa_cons (pv 4) (pa_cons (pv 0) pa_nil))))
      (pss_cons (ps_set (i := 6) sc_law_places.nd rfl (Or.inl rfl) (pe_fn GA hr (by rfl) (pa_cons (pv 0) (pa_cons (pv 5) pa_nil))))
      (pss_cons (ps_if (pt_cmpR op_ne (pe_callB (call_anyL rfl) (by rfl) many PyProof.Rows.boot_any (pa_cons (pe_comp (x := "_law_pair") (fr := ["_law_place_here"]) (js := [5]) rfl
          ⟨rfl, (fun p hp => by simp only [List.mem_cons, List.not_mem_nil, or_false] at hp; subst hp; rfl), by decide +kernel, rfl, by decide +kernel, rfl, (fun y hy e => by simp only [List.mem_cons, List.not_mem_nil, or_false] at hy; rcases hy with rfl | rfl | rfl <;> first | exact ⟨_, rfl⟩ | cases e),
            (fun k y e => by
              rcases k with _ | k
              · cases e; exact ⟨5, rfl, rfl, rfl, rfl, by decide⟩
              · simp at e), rfl, by decide +kernel⟩ (pi_list (pv 2)) (fun s₀ H₀ ex => pe_chain op_le op_le (pe_ix (ix_tupC K rfl) (pv 0) pe_int (fun _ _ => rfl)) (pv 1) (pe_ix (ix_tupC K rfl) (pv 0) pe_int (fun _ _ => rfl)))) pa_nil))
        (pe_fn GW hr1 (by rfl) (pa_cons (pv 6) (pa_cons (pv 1) pa_nil))) (nomark _)) (pss_one (ps_ret pe_bl)) pss_nil)
      (pss_one (ps_if (pt_cmpR op_ne (pe_fn GO hr2 (by rfl) (pa_cons (pv 0) (pa_cons (pv 6) pa_nil))) (pv 5) (nomark _)) (pss_one (ps_ret pe_bl)) pss_nil))))))
    (pss_one (ps_ret pe_bl)), ?_⟩
  refine ⟨_, rfl, c, rfl, ⟨_, SqL.of hc⟩, for_list (K := K) (a := c) (xs := ms.map V.int) (fun i σ H' => ∃ (u4 u5 u6 : Option V), σ = [some (.int n), some (.ref a), some (.ref l), some (.ref c), u4, u5, u6] ∧ Same H H') ⟨none, none, none, rfl, Same.refl _⟩ (fun i σ H' _ ⟨_, _, _, _, s4⟩ => SqL.of (s4 _ _ hc)) ?_ ?_⟩
  · rintro i y σ H1 hy ⟨u4, u5, u6, rfl, s1⟩
    obtain ⟨z, hz, rfl⟩ : ∃ z ∈ ms, y = V.int z := by
      obtain ⟨z, hz, e⟩ := List.mem_map.mp (List.mem_of_getElem? hy)
      exact ⟨z, hz, e.symm⟩
    refine ⟨_, rfl, _, rfl, z, n, rfl, hn, hb z hz, fun p p0 p1 => ?_⟩
    refine ⟨_, rfl, _, rfl, n, p, rfl, hn, p0, p1, fun d H2 s2 e2 => ?_⟩
    have T2 := (T.same s1).same s2
    refine ⟨_, rfl, l, rfl, ⟨_, SqL.of T2.lst⟩, fun Dd fD => ⟨k, fun i H3 => i ≤ k ∧ Same H2 H3 ∧ H3 Dd = some (.lst (((List.range i).map fun j => decide (FW.s1 n (some x) j ≤ p) && decide (p ≤ sf n (some x) (j + 1) - 1)).map V.bl)), ⟨Nat.zero_le _, same_new fD _, upd_same⟩, ?_⟩⟩
    rintro i H3 ⟨hi, s3, hD⟩
    have T3 := T2.same s3
    by_cases hik : i < k
    · right
      refine ⟨hik, ⟨_, (as.map V.ref)[i]'(by rw [List.length_map, T3.len]; exact hik), SqL.of T3.lst, List.getElem?_eq_getElem _⟩, ?_⟩
      rintro v H4 ⟨rfl, hv⟩
      obtain ⟨b, rfl, _, hb3⟩ := T3.get (hv _ (SqL.of T3.lst))
      have fin : ∀ w : Bool, w = (decide (FW.s1 n (some x) i ≤ p) && decide (p ≤ sf n (some x) (i + 1) - 1)) → ∃ ys, H4 Dd = some (.lst ys) ∧ ys.length < sizeLine ∧ (i + 1 ≤ k ∧ Same H2 (upd H4 Dd (.lst (ys ++ [.bl w]))) ∧
          upd H4 Dd (.lst (ys ++ [.bl w])) Dd = some (.lst (((List.range (i + 1)).map fun j => decide (FW.s1 n (some x) j ≤ p) && decide (p ≤ sf n (some x) (j + 1) - 1)).map V.bl))) := by
        rintro w rfl
        refine ⟨_, hD, ?_, by omega, fun c o e => ?_, ?_⟩
        · rw [List.length_map, List.length_map, List.length_range]; exact small1000 (by omega)
        · rw [upd_ne (ne_of_none e fD)]; exact s3 c o e
        · rw [upd_same, List.range_succ, List.map_append, List.map_append]; rfl
      refine ⟨_, rfl, b, _, _, _, rfl, rfl, SqT.of hb3, rfl, _, rfl, _, _, rfl, rfl, _, rfl, ?_⟩
      by_cases h1 : FW.s1 n (some x) i ≤ p
      · refine iteDT h1 ⟨_, rfl, b, _, _, _, rfl, rfl, SqT.of hb3, rfl, _, _, rfl, rfl, ?_⟩
        exact fin _ (by rw [decide_eq_true h1, Bool.true_and])
      · exact iteDF h1 (fin _ (by rw [decide_eq_false h1, Bool.false_and]))
    · left
      have ei : i = k := by omega
      subst ei
      refine ⟨⟨_, SqL.of T3.lst, by rw [List.length_map, T3.len]; exact Nat.le_refl _⟩, Dd, _, rfl, SqL.of hD, ?_⟩
      have e3 := s3 _ _ e2
      have hS3 := (s1.trans (s2.trans s3)).tup hS
      refine ⟨_, rfl, _, rfl, d, a, cw n p, _, _, _, _, rfl, SqT.of e3, hS3, rfl, _, rfl, iteNS (congrArg V.bl ?_) ?_⟩
      · have key := any_all hx.good T.lt hd p0 p1
        have e : inB (cw n p) x.l x.b x.r x.t = inO (some x) (cw n p) := rfl
        rw [e, Bool.eq_iff_iff, ← key, List.any_eq_true]
        constructor
        · rintro ⟨b, hb, h⟩
          obtain ⟨j, hj, rfl⟩ := List.mem_map.mp hb
          have h : (decide (FW.s1 n (some x) j ≤ p) && decide (p ≤ sf n (some x) (j + 1) - 1)) = true := h
          simp only [Bool.and_eq_true, decide_eq_true_eq] at h
          exact ⟨j, List.mem_range.mp hj, h.1, h.2⟩
        · rintro ⟨j, hj, h1, h2⟩
          refine ⟨_, List.mem_map.mpr ⟨j, List.mem_range.mpr hj, rfl⟩, ?_⟩
          show (decide (FW.s1 n (some x) j ≤ p) && decide (p ≤ sf n (some x) (j + 1) - 1)) = true
          rw [decide_eq_true h1, decide_eq_true h2]; rfl
      refine ⟨_, rfl, _, rfl, n, d, cw n p, rfl, hn, SqT.of e3, cw_on n p, fun H4 s4 => ?_⟩
      rw [pl_cw n p p0 p1]
      refine ⟨_, rfl, rfl, _, rfl, iteNS rfl ?_⟩
      exact ⟨_, _, _, rfl, s1.trans (s2.trans (s3.trans s4))⟩
  · rintro σ H1 ⟨_, _, _, rfl, s1⟩
    exact q H1 s1
theorem sc_law : FnScope ["_law_script", "_law_folds_here", "_law_box_here", "_law_way", "_law_most", "_law_told", "_law_refused", "_law_area"] ["_law_script"] (defScope s_law) := ⟨rfl, rfl, rfl, by decide +kernel, rfl, by decide +kernel, by decide +kernel⟩
theorem ok_law {f : Addr} {fd : FuncData} {d16 : Tok} (F : Fun K "law" "law" s_law f fd) (hT : mg "TooMany" = some (.ref cT)) (hexm : PySem.W.exmOne K (.ref cT) (.ref cT) = some true) (msum : mg "sum" = none) (mall : mg "all" = none)
    (GR : FnAt P w K mg base 1 "_law_cell_at" ["_law_script", "_law_k"] (spCell K)) (GF : FnAt P w K mg base 1 "_law_folds" ["_law_cell"] spFolds)
    (GB : FnAt P w K mg base 3 "_law_box" ["_law_script", "_law_at", "_law_folds_here"] (spBox K)) (GX : FnAtX P w K mg base 6 "stretches" ["folds", "box", "most"] [.int 16 d16] (spStr K cF cB cN cT)) (GT : FnAt1 P w K mg base 6 "stretches" ["folds", "box", "most"] (spStr K cF cB cN cT))
    (GM : FnAt P w K mg base 6 "_law_more" ["_law_folds_here", "_law_box_here", "_law_most"] (spMore K)) (GO : FnAt P w K mg base 2 "_law_in_order" ["_law_told", "_law_most", "_law_many"] spOrder)
    (GS : FnAt P w K mg base 4 "_law_in_squares" ["_law_folds_here", "_law_box_here", "_law_pair"] (spInSq K)) (GP : FnAt P w K mg base 4 "_law_places" ["_law_folds_here", "_law_box_here", "_law_told", "_law_cells"] (spPlaces K)) : FnOk P w K mg base CX0 7 f fd ["_law_script"] (spLaw K) := by
  refine F.ok sc_law (fun vs H Q E h => ?_) (fun cdv A outer s H vs Q E hr h => ?_)
  · obtain ⟨a, ns, rfl, _⟩ := h; rfl
  obtain ⟨a, ns, rfl, hS, hb, q⟩ := h
  have hr1 := hr.mono (j := 1) (by decide)
  have hr2 := hr.mono (j := 2) (by decide)
  have hr3 := hr.mono (j := 3) (by decide)
  have hr4 := hr.mono (j := 4) (by decide)
  refine ⟨_, pss_cons (ps_set (i := 1) sc_law.nd rfl (Or.inr rfl) (pe_fn GF hr1 (by rfl) (pa_cons (pe_fn GR hr1 (by rfl) (pa_cons (pv 0) (pa_cons pe_int pa_nil))) pa_nil)))
    (pss_cons (ps_set (i := 2) sc_law.nd rfl (Or.inr rfl) (pe_fn GB hr3 (by rfl) (pa_cons (pv 0) (pa_cons pe_int (pa_cons (pv 1) pa_nil)))))
    (pss_cons (ps_set (i := 3) sc_law.nd rfl (Or.inl rfl) (pe_fn GR hr1 (by rfl) (pa_cons (pv 0) (pa_cons pe_int pa_nil))))
    (pss_cons (ps_set (i := 4) sc_law.nd rfl (Or.inl rfl) pe_int)
    (pss_cons (ps_mid (ps_if (pt_cmpR op_gt (pe_op op_mod (pv 3) pe_int) pe_int (nomark _)) (pss_one (ps_set (i := 4) sc_law.nd rfl (Or.inl rfl) (pe_op op_mod (pe_op op_fdiv (pv 3) pe_int) pe_int))) pss_nil))
    (pss_cons (ps_mid (ps_if (pw_and (pt_cmpR op_eq (pe_op op_mod (pv 3) pe_int) pe_int (nomark _)) (pw_and1 (pt_cmpR op_lt (pv 1) pe_int (nomark _)))).pt (pss_one (ps_set (i := 4) sc_law.nd rfl (Or.inl rfl) (pe_op op_mod (pe_op op_fdiv (pv 3) pe_int) pe_int))) pss_nil))
    (pss_cons (ps_set (i := 5) sc_law.nd rfl (Or.inl rfl) (pe_lst pa_nil))
    (pss_cons (ps_set (i := 6) sc_law.nd rfl (Or.inl rfl) pe_bl)
    (pss_cons (ps_mid (ps_try rfl rfl rfl (by rfl) hT (fun pn XQ => pss_one (ps_if (pt_cmpR op_eq (pe_op op_mod (pv 3) pe_int) pe_int (nomark _))
        (pss_one (ps_set (i := 5) sc_law.nd rfl (Or.inl rfl) (pe_fnTX (dvs := [.int 16]) GX (.cons ⟨_, rfl⟩ .nil) hr (by rfl) (pa_cons (pv 1) (pa_cons (pv 2) pa_nil)))))
        (pss_one (ps_set (i := 5) sc_law.nd rfl (Or.inl rfl) (pe_fnT GT hr (by rfl) (pa_cons (pv 1) (pa_cons (pv 2) (pa_cons (pv 4) pa_nil))))))))
      (fun a => pss_one (ps_set (i := 6) sc_law.nd rfl (Or.inl rfl) pe_bl))))
    (pss_cons (ps_if (pt_val (pv 6)) (pss_one (ps_ret (pe_fn GM hr (by rfl) (pa_cons (pv 1) (pa_cons (pv 2) (pa_cons (pv 4) pa_nil)))))) pss_nil)
    (pss_cons (ps_if (pt_not (pt_val (pe_fn GO hr2 (by rfl) (pa_cons (pv 5) (pa_cons (pv 4) (pa_cons (pe_op op_shl pe_int (pe_op op_mul pe_int (pv 1))) pa_nil)))))) (pss_one (ps_ret pe_bl)) pss_nil)
    (pss_cons (ps_set (i := 7) sc_law.nd rfl (Or.inl rfl) (pe_op op_mul (pe_op op_add (pe_op op_sub (pe_ix ix_tup (pv 2) pe_int (fun _ _ => rfl)) (pe_ix ix_tup (pv 2) pe_int (fun _ _ => rfl))) pe_int) (pe_op op_add (pe_op op_sub (pe_ix ix_tup (pv 2) pe_int (fun _ _ => rfl)) (pe_ix ix_tup (pv 2) pe_int (fun _ _ => rfl))) pe_int)))
    (pss_cons (ps_if (pt_cmpR op_ne (pe_callB (call_sumL rfl) (by rfl) msum PyProof.Rows.boot_sum (pa_cons (pe_comp (x := "_law_pair") (fr := []) (js := []) (cl := []) rfl
          ⟨rfl, (fun p hp => absurd hp (by simp)), by decide +kernel, rfl, by decide +kernel, rfl, (fun y hy e => by simp only [List.mem_cons, List.not_mem_nil, or_false] at hy; rcases hy with rfl | rfl <;> cases e), (fun k y e => by simp at e), rfl, by decide +kernel⟩ (pi_list (pv 5))
          (fun s₀ H₀ ex => pe_op op_add (pe_op op_sub (pe_ix (ix_tupC K rfl) (pv 0) pe_int (fun _ _ => rfl)) (pe_ix (ix_tupC K rfl) (pv 0) pe_int (fun _ _ => rfl))) pe_int)) pa_nil)) (pv 7) (nomark _)) (pss_one (ps_ret pe_bl)) pss_nil)
    (pss_cons (ps_if (pt_not (pt_val (pe_callB (call_allL rfl) (by rfl) mall PyProof.Rows.boot_all (pa_cons (pe_comp (x := "_law_pair") (fr := ["_law_folds_here", "_law_box_here"]) (js := [1, 2]) rfl
          ⟨rfl, (fun p hp => by simp only [List.mem_cons, List.not_mem_nil, or_false] at hp; rcases hp with rfl | rfl <;> rfl), by decide +kernel, rfl, by decide +kernel, rfl, (fun y hy e => by simp only [List.mem_cons, List.not_mem_nil, or_false] at hy; rcases hy with rfl | rfl | rfl | rfl | rfl <;> first | exact ⟨_, rfl⟩ | cases e),
            (fun k y e => by
              rcases k with _ | _ | k
              · cases e; exact ⟨1, rfl, rfl, rfl, rfl, by decide⟩
              · cases e; exact ⟨2, rfl, rfl, rfl, rfl, by decide⟩
              · simp at e), rfl, by decide +kernel⟩ (pi_list (pv 5)) (fun s₀ H₀ ex => pe_fn GS hr4 (by rfl) (pa_cons (pv 1) (pa_cons (pv 2) (pa_cons (pv 0) pa_nil))))) pa_nil)))) (pss_one (ps_ret pe_bl)) pss_nil)
    (pss_one (ps_ret (pe_fn GP hr4 (by rfl) (pa_cons (pv 1) (pa_cons (pv 2) (pa_cons (pv 5) (pa_cons (pe_slice sl_list (pv 0) (po_some pe_int) po_none) pa_nil)))))))))))))))))))), ?_⟩
  refine ⟨_, rfl, a, ns, 0, rfl, hS, _, rfl, fun n hn => ?_⟩
  have hp2 := p2 n
  have hp4 := p4 n
  have hp60 := p2_60 hn
  refine ⟨_, rfl, _, rfl, a, ns, 1, n, rfl, hS, hn, fun d H1 x s1 e1 hx => ?_⟩
  obtain ⟨b1, b2, b3, b4, b5, b6⟩ := id hx
  refine ⟨_, rfl, a, ns, 5, rfl, s1.seq hS, ?_⟩
  generalize ns.getD 5 0 = wy
  refine ⟨fun σ' H' => ∃ M : Nat, σ' = [some (.ref a), some (.int n), some (.ref d), some (.int wy), some (.int M), none, none, none] ∧ H' = H1 ∧ M ≤ 20 ∧ (wy % 3 = 0 → M = 16), ?_, ?_⟩
  · refine ⟨_, rfl, _, _, rfl, rfl, (by show (0 : Int) < 3; decide), _, _, rfl, rfl, _, rfl, ?_⟩
    by_cases h3 : 0 < wy % 3
    · refine iteDT h3 ⟨_, rfl, _, _, rfl, rfl, ⟨by decide, by decide⟩, _, _, rfl, rfl, (by show (0 : Int) < 21; decide), ?_⟩
      have a1 := Int.emod_nonneg (wy / 6) (show (21 : Int) ≠ 0 by decide)
      have a2 := Int.emod_lt_of_pos (wy / 6) (show (0 : Int) < 21 by decide)
      obtain ⟨M, e⟩ := Int.eq_ofNat_of_zero_le a1
      exact ⟨M, by rw [← e]; rfl, rfl, by omega, fun h => by omega⟩
    · exact iteDF h3 ⟨16, rfl, rfl, by decide, fun _ => rfl⟩
  rintro σ1 H1' ⟨M0, rfl, rfl, hM0, h16⟩
  refine ⟨fun σ' H' => ∃ M : Nat, σ' = [some (.ref a), some (.int n), some (.ref d), some (.int wy), some (.int M), none, none, none] ∧ H' = H1' ∧ M ≤ 100 ∧ (wy % 3 = 0 → M = 16), ?_, ?_⟩
  · refine ⟨_, rfl, _, _, rfl, rfl, (by show (0 : Int) < 6; decide), rfl, _, rfl, ?_⟩
    by_cases h5 : wy % 6 = 5
    rotate_left
    · exact iteVF h5 (iteF ⟨M0, rfl, rfl, by omega, h16⟩)
    refine iteVT h5 ⟨_, rfl, _, _, rfl, rfl, _, rfl, ?_⟩
    by_cases h6 : (n : Int) < 16
    rotate_left
    · exact iteDF h6 ⟨M0, rfl, rfl, by omega, h16⟩
    refine iteDT h6 ⟨_, rfl, _, _, rfl, rfl, ⟨by decide, by decide⟩, _, _, rfl, rfl, (by show (0 : Int) < 101; decide), ?_⟩
    have a1 := Int.emod_nonneg (wy / 6) (show (101 : Int) ≠ 0 by decide)
    have a2 := Int.emod_lt_of_pos (wy / 6) (show (0 : Int) < 101 by decide)
    obtain ⟨M, e⟩ := Int.eq_ofNat_of_zero_le a1
    exact ⟨M, by rw [← e]; rfl, rfl, by omega, fun h => by omega⟩
  rintro σ2 H1 ⟨M, rfl, rfl, hM, h16'⟩
  refine ⟨(by show 0 ≤ sizeLine; decide), fun l0 f0 => ?_⟩
  have g0 := same_new f0 (.lst [])
  have e0 := g0 _ _ e1
  have s0 := s1.trans g0
  refine ⟨fun σ' H' => ∃ (lv : V) (r : Bool), σ' = [some (.ref a), some (.int n), some (.ref d), some (.int wy), some (.int M), some lv, some (.bl r), none] ∧ Same (upd H1 l0 (.lst [])) H' ∧
    ((r = true ∧ ∀ j, j ≤ M → ct true n (some x) (sf n (some x) j) < ar (some x)) ∨ (r = false ∧ ∃ (l : Addr) (k : Nat) (as : List Addr), lv = .ref l ∧ Told n x H' l k as ∧ k ≤ M ∧ ¬ ct true n (some x) (sf n (some x) k) < ar (some x))),
    ⟨fun σ' C H' => C = cT ∧ σ' = [some (.ref a), some (.int n), some (.ref d), some (.int wy), some (.int M), some (.ref l0), some (.bl false), none] ∧ Same (upd H1 l0 (.lst [])) H' ∧ ∀ j, j ≤ M → ct true n (some x) (sf n (some x) j) < ar (some x), ?_, ?_⟩, ?_⟩
  · rintro σ' C H' e ⟨rfl, rfl, s', h⟩ he
    exact ⟨hexm, _, true, rfl, s'.trans (same_new he _), .inl ⟨rfl, h⟩⟩
  · refine ⟨_, rfl, _, _, rfl, rfl, (by show (0 : Int) < 3; decide), rfl, _, rfl, ?_⟩
    by_cases h3 : wy % 3 = 0
    · have e16 := h16' h3
      subst e16
      refine iteVT h3 ⟨_, rfl, _, rfl, n, d, x, 16, rfl, SqT.of e0, .inr ⟨n, rfl, hn, .inr ⟨hx, .inr ⟨16, rfl, by decide, fun H' l k as s' T hk hd => ?_, fun H' s' h => ?_⟩⟩⟩⟩
      · exact ⟨_, false, rfl, s', .inr ⟨rfl, l, k, as, rfl, T, hk, hd⟩⟩
      · exact ⟨cT, rfl, rfl, rfl, s', h⟩
    · refine iteVF h3 ⟨_, rfl, _, rfl, _, rfl, n, d, x, M, rfl, SqT.of e0, .inr ⟨n, rfl, hn, .inr ⟨hx, .inr ⟨M, rfl, hM, fun H' l k as s' T hk hd => ?_, fun H' s' h => ?_⟩⟩⟩⟩
      · exact ⟨_, false, rfl, s', .inr ⟨rfl, l, k, as, rfl, T, hk, hd⟩⟩
      · exact ⟨cT, rfl, rfl, rfl, s', h⟩
  rintro σ3 H3 ⟨lv, r, rfl, s3, h⟩
  have e3 := s3 _ _ e0
  refine ⟨_, rfl, r, rfl, ?_⟩
  rcases h with ⟨rfl, h⟩ | ⟨rfl, l, k, as, rfl, T, hk, hd⟩
  · exact iteT ⟨_, rfl, _, rfl, _, rfl, n, d, x, M, rfl, hn, SqT.of e3, hx, hM, h, fun H' _ => q H'⟩
  refine iteF ?_
  refine ⟨_, rfl, _, rfl, _, rfl, _, _, rfl, rfl, .inl ⟨by decide, by decide⟩, _, _, rfl, rfl, ⟨by omega, by omega, by decide⟩, l, M, n, x, k, as, (by dsimp only; rw [shl2]; rfl), T, hx, hk, _, rfl, iteF ?_⟩
  refine ⟨_, rfl, d, _, _, _, rfl, rfl, SqT.of e3, rfl, _, rfl, d, _, _, _, rfl, rfl, SqT.of e3, rfl, _, _, rfl, rfl, _, _, rfl, rfl, _, rfl, d, _, _, _, rfl, rfl, SqT.of e3, rfl, _, rfl, d, _, _, _, rfl, rfl, SqT.of e3, rfl, _, _, rfl, rfl, _, _, rfl, rfl, _, _, rfl, rfl, .inl ⟨by omega, by omega⟩, ?_⟩
  refine ⟨_, rfl, l, rfl, ⟨_, SqL.of T.lst⟩, fun Dd fD => ⟨k, fun i H4 => i ≤ k ∧ Same H3 H4 ∧ H4 Dd = some (.lst (((List.range i).map (ln n (some x))).map V.int)), ⟨Nat.zero_le _, same_new fD _, upd_same⟩, ?_⟩⟩
  rintro i H4 ⟨hi, s4, hD⟩
  have T4 := T.same s4
  by_cases hik : i < k
  · right
    refine ⟨hik, ⟨_, (as.map V.ref)[i]'(by rw [List.length_map, T4.len]; exact hik), SqL.of T4.lst, List.getElem?_eq_getElem _⟩, ?_⟩
    rintro v H5 ⟨rfl, hv⟩
    obtain ⟨b, rfl, _, hb4⟩ := T4.get (hv _ (SqL.of T4.lst))
    refine ⟨_, rfl, b, _, _, _, rfl, rfl, SqT.of hb4, rfl, _, rfl, b, _, _, _, rfl, rfl, SqT.of hb4, rfl, _, _, rfl, rfl, _, _, rfl, rfl, _, hD, ?_, by omega, fun c o e => ?_, ?_⟩
    · rw [List.length_map, List.length_map, List.length_range]; exact small1000 (by omega)
    · rw [upd_ne (ne_of_none e fD)]; exact s4 c o e
    · rw [upd_same, List.range_succ, List.map_append, List.map_append]; rfl
  left
  have ei : i = k := by omega
  subst ei
  refine ⟨⟨_, SqL.of T4.lst, by rw [List.length_map, T4.len]; exact Nat.le_refl _⟩, Dd, _, rfl, SqL.of hD, _, rfl, rfl, _, rfl, iteNS (congrArg V.int (sum_all hx.good T.lt hd)) ?_⟩
  have e4 := s4 _ _ e3
  refine ⟨_, rfl, l, rfl, ⟨_, SqL.of T4.lst⟩, fun De fE => ⟨i, fun j H5 => j ≤ i ∧ Same H4 H5 ∧ H5 De = some (.lst ((List.replicate j true).map V.bl)), ⟨Nat.zero_le _, same_new fE _, upd_same⟩, ?_⟩⟩
  rintro j H5 ⟨hj, s5, hD5⟩
  have T5 := T4.same s5
  have e5 := s5 _ _ e4
  by_cases hjk : j < i
  · right
    refine ⟨hjk, ⟨_, (as.map V.ref)[j]'(by rw [List.length_map, T5.len]; exact hjk), SqL.of T5.lst, List.getElem?_eq_getElem _⟩, ?_⟩
    rintro v H6 ⟨rfl, hv⟩
    obtain ⟨b, rfl, _, hb5⟩ := T5.get (hv _ (SqL.of T5.lst))
    have m := sf_mono hx.good j fun i' hi' => T.lt i' (by omega)
    have S := str_ok hx.good m.1 (T.lt j hjk)
    have g1 := S.from0
    have g2 := S.lt
    have g3 := S.top
    have m0 := m.1
    refine ⟨_, rfl, _, rfl, _, rfl, n, d, b, x, _, _, rfl, hn, SqT.of e5, hb5, by omega, by omega, by omega, fun t t0 t1 => S.all t t0 (by omega), fun H7 s7 => ?_⟩
    refine ⟨_, s7 _ _ hD5, ?_, by omega, fun c o e => ?_, ?_⟩
    · rw [List.length_map, List.length_replicate]; exact small1000 (by omega)
    · rw [upd_ne (ne_of_none e fE)]; exact s7 _ _ (s5 c o e)
    · rw [upd_same, List.replicate_succ', List.map_append]; rfl
  left
  have ej : j = i := by omega
  subst ej
  refine ⟨⟨_, SqL.of T5.lst, by rw [List.length_map, T5.len]; exact Nat.le_refl _⟩, De, _, rfl, SqL.of hD5, _, rfl, ?_⟩
  have ea : (List.replicate j true).all id = true := by
    rw [List.all_eq_true]
    intro b hb'
    rw [List.eq_of_mem_replicate hb']
    rfl
  rw [ea]
  refine iteF ?_
  obtain ⟨ms, em, hms⟩ := cut_map ns (some 6) none
  refine ⟨_, rfl, _, rfl, _, rfl, _, rfl, 6, rfl, a, _, rfl, (s0.trans (s3.trans (s4.trans s5))).seq hS, fun sl fsl => ?_⟩
  have g6 := same_new fsl (.lst (cutV (ns.map V.int) (some 6) none))
  exact ⟨n, d, l, sl, x, j, as, ms, rfl, hn, SqT.of (g6 _ _ e5), hx, T5.same g6, by omega, hd, by rw [upd_same, em], fun m hm => hb m (hms m hm), fun H' _ => q H'⟩
end
end FW
open PySem PySem.W PyProof.Rows L2
set_option maxRecDepth 100000 in
set_option maxHeartbeats 0 in
theorem PySem.Challenge.cw_foldwalk_k09_whole_stretches_holds : PySem.Challenge.rw_foldwalk_k09_whole_stretches.Holds := by
  w_on; o_law; k_head; (case hw => w_witness2)
  k_fill
  refine L2.walk_ofB (l := PySem.Challenge.rw_foldwalk_k09_whole_stretches) (k := 7) (x := "_law_script") (sp := FW.spLaw) rfl rfl ⟨rfl, by decide, by decide⟩ (fun w h Y => PySem.W.kIn_of Y) ?F (fun K H a ns hl hb hO hS => ⟨a, ns, rfl, hS, hb, fun _ => rfl⟩)
  case F =>
    intro w mg h KX G
    have m_range : mg "range" = none := PySem.W.mg_none_of KX G (by k_is)
    have m_isinstance : mg "isinstance" = none := PySem.W.mg_none_of KX G (by k_is)
    have m_int : mg "int" = none := PySem.W.mg_none_of KX G (by k_is)
    have m_bool : mg "bool" = none := PySem.W.mg_none_of KX G (by k_is)
    have m_tuple : mg "tuple" = none := PySem.W.mg_none_of KX G (by k_is)
    have m_len : mg "len" = none := PySem.W.mg_none_of KX G (by k_is)
    have m_min : mg "min" = none := PySem.W.mg_none_of KX G (by k_is)
    have m_max : mg "max" = none := PySem.W.mg_none_of KX G (by k_is)
    have m_list : mg "list" = none := PySem.W.mg_none_of KX G (by k_is)
    have m_sum : mg "sum" = none := PySem.W.mg_none_of KX G (by k_is)
    have m_all : mg "all" = none := PySem.W.mg_none_of KX G (by k_is)
    have m_any : mg "any" = none := PySem.W.mg_none_of KX G (by k_is)
    have B : FW.Blt mg := ⟨m_isinstance, m_int, m_bool, m_tuple, m_len⟩
    have mM : ∃ t, mg "MOST_FOLDS" = some (.int 60 t) := by
      have e : ∃ v, mg "MOST_FOLDS" = some v ∧ ∃ t, v = Value.int 60 t := by
        refine' ⟨_, PySem.W.mg_of KX G ?a, ?b⟩
        (case a => k_is)
        (case b => exact ⟨_, rfl⟩)
      obtain ⟨v, e, t, rfl⟩ := e
      exact ⟨t, e⟩
    have mT : ∃ t, mg "MOST_STRETCHES" = some (.int 100 t) := by
      have e : ∃ v, mg "MOST_STRETCHES" = some v ∧ ∃ t, v = Value.int 100 t := by
        refine' ⟨_, PySem.W.mg_of KX G ?a, ?b⟩
        (case a => k_is)
        (case b => exact ⟨_, rfl⟩)
      obtain ⟨v, e, t, rfl⟩ := e
      exact ⟨t, e⟩
    have XF : ∃ C, Exc (KOf KX) mg "NoFloor" C := by
      dsimp only [KOf]; refine' ⟨_, PySem.W.mg_of KX G ?a, ?e⟩; (case a => k_is); (case e => k_exc)
    have XB : ∃ C, Exc (KOf KX) mg "NoBox" C := by
      dsimp only [KOf]; refine' ⟨_, PySem.W.mg_of KX G ?a, ?e⟩; (case a => k_is); (case e => k_exc)
    have XN : ∃ C, Exc (KOf KX) mg "NoNumber" C := by
      dsimp only [KOf]; refine' ⟨_, PySem.W.mg_of KX G ?a, ?e⟩; (case a => k_is); (case e => k_exc)
    have XT : ∃ C, Exc (KOf KX) mg "TooMany" C ∧ PySem.W.exmOne (KOf KX) (.ref C) (.ref C) = some true := by
      dsimp only [KOf]; refine' ⟨_, ⟨PySem.W.mg_of KX G ?a, ?e⟩, ?x⟩; (case a => k_is); (case e => k_exc); (case x => kts_exm)
    have D_st : ∃ T o t n, DefAtD (KOf KX) mg "stretches" FW.s_stretches (.ref T) ∧ (KOf KX).lookup T = some o ∧ o.data = .seq #[.int 16 t] n := by
      dsimp only [KOf]; refine' DefAtD.ofInt KX G ?a ?l ?c ?k ?o ?s; (case a => k_is); (case l => k_is); (case c => k_is); (case k => k_is); (case o => k_is); (case s => rfl)
    obtain ⟨cF, XF⟩ := XF
    obtain ⟨cB, XB⟩ := XB
    obtain ⟨cN, XN⟩ := XN
    obtain ⟨cT, XT, hexm⟩ := XT
    obtain ⟨T, o, t16, nn, D_st, ho, hs⟩ := D_st
    have D_side_of : DefAt (KOf KX) mg "side_of" FW.s_side_of := by
      dsimp only [KOf]; refine' DefAt.of KX G ?a ?l ?c ?k; (case a => k_is); (case l => k_is); (case c => k_is); (case k => k_is)
    have D_cells_of : DefAt (KOf KX) mg "cells_of" FW.s_cells_of := by
      dsimp only [KOf]; refine' DefAt.of KX G ?a ?l ?c ?k; (case a => k_is); (case l => k_is); (case c => k_is); (case k => k_is)
    have D_check_folds : DefAt (KOf KX) mg "check_folds" FW.s_check_folds := by
      dsimp only [KOf]; refine' DefAt.of KX G ?a ?l ?c ?k; (case a => k_is); (case l => k_is); (case c => k_is); (case k => k_is)
    have D_check_place : DefAt (KOf KX) mg "check_place" FW.s_check_place := by
      dsimp only [KOf]; refine' DefAt.of KX G ?a ?l ?c ?k; (case a => k_is); (case l => k_is); (case c => k_is); (case k => k_is)
    have D_check_cell : DefAt (KOf KX) mg "check_cell" FW.s_check_cell := by
      dsimp only [KOf]; refine' DefAt.of KX G ?a ?l ?c ?k; (case a => k_is); (case l => k_is); (case c => k_is); (case k => k_is)
    have D_into_quarter : DefAt (KOf KX) mg "into_quarter" FW.s_into_quarter := by
      dsimp only [KOf]; refine' DefAt.of KX G ?a ?l ?c ?k; (case a => k_is); (case l => k_is); (case c => k_is); (case k => k_is)
    have D_out_of_quarter : DefAt (KOf KX) mg "out_of_quarter" FW.s_out_of_quarter := by
      dsimp only [KOf]; refine' DefAt.of KX G ?a ?l ?c ?k; (case a => k_is); (case l => k_is); (case c => k_is); (case k => k_is)
    have D_quarter_of : DefAt (KOf KX) mg "quarter_of" FW.s_quarter_of := by
      dsimp only [KOf]; refine' DefAt.of KX G ?a ?l ?c ?k; (case a => k_is); (case l => k_is); (case c => k_is); (case k => k_is)
    have D_cell_at : DefAt (KOf KX) mg "cell_at" FW.s_cell_at := by
      dsimp only [KOf]; refine' DefAt.of KX G ?a ?l ?c ?k; (case a => k_is); (case l => k_is); (case c => k_is); (case k => k_is)
    have D_place_of : DefAt (KOf KX) mg "place_of" FW.s_place_of := by
      dsimp only [KOf]; refine' DefAt.of KX G ?a ?l ?c ?k; (case a => k_is); (case l => k_is); (case c => k_is); (case k => k_is)
    have D_check_box : DefAt (KOf KX) mg "check_box" FW.s_check_box := by
      dsimp only [KOf]; refine' DefAt.of KX G ?a ?l ?c ?k; (case a => k_is); (case l => k_is); (case c => k_is); (case k => k_is)
    have D_check_number : DefAt (KOf KX) mg "check_number" FW.s_check_number := by
      dsimp only [KOf]; refine' DefAt.of KX G ?a ?l ?c ?k; (case a => k_is); (case l => k_is); (case c => k_is); (case k => k_is)
    have D_cells_in : DefAt (KOf KX) mg "cells_in" FW.s_cells_in := by
      dsimp only [KOf]; refine' DefAt.of KX G ?a ?l ?c ?k; (case a => k_is); (case l => k_is); (case c => k_is); (case k => k_is)
    have D_part_in : DefAt (KOf KX) mg "part_in" FW.s_part_in := by
      dsimp only [KOf]; refine' DefAt.of KX G ?a ?l ?c ?k; (case a => k_is); (case l => k_is); (case c => k_is); (case k => k_is)
    have D_count_ahead : DefAt (KOf KX) mg "count_ahead" FW.s_count_ahead := by
      dsimp only [KOf]; refine' DefAt.of KX G ?a ?l ?c ?k; (case a => k_is); (case l => k_is); (case c => k_is); (case k => k_is)
    have D_cells_held : DefAt (KOf KX) mg "cells_held" FW.s_cells_held := by
      dsimp only [KOf]; refine' DefAt.of KX G ?a ?l ?c ?k; (case a => k_is); (case l => k_is); (case c => k_is); (case k => k_is)
    have D_quarter_holding : DefAt (KOf KX) mg "quarter_holding" FW.s_quarter_holding := by
      dsimp only [KOf]; refine' DefAt.of KX G ?a ?l ?c ?k; (case a => k_is); (case l => k_is); (case c => k_is); (case k => k_is)
    have D_place_numbered : DefAt (KOf KX) mg "place_numbered" FW.s_place_numbered := by
      dsimp only [KOf]; refine' DefAt.of KX G ?a ?l ?c ?k; (case a => k_is); (case l => k_is); (case c => k_is); (case k => k_is)
    have D_counted : DefAt (KOf KX) mg "counted" FW.s_counted := by
      dsimp only [KOf]; refine' DefAt.of KX G ?a ?l ?c ?k; (case a => k_is); (case l => k_is); (case c => k_is); (case k => k_is)
    have D_next_in : DefAt (KOf KX) mg "next_in" FW.s_next_in := by
      dsimp only [KOf]; refine' DefAt.of KX G ?a ?l ?c ?k; (case a => k_is); (case l => k_is); (case c => k_is); (case k => k_is)
    have D_next_out : DefAt (KOf KX) mg "next_out" FW.s_next_out := by
      dsimp only [KOf]; refine' DefAt.of KX G ?a ?l ?c ?k; (case a => k_is); (case l => k_is); (case c => k_is); (case k => k_is)
    have D_end_of_stretch : DefAt (KOf KX) mg "end_of_stretch" FW.s_end_of_stretch := by
      dsimp only [KOf]; refine' DefAt.of KX G ?a ?l ?c ?k; (case a => k_is); (case l => k_is); (case c => k_is); (case k => k_is)
    have D_law_cell_at : DefAt (KOf KX) mg "_law_cell_at" FW.s_law_cell_at := by
      dsimp only [KOf]; refine' DefAt.of KX G ?a ?l ?c ?k; (case a => k_is); (case l => k_is); (case c => k_is); (case k => k_is)
    have D_law_whole : DefAt (KOf KX) mg "_law_whole" FW.s_law_whole := by
      dsimp only [KOf]; refine' DefAt.of KX G ?a ?l ?c ?k; (case a => k_is); (case l => k_is); (case c => k_is); (case k => k_is)
    have D_law_folds : DefAt (KOf KX) mg "_law_folds" FW.s_law_folds := by
      dsimp only [KOf]; refine' DefAt.of KX G ?a ?l ?c ?k; (case a => k_is); (case l => k_is); (case c => k_is); (case k => k_is)
    have D_law_place : DefAt (KOf KX) mg "_law_place" FW.s_law_place := by
      dsimp only [KOf]; refine' DefAt.of KX G ?a ?l ?c ?k; (case a => k_is); (case l => k_is); (case c => k_is); (case k => k_is)
    have D_law_line : DefAt (KOf KX) mg "_law_line" FW.s_law_line := by
      dsimp only [KOf]; refine' DefAt.of KX G ?a ?l ?c ?k; (case a => k_is); (case l => k_is); (case c => k_is); (case k => k_is)
    have D_law_span : DefAt (KOf KX) mg "_law_span" FW.s_law_span := by
      dsimp only [KOf]; refine' DefAt.of KX G ?a ?l ?c ?k; (case a => k_is); (case l => k_is); (case c => k_is); (case k => k_is)
    have D_law_box : DefAt (KOf KX) mg "_law_box" FW.s_law_box := by
      dsimp only [KOf]; refine' DefAt.of KX G ?a ?l ?c ?k; (case a => k_is); (case l => k_is); (case c => k_is); (case k => k_is)
    have D_law_within : DefAt (KOf KX) mg "_law_within" FW.s_law_within := by
      dsimp only [KOf]; refine' DefAt.of KX G ?a ?l ?c ?k; (case a => k_is); (case l => k_is); (case c => k_is); (case k => k_is)
    have D_law_in_order : DefAt (KOf KX) mg "_law_in_order" FW.s_law_in_order := by
      dsimp only [KOf]; refine' DefAt.of KX G ?a ?l ?c ?k; (case a => k_is); (case l => k_is); (case c => k_is); (case k => k_is)
    have D_law_in_squares : DefAt (KOf KX) mg "_law_in_squares" FW.s_law_in_squares := by
      dsimp only [KOf]; refine' DefAt.of KX G ?a ?l ?c ?k; (case a => k_is); (case l => k_is); (case c => k_is); (case k => k_is)
    have D_law_is_place : DefAt (KOf KX) mg "_law_is_place" FW.s_law_is_place := by
      dsimp only [KOf]; refine' DefAt.of KX G ?a ?l ?c ?k; (case a => k_is); (case l => k_is); (case c => k_is); (case k => k_is)
    have D_law_more : DefAt (KOf KX) mg "_law_more" FW.s_law_more := by
      dsimp only [KOf]; refine' DefAt.of KX G ?a ?l ?c ?k; (case a => k_is); (case l => k_is); (case c => k_is); (case k => k_is)
    have D_law_places : DefAt (KOf KX) mg "_law_places" FW.s_law_places := by
      dsimp only [KOf]; refine' DefAt.of KX G ?a ?l ?c ?k; (case a => k_is); (case l => k_is); (case c => k_is); (case k => k_is)
    have D_law : DefAt (KOf KX) mg "law" FW.s_law := by
      dsimp only [KOf]; refine' DefAt.of KX G ?a ?l ?c ?k; (case a => k_is); (case l => k_is); (case c => k_is); (case k => k_is)
    obtain ⟨f, fd, F, m⟩ := D_law
    refine ⟨f, fd, m, F.bind1 fun _ _ _ _ _ _ _ => rfl, fun base _ _ => ?_⟩
    have GS := FW.ok_side_of (P := PySem.Challenge.rw_foldwalk_k09_whole_stretches.prog) (w := w) (base := base) D_side_of m_range
    have GF := FW.ok_check_folds (P := PySem.Challenge.rw_foldwalk_k09_whole_stretches.prog) (w := w) (base := base) D_check_folds mM
    have GP := FW.ok_check_place (P := PySem.Challenge.rw_foldwalk_k09_whole_stretches.prog) (w := w) (base := base) D_check_place
    have GC := FW.ok_cells_of D_cells_of GS
    have GA := FW.ok_cell_at D_cell_at m_range GF GP GC (FW.ok_into_quarter D_into_quarter)
    have GU := FW.ok_out_of_quarter (P := PySem.Challenge.rw_foldwalk_k09_whole_stretches.prog) (w := w) (base := base) D_out_of_quarter
    have GXB := FW.ok_check_box (P := PySem.Challenge.rw_foldwalk_k09_whole_stretches.prog) (w := w) (base := base) D_check_box
    have GXC := FW.ok_cells_in (P := PySem.Challenge.rw_foldwalk_k09_whole_stretches.prog) (w := w) (base := base) D_cells_in
    have GXP := FW.ok_part_in D_part_in m_min m_max GU
    have GXA := FW.ok_count_ahead D_count_ahead m_range GS GXC GXP
    have GXK := FW.ok_counted D_counted GF GXB GS GP GC GXA
    have GR := FW.ok_law_cell_at (P := PySem.Challenge.rw_foldwalk_k09_whole_stretches.prog) (w := w) (base := base) D_law_cell_at B.len
    have GLL := FW.ok_law_line (P := PySem.Challenge.rw_foldwalk_k09_whole_stretches.prog) (w := w) (base := base) D_law_line
    have GLB := FW.ok_law_box D_law_box GR (FW.ok_law_span D_law_span m_min m_max GLL)
    have GH := FW.ok_law_whole (P := PySem.Challenge.rw_foldwalk_k09_whole_stretches.prog) (w := w) (base := base) D_law_whole B
    have GW := FW.ok_law_within (P := PySem.Challenge.rw_foldwalk_k09_whole_stretches.prog) (w := w) (base := base) D_law_within
    have GXH := FW.ok_cells_held D_cells_held GXC
    have GXQ := FW.ok_quarter_holding D_quarter_holding m_range GXH GXP
    have GXN := FW.ok_place_numbered D_place_numbered m_range GS GXH GXP GXQ
    have GNI := FW.ok_next_in D_next_in GXK GXN
    have GNO := FW.ok_next_out D_next_out GXK GXN
    have GPL := FW.ok_law_is_place D_law_is_place GH
    have GO := FW.ok_place_of D_place_of m_range GF GS (FW.ok_check_cell D_check_cell m_min m_max) (FW.ok_quarter_of D_quarter_of) GU
    have GF1 := (GF.to1 fun _ _ _ _ _ h => h).or (FW.bd_check_folds D_check_folds mM XF)
    have GB1 := (GXB.to1 fun _ _ _ _ _ h => h).or (FW.bd_check_box D_check_box XB)
    have GN1 := ((FW.ok_check_number (P := PySem.Challenge.rw_foldwalk_k09_whole_stretches.prog) (w := w) (base := base) D_check_number).to1 fun _ _ _ _ _ h => h).or (FW.bd_check_number D_check_number XN)
    have GE := FW.ok_end_of_stretch D_end_of_stretch GXN GC
    have GST := FW.ok_stretches D_st ho hs B.len mT XT GF1 GB1 GS GN1 GXC GXN GE
    have GSX := GST.dflt (ds := [.int 16 t16]) D_st ho hs (fun _ _ _ _ _ _ us hl => by
      have h2 : us.length = 2 := by simpa using hl
      exact match us, h2 with | [_, _], _ => ⟨_, rfl, rfl⟩)
    exact FW.ok_law F XT.nm hexm m_sum m_all GR (FW.ok_law_folds D_law_folds) GLB GSX GST (FW.ok_law_more D_law_more m_range GNI GNO GPL GW GA) (FW.ok_law_in_order D_law_in_order B m_list m_max GH) (FW.ok_law_in_squares D_law_in_squares GA GW) (FW.ok_law_places D_law_places m_any (FW.ok_law_place D_law_place) GA GW GO)
#print axioms PySem.Challenge.cw_foldwalk_k09_whole_stretches_holds
