import PyProof.Rows.All
import Wide.All
import OpenK.AllK
import Wide.FinOn
import Lean
import PyProof.EqAt
import PyProof.EqKinds
import PyProof.TupleCall
import PyProof.NeKinds
import KE.KTryMore
import PyProof.ExcBaseAll.ValueError
import PyProof.ExcArgsOwn
import PyProof.SumAny
import PyProof.Rows.SortWalk
import PySem.Challenge.RW_foldwalk_k08_refused

set_option Elab.async false
set_option linter.all false
set_option compiler.extract_closed false
set_option maxRecDepth 100000
theorem L2.aR (h : True := by rfl) : True := h
theorem L2.aD (h : True := by decide) : True := h
theorem L2.aI (h : True := by intro _; rfl) : True := h
theorem L2.aF (h : True := by first | exact .inl rfl | exact .inr rfl | assumption) : True := h
namespace L2
open PySem PySem.Spec PyProof.Rows

noncomputable abbrev Key := Sum Int Str
noncomputable def keyIs : Key → Value → Bool
  | .inl k, v => Value.isInt k v
  | .inr x, v => Value.isStrOf x v
noncomputable def keyH (w : World) : Key → Int
  | .inl k => hashInt k
  | .inr x => hashStr w x
theorem keyIs_shape : ∀ {k : Key} {v : Value}, keyIs k v = true → (∃ i t, k = Sum.inl i ∧ v = Value.int i t) ∨ (∃ x t, k = Sum.inr x ∧ v = Value.str x t)
  | .inl i, v, h => by
    obtain ⟨t, e⟩ := Value.isInt_shape (k := i) (v := v) h
    exact .inl ⟨i, t, rfl, e⟩
  | .inr x, v, h => by
    obtain ⟨t, e⟩ := Value.isStrOf_shape (x := x) (v := v) h
    exact .inr ⟨x, t, rfl, e⟩
theorem key_ll (a b : Int) : decide ((Sum.inl a : Key) = Sum.inl b) = (a == b) := by
  by_cases e : a = b
  · subst e; simp
  · have h : ¬ (Sum.inl a : Key) = Sum.inl b := fun q => e (Sum.inl.inj q)
    rw [decide_eq_false h]
    exact (beq_eq_false_iff_ne.mpr e).symm
theorem key_rr (a b : Str) : decide ((Sum.inr a : Key) = Sum.inr b) = decide (a = b) := by
  by_cases e : a = b
  · subst e; simp
  · have h : ¬ (Sum.inr a : Key) = Sum.inr b := fun q => e (Sum.inr.inj q)
    rw [decide_eq_false h, decide_eq_false e]
theorem key_lr (a : Int) (b : Str) : decide ((Sum.inl a : Key) = Sum.inr b) = false := decide_eq_false (fun q => nomatch q)
theorem key_rl (a : Str) (b : Int) : decide ((Sum.inr a : Key) = Sum.inl b) = false := decide_eq_false (fun q => nomatch q)

noncomputable def mixKind (prog : Program) (w : World) : PySem.KeyKind prog w Key where
  is := keyIs
  hash := keyH w
  inj := fun v a b ha hb => by
    rcases keyIs_shape ha with ⟨i, t, rfl, rfl⟩ | ⟨x, t, rfl, rfl⟩
    · rcases keyIs_shape hb with ⟨j, u, rfl, e⟩ | ⟨y, u, rfl, e⟩
      · injection e with e1 _; rw [e1]
      · exact nomatch e
    · rcases keyIs_shape hb with ⟨j, u, rfl, e⟩ | ⟨y, u, rfl, e⟩
      · exact nomatch e
      · injection e with e1 _; rw [e1]
  byValue := fun k v h => by
    rcases keyIs_shape h with ⟨i, t, rfl, rfl⟩ | ⟨x, t, rfl, rfl⟩ <;> rfl
  pyHash := fun hv h => by
    rcases keyIs_shape hv with ⟨i, t, rfl, rfl⟩ | ⟨x, t, rfl, rfl⟩
    · exact wpAny_pyHash_int h
    · exact wpAny_pyHash_str h
  eqBool := fun hu hv h => by
    rcases keyIs_shape hu with ⟨i, t, rfl, rfl⟩ | ⟨x, t, rfl, rfl⟩
    · rcases keyIs_shape hv with ⟨j, u, rfl, rfl⟩ | ⟨y, u, rfl, rfl⟩
      · rw [key_ll] at h; exact wpAny_eqBool_int h
      · rw [key_lr] at h; exact SeqAt.EqAt.int_str i t y u _ _ _ _ h
    · rcases keyIs_shape hv with ⟨j, u, rfl, rfl⟩ | ⟨y, u, rfl, rfl⟩
      · rw [key_rl] at h; exact SeqAt.EqAt.str_int x t j u _ _ _ _ h
      · rw [key_rr] at h; exact wpAny_eqBool_str h
  «strs» := fun k x t v h => by
    rcases keyIs_shape h with ⟨i, u, rfl, e⟩ | ⟨y, u, rfl, e⟩
    · exact nomatch e
    · injection e with e1 _
      subst e1
      cases v <;> rfl

end L2

namespace L2
open PySem PySem.Spec PyProof.Rows

inductive V where
  | non | bl (b : Bool) | int (i : Int) | str (x : Str) | byt (b : Array UInt8) | flt (b : UInt64) | ref (a : Addr) | ty (n : String)
  deriving DecidableEq

noncomputable def RelV : V → Value → Prop
  | .non, u => u = Value.none
  | .bl b, u => u = Value.bool b
  | .int i, u => ∃ t, u = Value.int i t
  | .str x, u => ∃ t, u = Value.str x t
  | .byt b, u => ∃ t, u = Value.bytes b t
  | .flt b, u => ∃ t, u = Value.float b t
  | .ref a, u => u = Value.ref a
  | .ty n, u => u = Value.type n

noncomputable abbrev Vals : List V → List Value → Prop := Paired RelV
theorem Vals.length {xs : List V} {us : List Value} (r : Vals xs us) : xs.length = us.length := Paired.length r
theorem Vals.get : ∀ {xs : List V} {us : List Value} {i : Nat} {x : V}, Vals xs us → xs[i]? = some x → ∃ u, us[i]? = some u ∧ RelV x u
  | _, _, _, _, .nil, e => by simp at e
  | _, _, 0, _, .cons r _, e => by simp at e; subst e; exact ⟨_, rfl, r⟩
  | _, _, i + 1, x, .cons _ t, e => by
    obtain ⟨u, h1, h2⟩ := Vals.get (i := i) (x := x) t (by simpa using e)
    exact ⟨u, by simpa using h1, h2⟩
theorem Vals.append : ∀ {xs ys : List V} {us ws : List Value}, Vals xs us → Vals ys ws → Vals (xs ++ ys) (us ++ ws)
  | _, _, _, _, .nil, s => s
  | _, _, _, _, .cons r t, s => .cons r (Vals.append t s)

noncomputable def RelO : Option V → Option Value → Prop
  | some v, some u => RelV v u
  | none, none => True
  | _, _ => False
noncomputable def KV {κ : Type} : List (κ × V) → List (κ × Value) → Prop := Paired fun (p : κ × V) (q : κ × Value) => p.1 = q.1 ∧ RelV p.2 q.2

noncomputable def kV : Key → V
  | .inl i => .int i
  | .inr x => .str x

inductive HO where
    | lst (xs : List V)
    | tup (xs : List V)
    | dK (kvs : List (Key × V)) | dT (kvs : List (List Key × V))
    | set (S : Int → Bool) (n : Nat)
    | ins (C dx : Addr) (fs : List (Str × V))
    | own (x : Addr)
    | xd (fs : List (Str × V))
    | met (f x : Addr)
    | rng (lo hi : Int)
    | frz (o : Obj) (u : HO)
    | tbl (ps : Array Value)
    | ext (φ : Heap → Prop)

noncomputable abbrev Hp := Addr → Option HO
noncomputable def upd (H : Hp) (a : Addr) (o : HO) : Hp := fun b => if b = a then some o else H b
theorem upd_same {H : Hp} {a : Addr} {o : HO} : upd H a o a = some o := by unfold upd; rw [if_pos rfl]
theorem upd_ne {H : Hp} {a b : Addr} {o : HO} (h : b ≠ a) : upd H a o b = H b := by unfold upd; rw [if_neg h]
theorem ne_of_none {H : Hp} {a b : Addr} {o : HO} (h : H a = some o) (h' : H b = none) : a ≠ b := by
  intro e; subst e; rw [h] at h'; cases h'

section
variable (P : Program) (w : World)
noncomputable def ObjOk (H : Hp) (h : Heap) (a : Addr) : HO → Prop
  | .lst xs => xs.length ≤ sizeLine ∧ ∃ (its : List Value) (n : Nat), Vals xs its ∧ h.get? a = some { cls := .type "list", data := .seq its.toArray n }
  | .tup xs => xs.length ≤ sizeLine ∧ ∃ its : List Value, Vals xs its ∧ IsTup h a its.toArray
  | .dK kvs => kvs.length ≤ sizeLine ∧ (a == sysModules) = false ∧ ∃ vs, KV kvs vs ∧ h.DictOf (mixKind P w) a vs
  | .dT kvs => kvs.length ≤ sizeLine ∧ (a == sysModules) = false ∧ ∃ xs : List (List Key × Addr × Value),
      Paired (fun (p : List Key × V) (q : List Key × Addr × Value) => p.1 = q.1 ∧ H q.2.1 = some (.tup (p.1.map kV)) ∧ RelV p.2 q.2.2) kvs xs ∧
      ∃ o es ep, h.get? a = some o ∧ o.ExactDict ∧ o.data = .dict es ep ∧ es.toList = xs.map (entryOfKey (tupleKind (mixKind P w))) ∧ (xs.map (·.1)).Nodup
  | .set S n => h.SetOf (intKind P w) a S n
  | .ins C dx fs => H dx = some (.own a) ∧ fs.length ≤ 1000 ∧ dx ≠ a ∧ h.get? a = some (PySem.W.instObj C dx) ∧
      ∃ mA, h.Ns1 dx mA ∧ (∀ f, RelO (fs.lookup f) (mA f)) ∧ PySem.Within mA (fs.map (·.1))
  | .own _ => ∃ o, h.get? a = some o
  | .xd fs => ∃ mA, h.Ns1 a mA ∧ ∀ f, RelO (fs.lookup f) (mA f)
  | .rng lo hi => ∃ t u v, h.get? a = some { cls := .type "range", data := .fields #[.int lo t, .int hi u, .int 1 v] }
  | .frz o u => h.get? a = some o ∧ ObjOk H h a u
  | .tbl ps => h.get? a = some { cls := .none, data := .fields ps }
  | .met f x => h.get? a = some (PySem.W.methodObj (.ref f) (.ref x))
  | .ext φ => φ h ∧ (∃ o, h.get? a = some o) ∧ ∀ h1 h2 : Heap, φ h1 → (∀ o, h1.get? a = some o → h2.get? a = some o) → φ h2
noncomputable def HOk (H : Hp) (h : Heap) : Prop := ∀ a o, H a = some o → ObjOk P w H h a o
end

section
variable {P : Program} {w : World} {H H' : Hp} {h h' : Heap} {a : Addr} {o : HO}
theorem ObjOk.lt (x : ObjOk P w H h a o) : a < h.objs.size := by
  cases o with
  | lst xs => obtain ⟨_, _, _, _, e⟩ := x; exact Heap.lt_size e
  | tup xs => obtain ⟨_, _, _, p⟩ := x; exact p.lt
  | dK kvs => obtain ⟨_, _, _, _, o, _, _, e, _⟩ := x; exact Heap.lt_size e
  | dT kvs => obtain ⟨_, _, _, _, o, _, _, e, _⟩ := x; exact Heap.lt_size e
  | set S n => obtain ⟨o, _, _, _, e, _⟩ := x; exact Heap.lt_size e
  | ins C dx fs => obtain ⟨_, _, _, e, _⟩ := x; exact Heap.lt_size e
  | own y => obtain ⟨_, e⟩ := x; exact Heap.lt_size e
  | xd fs => obtain ⟨_, ⟨_, _, _, e, _⟩, _⟩ := x; exact Heap.lt_size e
  | rng lo hi => obtain ⟨_, _, _, e⟩ := x; exact Heap.lt_size e
  | frz ob u => obtain ⟨e, _⟩ := x; exact Heap.lt_size e
  | tbl ps => exact Heap.lt_size (show h.get? a = some _ from x)
  | met f y => exact Heap.lt_size (show h.get? a = some _ from x)
  | ext φ => obtain ⟨_, ⟨_, e⟩, _⟩ := x; exact Heap.lt_size e
theorem Paired.mapP {α β : Type} {F G : α → β → Prop} : ∀ {l₁ : List α} {l₂ : List β}, Paired F l₁ l₂ → (∀ a b, F a b → G a b) → Paired G l₁ l₂
  | _, _, .nil, _ => .nil
  | _, _, .cons r t, f => .cons (f _ _ r) (Paired.mapP t f)
theorem ObjOk.stay (x : ObjOk P w H h a o) (k : ∀ b u, (b = a ∨ H b = some (.own a)) → h.get? b = some u → h'.get? b = some u)
    (ho : ∀ b, H b = some (.own a) → H' b = some (.own a)) (ht : ∀ b xs, H b = some (.tup xs) → H' b = some (.tup xs)) : ObjOk P w H' h' a o := by
  induction o with
  | lst xs => obtain ⟨z, its, n, r, e⟩ := x; exact ⟨z, its, n, r, k _ _ (.inl rfl) e⟩
  | tup xs => obtain ⟨z, its, r, ob, e, c⟩ := x; exact ⟨z, its, r, ob, k _ _ (.inl rfl) e, c⟩
  | dK kvs => obtain ⟨z, y, vs, r, ob, es, ep, e, c⟩ := x; exact ⟨z, y, vs, r, ob, es, ep, k _ _ (.inl rfl) e, c⟩
  | dT kvs =>
    obtain ⟨z, y, xs, r, ob, es, ep, e, c⟩ := x
    exact ⟨z, y, xs, Paired.mapP r fun p q z => ⟨z.1, ht _ _ z.2.1, z.2.2⟩, ob, es, ep, k _ _ (.inl rfl) e, c⟩
  | set S n => obtain ⟨ob, es, ep, t, e, c⟩ := x; exact ⟨ob, es, ep, t, k _ _ (.inl rfl) e, c⟩
  | ins C dx fs =>
    obtain ⟨d, z, ne, e, mA, ⟨od, es, ep, e2, c⟩, r⟩ := x
    exact ⟨ho _ d, z, ne, k _ _ (.inl rfl) e, mA, ⟨od, es, ep, k _ _ (.inr d) e2, c⟩, r⟩
  | own y => obtain ⟨ob, e⟩ := x; exact ⟨ob, k _ _ (.inl rfl) e⟩
  | xd fs => obtain ⟨mA, ⟨od, es, ep, e, c⟩, r⟩ := x; exact ⟨mA, ⟨od, es, ep, k _ _ (.inl rfl) e, c⟩, r⟩
  | rng lo hi => obtain ⟨t, u, v, e⟩ := x; exact ⟨t, u, v, k _ _ (.inl rfl) e⟩
  | frz ob u ih => obtain ⟨e, q⟩ := x; exact ⟨k _ _ (.inl rfl) e, ih q⟩
  | tbl ps =>
    have e : h.get? a = some { cls := .none, data := .fields ps } := x
    show h'.get? a = some { cls := .none, data := .fields ps }
    exact k a _ (.inl rfl) e
  | met f y =>
    have e : h.get? a = some (PySem.W.methodObj (.ref f) (.ref y)) := x
    show h'.get? a = some (PySem.W.methodObj (.ref f) (.ref y))
    exact k a _ (.inl rfl) e
  | ext φ => obtain ⟨p, ⟨o, e⟩, st⟩ := x; exact ⟨st _ _ p fun o q => k _ _ (.inl rfl) q, ⟨o, k _ _ (.inl rfl) e⟩, st⟩
theorem HOk.lt (x : HOk P w H h) (e : H a = some o) : a < h.objs.size := (x a o e).lt
theorem HOk.fresh (x : HOk P w H h) (e : h.objs.size ≤ a) : H a = none := by
  cases q : H a with
  | none => rfl
  | some u => exact absurd (Nat.lt_of_lt_of_le (x.lt q) e) (Nat.lt_irrefl _)
theorem HOk.kept (x : HOk P w H h) (k : ∀ b u, h.get? b = some u → h'.get? b = some u) : HOk P w H h' := fun a o e =>
  (x a o e).stay (fun b u _ q => k b u q) (fun _ q => q) fun _ _ q => q
theorem HOk.laid (x : HOk P w H h) (k : ∀ b u, h.get? b = some u → h'.get? b = some u) (hp : h.objs.size ≤ a) (new : ObjOk P w (upd H a o) h' a o) : HOk P w (upd H a o) h' := fun b u e => by
  have hn := x.fresh hp
  by_cases hb : b = a
  · subst hb; rw [upd_same] at e; cases e; exact new
  · rw [upd_ne hb] at e
    exact (x b u e).stay (fun c v _ q => k c v q) (fun c q => by rw [upd_ne (ne_of_none q hn)]; exact q) fun c xs q => by rw [upd_ne (ne_of_none q hn)]; exact q
end

noncomputable def Rd (H : Hp) (a : Addr) (u : HO) : Prop := H a = some u ∨ ∃ o, H a = some (.frz o u)
theorem Rd.ok {P : Program} {w : World} {H : Hp} {h : Heap} {a : Addr} {u : HO} (r : Rd H a u) (x : HOk P w H h) : ObjOk P w H h a u := by
  rcases r with r | ⟨o, r⟩
  · exact x a u r
  · obtain ⟨_, q⟩ := x a _ r
    exact q
noncomputable def Mut : Option HO → Prop
  | some (.lst _) => True
  | some (.dK _) => True
  | some (.dT _) => True
  | some (.set _ _) => True
  | some (.ins _ _ _) => True
  | some (.ext _) => True
  | _ => False
section
variable {P : Program} {w : World} {H : Hp} {h h' : Heap} {x e : Addr} {o' : HO}
theorem HOk.write (ok : HOk P w H h) (mu : Mut (H x)) (he : e = x ∨ H e = some (.own x)) (k : ∀ b u, b ≠ e → h.get? b = some u → h'.get? b = some u) (heo : ∃ u, h'.get? e = some u)
    (new : ObjOk P w (upd H x o') h' x o') : HOk P w (upd H x o') h' := fun b u q => by
  have nown : ∀ c y, H c = some (.own y) → c ≠ x := fun c y r z => by subst z; rw [r] at mu; exact mu
  have ntup : ∀ c xs, H c = some (.tup xs) → c ≠ x := fun c xs r z => by subst z; rw [r] at mu; exact mu
  by_cases hb : b = x
  · subst hb; rw [upd_same] at q; cases q; exact new
  · rw [upd_ne hb] at q
    by_cases hbe : b = e
    · have q' : H b = some (.own x) := by
        rcases he with z | z
        · exact absurd (hbe.trans z) hb
        · rw [hbe]; exact z
      rw [q] at q'; cases q'
      obtain ⟨v, hv⟩ := heo
      exact ⟨v, by rw [hbe]; exact hv⟩
    · refine (ok b u q).stay (fun c v hc r => k c v ?_ r) (fun c r => by rw [upd_ne (nown c b r)]; exact r) fun c xs r => by rw [upd_ne (ntup c xs r)]; exact r
      rcases hc with rfl | hc
      · exact hbe
      · rintro rfl
        rcases he with z | z
        · exact nown c b hc z
        · rw [hc] at z; cases z; exact hb rfl
end

structure Un (fs ex : List Addr) (H H' : Hp) (h h' : Heap) : Prop where
  keep : ∀ b o, h.get? b = some o → H b = none → b ∉ fs → b ∉ ex → h'.get? b = some o
  slot : ∀ b o, h.get? b = some o → H b = none → b ∈ fs → b ∉ ex → ∃ sl, h'.get? b = some { o with slots := sl }
  free : ∀ b o, h.get? b = some o → H b = none → b ∉ ex → H' b = none
  there : ∀ b o, h.get? b = some o → b ∉ ex → ∃ o', h'.get? b = some o'
  tups : ∀ b xs, H b = some (.tup xs) → H' b = some (.tup xs)
  frzs : ∀ b o u, H b = some (.frz o u) → H' b = some (.frz o u)
  tbls : ∀ b ps, H b = some (.tbl ps) → ∃ more, H' b = some (.tbl (ps ++ more))
section
variable {fs fs' ex ex' : List Addr} {H H1 H2 : Hp} {h h1 h2 h' : Heap} {a x e : Addr} {o : HO}
theorem Un.any (u : Un fs ex H H1 h h1) {b : Addr} {ob : Obj} (q : h.get? b = some ob) (n : H b = none) (hx : b ∉ ex) : ∃ sl, h1.get? b = some { ob with slots := sl } := by
  by_cases hb : b ∈ fs
  · exact u.slot b ob q n hb hx
  · exact ⟨ob.slots, u.keep b ob q n hb hx⟩
theorem Un.kept (k : ∀ b u, h.get? b = some u → h'.get? b = some u) : Un fs ex H H h h' :=
  ⟨fun b ob q _ _ _ => k b ob q, fun b ob q _ _ _ => ⟨ob.slots, k b ob q⟩, fun _ _ _ n _ => n, fun b ob q _ => ⟨ob, k b ob q⟩, fun _ _ q => q, fun _ _ _ q => q, fun _ ps q => ⟨#[], by rw [q]; simp⟩⟩
theorem Un.refl : Un fs ex H H h h := Un.kept fun _ _ q => q
theorem Un.laid (k : ∀ b u, h.get? b = some u → h'.get? b = some u) (hp : h.objs.size ≤ a) (hn : H a = none) : Un fs ex H (upd H a o) h h' where
  keep := fun b u q _ _ _ => k b u q
  slot := fun b u q _ _ _ => ⟨u.slots, k b u q⟩
  free := fun b u q n _ => by rw [upd_ne (Nat.ne_of_lt (Nat.lt_of_lt_of_le (Heap.lt_size q) hp))]; exact n
  there := fun b u q _ => ⟨u, k b u q⟩
  tups := fun b xs q => by rw [upd_ne (ne_of_none q hn)]; exact q
  frzs := fun b u xs q => by rw [upd_ne (ne_of_none q hn)]; exact q
  tbls := fun b ps q => ⟨#[], by rw [upd_ne (ne_of_none q hn), q]; simp⟩
theorem Un.write (mu : Mut (H x)) (he : e = x ∨ H e = some (.own x)) (k : ∀ b u, b ≠ e → h.get? b = some u → h'.get? b = some u) (heo : ∃ u, h'.get? e = some u) : Un fs ex H (upd H x o) h h' := by
  have hx : ∀ b, H b = none → b ≠ x := fun b n z => by subst z; rw [n] at mu; exact mu
  have hb : ∀ b, H b = none → b ≠ e := fun b n z => by
    subst z
    rcases he with r | r
    · exact hx b n r
    · rw [n] at r; cases r
  have hm : ∀ b u, H b = some u → ¬ Mut (some u) → b ≠ x := fun b u q nm z => by subst z; rw [q] at mu; exact nm mu
  refine ⟨fun b u q n _ _ => k b u (hb b n) q, fun b u q n _ _ => ⟨u.slots, k b u (hb b n) q⟩, fun b u q n _ => by rw [upd_ne (hx b n)]; exact n, fun b u q _ => ?_,
    fun b xs q => by rw [upd_ne (hm b _ q fun z => z)]; exact q, fun b u xs q => by rw [upd_ne (hm b _ q fun z => z)]; exact q, fun b ps q => ⟨#[], by rw [upd_ne (hm b _ q fun z => z), q]; simp⟩⟩
  by_cases hbe : b = e
  · subst hbe; exact heo
  · exact ⟨u, k b u hbe q⟩
end

noncomputable def trk (h : Heap) (H : Hp) : List Addr := (List.range h.objs.size).filter fun a => (H a).isSome
noncomputable def hidT (h : Heap) (H : Hp) : Heap := PySem.W.hideAll h (trk h H)
theorem hidT_size (h : Heap) (H : Hp) : (hidT h H).objs.size = h.objs.size := PySem.W.hideAll_size _ _
theorem hidT_get {h : Heap} {H : Hp} {b : Addr} {o : Obj} (e : h.get? b = some o) (n : H b = none) : (hidT h H).get? b = some o :=
  PySem.W.hideAll_get _ e fun hm => by
    have q : (H b).isSome = true := (List.mem_filter.mp hm).2
    rw [n] at q; simp at q
theorem of_hidT {h : Heap} {H : Hp} {b : Addr} {o : Obj} (e : (hidT h H).get? b = some o) : h.get? b = some o ∧ H b = none := by
  have e' : h.get? b = some o := PySem.W.of_hideAll (trk h H) e
  refine ⟨e', ?_⟩
  cases q : H b with
  | none => rfl
  | some x =>
    have hm : b ∈ trk h H := List.mem_filter.mpr ⟨List.mem_range.mpr (Heap.lt_size e'), by simp [q]⟩
    have z : (hidT h H).get? b = none := PySem.W.hideAll_none (trk h H) hm
    rw [z] at e; cases e

end L2

namespace L2
open PySem PySem.Spec PyProof.Rows

structure Mod (K : PySem.W.Frag) (mg : Str → Option Value) (base : Heap) : Prop where
  kin : K.In base
  glob : base.Ns mainGlobals mg
  blt : ∃ mb, base.Ns builtinsNs mb ∧ ∀ x : Str, x ≠ "__name__" → mb x = bootBuiltins x
  nolimit : base.NoLimit

structure Cx where
  prog : Program
  w : World
  K : PySem.W.Frag
  mg : Str → Option Value
  base : Heap
  A : Around
  N : List Str
  s₀ : Shared
  H₀ : Hp
  env : Env
  outer : List Env
  stack : List Env
  ex : List Addr
  fn : Str → Bool
  calm : Bool
  pn : List (Addr × Obj)
  xe : Value → Shared → Prop
noncomputable def frs (l : List Env) : List Addr := l.filterMap (·.frame)
noncomputable abbrev Cx.fs (X : Cx) : List Addr := frs X.outer

noncomputable def Vis (sc : Scope) (x : Str) : Prop := sc.names.lookup x = some .local ∨ sc.names.lookup x = some .cell ∨ sc.names.lookup x = some .free
noncomputable def Loc (sc : Scope) (x : Str) : Prop := sc.names.lookup x = some .local ∨ sc.names.lookup x = some .cell
noncomputable def Look (env : Env) (h : Heap) (m : Str → Option Value) (x : Str) (u : Value) : Prop :=
  (env.kindOf x = some .local ∧ m x = some u) ∨ ((env.kindOf x = some .cell ∨ env.kindOf x = some .free) ∧ ∃ c, env.cells.lookup x = some c ∧ h.IsCell c (some u))

structure Cx.Ok (X : Cx) : Prop where
  mod : Mod X.K X.mg X.base
  kind : X.env.scope.kind = .function
  glob : X.env.globals = mainGlobals
  blt : X.env.builtins = builtinsNs
  above : X.s₀.heap.objs.size ≤ X.env.locals
  inj : ∀ x y c, X.env.cells.lookup x = some c → X.env.cells.lookup y = some c → x = y
  has : ∀ x, (X.env.kindOf x = some .cell ∨ X.env.kindOf x = some .free) → ∃ c, X.env.cells.lookup x = some c
  cab : ∀ x c, X.fn x = true → X.env.cells.lookup x = some c → X.s₀.heap.objs.size ≤ c
  hd : X.calm = true → X.A.handled = none
  frames : X.A.frames = some X.stack
  stk : X.stack = X.outer ∨ (X.stack = X.env :: X.outer ∧ X.env.frame = some X.env.locals)
  exf : ∀ b ∈ X.ex, b ≠ X.env.locals ∧ ∀ x c, X.env.cells.lookup x = some c → c ≠ b
  bs : ∀ b o, X.base.get? b = some o → X.s₀.heap.get? b = some o ∧ X.H₀ b = none
  bsz : X.base.objs.size ≤ X.s₀.heap.objs.size
  noex : ∀ b o, X.base.get? b = some o → b ∉ X.ex
  exfs : ∀ b ∈ X.ex, b ∉ X.fs
  funs : X.s₀.heap.FunFrames X.base X.outer
  frf : ∀ b ∈ X.fs, X.H₀ b = none

structure Inv (X : Cx) (pins : List (Addr × Obj)) (σ : List (Option V)) (H : Hp) (s : Shared) : Prop where
  ok : X.Ok
  os : s.os = X.s₀.os
  bare : AllBare s.gens
  base : Un X.fs X.ex X.H₀ H X.s₀.heap s.heap
  loc : ∃ m, s.heap.Ns X.env.locals m ∧ ∀ (i : Nat) (x : Str) (v : V), X.N[i]? = some x → σ[i]? = some (some v) → Vis X.env.scope x → ∃ u, RelV v u ∧ Look X.env s.heap m x u
  cell : ∀ x c, X.env.cells.lookup x = some c → ∃ v, s.heap.IsCell c v
  free : H X.env.locals = none
  freeC : ∀ x c, X.env.cells.lookup x = some c → H c = none
  pin : ∀ p ∈ X.pn ++ pins, s.heap.get? p.1 = some p.2 ∧ H p.1 = none ∧ p.1 ≠ X.env.locals ∧ p.1 ∉ X.fs ∧ ∀ v, p.2.data ≠ .cell v
  hok : HOk X.prog X.w H s.heap
  len : σ.length = X.N.length

section
variable {X : Cx} {pins : List (Addr × Obj)} {σ : List (Option V)} {H H' : Hp} {s : Shared} {h' : Heap}

theorem Cx.Ok.nofr (ok : X.Ok) {b : Addr} {o : Obj} (e : X.base.get? b = some o) : b ∉ X.fs := fun hb => by
  have := (ok.funs.mem hb).1
  rw [e] at this; cases this
theorem Inv.bs (I : Inv X pins σ H s) : ∀ b o, X.base.get? b = some o → s.heap.get? b = some o ∧ H b = none := fun b o e =>
  ⟨I.base.keep b o (I.ok.bs b o e).1 (I.ok.bs b o e).2 (I.ok.nofr e) (I.ok.noex b o e), I.base.free b o (I.ok.bs b o e).1 (I.ok.bs b o e).2 (I.ok.noex b o e)⟩
theorem Inv.bk (I : Inv X pins σ H s) : ∀ b o, X.base.get? b = some o → s.heap.get? b = some o := fun b o e => (I.bs b o e).1
theorem Inv.mod (I : Inv X pins σ H s) : Mod X.K X.mg X.base := I.ok.mod
theorem Inv.kIn (I : Inv X pins σ H s) : X.K.In s.heap := I.ok.mod.kin.keeps I.bk
theorem Inv.lt (I : Inv X pins σ H s) : X.env.locals < s.heap.objs.size := let ⟨_, hn, _⟩ := I.loc; hn.lt
theorem Inv.sz (I : Inv X pins σ H s) : X.s₀.heap.objs.size ≤ s.heap.objs.size := Nat.le_trans I.ok.above (Nat.le_of_lt I.lt)
theorem Inv.nofs (I : Inv X pins σ H s) {a : Addr} (h : s.heap.objs.size ≤ a) : a ∉ X.fs := fun hb => by
  obtain ⟨_, o, ho, _⟩ := I.ok.funs.mem hb
  exact absurd (Nat.lt_of_lt_of_le (Heap.lt_size ho) (Nat.le_trans I.sz h)) (Nat.lt_irrefl _)
theorem Inv.cne (I : Inv X pins σ H s) : ∀ x c, X.env.cells.lookup x = some c → c ≠ X.env.locals := fun x c e z => by
  obtain ⟨v, o, ho, hd⟩ := I.cell x c e
  obtain ⟨m, ⟨o', es, ep, ho', hd', _⟩, _⟩ := I.loc
  rw [z, ho'] at ho; cases ho; rw [hd'] at hd; cases hd
theorem Inv.funs (I : Inv X pins σ H s) : s.heap.FunFrames X.base X.outer := by
  have all : ∀ (l : List Env), (∀ b ∈ frs l, b ∈ X.fs) → X.s₀.heap.FunFrames X.base l → s.heap.FunFrames X.base l := by
    intro l
    induction l with
    | nil => intro _ _; trivial
    | cons env r ih =>
      intro hs hl
      obtain ⟨hk, ⟨L, o, hf, hn, ho, hd⟩, hr⟩ := hl
      have hL : L ∈ X.fs := hs L (by unfold frs; rw [List.filterMap_cons, hf]; exact List.mem_cons_self)
      obtain ⟨sl, e⟩ := I.base.slot L o ho (I.ok.frf L hL) hL fun z => I.ok.exfs L z hL
      exact ⟨hk, ⟨L, _, hf, hn, e, hd⟩, ih (fun b hb => hs b (by unfold frs; rw [List.filterMap_cons, hf]; exact List.mem_cons_of_mem _ hb)) hr⟩
  exact all X.outer (fun _ hb => hb) I.ok.funs

theorem Inv.stack (I : Inv X pins σ H s) : s.heap.FunFrames X.base X.stack := by
  rcases I.ok.stk with e | ⟨e, hf⟩
  · rw [e]; exact I.funs
  · rw [e]
    obtain ⟨m, hn, _⟩ := I.loc
    refine .cons (by rw [I.ok.kind]; decide) hf hn ?_ I.funs
    exact Heap.get?_none_of_le (Nat.le_trans I.ok.bsz I.ok.above)
theorem Inv.stkSub (I : Inv X pins σ H s) : ∀ b ∈ frs X.stack, b ∈ X.env.locals :: X.fs := fun b hb => by
  rcases I.ok.stk with e | ⟨e, hf⟩
  · rw [e] at hb; exact List.mem_cons_of_mem _ hb
  · rw [e] at hb
    unfold frs at hb
    rw [List.filterMap_cons, hf] at hb
    exact hb
theorem Inv.stkFree (I : Inv X pins σ H s) : ∀ b ∈ frs X.stack, H b = none := fun b hb => by
  rcases List.mem_cons.mp (I.stkSub b hb) with e | hb
  · rw [e]; exact I.free
  · obtain ⟨_, o, ho, _⟩ := I.ok.funs.mem hb
    exact I.base.free b o ho (I.ok.frf b hb) fun z => I.ok.exfs b z hb

theorem Inv.step {g' : Array GenState} {t' : Nat} {d' : Drawn} {ch : List Addr} (I : Inv X pins σ H s)
    (hch : ∀ b ∈ ch, (b ∈ X.ex ∨ X.s₀.heap.objs.size ≤ b) ∧ b ≠ X.env.locals ∧ (∀ x c, X.env.cells.lookup x = some c → c ≠ b) ∧ ∀ p ∈ X.pn ++ pins, p.1 ≠ b)
    (keep : ∀ b o, b ≠ X.env.locals → b ∉ X.fs → b ∉ ch → s.heap.get? b = some o → H b = none → h'.get? b = some o)
    (slot : ∀ b o, b ≠ X.env.locals → b ∈ X.fs → b ∉ ch → s.heap.get? b = some o → H b = none → ∃ sl, h'.get? b = some { o with slots := sl }) (free : ∀ b o, b ∉ ch → s.heap.get? b = some o → H b = none → H' b = none)
    (there : ∀ b o, b ∉ ch → s.heap.get? b = some o → ∃ o', h'.get? b = some o')
    (tups : ∀ b xs, H b = some (.tup xs) → H' b = some (.tup xs)) (frzs : ∀ b o u, H b = some (.frz o u) → H' b = some (.frz o u)) (tbls : ∀ b ps, H b = some (.tbl ps) → ∃ more, H' b = some (.tbl (ps ++ more)))
    (ns : ∀ m, s.heap.Ns X.env.locals m → h'.Ns X.env.locals m) (hok : HOk X.prog X.w H' h') (hg : AllBare g') :
    Inv X pins σ H' { s with heap := h', gens := g', drawn := d', toks := t' } := by
  have neL : ∀ b o, X.s₀.heap.get? b = some o → b ≠ X.env.locals := fun b o e => Nat.ne_of_lt (Nat.lt_of_lt_of_le (Heap.lt_size e) I.ok.above)
  have neC : ∀ b o, X.s₀.heap.get? b = some o → b ∉ X.ex → b ∉ ch := fun b o e hx hb => by
    rcases (hch b hb).1 with z | z
    · exact hx z
    · exact absurd (Nat.lt_of_lt_of_le (Heap.lt_size e) z) (Nat.lt_irrefl _)
  have cellK : ∀ x c, X.env.cells.lookup x = some c → ∀ v, s.heap.IsCell c v → h'.IsCell c v := fun x c e v ⟨o, ho, hd⟩ => by
    have nch : c ∉ ch := fun z => (hch c z).2.2.1 x c e rfl
    by_cases hc : c ∈ X.fs
    · obtain ⟨sl, q⟩ := slot c o (I.cne x c e) hc nch ho (I.freeC x c e)
      exact ⟨_, q, hd⟩
    · exact ⟨o, keep c o (I.cne x c e) hc nch ho (I.freeC x c e), hd⟩
  refine ⟨I.ok, I.os, hg, ⟨fun b o e n hb hx => ?_, fun b o e n hb hx => ?_, fun b o e n hx => ?_, fun b o e hx => ?_, fun b xs e => tups b xs (I.base.tups b xs e), fun b o xs e => frzs b o xs (I.base.frzs b o xs e), fun b ps e => ?_⟩, ?_, fun x c e => ?_, ?_, fun x c e => ?_, fun p hp => ?_, hok, I.len⟩
  · exact keep b o (neL b o e) hb (neC b o e hx) (I.base.keep b o e n hb hx) (I.base.free b o e n hx)
  · obtain ⟨sl, e1⟩ := I.base.slot b o e n hb hx
    obtain ⟨sl', e2⟩ := slot b _ (neL b o e) hb (neC b o e hx) e1 (I.base.free b o e n hx)
    exact ⟨sl', e2⟩
  · obtain ⟨o', e1⟩ := I.base.there b o e hx
    exact free b o' (neC b o e hx) e1 (I.base.free b o e n hx)
  · obtain ⟨o', e1⟩ := I.base.there b o e hx
    exact there b o' (neC b o e hx) e1
  · obtain ⟨m1, e1⟩ := I.base.tbls b ps e
    obtain ⟨m2, e2⟩ := tbls b _ e1
    exact ⟨m1 ++ m2, by rw [e2, Array.append_assoc]⟩
  · obtain ⟨m, hn, hl⟩ := I.loc
    refine ⟨m, ns m hn, fun i x v e1 e2 e3 => ?_⟩
    obtain ⟨u, r, l⟩ := hl i x v e1 e2 e3
    refine ⟨u, r, ?_⟩
    rcases l with l | ⟨k, c, e, z⟩
    · exact .inl l
    · exact .inr ⟨k, c, e, cellK x c e _ z⟩
  · obtain ⟨v, z⟩ := I.cell x c e
    exact ⟨v, cellK x c e v z⟩
  · obtain ⟨m, ⟨o, _, _, ho, _⟩, _⟩ := I.loc
    exact free _ o (fun z => (hch _ z).2.1 rfl) ho I.free
  · obtain ⟨v, o, ho, hd⟩ := I.cell x c e
    exact free c o (fun z => (hch c z).2.2.1 x c e rfl) ho (I.freeC x c e)
  · obtain ⟨e, n, ne, nf, d⟩ := I.pin p hp
    have nch : p.1 ∉ ch := fun z => (hch p.1 z).2.2.2 p hp rfl
    exact ⟨keep p.1 p.2 ne nf nch e n, free p.1 p.2 nch e n, ne, nf, d⟩
theorem Inv.un {t' : Nat} (I : Inv X pins σ H s) (u : Un X.fs [] H H' s.heap h') (hok : HOk X.prog X.w H' h') : Inv X pins σ H' { s with heap := h', toks := t' } := by
  obtain ⟨m, ⟨o, es, ep, ho, r⟩, _⟩ := id I.loc
  obtain ⟨sl, hL⟩ := u.any ho I.free (by simp)
  exact I.step (g' := s.gens) (d' := s.drawn) (ch := []) (fun _ z => nomatch z) (fun b o _ hb _ e n => u.keep b o e n hb (by simp)) (fun b o _ hb _ e n => u.slot b o e n hb (by simp)) (fun b o _ e n => u.free b o e n (by simp)) (fun b o _ e => u.there b o e (by simp)) u.tups u.frzs u.tbls (fun m' hm => by
    obtain ⟨o', es', ep', ho', r'⟩ := hm
    rw [ho] at ho'; cases ho'
    exact ⟨_, es', ep', hL, r'⟩) hok I.bare
theorem Inv.call {g' : Array GenState} {t' : Nat} {d' : Drawn} {ch : List Addr} (I : Inv X pins σ H s) (u : Un (frs X.stack) ch H H' s.heap h') (hok : HOk X.prog X.w H' h') (hg : AllBare g')
    (hch : ∀ b ∈ ch, (b ∈ X.ex ∨ X.s₀.heap.objs.size ≤ b) ∧ b ≠ X.env.locals ∧ (∀ x c, X.env.cells.lookup x = some c → c ≠ b) ∧ ∀ p ∈ X.pn ++ pins, p.1 ≠ b) :
    Inv X pins σ H' { s with heap := h', gens := g', drawn := d', toks := t' } := by
  obtain ⟨m, ⟨o, es, ep, ho, r⟩, _⟩ := id I.loc
  obtain ⟨sl, hL⟩ := u.any ho I.free fun z => (hch _ z).2.1 rfl
  exact I.step (ch := ch) hch (fun b o hL hb hc e n => u.keep b o e n (fun z => (List.mem_cons.mp (I.stkSub b z)).elim hL hb) hc) (fun b o _ _ hc e n => u.any e n hc) (fun b o hc e n => u.free b o e n hc) (fun b o hc e => u.there b o e hc) u.tups u.frzs u.tbls (fun m' hm => by
    obtain ⟨o', es', ep', ho', r'⟩ := hm
    rw [ho] at ho'; cases ho'
    exact ⟨_, es', ep', hL, r'⟩) hok hg
theorem Inv.turned {t' : Nat} {it : Addr} (I : Inv X pins σ H s) (k : ∀ b o, b ≠ it → s.heap.get? b = some o → h'.get? b = some o) (hn : H it = none) (hL : it ≠ X.env.locals)
    (h1 : it ∈ X.ex ∨ X.s₀.heap.objs.size ≤ it) (h2 : ∀ x c, X.env.cells.lookup x = some c → c ≠ it) (h3 : ∀ p ∈ X.pn ++ pins, p.1 ≠ it) : Inv X pins σ H { s with heap := h', toks := t' } := by
  have nit : ∀ b u, H b = some u → b ≠ it := fun b u e z => by rw [z, hn] at e; cases e
  refine I.step (g' := s.gens) (d' := s.drawn) (ch := [it]) (fun b hb => ?_) (fun b o _ _ hc e _ => k b o (fun z => hc (by simp [z])) e) (fun b o _ _ hc e _ => ⟨o.slots, k b o (fun z => hc (by simp [z])) e⟩) (fun _ _ _ _ n => n)
    (fun b o hc e => ⟨o, k b o (fun z => hc (by simp [z])) e⟩) (fun _ _ e => e) (fun _ _ _ e => e) (fun b ps e => ⟨#[], by rw [e]; simp⟩) (fun m hm => ?_) (fun b u e => ?_) I.bare
  · have e : b = it := by simpa using hb
    subst e
    exact ⟨h1, hL, h2, h3⟩
  · obtain ⟨o, es, ep, ho, r⟩ := hm
    exact ⟨o, es, ep, k _ o (Ne.symm hL) ho, r⟩
  · refine (I.hok b u e).stay (fun c v hc q => k c v ?_ q) (fun _ q => q) fun _ _ q => q
    rcases hc with z | z
    · rw [z]; exact nit b u e
    · exact nit c _ z
theorem Inv.tok (I : Inv X pins σ H s) (t : Nat) : Inv X pins σ H { s with toks := t } := I.un (h' := s.heap) (t' := t) Un.refl I.hok
theorem Inv.kept {t' : Nat} (I : Inv X pins σ H s) (k : ∀ b u, s.heap.get? b = some u → h'.get? b = some u) : Inv X pins σ H { s with heap := h', toks := t' } := I.un (Un.kept k) (I.hok.kept k)
theorem Inv.laid {a : Addr} {o : HO} {t' : Nat} (I : Inv X pins σ H s) (k : ∀ b u, s.heap.get? b = some u → h'.get? b = some u) (hp : s.heap.objs.size ≤ a) (new : ObjOk X.prog X.w (upd H a o) h' a o) :
    Inv X pins σ (upd H a o) { s with heap := h', toks := t' } := I.un (Un.laid k hp (I.hok.fresh hp)) (I.hok.laid k hp new)
theorem Inv.write {x e : Addr} {o : HO} {t' : Nat} (I : Inv X pins σ H s) (mu : Mut (H x)) (he : e = x ∨ H e = some (.own x)) (k : ∀ b u, b ≠ e → s.heap.get? b = some u → h'.get? b = some u) (heo : ∃ u, h'.get? e = some u)
    (new : ObjOk X.prog X.w (upd H x o) h' x o) : Inv X pins σ (upd H x o) { s with heap := h', toks := t' } := I.un (Un.write mu he k heo) (I.hok.write mu he k heo new)
theorem Inv.pins_of {pins' : List (Addr × Obj)} (I : Inv X pins σ H s) (h : ∀ p ∈ pins', s.heap.get? p.1 = some p.2 ∧ H p.1 = none ∧ p.1 ≠ X.env.locals ∧ p.1 ∉ X.fs ∧ ∀ v, p.2.data ≠ .cell v) : Inv X pins' σ H s :=
  ⟨I.ok, I.os, I.bare, I.base, I.loc, I.cell, I.free, I.freeC, fun p hp => (List.mem_append.mp hp).elim (fun z => I.pin p (List.mem_append_left _ z)) (h p), I.hok, I.len⟩

theorem nodup_ix {N : List Str} (hN : N.Nodup) {i j : Nat} {x : Str} (a : N[i]? = some x) (b : N[j]? = some x) : i = j := by
  obtain ⟨h1, e1⟩ := List.getElem?_eq_some_iff.mp a
  obtain ⟨h2, e2⟩ := List.getElem?_eq_some_iff.mp b
  exact (List.getElem_inj hN).mp (e1.trans e2.symm)

theorem store_ok2 {M : Model} {A : Around} {E : Value → Shared → Prop} {i : Nat} {x : Str} {v : V} {u : Value} {Q : Unit → Shared → Prop} (I : Inv X pins σ H s) (hN : X.N.Nodup) (hi : X.N[i]? = some x) (hx : Loc X.env.scope x) (r : RelV v u)
    (h : ∀ s', Inv X pins (σ.set i (some v)) H s' → (∃ a, Heap.SameBut a s.heap s'.heap ∧ (a = X.env.locals ∨ X.env.cells.lookup x = some a)) → Q () s') (hf : autoParam (X.fn x = true ∨ X.env.scope.names.lookup x = some .local) L2.aF._auto_1) : wpAny M A (storeName X.env x u) Q E s := by
  obtain ⟨m, hn, hl⟩ := id I.loc
  have hcls : (X.env.scope.kind == .class || (X.env.scope.kind == .module && X.env.locals != X.env.globals)) = false := by rw [I.ok.kind]; rfl
  have hiσ : i < σ.length := by rw [I.len]; exact (List.getElem?_eq_some_iff.mp hi).1
  have cne := I.cne
  have tracked : ∀ {a : Addr} {h' : Heap}, (∃ o, s.heap.get? a = some o ∧ H a = none) → Heap.SameBut a s.heap h' → HOk X.prog X.w H h' := fun {a h'} ha hs b ob e => by
    obtain ⟨_, _, hfree⟩ := ha
    refine (I.hok b ob e).stay (fun c w' hc q => (hs.2 c ?_).trans q) (fun _ q => q) fun _ _ q => q
    rintro rfl
    rcases hc with rfl | hc
    · rw [hfree] at e; cases e
    · rw [hfree] at hc; cases hc
  rcases hx with hk | hk
  · refine wpAny_storeName_local hk hn (fun h' hn' hs => ?_) hcls
    obtain ⟨oL, _, _, hoL, _⟩ := id hn
    refine h _ ⟨I.ok, I.os, I.bare, ⟨fun b o e n hb hx => ?_, fun b o e n hb hx => ?_, I.base.free, fun b o e hx => ?_, I.base.tups, I.base.frzs, I.base.tbls⟩, ⟨_, hn', fun j y v' e1 e2 e3 => ?_⟩, fun y c e => ?_, I.free, I.freeC, fun p hp => ?_, tracked ⟨oL, hoL, I.free⟩ hs, by simpa using I.len⟩ ⟨_, hs, .inl rfl⟩
    · exact (hs.2 b (Nat.ne_of_lt (Nat.lt_of_lt_of_le (Heap.lt_size e) I.ok.above))).trans (I.base.keep b o e n hb hx)
    · obtain ⟨sl, e1⟩ := I.base.slot b o e n hb hx
      exact ⟨sl, (hs.2 b (Nat.ne_of_lt (Nat.lt_of_lt_of_le (Heap.lt_size e) I.ok.above))).trans e1⟩
    · obtain ⟨o', e1⟩ := I.base.there b o e hx
      exact ⟨o', (hs.2 b (Nat.ne_of_lt (Nat.lt_of_lt_of_le (Heap.lt_size e) I.ok.above))).trans e1⟩
    · by_cases hj : j = i
      · subst hj
        rw [hi] at e1; cases e1
        rw [List.getElem?_set_self hiσ] at e2
        cases e2
        exact ⟨u, r, .inl ⟨hk, by simp⟩⟩
      · rw [List.getElem?_set_ne (Ne.symm hj)] at e2
        obtain ⟨u', r', q⟩ := hl j y v' e1 e2 e3
        refine ⟨u', r', ?_⟩
        rcases q with ⟨k, e⟩ | ⟨k, c, e, z⟩
        · refine .inl ⟨k, ?_⟩
          have : y ≠ x := fun e => hj (nodup_ix hN e1 (e ▸ hi))
          simp [this, e]
        · exact .inr ⟨k, c, e, z.sameBut hs (cne y c e)⟩
    · obtain ⟨w', z⟩ := I.cell y c e
      exact ⟨w', z.sameBut hs (cne y c e)⟩
    · obtain ⟨e, n, ne, nf, d⟩ := I.pin p hp
      exact ⟨(hs.2 p.1 ne).trans e, n, ne, nf, d⟩
  · have hfn : X.fn x = true := by
      rcases hf with z | z
      · exact z
      · rw [z] at hk; cases hk
    obtain ⟨c, hc⟩ := I.ok.has x (.inl hk)
    obtain ⟨w', z⟩ := I.cell x c hc
    refine wpAny_storeName_cell I.ok.kind hk hc z (fun h' hc' hs => ?_)
    obtain ⟨oc, hoc, hocd⟩ := id z
    refine h { s with heap := h' } ⟨I.ok, I.os, I.bare, ⟨fun b o e n hb hx => ?_, fun b o e n hb hx => ?_, I.base.free, fun b o e hx => ?_, I.base.tups, I.base.frzs, I.base.tbls⟩, ⟨m, hn.sameBut hs (Ne.symm (cne x c hc)), fun j y v' e1 e2 e3 => ?_⟩, fun y c' e => ?_, I.free, I.freeC, fun p hp => ?_, tracked ⟨oc, hoc, I.freeC x c hc⟩ hs, by simpa using I.len⟩ ⟨c, hs, .inr hc⟩
    · exact (hs.2 b (Nat.ne_of_lt (Nat.lt_of_lt_of_le (Heap.lt_size e) (I.ok.cab x c hfn hc)))).trans (I.base.keep b o e n hb hx)
    · obtain ⟨sl, e1⟩ := I.base.slot b o e n hb hx
      exact ⟨sl, (hs.2 b (Nat.ne_of_lt (Nat.lt_of_lt_of_le (Heap.lt_size e) (I.ok.cab x c hfn hc)))).trans e1⟩
    · obtain ⟨o', e1⟩ := I.base.there b o e hx
      exact ⟨o', (hs.2 b (Nat.ne_of_lt (Nat.lt_of_lt_of_le (Heap.lt_size e) (I.ok.cab x c hfn hc)))).trans e1⟩
    · by_cases hj : j = i
      · subst hj
        rw [hi] at e1; cases e1
        rw [List.getElem?_set_self hiσ] at e2
        cases e2
        exact ⟨u, r, .inr ⟨.inl hk, c, hc, hc'⟩⟩
      · rw [List.getElem?_set_ne (Ne.symm hj)] at e2
        obtain ⟨u', r', q⟩ := hl j y v' e1 e2 e3
        refine ⟨u', r', ?_⟩
        rcases q with q | ⟨k, c', e, z'⟩
        · exact .inl q
        · refine .inr ⟨k, c', e, z'.sameBut hs ?_⟩
          rintro rfl
          exact hj (nodup_ix hN e1 (I.ok.inj _ _ _ e hc ▸ hi))
    · by_cases hcc : c' = c
      · subst hcc; exact ⟨_, hc'⟩
      · obtain ⟨w2, z2⟩ := I.cell y c' e
        exact ⟨w2, z2.sameBut hs hcc⟩
    · obtain ⟨e, n, ne, nf, d⟩ := I.pin p hp
      refine ⟨(hs.2 p.1 ?_).trans e, n, ne, nf, d⟩
      intro q
      rw [q, hoc] at e
      have q' : oc = p.2 := Option.some.inj e
      exact d w' (by rw [← q']; exact hocd)
theorem store_ok {M : Model} {A : Around} {E : Value → Shared → Prop} {i : Nat} {x : Str} {v : V} {u : Value} {Q : Unit → Shared → Prop} (I : Inv X pins σ H s) (hN : X.N.Nodup) (hi : X.N[i]? = some x) (hx : Loc X.env.scope x) (r : RelV v u)
    (h : ∀ s', Inv X pins (σ.set i (some v)) H s' → Q () s') (hf : autoParam (X.fn x = true ∨ X.env.scope.names.lookup x = some .local) L2.aF._auto_1) : wpAny M A (storeName X.env x u) Q E s :=
  store_ok2 I hN hi hx r (fun s' I' _ => h s' I') hf
end

noncomputable abbrev XK := Value → Option Addr → Hp → Prop
noncomputable abbrev St := List (Option V)
noncomputable abbrev VK := V → Hp → Prop
noncomputable abbrev TE := St → Hp → VK → Prop
noncomputable abbrev TT := St → Hp → (Bool → Hp → Prop) → Prop
noncomputable abbrev TA := St → Hp → (List V → Hp → Prop) → Prop
structure Ends where
  nx : St → Hp → Prop
  rt : VK
  bk : St → Hp → Prop := fun _ _ => False
  ct : St → Hp → Prop := fun _ _ => False
noncomputable abbrev TS := Ends → St → Hp → Prop

noncomputable def EP (X : Cx) (pins : List (Addr × Obj)) (σ : St) (Q : VK) (u : Value) (s' : Shared) : Prop := ∃ v H', Inv X pins σ H' s' ∧ RelV v u ∧ Q v H'
noncomputable def TP (X : Cx) (pins : List (Addr × Obj)) (σ : St) (Q : Bool → Hp → Prop) (b : Bool) (s' : Shared) : Prop := ∃ H', Inv X pins σ H' s' ∧ Q b H'
noncomputable def AP (X : Cx) (pins : List (Addr × Obj)) (σ : St) (Q : List V → Hp → Prop) (us : List Value) (s' : Shared) : Prop := ∃ vs H', Inv X pins σ H' s' ∧ Vals vs us ∧ Q vs H'
noncomputable def SP (X : Cx) (pins : List (Addr × Obj)) (D : Ends) (f : Flow) (s' : Shared) : Prop :=
  match f with
  | .next => ∃ σ' H', Inv X pins σ' H' s' ∧ D.nx σ' H'
  | .brk => ∃ σ' H', Inv X pins σ' H' s' ∧ D.bk σ' H'
  | .cont => ∃ σ' H', Inv X pins σ' H' s' ∧ D.ct σ' H'
  | .ret u => ∃ v σ' H', Inv X pins σ' H' s' ∧ RelV v u ∧ D.rt v H'

noncomputable def PE (X : Cx) (e : Expr) (t : TE) : Prop :=
  ∀ (pins : List (Addr × Obj)) (s : Shared) (σ : St) (H : Hp) (Q : VK), Inv X pins σ H s → t σ H Q → wpAny (model X.prog X.w) X.A (eval e X.env) (EP X pins σ Q) X.xe s
noncomputable def PT (X : Cx) (e : Expr) (t : TT) : Prop :=
  ∀ (pins : List (Addr × Obj)) (s : Shared) (σ : St) (H : Hp) (Q : Bool → Hp → Prop), Inv X pins σ H s → t σ H Q → wpAny (model X.prog X.w) X.A (isTrue e X.env (eval e X.env)) (TP X pins σ Q) X.xe s
noncomputable def PW (X : Cx) (e : Expr) (t : TT) : Prop :=
  ∀ (whole : Sem Value) (pins : List (Addr × Obj)) (s : Shared) (σ : St) (H : Hp) (Q : Bool → Hp → Prop), Inv X pins σ H s → t σ H Q → wpAny (model X.prog X.w) X.A (isTrue e X.env whole) (TP X pins σ Q) X.xe s
theorem PW.pt {X : Cx} {e : Expr} {t : TT} (h : PW X e t) : PT X e t := h _
noncomputable def PA (X : Cx) (es : List Expr) (t : TA) : Prop :=
  ∀ (pos : Pos) (pins : List (Addr × Obj)) (s : Shared) (σ : St) (H : Hp) (Q : List V → Hp → Prop), Inv X pins σ H s → t σ H Q → wpAny (model X.prog X.w) X.A (spliced (backTo pos (starEach es X.env))) (AP X pins σ Q) X.xe s
noncomputable def PS (X : Cx) (st : Stmt) (t : TS) : Prop :=
  ∀ (pins : List (Addr × Obj)) (s : Shared) (σ : St) (H : Hp) (D : Ends), Inv X pins σ H s → t D σ H → wpAny (model X.prog X.w) X.A (exec st X.env) (SP X pins D) X.xe s
noncomputable def PSs (X : Cx) (st : List Stmt) (t : TS) : Prop :=
  ∀ (pins : List (Addr × Obj)) (s : Shared) (σ : St) (H : Hp) (D : Ends), Inv X pins σ H s → t D σ H → wpAny (model X.prog X.w) X.A (execs st X.env) (SP X pins D) X.xe s
theorem thn {α : Type} {t : Sem α} {Q Q' : α → Shared → Prop} {M : Model} {A : Around} {E : Value → Shared → Prop} {s : Shared} (h : wpAny M A t Q E s) (hQ : ∀ a s, Q a s → Q' a s) : wpAny M A t Q' E s := wpAny_mono h hQ fun _ _ x => x
end L2

namespace L2
open PySem PySem.Spec PyProof.Rows
section
variable {X : Cx}


noncomputable def tVar (i : Nat) : TE := fun σ H Q => ∃ v, σ[i]? = some (some v) ∧ Q v H
noncomputable def tC (v : V) : TE := fun _ H Q => Q v H
theorem pe_var {i : Nat} {x : Str} {pos : Pos} (hN : X.N[i]? = some x) (hv : Vis X.env.scope x) (hd : autoParam ((x == ("__debug__" : Str)) = false) L2.aD._auto_1) (hcd : autoParam ((x == ("__classdict__" : Str)) = false) L2.aD._auto_1) : PE X (.Name x pos) (tVar i) := by
  intro pins s σ H Q I h
  obtain ⟨v, e, h⟩ := h
  obtain ⟨m, hn, hl⟩ := I.loc
  obtain ⟨u, r, l⟩ := hl i x v hN e hv
  have fin : EP X pins σ Q u s := ⟨v, H, I, r, h⟩
  rcases l with ⟨hk, hm⟩ | ⟨hk, c, hc, hcell⟩
  · exact wpAny_Name (wpAny_loadName_local I.ok.kind hk hn hm fin) hd
  · rcases hk with hk | hk
    · exact wpAny_Name (wpAny_loadName_cell I.ok.kind hk hc hcell fin) hd
    · exact wpAny_Name (wpAny_loadName_free I.ok.kind hk hc hcell fin hcd) hd
theorem pe_int {i j pos} : PE X (.Constant (.int i) j pos) (tC (.int i)) := fun _ _ _ H _ I h => wpAny_Constant_int ⟨.int i, H, I.tok _, ⟨_, rfl⟩, h⟩
theorem pe_bl {b j pos} : PE X (.Constant (.bool b) j pos) (tC (.bl b)) := fun _ _ _ H _ I h => Constant_bool ⟨.bl b, H, I, rfl, h⟩
theorem pe_non {j pos} : PE X (.Constant .none j pos) (tC .non) := fun _ _ _ H _ I h => Constant_none ⟨.non, H, I, rfl, h⟩
theorem pe_str {x j pos} : PE X (.Constant (.str x) j pos) (tC (.str x)) := fun _ _ _ H _ I h => Calls.Constant_str ⟨.str x, H, I.tok _, ⟨_, rfl⟩, h⟩

noncomputable def Gl (X : Cx) (x : Str) : Prop := X.env.kindOf x = some .globalImplicit
theorem ld_glob {E : Value → Shared → Prop} {pins : List (Addr × Obj)} {s : Shared} {σ : St} {H : Hp} {x : Str} {u : Value} {pos : Pos} {Q : Value → Shared → Prop} (I : Inv X pins σ H s) (hg : Gl X x) (hm : X.mg x = some u) (h : Q u s)
    (hd : autoParam ((x == ("__debug__" : Str)) = false) L2.aD._auto_1) : wpAny (model X.prog X.w) X.A (eval (.Name x pos) X.env) Q E s :=
  Calls.Name_function_global I.ok.kind hg (Calls.loadGlobal_global (by rw [I.ok.glob]; exact I.mod.glob.keeps I.bk) hm h) hd
theorem ld_blt {E : Value → Shared → Prop} {pins : List (Addr × Obj)} {s : Shared} {σ : St} {H : Hp} {x : Str} {u : Value} {pos : Pos} {Q : Value → Shared → Prop} (I : Inv X pins σ H s) (hg : Gl X x) (hm : X.mg x = none) (hv : bootBuiltins x = some u) (h : Q u s)
    (hn : autoParam (x ≠ "__name__") L2.aD._auto_1) (hd : autoParam ((x == ("__debug__" : Str)) = false) L2.aD._auto_1) : wpAny (model X.prog X.w) X.A (eval (.Name x pos) X.env) Q E s := by
  obtain ⟨mb, h1, h2⟩ := I.mod.blt
  exact Calls.Name_function_global I.ok.kind hg (Calls.loadGlobal_builtin (by rw [I.ok.glob]; exact I.mod.glob.keeps I.bk) hm (by rw [I.ok.blt]; exact h1.keeps I.bk) ((h2 x hn).trans hv) h) hd
theorem pe_glob {x : Str} {v : V} {u : Value} {pos : Pos} (hg : Gl X x) (hm : X.mg x = some u) (r : RelV v u) (hd : autoParam ((x == ("__debug__" : Str)) = false) L2.aD._auto_1) : PE X (.Name x pos) (tC v) :=
  fun _ _ _ H _ I h => ld_glob I hg hm ⟨v, H, I, r, h⟩ hd
theorem pe_bltn {x : Str} {v : V} {u : Value} {pos : Pos} (hg : Gl X x) (hm : X.mg x = none) (hv : bootBuiltins x = some u) (r : RelV v u) (hn : autoParam (x ≠ "__name__") L2.aD._auto_1) (hd : autoParam ((x == ("__debug__" : Str)) = false) L2.aD._auto_1) : PE X (.Name x pos) (tC v) :=
  fun _ _ _ H _ I h => ld_blt I hg hm hv ⟨v, H, I, r, h⟩ hn hd

variable {a b : Expr} {ta tb : TE} {pos : Pos}

noncomputable def PC (X : Cx) (op : CmpOp) (a b : Expr) (t : TE) : Prop :=
  ∀ (pins : List (Addr × Obj)) (s : Shared) (σ : St) (H : Hp) (Q : VK), Inv X pins σ H s → t σ H Q →
    wpAny (model X.prog X.w) X.A (eval a X.env) (fun v s₁ => wpAny (model X.prog X.w) X.A (eval b X.env) (fun u s₂ => wpAny (model X.prog X.w) X.A (compareOp op v u) (EP X pins σ Q) X.xe s₂) X.xe s₁) X.xe s
theorem nobehind (b : Expr) {op : CmpOp} (h : op ≠ .In) (h2 : op ≠ .NotIn) : behindInMarks op b = false := by
  have e1 : (op == CmpOp.In) = false := by cases op <;> first | rfl | exact absurd rfl h
  have e2 : (op == CmpOp.NotIn) = false := by cases op <;> first | rfl | exact absurd rfl h2
  cases b <;> first
    | rfl
    | (show ((_ == 0) && ((op == CmpOp.In) || (op == CmpOp.NotIn)) && _) = false; rw [e1, e2, Bool.or_false, Bool.and_false, Bool.false_and])
noncomputable def tIsN (ta : TE) : TE := fun σ H Q => ta σ H fun x H1 => Q (.bl (decide (x = .non))) H1
theorem RelV.none_iff {x : V} {v : Value} (r : RelV x v) : (v == Value.none) = decide (x = .non) := by
  cases x with
  | non => cases r; rfl
  | bl _ => cases r; rfl
  | int _ => obtain ⟨t, rfl⟩ := r; rfl
  | str _ => obtain ⟨t, rfl⟩ := r; rfl
  | byt _ => obtain ⟨t, rfl⟩ := r; rfl
  | flt _ => obtain ⟨t, rfl⟩ := r; rfl
  | ref _ => cases r; rfl
  | ty _ => cases r; rfl
theorem pc_isN {j pos'} (ha : PE X a ta) : PC X .Is a (.Constant .none j pos') (tIsN ta) := by
  intro pins s σ H Q I h
  refine thn (ha pins s σ H _ I h) fun v s1 ⟨x, H1, I1, r1, q1⟩ => ?_
  exact Constant_none (is_none_gen ⟨.bl _, H1, I1, by rw [r1.none_iff]; rfl, q1⟩)

variable {tA tB' : TT} {rest : List Expr}
noncomputable def tAnd (t u : TT) : TT := fun σ H Q => t σ H fun c H1 => if c = true then u σ H1 Q else Q false H1
noncomputable def tOr (t u : TT) : TT := fun σ H Q => t σ H fun c H1 => if c = true then Q true H1 else u σ H1 Q
noncomputable def tNot (t : TT) : TT := fun σ H Q => t σ H fun c H1 => Q (!c) H1
theorem pw_and1 (ha : PT X a tA) : PW X (.BoolOp .And [a] pos) tA := by
  intro wh pins s σ H Q I h
  refine isTrue_and (thn (ha pins s σ H Q I h) fun c s1 e => ?_)
  cases c with
  | true => exact isTrue_and_nil e
  | false => exact e
theorem pw_or1 (ha : PT X a tA) : PW X (.BoolOp .Or [a] pos) tA := by
  intro wh pins s σ H Q I h
  refine isTrue_or (thn (ha pins s σ H Q I h) fun c s1 e => ?_)
  cases c with
  | false => exact isTrue_or_nil e
  | true => exact e
theorem pw_and (ha : PT X a tA) (hb : PW X (.BoolOp .And (b :: rest) pos) tB') : PW X (.BoolOp .And (a :: b :: rest) pos) (tAnd tA tB') := by
  intro wh pins s σ H Q I h
  refine isTrue_and (thn (ha pins s σ H _ I h) fun c s1 ⟨H1, I1, q1⟩ => ?_)
  cases c with
  | true => exact hb wh pins s1 σ H1 Q I1 q1
  | false => exact ⟨H1, I1, q1⟩
theorem pw_or (ha : PT X a tA) (hb : PW X (.BoolOp .Or (b :: rest) pos) tB') : PW X (.BoolOp .Or (a :: b :: rest) pos) (tOr tA tB') := by
  intro wh pins s σ H Q I h
  refine isTrue_or (thn (ha pins s σ H _ I h) fun c s1 ⟨H1, I1, q1⟩ => ?_)
  cases c with
  | true => exact ⟨H1, I1, q1⟩
  | false => exact hb wh pins s1 σ H1 Q I1 q1
theorem pt_not (ha : PT X a tA) : PT X (.UnaryOp .Not a pos) (tNot tA) := by
  intro pins s σ H Q I h
  exact isTrue_not (ha pins s σ H (fun c H1 => Q (!c) H1) I h)
noncomputable def tAndV (ta tb : TE) : TE := fun σ H Q => ta σ H fun x H1 => ∃ c, x = .bl c ∧ if c = true then tb σ H1 Q else Q (.bl false) H1
noncomputable def tOrV (ta tb : TE) : TE := fun σ H Q => ta σ H fun x H1 => ∃ c, x = .bl c ∧ if c = true then Q (.bl true) H1 else tb σ H1 Q
theorem pe_one {op} {t : TE} (h : PE X a t) : PE X (.BoolOp op [a] pos) t := fun pins s σ H Q I hw => BoolOp_one (h pins s σ H Q I hw)
theorem pe_and (ha : PE X a ta) (hb : PE X (.BoolOp .And (b :: rest) pos) tb) : PE X (.BoolOp .And (a :: b :: rest) pos) (tAndV ta tb) := by
  intro pins s σ H Q I h
  refine BoolOp_and (thn (ha pins s σ H _ I h) fun v s1 ⟨x, H1, I1, r1, q1⟩ => ?_)
  obtain ⟨c, rfl, q1⟩ := q1
  cases r1
  refine wpAny_truthy_bool ?_
  cases c with
  | true => exact hb pins s1 σ H1 Q I1 q1
  | false => exact ⟨.bl false, H1, I1, rfl, q1⟩
theorem pe_or (ha : PE X a ta) (hb : PE X (.BoolOp .Or (b :: rest) pos) tb) : PE X (.BoolOp .Or (a :: b :: rest) pos) (tOrV ta tb) := by
  intro pins s σ H Q I h
  refine BoolOp_or (thn (ha pins s σ H _ I h) fun v s1 ⟨x, H1, I1, r1, q1⟩ => ?_)
  obtain ⟨c, rfl, q1⟩ := q1
  cases r1
  refine wpAny_truthy_bool ?_
  cases c with
  | false => exact hb pins s1 σ H1 Q I1 q1
  | true => exact ⟨.bl true, H1, I1, rfl, q1⟩
noncomputable def tIf (t : TT) (ta tb : TE) : TE := fun σ H Q => t σ H fun c H1 => if c = true then ta σ H1 Q else tb σ H1 Q
theorem pe_ifExp {c : Expr} (hc : PT X c tA) (ha : PE X a ta) (hb : PE X b tb) : PE X (.IfExp c a b pos) (tIf tA ta tb) := by
  intro pins s σ H Q I h
  refine wpAny_IfExp (thn (hc pins s σ H _ I h) fun d s1 ⟨H1, I1, q1⟩ => ?_)
  cases d with
  | true => exact ha pins s1 σ H1 Q I1 q1
  | false => exact hb pins s1 σ H1 Q I1 q1
end
end L2

namespace L2
open PySem PySem.Spec PyProof.Rows

noncomputable def SqL (K : PySem.W.Frag) (H : Hp) (a : Addr) (xs : List V) : Prop :=
  Rd H a (.lst xs) ∨
    ∃ (o : Obj) (its : Array Value) (n : Nat), K.lookup a = some o ∧ o.cls = .type "list" ∧ o.dict = none ∧ o.data = .seq its n ∧ its.size ≤ sizeLine ∧ Vals xs its.toList
noncomputable def SqT (K : PySem.W.Frag) (H : Hp) (a : Addr) (xs : List V) : Prop :=
  Rd H a (.tup xs) ∨
    ∃ (o : Obj) (its : Array Value) (n : Nat), K.lookup a = some o ∧ o.cls = .type "tuple" ∧ o.data = .seq its n ∧ its.size ≤ sizeLine ∧ Vals xs its.toList
section
variable {X : Cx} {pins : List (Addr × Obj)} {σ : St} {H : Hp} {s : Shared} {a : Addr} {xs ys : List V}
theorem SqL.of {K : PySem.W.Frag} (h : H a = some (.lst xs)) : SqL K H a xs := .inl (.inl h)
theorem SqT.of {K : PySem.W.Frag} (h : H a = some (.tup xs)) : SqT K H a xs := .inl (.inl h)
theorem Inv.list (I : Inv X pins σ H s) (h : SqL X.K H a xs) : ∃ its : List Value, Vals xs its ∧ PlainL s.heap a its.toArray ∧ xs.length ≤ sizeLine := by
  rcases h with h | ⟨o, its, n, hk, hc, hd, hs, hz, r⟩
  · obtain ⟨z, its, n, r, e⟩ := h.ok I.hok
    exact ⟨its, r, ⟨_, n, e, rfl, rfl, rfl⟩, z⟩
  · refine ⟨its.toList, r, ⟨o, n, I.kIn a o hk, hc, hd, by simpa using hs⟩, ?_⟩
    have e := r.length
    simp only [Array.length_toList] at e
    omega
theorem Inv.tuple (I : Inv X pins σ H s) (h : SqT X.K H a xs) : ∃ its : List Value, Vals xs its ∧ IsTup s.heap a its.toArray ∧ xs.length ≤ sizeLine := by
  rcases h with h | ⟨o, its, n, hk, hc, hs, hz, r⟩
  · obtain ⟨z, its, r, p⟩ := h.ok I.hok
    exact ⟨its, r, p, z⟩
  · refine ⟨its.toList, r, ⟨o, I.kIn a o hk, hc, n, by simpa using hs⟩, ?_⟩
    have e := r.length
    simp only [Array.length_toList] at e
    omega
end

noncomputable abbrev Cx.wish (X : Cx) (E : Value → Shared → Prop) : Cx := { X with xe := E }
noncomputable abbrev Cx.nox (X : Cx) : Cx := X.wish fun _ _ => False
theorem Cx.Ok.wish {X : Cx} (ok : X.Ok) (E : Value → Shared → Prop) : (X.wish E).Ok :=
  ⟨ok.mod, ok.kind, ok.glob, ok.blt, ok.above, ok.inj, ok.has, ok.cab, ok.hd, ok.frames, ok.stk, ok.exf, ok.bs, ok.bsz, ok.noex, ok.exfs, ok.funs, ok.frf⟩
theorem Cx.Ok.unwish {X : Cx} {E : Value → Shared → Prop} (ok : (X.wish E).Ok) : X.Ok :=
  ⟨ok.mod, ok.kind, ok.glob, ok.blt, ok.above, ok.inj, ok.has, ok.cab, ok.hd, ok.frames, ok.stk, ok.exf, ok.bs, ok.bsz, ok.noex, ok.exfs, ok.funs, ok.frf⟩
section
variable {X : Cx} {pins : List (Addr × Obj)} {σ : St} {H : Hp} {s : Shared} {E : Value → Shared → Prop}
theorem Inv.wish (I : Inv X pins σ H s) (E : Value → Shared → Prop) : Inv (X.wish E) pins σ H s := ⟨I.ok.wish E, I.os, I.bare, I.base, I.loc, I.cell, I.free, I.freeC, I.pin, I.hok, I.len⟩
theorem Inv.unwish (I : Inv (X.wish E) pins σ H s) : Inv X pins σ H s := ⟨I.ok.unwish, I.os, I.bare, I.base, I.loc, I.cell, I.free, I.freeC, I.pin, I.hok, I.len⟩
theorem SP.unwish {D : Ends} {f : Flow} {s' : Shared} (h : SP (X.wish E) pins D f s') : SP X pins D f s' := by
  cases f with
  | next => obtain ⟨σ', H', I, q⟩ := h; exact ⟨σ', H', I.unwish, q⟩
  | brk => obtain ⟨σ', H', I, q⟩ := h; exact ⟨σ', H', I.unwish, q⟩
  | cont => obtain ⟨σ', H', I, q⟩ := h; exact ⟨σ', H', I.unwish, q⟩
  | ret u => obtain ⟨v, σ', H', I, r, q⟩ := h; exact ⟨v, σ', H', I.unwish, r, q⟩
theorem PSs.nox {st : List Stmt} {t : TS} (h : PSs X.nox st t) : PSs X st t := fun pins s σ H D I hw =>
  wpAny_mono (h pins s σ H D (I.wish _) hw) (fun _ _ q => q.unwish) fun _ _ z => False.elim z
end

section
variable {X : Cx} {st : Stmt} {rest : List Stmt} {t u : TS} {e : Expr} {te : TE} {pos : Pos}
noncomputable def tNext : TS := fun D σ H => D.nx σ H
noncomputable def tSeq (t u : TS) : TS := fun D σ H => t { D with nx := u D } σ H
theorem pss_nil : PSs X [] tNext := fun _ _ σ H _ I h => wpAny_execs_nil ⟨σ, H, I, h⟩
theorem pss_cons (h1 : PS X st t) (h2 : PSs X rest u) : PSs X (st :: rest) (tSeq t u) := by
  intro pins s σ H D I h
  refine wpAny_execs_cons (thn (h1 pins s σ H { D with nx := u D } I h) fun f s1 q => ?_)
  cases f with
  | next =>
    obtain ⟨σ', H', I', q⟩ := q
    exact h2 pins s1 σ' H' D I' q
  | ret v => exact q
  | brk => exact q
  | cont => exact q
theorem pss_one (h1 : PS X st t) : PSs X [st] t := by
  intro pins s σ H D I h
  refine wpAny_execs_cons (thn (h1 pins s σ H D I h) fun f s1 q => ?_)
  cases f with
  | next => exact wpAny_execs_nil q
  | ret v => exact q
  | brk => exact q
  | cont => exact q
theorem Inv.quiet {pins : List (Addr × Obj)} {σ : St} {H : Hp} {s : Shared} (I : Inv X pins σ H s) : interactive X.env = false := by simp [interactive, I.ok.kind]
noncomputable def tDrop (te : TE) : TS := fun D σ H => te σ H fun _ H1 => D.nx σ H1
theorem ps_expr (he : PE X e te) (hs : autoParam (swapsWith e none pos.line X.env = pure false) L2.aR._auto_1) : PS X (.Expr e pos) (tDrop te) := by
  intro pins s σ H D I h
  exact wpAny_Expr_any (thn (he pins s σ H _ I h) fun v s1 ⟨x, H1, I1, r1, q1⟩ => ⟨σ, H1, I1, q1⟩) I.quiet hs
noncomputable def tRet (te : TE) : TS := fun D σ H => te σ H D.rt
theorem ps_ret (he : PE X e te) : PS X (.Return (some e) pos) (tRet te) := by
  intro pins s σ H D I h
  exact wpAny_Return_some (thn (he pins s σ H _ I h) fun v s1 ⟨x, H1, I1, r1, q1⟩ => ⟨x, σ, H1, I1, r1, q1⟩)
noncomputable def tIfS (c : TT) (t u : TS) : TS := fun D σ H => c σ H fun b H1 => if b = true then t D σ H1 else u D σ H1
theorem ps_if {c : Expr} {a b : List Stmt} {tc : TT} (hc : PT X c tc) (ha : PSs X a t) (hb : PSs X b u) : PS X (.If c a b pos) (tIfS tc t u) := by
  intro pins s σ H D I h
  refine wpAny_If (thn (hc pins s σ H _ I h) fun d s1 ⟨H1, I1, q1⟩ => ?_)
  cases d with
  | true => exact ha pins s1 σ H1 D I1 q1
  | false => exact hb pins s1 σ H1 D I1 q1
noncomputable def tNever : TS := fun _ _ _ => False
theorem pss_never {sts : List Stmt} : PSs X sts tNever := fun _ _ _ _ _ _ h => h.elim
end

noncomputable abbrev TG := V → St → Hp → (St → Hp → Prop) → Prop
noncomputable def PG (X : Cx) (target : Expr) (t : TG) : Prop :=
  ∀ (pins : List (Addr × Obj)) (s : Shared) (σ : St) (H : Hp) (v : V) (u : Value) (Q : St → Hp → Prop), Inv X pins σ H s → RelV v u → t v σ H Q →
    wpAny (model X.prog X.w) X.A (assign target X.env u) (fun _ s' => ∃ σ' H', Inv X pins σ' H' s' ∧ Q σ' H') X.xe s
section
variable {X : Cx} {pos : Pos}
noncomputable def gName (i : Nat) : TG := fun v σ H Q => Q (σ.set i (some v)) H
theorem pg_name {i : Nat} {x : Str} (hN : X.N.Nodup) (hi : X.N[i]? = some x) (hx : Loc X.env.scope x) (hf : autoParam (X.fn x = true ∨ X.env.scope.names.lookup x = some .local) L2.aF._auto_1) : PG X (.Name x pos) (gName i) := by
  intro pins s σ H v u Q I r h
  exact wpAny_assign_Name (store_ok I hN hi hx r (fun s' I' => ⟨_, H, I', h⟩) hf)
noncomputable def tAsg (te : TE) (g : TG) : TS := fun D σ H => te σ H fun x H1 => g x σ H1 D.nx
theorem ps_set {i : Nat} {x : Str} {e : Expr} {te : TE} {pos' : Pos} (hN : X.N.Nodup) (hi : X.N[i]? = some x) (hx : Loc X.env.scope x) (he : PE X e te) (hs : autoParam (swapsWith e (some (.Name x pos')) pos.line X.env = pure false) L2.aR._auto_1) (hf : autoParam (X.fn x = true ∨ X.env.scope.names.lookup x = some .local) L2.aF._auto_1) :
    PS X (.Assign [.Name x pos'] e pos) (tAsg te (gName i)) := by
  intro pins s σ H D I h
  refine wpAny_Assign_Name (thn (he pins s σ H _ I h) fun v s1 ⟨y, H1, I1, r1, q1⟩ => ?_) hs
  exact store_ok I1 hN hi hx r1 (fun s2 I2 => ⟨_, H1, I2, q1⟩) hf
end

section
variable {X : Cx} {pos : Pos}
noncomputable def tWhile (c : TT) (tb : TS) : TS := fun D σ H => ∃ W : Nat → St → Hp → Prop, (∃ m, W m σ H) ∧ ∀ m σ H, W m σ H →
  c σ H fun b H1 => if b = true then ∃ N : St → Hp → Prop, (∀ σ' H', N σ' H' → ∃ m', m' < m ∧ W m' σ' H') ∧ tb { D with nx := N, ct := N, bk := D.nx } σ H1 else D.nx σ H1
theorem ps_while {c : Expr} {body : List Stmt} {tc : TT} {tb : TS} (hp : PassesOwn (model X.prog X.w) X.A X.env X.xe) (hc : PT X c tc) (hb : PSs X body tb) : PS X (.While c body [] pos) (tWhile tc tb) := by
  intro pins s σ H D I h
  obtain ⟨W, ⟨m0, w0⟩, turn⟩ := h
  refine wpAny_While (codeAny_whileLoop (fun n s' => ∃ σ' H', Inv X pins σ' H' s' ∧ W n σ' H') ?_ m0 ⟨σ, H, I, w0⟩)
  rintro n s1 ⟨σ1, H1, I1, w1⟩
  refine wpAny_passesOwn hp (thn (hc pins s1 σ1 H1 _ I1 (turn n σ1 H1 w1)) fun b s2 ⟨H2, I2, q2⟩ => ?_)
  cases b with
  | true =>
    obtain ⟨N, hN, q2⟩ := q2
    rw [if_pos rfl]
    refine wpAny_passesOwn hp (thn (hb pins s2 σ1 H2 _ I2 q2) fun f s3 q3 => ?_)
    cases f with
    | next =>
      obtain ⟨σ3, H3, I3, n3⟩ := q3
      obtain ⟨m', hm, w3⟩ := hN σ3 H3 n3
      exact ⟨m', hm, σ3, H3, I3, w3⟩
    | cont =>
      obtain ⟨σ3, H3, I3, n3⟩ := q3
      obtain ⟨m', hm, w3⟩ := hN σ3 H3 n3
      exact ⟨m', hm, σ3, H3, I3, w3⟩
    | brk => exact q3
    | ret v => exact q3
  | false =>
    rw [if_neg Bool.false_ne_true]
    exact wpAny_execs_nil ⟨σ1, H2, I2, q2⟩
end

structure It where
  go : Nat → Hp → Prop
  yld : Nat → Hp → V → Hp → Prop
  stop : Nat → Hp → Prop
noncomputable def FpOk (X : Cx) (pins : List (Addr × Obj)) (H : Hp) (b : Addr) : Prop :=
  H b = none ∧ b ≠ X.env.locals ∧ b ∉ X.fs ∧ (b ∈ X.ex ∨ X.s₀.heap.objs.size ≤ b) ∧ (∀ x c, X.env.cells.lookup x = some c → c ≠ b) ∧ ∀ p ∈ X.pn ++ pins, p.1 ≠ b
theorem Inv.fpOk {X : Cx} {pins : List (Addr × Obj)} {σ : St} {H H' : Hp} {s : Shared} {b : Addr} (I : Inv X pins σ H s) (hb : s.heap.objs.size ≤ b) (hn : H' b = none) : FpOk X pins H' b := by
  refine ⟨hn, Nat.ne_of_gt (Nat.lt_of_lt_of_le I.lt hb), I.nofs hb, .inr (Nat.le_trans I.sz hb), fun x c e z => ?_, fun p hp z => ?_⟩
  · obtain ⟨v, q⟩ := I.cell x c e
    exact absurd (Nat.lt_of_lt_of_le q.lt (by rw [z]; exact hb)) (Nat.lt_irrefl _)
  · exact absurd (Nat.lt_of_lt_of_le (Heap.lt_size (I.pin p hp).1) (by rw [z]; exact hb)) (Nat.lt_irrefl _)
structure Turn (P : Program) (w : World) (K : PySem.W.Frag) (tg : Expr) (J : It) (fp : List Addr) (it : Addr) (tn : Nat → Heap → Prop) : Prop where
  mem : it ∈ fp
  obj : ∀ i h, tn i h → ∀ b ∈ fp, ∃ o, h.get? b = some o ∧ ∀ v, o.data ≠ .cell v
  keep : ∀ i h h', tn i h → (∀ b ∈ fp, ∀ o, h.get? b = some o → h'.get? b = some o) → tn i h'
  item : ∀ (X : Cx), X.prog = P → X.w = w → X.K = K → X.calm = true → ∀ (i : Nat) (pins : List (Addr × Obj)) (s : Shared) (σ : St) (H : Hp) (E : Value → Shared → Prop), Inv X pins σ H s → (∀ b ∈ fp, FpOk X pins H b) → tn i s.heap → J.go i H →
    wpAny (model P w) X.A (pyNext (.ref it)) (fun r s1 => ∃ u, r = some u ∧
      wpAny (model P w) X.A (letOwnedTupleGo tg (.ref it) u) (fun _ s2 => ∃ x H', Inv X pins σ H' s2 ∧ RelV x u ∧ J.yld i H x H' ∧ tn (i + 1) s2.heap ∧ ∀ b ∈ fp, H' b = none) E s1) E s
  done : ∀ (X : Cx), X.prog = P → X.w = w → X.K = K → X.calm = true → ∀ (i : Nat) (pins : List (Addr × Obj)) (s : Shared) (σ : St) (H : Hp) (E : Value → Shared → Prop), Inv X pins σ H s → (∀ b ∈ fp, FpOk X pins H b) → tn i s.heap → J.stop i H →
    wpAny (model P w) X.A (pyNext (.ref it)) (fun r s1 => r = none ∧ Inv X pins σ H s1) E s
  self : ∀ (A : Around) (i : Nat) (s : Shared) (Q : Value → Shared → Prop) (E : Value → Shared → Prop), tn i s.heap → Q (.ref it) s → wpAny (model P w) A (pyIter (.ref it)) Q E s
noncomputable abbrev TI := St → Hp → (It → Hp → Prop) → Prop
noncomputable def PIE (X : Cx) (pins : List (Addr × Obj)) (σ : St) (tg : Expr) (R : It → Hp → Prop) (itv : Value) (s2 : Shared) : Prop :=
  ∃ (it : Addr) (fp : List Addr) (tn : Nat → Heap → Prop) (J : It) (H' : Hp), itv = .ref it ∧ Inv X pins σ H' s2 ∧ Turn X.prog X.w X.K tg J fp it tn ∧ tn 0 s2.heap ∧ (∀ b ∈ fp, FpOk X pins H' b) ∧ R J H'
noncomputable def PI (X : Cx) (tg iter : Expr) (wi : TI) : Prop :=
  ∀ (pins : List (Addr × Obj)) (s : Shared) (σ : St) (H : Hp) (R : It → Hp → Prop), Inv X pins σ H s → wi σ H R →
    wpAny (model X.prog X.w) X.A (eval iter X.env) (fun v s1 => wpAny (model X.prog X.w) X.A (pyIter v) (PIE X pins σ tg R) X.xe s1) X.xe s

theorem go_of {M : Model} {A : Around} {E : Value → Shared → Prop} {s : Shared} {tg : Expr} {it : Addr} {u : Value} {o : Obj} {n : String} {vs : Array Value} {Q : Unit → Shared → Prop} (ho : s.heap.get? it = some o) (hc : o.cls = .type n) (hd : o.data = .fields vs)
    (hn : ["enumerate", "zip", "dict_itemiterator", "dict_reverseitemiterator", "odict_iterator", "itertools.zip_longest", "itertools.pairwise"].contains n = false) (hQ : Q () s) : wpAny M A (letOwnedTupleGo tg (.ref it) u) Q E s := by
  unfold letOwnedTupleGo
  cases tg <;> first
    | exact wpAny_pure hQ
    | (cases u <;> first
        | exact wpAny_pure hQ
        | (refine wpAny_bind (wpAny_load ho ?_)
           rw [hc, hd]
           show wpAny M A (if (["enumerate", "zip", "dict_itemiterator", "dict_reverseitemiterator", "odict_iterator", "itertools.zip_longest", "itertools.pairwise"].contains n && vs[0]? == some (rawInt _)) = true then _ else _) Q E s
           rw [if_neg (by intro h; rw [hn, Bool.false_and] at h; cases h)]
           exact wpAny_pure hQ))

noncomputable def Itr (lo : Int) (n : Nat) : It := ⟨fun i _ => i < n, fun i H x H' => H' = H ∧ x = .int (lo + i), fun i _ => n ≤ i⟩
theorem turn_range {P : Program} {w : World} {K : PySem.W.Frag} {tg : Expr} (it : Addr) (lo : Int) (n : Nat) : Turn P w K tg (Itr lo n) [it] it (fun i h => IsRangeIter h it (lo + (i : Nat) * 1) ((n : Int) - (i : Nat)) 1) where
  mem := by simp
  obj := fun i h st b hb => by
    have e : b = it := by simpa using hb
    subst e
    exact ⟨_, st, fun v z => by
      have z' : Data.fields _ = Data.cell v := z
      cases z'⟩
  keep := fun i h h' st k => k it (by simp) _ st
  item := by
    intro X hP hw hK hc i pins s σ H E I hf st hg
    subst hP hw hK
    obtain ⟨f0, f1, f2, f3, f4, f5⟩ := hf it (by simp)
    have W := Walks.range (prog := X.prog) (w := X.w) (I.ok.hd hc) it lo 1 n
    refine W.item i s _ _ hg st fun v h' tk hv st' kk => ?_
    obtain ⟨t, rfl⟩ := hv
    have I1 : Inv X pins σ H { s with heap := h', toks := tk } := I.turned (fun b o hb e => kk b o (by simpa using hb) e) f0 f1 f3 f4 f5
    refine ⟨_, rfl, go_of (s := { s with heap := h', toks := tk }) (n := "range_iterator") st' rfl rfl (by decide) ⟨.int (lo + i), H, I1, ⟨t, ?_⟩, ⟨rfl, rfl⟩, st', fun b hb => (hf b hb).1⟩⟩
    rw [Int.mul_one]
  done := by
    intro X hP hw hK hc i pins s σ H E I hf st hg
    subst hP hw hK
    obtain ⟨f0, f1, f2, f3, f4, f5⟩ := hf it (by simp)
    exact wpAny_pyNext_range_end (I.ok.hd hc) st (by have : n ≤ i := hg; omega) fun h' eb => ⟨rfl, I.turned (t' := s.toks) (fun b o hb e => eb b o hb e) f0 f1 f3 f4 f5⟩
  self := fun _ _ _ _ _ st h => wpAny_pyIter_rangeiter st h
end L2

namespace L2
open PySem PySem.Spec PyProof.Rows
section
variable {X : Cx} {tg : Expr}
theorem range_it {pins : List (Addr × Obj)} {σ : St} {H : Hp} {s : Shared} {R : It → Hp → Prop} {E : Value → Shared → Prop} {lo hi : Int} {t u v : Tok} {tk : Nat} (I : Inv X pins σ H s) (h1 : -(2 ^ 62) ≤ lo) (h2 : lo < 2 ^ 62) (h3 : -(2 ^ 62) ≤ hi) (h4 : hi < 2 ^ 62)
    (q : R (Itr lo (hi - lo).toNat) H) : wpAny (model X.prog X.w) X.A (pyIter (.ref s.heap.objs.size)) (PIE X pins σ tg R) E { s with heap := s.heap.push { cls := .type "range", data := .fields #[.int lo t, .int hi u, .int 1 v] }, toks := tk } := by
  refine wpAny_pyIter_range (IsRange.new ..) (small_one h1 h2 h3 h4) ?_
  have I1 : Inv X pins σ H { s with heap := s.heap.push { cls := .type "range", data := .fields #[.int lo t, .int hi u, .int 1 v] }, toks := tk } := I.kept fun b o e => Heap.get?_push_of_some _ e
  refine ⟨(s.heap.push { cls := .type "range", data := .fields #[.int lo t, .int hi u, .int 1 v] }).objs.size, [(s.heap.push { cls := .type "range", data := .fields #[.int lo t, .int hi u, .int 1 v] }).objs.size], _, _, H, rfl,
    I1.kept (t' := tk) fun b o e => Heap.get?_push_of_some _ e, turn_range _ lo (hi - lo).toNat, ?_, fun b hb => ?_, q⟩
  · have e1 : lo + ((0 : Nat) : Int) * 1 = lo := by simp
    have e2 : (((hi - lo).toNat : Nat) : Int) - ((0 : Nat) : Int) = Builtin.Range.rangeSize lo hi 1 := by rw [rangeSize_one]; split <;> omega
    show IsRangeIter _ _ (lo + ((0 : Nat) : Int) * 1) ((((hi - lo).toNat : Nat) : Int) - ((0 : Nat) : Int)) 1
    rw [e1, e2]
    exact Heap.get?_push_size _ rfl
  · have e : b = (s.heap.push { cls := .type "range", data := .fields #[.int lo t, .int hi u, .int 1 v] }).objs.size := by simpa using hb
    subst e
    exact I1.fpOk (Nat.le_refl _) (I1.hok.fresh (Nat.le_refl _))
noncomputable def iRng1 (ta : TA) : TI := fun σ H R => ta σ H fun vs H1 => ∃ j : Int, vs = [.int j] ∧ -(2 ^ 62) ≤ j ∧ j < 2 ^ 62 ∧ R (Itr 0 j.toNat) H1
theorem pi_range1 {a : Expr} {ta : TA} {p pos : Pos} (hg : Gl X "range") (hm : X.mg "range" = none) (ha : PA X [a] ta) (hs : autoParam (starEach [a] X.env = [(false, eval a X.env)]) L2.aR._auto_1) : PI X tg (.Call (.Name "range" p) [a] [] pos) (iRng1 ta) := by
  intro pins s σ H R I h
  refine Call_ (ld_blt I hg hm boot_range (PyProof.Rows.callWith_type1 (thn (ha pos pins s σ H _ I h) fun us s1 ⟨vs, H1, I1, r1, q1⟩ => ?_) hs rfl))
  obtain ⟨j, e, q1, q2, q⟩ := q1
  subst e
  cases r1 with
  | cons r rr =>
    cases rr
    obtain ⟨t, rfl⟩ := r
    exact call_range_1 (range_it I1 (by omega) (by omega) q1 q2 (by simpa using q))

noncomputable def tFor (wi : TI) (g : TG) (tb : TS) : TS := fun D σ H => wi σ H fun J H1 => ∃ W : Nat → Nat → St → Hp → Prop, (∃ m, W 0 m σ H1) ∧ ∀ i m σ H, W i m σ H →
  (J.stop i H ∧ D.nx σ H) ∨ (J.go i H ∧ ∃ N : St → Hp → Prop, (∀ σ' H', N σ' H' → ∃ m', m' < m ∧ W (i + 1) m' σ' H') ∧ ∀ x H', J.yld i H x H' → g x σ H' fun σ2 H2 => tb { D with nx := N, ct := N, bk := D.nx } σ2 H2)
noncomputable def pinsAt (fp : List Addr) (h : Heap) : List (Addr × Obj) := fp.filterMap fun b => (h.get? b).map fun o => (b, o)
theorem mem_pinsAt {fp : List Addr} {h : Heap} {b : Addr} {o : Obj} (hb : b ∈ fp) (e : h.get? b = some o) : (b, o) ∈ pinsAt fp h := List.mem_filterMap.mpr ⟨b, hb, by rw [e]; rfl⟩
theorem of_pinsAt {fp : List Addr} {h : Heap} {p : Addr × Obj} (hp : p ∈ pinsAt fp h) : p.1 ∈ fp ∧ h.get? p.1 = some p.2 := by
  obtain ⟨b, hb, e⟩ := List.mem_filterMap.mp hp
  cases q : h.get? b with
  | none => rw [q] at e; cases e
  | some o =>
    rw [q] at e
    have e' : (b, o) = p := Option.some.inj e
    subst e'
    exact ⟨hb, q⟩
theorem Inv.pinned {pins : List (Addr × Obj)} {σ : St} {H : Hp} {s : Shared} {fp : List Addr} (I : Inv X pins σ H s) (hf : ∀ b ∈ fp, FpOk X pins H b) (ho : ∀ b ∈ fp, ∃ o, s.heap.get? b = some o ∧ ∀ v, o.data ≠ .cell v) : Inv X (pins ++ pinsAt fp s.heap) σ H s :=
  I.pins_of fun p hp => (List.mem_append.mp hp).elim (fun z => I.pin p (List.mem_append_right _ z)) fun z => by
    obtain ⟨hb, e⟩ := of_pinsAt z
    obtain ⟨f0, f1, f2, _⟩ := hf p.1 hb
    obtain ⟨o, e', d⟩ := ho p.1 hb
    rw [e] at e'; cases e'
    exact ⟨e, f0, f1, f2, d⟩
theorem Inv.unpinned {pins pl : List (Addr × Obj)} {σ : St} {H : Hp} {s : Shared} (I : Inv X (pins ++ pl) σ H s) : Inv X pins σ H s := I.pins_of fun p hp => I.pin p (List.mem_append_right _ (List.mem_append_left _ hp))
theorem ps_for {iter : Expr} {body : List Stmt} {wi : TI} {g : TG} {tb : TS} {pos : Pos} (hp : PassesOwn (model X.prog X.w) X.A X.env X.xe) (hc : X.calm = true) (hi : PI X tg iter wi) (hg : PG X tg g) (hb : PSs X body tb)
    (hs : autoParam (∀ x, foldedSetIterable iter X.env x = pure x) L2.aI._auto_1) : PS X (.For tg iter body [] pos) (tFor wi g tb) := by
  intro pins s σ H D I h
  refine wpAny_For (thn (hi pins s σ H _ I h) fun v s1 h1 => thn h1 fun itv s2 h2 => ?_) hs
  obtain ⟨it, fp, tn, J, H2, e, I2, T, st2, f2, W, ⟨m0, w0⟩, turn⟩ := h2
  subst e
  -- what stays true of the iterator's objects through the loop
  have stat : ∀ {H' : Hp}, (∀ b ∈ fp, H' b = none) → ∀ b ∈ fp, FpOk X pins H' b := fun hn b hb => ⟨hn b hb, (f2 b hb).2⟩
  refine codeAny_forLoop_any (fun n s' => ∃ i σ' H', Inv X pins σ' H' s' ∧ tn i s'.heap ∧ (∀ b ∈ fp, H' b = none) ∧ W i n σ' H') ?_ m0 ⟨0, σ, H2, I2, st2, fun b hb => (f2 b hb).1, w0⟩
  rintro n s3 ⟨i, σ3, H3, I3, st3, fr3, w3⟩
  rcases turn i n σ3 H3 w3 with ⟨stop, qn⟩ | ⟨go, N, hN, step⟩
  · refine wpAny_passesOwn hp (thn (T.done X rfl rfl rfl hc i pins s3 σ3 H3 X.xe I3 (stat fr3) st3 stop) fun r s4 ⟨hr, I4⟩ => ?_)
    subst hr
    exact wpAny_execs_nil ⟨σ3, H3, I4, qn⟩
  · refine wpAny_passesOwn hp (thn (T.item X rfl rfl rfl hc i pins s3 σ3 H3 X.xe I3 (stat fr3) st3 go) fun r s4 ⟨u, hr, h4⟩ => ?_)
    subst hr
    refine wpAny_passesOwn hp (thn h4 fun _ s5 ⟨x, H5, I5, r5, y5, st5, fr5⟩ => ?_)
    have I5' := I5.pinned (stat fr5) (T.obj _ _ st5)
    refine wpAny_passesOwn hp (thn (hg _ s5 σ3 H5 x u _ I5' r5 (step x H5 y5)) fun _ s6 ⟨σ6, H6, I6, q6⟩ => ?_)
    refine wpAny_passesOwn hp (thn (hb _ s6 σ6 H6 _ I6 q6) fun f s7 q7 => ?_)
    have again : ∀ {σ7 : St} {H7 : Hp}, Inv X (pins ++ pinsAt fp s5.heap) σ7 H7 s7 → N σ7 H7 → ∃ m, m < n ∧ ∃ i σ' H', Inv X pins σ' H' s7 ∧ tn i s7.heap ∧ (∀ b ∈ fp, H' b = none) ∧ W i m σ' H' := fun {σ7 H7} I7 n7 => by
      obtain ⟨m', hm, w7⟩ := hN σ7 H7 n7
      refine ⟨m', hm, i + 1, σ7, H7, I7.unpinned, T.keep _ _ _ st5 fun b hb o e => (I7.pin (b, o) (List.mem_append_right _ (List.mem_append_right _ (mem_pinsAt hb e)))).1, fun b hb => ?_, w7⟩
      obtain ⟨o, e, d⟩ := T.obj _ _ st5 b hb
      exact (I7.pin (b, o) (List.mem_append_right _ (List.mem_append_right _ (mem_pinsAt hb e)))).2.1
    cases f with
    | next => obtain ⟨σ7, H7, I7, n7⟩ := q7; exact again I7 n7
    | cont => obtain ⟨σ7, H7, I7, n7⟩ := q7; exact again I7 n7
    | brk => obtain ⟨σ7, H7, I7, q7⟩ := q7; exact ⟨σ7, H7, I7.unpinned, q7⟩
    | ret v => obtain ⟨x7, σ7, H7, I7, r7, q7⟩ := q7; exact ⟨x7, σ7, H7, I7.unpinned, r7, q7⟩
end

theorem for_range {lo : Int} {n : Nat} {g : TG} {tb : TS} {D : Ends} {σ : St} {H : Hp} (Pv : Nat → St → Hp → Prop) (h0 : Pv 0 σ H)
    (hs : ∀ i σ H, i < n → Pv i σ H → g (.int (lo + i)) σ H fun σ2 H2 => tb { D with nx := Pv (i + 1), ct := Pv (i + 1), bk := D.nx } σ2 H2) (hd : ∀ σ H, Pv n σ H → D.nx σ H) :
    ∃ W : Nat → Nat → St → Hp → Prop, (∃ m, W 0 m σ H) ∧ ∀ i m σ H, W i m σ H →
      ((Itr lo n).stop i H ∧ D.nx σ H) ∨ ((Itr lo n).go i H ∧ ∃ N : St → Hp → Prop, (∀ σ' H', N σ' H' → ∃ m', m' < m ∧ W (i + 1) m' σ' H') ∧ ∀ x H', (Itr lo n).yld i H x H' → g x σ H' fun σ2 H2 => tb { D with nx := N, ct := N, bk := D.nx } σ2 H2) := by
  refine ⟨fun i m σ H => m = n - i ∧ i ≤ n ∧ Pv i σ H, ⟨n, by simp, Nat.zero_le _, h0⟩, ?_⟩
  rintro i m σ H ⟨rfl, hi, p⟩
  by_cases hlt : i < n
  · refine .inr ⟨hlt, Pv (i + 1), fun σ' H' p' => ⟨n - (i + 1), by omega, rfl, hlt, p'⟩, fun x H' y => ?_⟩
    obtain ⟨e, y⟩ := y
    subst e y
    exact hs i σ _ hlt p
  · have e : i = n := by omega
    subst e
    exact .inl ⟨Nat.le_refl _, hd σ H p⟩
end L2

namespace L2
open PySem PySem.Spec PyProof.Rows

noncomputable abbrev R2 := V → V → Hp → VK → Prop
noncomputable def OpR (X : Cx) (f : Value → Value → Sem Value) (r : R2) : Prop :=
  ∀ (pins : List (Addr × Obj)) (s : Shared) (σ : St) (H : Hp) (x y : V) (v u : Value) (Q : VK), Inv X pins σ H s → RelV x v → RelV y u → r x y H Q →
    wpAny (model X.prog X.w) X.A (f v u) (EP X pins σ Q) X.xe s
noncomputable def UnR (X : Cx) (f : Value → Sem Value) (r : V → Hp → VK → Prop) : Prop :=
  ∀ (pins : List (Addr × Obj)) (s : Shared) (σ : St) (H : Hp) (x : V) (v : Value) (Q : VK), Inv X pins σ H s → RelV x v → r x H Q →
    wpAny (model X.prog X.w) X.A (f v) (EP X pins σ Q) X.xe s
noncomputable def CallR (X : Cx) (f : Value) (r : List V → Hp → VK → Prop) : Prop :=
  ∀ (pins : List (Addr × Obj)) (s : Shared) (σ : St) (H : Hp) (xs : List V) (us : List Value) (Q : VK), Inv X pins σ H s → Vals xs us → r xs H Q →
    wpAny (model X.prog X.w) X.A (call f us) (EP X pins σ Q) X.xe s

noncomputable def tOp (r : R2) (ta tb : TE) : TE := fun σ H Q => ta σ H fun x H1 => tb σ H1 fun y H2 => r x y H2 Q
noncomputable def tUn (r : V → Hp → VK → Prop) (ta : TE) : TE := fun σ H Q => ta σ H fun x H1 => r x H1 Q
noncomputable def rI (C : Int → Int → Prop) (g : Int → Int → V) : R2 := fun x y H Q => ∃ i j, x = .int i ∧ y = .int j ∧ C i j ∧ Q (g i j) H
noncomputable def rI0 (g : Int → Int → V) : R2 := fun x y H Q => ∃ i j, x = .int i ∧ y = .int j ∧ Q (g i j) H
noncomputable def rU (g : Int → V) : V → Hp → VK → Prop := fun x H Q => ∃ i, x = .int i ∧ Q (g i) H

section
variable {X : Cx} {a b c : Expr} {ta tb tc : TE} {pos : Pos}

theorem binT (ha : PE X a ta) (hb : PE X b tb) {pins : List (Addr × Obj)} {s : Shared} {σ : St} {H : Hp} {R : V → V → Hp → Prop} (I : Inv X pins σ H s)
    (h : ta σ H fun x H1 => tb σ H1 fun y H2 => R x y H2) {Q : Value → Shared → Prop} {f : Value → Value → Sem Value}
    (hf : ∀ v u s2 x y H2, Inv X pins σ H2 s2 → RelV x v → RelV y u → R x y H2 → wpAny (model X.prog X.w) X.A (f v u) Q X.xe s2) :
    wpAny (model X.prog X.w) X.A (eval a X.env) (fun v s₁ => wpAny (model X.prog X.w) X.A (eval b X.env) (fun u s₂ => wpAny (model X.prog X.w) X.A (f v u) Q X.xe s₂) X.xe s₁) X.xe s := by
  refine thn (ha pins s σ H _ I h) fun v s1 ⟨x, H1, I1, r1, q1⟩ => ?_
  refine thn (hb pins s1 σ H1 _ I1 q1) fun u s2 ⟨y, H2, I2, r2, q2⟩ => ?_
  exact hf v u s2 x y H2 I2 r1 r2 q2

theorem pe_op {op : Operator} {r : R2} (ho : OpR X (binaryOp op) r) (ha : PE X a ta) (hb : PE X b tb) : PE X (.BinOp a op b pos) (tOp r ta tb) := by
  intro pins s σ H Q I h
  exact wpAny_BinOp (binT ha hb I h fun v u s2 x y H2 I2 rx ry q => ho pins s2 σ H2 x y v u Q I2 rx ry q)
theorem pe_un {op : UnaryOp} {r : V → Hp → VK → Prop} (ho : UnR X (unaryOp op) r) (ha : PE X a ta) : PE X (.UnaryOp op a pos) (tUn r ta) := by
  intro pins s σ H Q I h
  exact UnaryOp_ (thn (ha pins s σ H _ I h) fun v s1 ⟨x, H1, I1, r1, q1⟩ => ho pins s1 σ H1 x v Q I1 r1 q1)

theorem opI {f : Value → Value → Sem Value} {C : Int → Int → Prop} {g : Int → Int → Int}
    (rule : ∀ (i j : Int) (t u : Tok) (s : Shared) (Q : Value → Shared → Prop) (E : Value → Shared → Prop), C i j → Q (.int (g i j) s.toks) { s with toks := s.toks + 1 } → wpAny (model X.prog X.w) X.A (f (.int i t) (.int j u)) Q E s) :
    OpR X f (rI C fun i j => .int (g i j)) := by
  intro pins s σ H x y v u Q I rx ry h
  obtain ⟨i, j, rfl, rfl, hc, q⟩ := h
  obtain ⟨t, rfl⟩ := rx
  obtain ⟨t', rfl⟩ := ry
  exact rule i j t t' s _ _ hc ⟨.int (g i j), H, I.tok _, ⟨_, rfl⟩, q⟩
theorem opI0 {f : Value → Value → Sem Value} {g : Int → Int → Int}
    (rule : ∀ (i j : Int) (t u : Tok) (s : Shared) (Q : Value → Shared → Prop) (E : Value → Shared → Prop), Q (.int (g i j) s.toks) { s with toks := s.toks + 1 } → wpAny (model X.prog X.w) X.A (f (.int i t) (.int j u)) Q E s) :
    OpR X f (rI0 fun i j => .int (g i j)) := by
  intro pins s σ H x y v u Q I rx ry h
  obtain ⟨i, j, rfl, rfl, q⟩ := h
  obtain ⟨t, rfl⟩ := rx
  obtain ⟨t', rfl⟩ := ry
  exact rule i j t t' s _ _ ⟨.int (g i j), H, I.tok _, ⟨_, rfl⟩, q⟩
theorem opB0 {f : Value → Value → Sem Value} {g : Int → Int → Bool}
    (rule : ∀ (i j : Int) (t u : Tok) (s : Shared) (Q : Value → Shared → Prop) (E : Value → Shared → Prop), Q (.bool (g i j)) s → wpAny (model X.prog X.w) X.A (f (.int i t) (.int j u)) Q E s) :
    OpR X f (rI0 fun i j => .bl (g i j)) := by
  intro pins s σ H x y v u Q I rx ry h
  obtain ⟨i, j, rfl, rfl, q⟩ := h
  obtain ⟨t, rfl⟩ := rx
  obtain ⟨t', rfl⟩ := ry
  exact rule i j t t' s _ _ ⟨.bl (g i j), H, I, rfl, q⟩

noncomputable def CDiv (i j : Int) : Prop := 0 < j ∧ j < 1073741824
noncomputable def CPow (i j : Int) : Prop := 0 ≤ j ∧ j ≤ 1000000 ∧ i.natAbs < 2 ^ 64
noncomputable def CMul (i j : Int) : Prop := (-(2 ^ 64) < i ∧ i < 2 ^ 64) ∨ (-(2 ^ 64) < j ∧ j < 2 ^ 64)
theorem CMul.ok {i j : Int} (h : CMul i j) : IntMulOk i j := by
  rcases h with ⟨h1, h2⟩ | ⟨h1, h2⟩
  · exact .of_left (intBits_le_64 h1 h2)
  · exact .of_right (intBits_le_64 h1 h2)

theorem op_add : OpR X (binaryOp .Add) (rI0 fun i j => .int (i + j)) := opI0 fun _ _ _ _ _ _ _ q => add_int q
theorem op_sub : OpR X (binaryOp .Sub) (rI0 fun i j => .int (i - j)) := opI0 fun _ _ _ _ _ _ _ q => sub_int q
theorem op_mul : OpR X (binaryOp .Mult) (rI CMul fun i j => .int (i * j)) := opI fun _ _ _ _ _ _ _ hc q => mul_int q hc.ok
theorem op_fdiv : OpR X (binaryOp .FloorDiv) (rI CDiv fun i j => .int (i / j)) := opI fun i j _ _ _ _ _ hc q => by
  have h1 : (0 : Int) < j := hc.1
  have h2 : j < 1073741824 := hc.2
  exact floordiv_int (by omega) (by rw [Int.fdiv_eq_ediv_of_nonneg i (by omega)]; exact q) (.inl (PyProof.noPylong_small (by omega)))
theorem op_mod : OpR X (binaryOp .Mod) (rI (fun _ j => 0 < j) fun i j => .int (i % j)) := opI fun i j _ _ _ _ _ hc q => by
  have h1 : (0 : Int) < j := hc
  exact mod_int' (by omega) (by rw [Int.fmod_eq_emod_of_nonneg i (by omega)]; exact q)
theorem op_pow : OpR X (binaryOp .Pow) (rI CPow fun i j => .int (i ^ j.toNat)) := opI fun _ _ _ _ _ _ _ hc q => pow_int_small hc.1 hc.2.1 hc.2.2 q
theorem op_shl : OpR X (binaryOp .LShift) (rI CPow fun i j => .int (i * 2 ^ j.toNat)) := opI fun _ _ _ _ _ _ _ hc q => lshift_int_small hc.1 hc.2.1 hc.2.2 q


theorem unI {f : Value → Sem Value} {g : Int → Int}
    (rule : ∀ (i : Int) (t : Tok) (s : Shared) (Q : Value → Shared → Prop) (E : Value → Shared → Prop), Q (.int (g i) s.toks) { s with toks := s.toks + 1 } → wpAny (model X.prog X.w) X.A (f (.int i t)) Q E s) :
    UnR X f (rU fun i => .int (g i)) := by
  intro pins s σ H x v Q I rx h
  obtain ⟨i, rfl, q⟩ := h
  obtain ⟨t, rfl⟩ := rx
  exact rule i t s _ _ ⟨.int (g i), H, I.tok _, ⟨_, rfl⟩, q⟩
theorem un_neg : UnR X (unaryOp .USub) (rU fun i => .int (-i)) := unI fun _ _ _ _ _ q => neg_int q

end

section
variable {X : Cx} {a b c : Expr} {ta tb tc : TE} {pos : Pos}
theorem fin_bl {pins : List (Addr × Obj)} {σ : St} {H : Hp} {s : Shared} {Q : VK} {k k' : Bool} (I : Inv X pins σ H s) (q : Q (.bl k) H) (e : k = k') : EP X pins σ Q (.bool k') s := by
  subst e
  exact ⟨.bl k, H, I, rfl, q⟩

theorem op_lt : OpR X (compareOp .Lt) (rI0 fun i j => .bl (decide (i < j))) := opB0 fun _ _ _ _ _ _ _ q => lt_int q
theorem op_le : OpR X (compareOp .LtE) (rI0 fun i j => .bl (decide (i ≤ j))) := opB0 fun _ _ _ _ _ _ _ q => le_int q
theorem op_gt : OpR X (compareOp .Gt) (rI0 fun i j => .bl (decide (j < i))) := opB0 fun _ _ _ _ _ _ _ q => gt_int q
theorem op_ge : OpR X (compareOp .GtE) (rI0 fun i j => .bl (decide (j ≤ i))) := opB0 fun _ _ _ _ _ _ _ q => ge_int q




theorem nomark (b : Expr) {op : CmpOp} (h : autoParam (op ≠ .In) L2.aD._auto_1) (h2 : autoParam (op ≠ .NotIn) L2.aD._auto_1) : behindInMarks op b = false := nobehind b h h2
theorem pe_cmpR {op : CmpOp} {r : R2} (ho : OpR X (compareOp op) r) (ha : PE X a ta) (hb : PE X b tb) (hm : behindInMarks op b = false) : PE X (.Compare a [op] [b] pos) (tOp r ta tb) := by
  intro pins s σ H Q I h
  exact wpAny_Compare1 (binT ha hb I h fun v u s2 x y H2 I2 rx ry q => ho pins s2 σ H2 x y v u Q I2 rx ry q) hm

theorem line63 : (sizeLine : Nat) < 2 ^ 63 := by rw [sizeLine_eq]; decide

theorem vals1 {x : V} {us : List Value} (r : Vals [x] us) : ∃ u, us = [u] ∧ RelV x u := by
  cases r with
  | cons r1 r2 => cases r2; exact ⟨_, rfl, r1⟩
theorem vals2 {x y : V} {us : List Value} (r : Vals [x, y] us) : ∃ u w', us = [u, w'] ∧ RelV x u ∧ RelV y w' := by
  cases r with
  | cons r1 r2 =>
    cases r2 with
    | cons r3 r4 => cases r4; exact ⟨_, _, rfl, r1, r3⟩
theorem call_max2 (hc : X.calm = true) : CallR X (.builtin "max") (fun xs H Q => ∃ i j, xs = [.int i, .int j] ∧ Q (.int (if j > i then j else i)) H) := by
  intro pins s σ H xs us Q I r h
  obtain ⟨i, j, rfl, q⟩ := h
  obtain ⟨u, w', rfl, ⟨t, rfl⟩, ⟨t', rfl⟩⟩ := vals2 r
  refine max_two_ints (I.ok.hd hc) fun h' tk k => ⟨_, H, I.kept k, ?_, q⟩
  by_cases hj : j > i
  · rw [if_pos hj, if_pos hj]; exact ⟨_, rfl⟩
  · rw [if_neg hj, if_neg hj]; exact ⟨_, rfl⟩
theorem call_min2 (hc : X.calm = true) : CallR X (.builtin "min") (fun xs H Q => ∃ i j, xs = [.int i, .int j] ∧ Q (.int (if j < i then j else i)) H) := by
  intro pins s σ H xs us Q I r h
  obtain ⟨i, j, rfl, q⟩ := h
  obtain ⟨u, w', rfl, ⟨t, rfl⟩, ⟨t', rfl⟩⟩ := vals2 r
  refine min_two_ints (I.ok.hd hc) fun h' tk k => ⟨_, H, I.kept k, ?_, q⟩
  by_cases hj : j < i
  · rw [if_pos hj, if_pos hj]; exact ⟨_, rfl⟩
  · rw [if_neg hj, if_neg hj]; exact ⟨_, rfl⟩
theorem call_int1 : CallR X (.type "int") (fun xs H Q => (∃ i, xs = [.int i] ∧ Q (.int i) H) ∨ ∃ k, xs = [.bl k] ∧ Q (.int (if k then 1 else 0)) H) := by
  intro pins s σ H xs us Q I r h
  rcases h with ⟨i, rfl, q⟩ | ⟨k, rfl, q⟩
  · obtain ⟨u, rfl, t, rfl⟩ := vals1 r
    exact call_int_int ⟨.int i, H, I, ⟨_, rfl⟩, q⟩
  · obtain ⟨u, rfl, r1⟩ := vals1 r
    cases r1
    exact call_int_bool ⟨.int (if k then 1 else 0), H, I.tok _, ⟨_, rfl⟩, q⟩
end
end L2

namespace L2
open PySem PySem.Spec PyProof.Rows

section
variable {prog : Program} {w : World} {A : Around} {E : Value → Shared → Prop} {s : Shared} {K : PySem.W.Frag} {x dx C f : Addr} {mA : Str → Option Value} {name : Str} {v : Value}





end

section
variable {P : Program} {w : World} {H H' : Hp} {h h' : Heap} {a C dx : Addr} {fs fs' : List (Str × V)}
end

section
variable {X : Cx} {pins : List (Addr × Obj)} {σ : St} {H : Hp} {s : Shared} {a C dx : Addr} {fs : List (Str × V)} {f : Str} {v : V} {A : Around} {E : Value → Shared → Prop}






end

section
variable {X : Cx} {o e value : Expr} {f : Str} {pos pos' tpos : Pos} {ta tv : TE}

end

section
variable {X : Cx} {pins : List (Addr × Obj)} {σ : St} {H : Hp} {s : Shared} {A : Around} {E : Value → Shared → Prop} {Q : Value → Shared → Prop} {c : Value} {b : Bool}
end
end L2

namespace L2
open PySem PySem.Spec PyProof.Rows

structure Room (k : Nat) (A : Around) : Prop where
  hd : A.handled = none
  dp : A.depth + 3 * k + 5 < recursionLimit
  un : A.units + 16 * k + 200 < cLine
theorem Room.mono {j k : Nat} {A : Around} (r : Room k A) (h : j ≤ k) : Room j A := ⟨r.hd, by have := r.dp; omega, by have := r.un; omega⟩
theorem Room.deeper {k : Nat} {A : Around} (r : Room (k + 1) A) (env : Env) : Room k (A.deeper env) :=
  ⟨r.hd, by have := r.dp; show A.depth + 1 + 3 * k + 5 < _; omega, by have := r.un; show A.units + 3 + 16 * k + 200 < _; omega⟩
theorem Room.depth {k : Nat} {A : Around} (r : Room k A) : A.depth < recursionLimit := by have := r.dp; omega
theorem Room.units0 {k : Nat} {A : Around} (r : Room k A) : A.units < cLine := by have := r.un; omega

noncomputable def tNil : TA := fun _ H Q => Q [] H
noncomputable def tCons (ta : TE) (tr : TA) : TA := fun σ H Q => ta σ H fun x H1 => tr σ H1 fun xs H2 => Q (x :: xs) H2
section
variable {X : Cx} {e : Expr} {es : List Expr} {te : TE} {t : TA} {pos : Pos}
theorem pa_nil : PA X [] tNil := fun _ _ _ _ H Q I h => Calls.spliced_nil ⟨[], H, I, .nil, h⟩
theorem pa_cons (ha : PE X e te) (hr : PA X es t) (hs : autoParam (starEach (e :: es) X.env = (false, eval e X.env) :: starEach es X.env) L2.aR._auto_1) : PA X (e :: es) (tCons te t) := by
  intro pos pins s σ H Q I h
  rw [hs]
  show wpAny _ _ (spliced ((false, eval e X.env) :: backTo pos (starEach es X.env))) _ _ s
  refine Calls.spliced_cons (thn (ha pins s σ H _ I h) fun u s1 ⟨x, H1, I1, r1, q1⟩ => ?_)
  exact thn (hr pos pins s1 σ H1 _ I1 q1) fun us s2 ⟨xs, H2, I2, r2, q2⟩ => ⟨x :: xs, H2, I2, .cons r1 r2, q2⟩

noncomputable def tTup (t : TA) : TE := fun σ H Q => t σ H fun xs H1 => xs.length ≤ sizeLine ∧ ∀ p, H1 p = none → Q (.ref p) (upd H1 p (.tup xs))
noncomputable def tLst (t : TA) : TE := fun σ H Q => t σ H fun xs H1 => xs.length ≤ sizeLine ∧ ∀ p, H1 p = none → Q (.ref p) (upd H1 p (.lst xs))
theorem pe_tup {x1} (h : PA X es t) : PE X (.Tuple es x1 pos) (tTup t) := by
  intro pins s σ H Q I hq
  refine wpAny_Tuple_spliced (thn (h pos pins s σ H _ I hq) fun us s1 ⟨xs, H1, I1, r, z, q⟩ => ⟨by rw [← r.length]; exact z, ?_⟩)
  have hf : H1 s1.heap.objs.size = none := I1.hok.fresh (Nat.le_refl _)
  refine ⟨.ref s1.heap.objs.size, upd H1 s1.heap.objs.size (.tup xs), I1.laid (t' := s1.toks) (fun b u e => Heap.get?_push_of_some _ e) (Nat.le_refl _) ?_, rfl, q _ hf⟩
  exact ⟨z, us, r, ⟨_, Heap.get?_push_size _ rfl, rfl, _, rfl⟩⟩
theorem pe_lst (h : PA X es t) : PE X (.List es pos) (tLst t) := by
  intro pins s σ H Q I hq
  refine wpAny_List_spliced (thn (h pos pins s σ H _ I hq) fun us s1 ⟨xs, H1, I1, r, z, q⟩ => ⟨by rw [← r.length]; exact z, ?_⟩)
  have hf : H1 s1.heap.objs.size = none := I1.hok.fresh (Nat.le_refl _)
  refine ⟨.ref s1.heap.objs.size, upd H1 s1.heap.objs.size (.lst xs), I1.laid (t' := s1.toks) (fun b u e => Heap.get?_push_of_some _ e) (Nat.le_refl _) ?_, rfl, q _ hf⟩
  exact ⟨z, us, 0, r, Heap.get?_push_size _ rfl⟩
end

noncomputable abbrev Sp := List V → Hp → VK → XK → Prop
noncomputable abbrev CXT := List Env → Hp → Shared → XK → Value → Shared → Prop

structure Env0 (P : Program) (w : World) (K : PySem.W.Frag) (mg : Str → Option Value) (base : Heap) (A : Around) (outer : List Env) (s : Shared) (H : Hp) : Prop where
  frames : A.frames = some outer
  mod : Mod K mg base
  bs : ∀ b o, base.get? b = some o → s.heap.get? b = some o ∧ H b = none
  bsz : base.objs.size ≤ s.heap.objs.size
  funs : s.heap.FunFrames base outer
  frf : ∀ b ∈ frs outer, H b = none
  hok : HOk P w H s.heap
  bare : AllBare s.gens
noncomputable def CE (outer : List Env) (P : Program) (w : World) (H : Hp) (s : Shared) (Q : VK) (u : Value) (s' : Shared) : Prop :=
  ∃ v H', s'.os = s.os ∧ AllBare s'.gens ∧ Un (frs outer) [] H H' s.heap s'.heap ∧ HOk P w H' s'.heap ∧ RelV v u ∧ Q v H'
noncomputable def CR (CX : CXT) (outer : List Env) (P : Program) (w : World) (H : Hp) (s : Shared) (Q : VK) (E : XK) (r : Result) (s' : Shared) : Prop :=
  match r with
  | .ok (.ret u) => CE outer P w H s Q u s'
  | .ok _ => False
  | .error e => CX outer H s E e s'
structure FnOk (P : Program) (w : World) (K : PySem.W.Frag) (mg : Str → Option Value) (base : Heap) (CX : CXT) (k : Nat) (f : Addr) (fd : FuncData) (ps : List Str) (sp : Sp) : Prop where
  len : ∀ vs H Q E, sp vs H Q E → vs.length = ps.length
  run : ∀ (A : Around) (outer : List Env) (s : Shared) (H : Hp) (args : Args) (us : List Value) (vs : List V) (Q : VK) (E : XK), Room k A → Env0 P w K mg base A outer s H → BindsTo s fd args (ps.zip us) → Vals vs us → sp vs H Q E →
    codeAny (model P w) A (.call (.ref f) args) (CR CX outer P w H s Q E) s


section
variable {X : Cx} {pins : List (Addr × Obj)} {σ : St} {H : Hp} {s s' : Shared}
theorem Inv.env0 (I : Inv X pins σ H s) : Env0 X.prog X.w X.K X.mg X.base X.A X.stack s H :=
  ⟨I.ok.frames, I.ok.mod, I.bs, Nat.le_trans I.ok.bsz I.sz, I.stack, I.stkFree, I.hok, I.bare⟩
theorem Inv.after {Q : VK} {u : Value} (I : Inv X pins σ H s) (h : CE X.stack X.prog X.w H s Q u s') : EP X pins σ Q u s' := by
  obtain ⟨v, H', os, bare, un, hok, r, q⟩ := h
  obtain ⟨hh, g, d, t, os'⟩ := s'
  obtain rfl : os' = s.os := os
  exact ⟨v, H', I.call (h' := hh) (g' := g) (d' := d) (t' := t) (ch := []) un hok bare (fun b z => absurd z (by simp)), r, q⟩
end

noncomputable def tCall (sp : Sp) (dvs : List V) (E : XK) (t : TA) : TE := fun σ H Q => t σ H fun vs H1 => sp (vs ++ dvs) H1 Q E

noncomputable def Binds (K : PySem.W.Frag) (fd : FuncData) (ps : List Str) (ds : List Value) : Prop :=
  ∀ (s : Shared) (us : List Value), K.In s.heap → (us ++ ds).length = ps.length → BindsTo s fd ⟨us, []⟩ (ps.zip (us ++ ds))
theorem Binds.all {K : PySem.W.Frag} {fd : FuncData} {ps : List Str} (h : ∀ us : List Value, us.length = ps.length → bindArgs fd ⟨us, []⟩ = pure (ps.zip us)) : Binds K fd ps [] := fun s us _ hl => by
  rw [List.append_nil] at hl ⊢
  exact .of_eq (h us hl)

noncomputable def Passes (CX : CXT) (X : Cx) (E : XK) : Prop := ∀ (pins : List (Addr × Obj)) (σ : St) (H : Hp) (s : Shared) (e : Value) (s' : Shared), Inv X pins σ H s → CX X.stack H s E e s' → X.xe e s'

section
variable {X : Cx} {CX : CXT} {k : Nat} {f C : Addr} {fd : FuncData} {ps : List Str} {sp : Sp} {dvs : List V} {ds : List Value} {E : XK} {x m : Str} {p pos apos : Pos} {e o : Expr} {es : List Expr} {ta : TE} {t : TA}

theorem run_fn {pins : List (Addr × Obj)} {σ : St} {H : Hp} {s : Shared} {Q : VK} {us : List Value} {vs : List V} (F : FnOk X.prog X.w X.K X.mg X.base CX k f fd ps sp) (hr : Room k X.A) (hb : Binds X.K fd ps ds) (hd : Vals dvs ds) (hx : Passes CX X E)
    (I : Inv X pins σ H s) (r : Vals vs us) (h : sp (vs ++ dvs) H Q E) : wpAny (model X.prog X.w) X.A (call (.ref f) us) (EP X pins σ Q) X.xe s := by
  have r2 : Vals (vs ++ dvs) (us ++ ds) := r.append hd
  have hl : (us ++ ds).length = ps.length := by rw [← r2.length]; exact F.len _ _ _ _ h
  refine wpAny_call (codeAny_mono (F.run X.A X.stack s H ⟨us, []⟩ (us ++ ds) (vs ++ dvs) Q E hr I.env0 (hb s us I.kIn hl) r2 h) fun r s' hq => ?_)
  cases r with
  | error e => exact hx pins σ H s e s' I hq
  | ok fl =>
    cases fl with
    | ret u => exact I.after hq
    | next => exact False.elim hq
    | brk => exact False.elim hq
    | cont => exact False.elim hq

theorem pe_call (F : FnOk X.prog X.w X.K X.mg X.base CX k f fd ps sp) (hr : Room k X.A) (hg : Gl X x) (hm : X.mg x = some (.ref f)) (hk : PySem.W.keepIn X.K (.ref f) = true) (hb : Binds X.K fd ps ds) (hd : Vals dvs ds) (hx : Passes CX X E)
    (ha : PA X (e :: es) t) (hdb : autoParam ((x == ("__debug__" : Str)) = false) L2.aD._auto_1) (he : autoParam (starEach (e :: es) X.env = (false, eval e X.env) :: starEach es X.env) L2.aR._auto_1) (hpl : autoParam ((backTo pos (starEach es X.env)).any (·.1) = false) L2.aR._auto_1) :
    PE X (.Call (.Name x p) (e :: es) [] pos) (tCall sp dvs E t) := by
  intro pins s σ H Q I h
  refine wpAny_Call_Name_kw (ld_glob I hg hm ?_ hdb)
  refine PySem.W.callWith_K (h₀ := X.base) I.ok.mod.kin hk (thn (ha pos pins s σ H _ I h) fun us s1 ⟨vs, H1, I1, r, q⟩ => ⟨I1.kIn, ?_⟩) he hpl
  exact run_fn F hr hb hd hx I1 r q



end

section
variable {X : Cx} {CX : CXT} {k : Nat} {f C : Addr} {fd : FuncData} {ps ks : List Str} {sp : Sp} {E : XK} {x m : Str} {p pos apos kpos : Pos} {e o : Expr} {es : List Expr} {kws : List Keyword} {te ta : TE} {t tk : TA} {nm : Option Str}

variable {g : List Value → List Value → List Value} {gV : List V → List V → List V}
end

structure FnScope (N P : List Str) (sc : Scope) : Prop where
  kind : sc.kind = .function
  co : sc.isCoroutine = false
  gen : sc.isGenerator = false
  nd : N.Nodup
  pre : N.take P.length = P
  par : ∀ x ∈ P, sc.names.lookup x = some .local ∨ sc.names.lookup x = some .cell
  nofree : ∀ y ∈ sc.names, y.2 ≠ .free

theorem bindL_out {kindOf : Str → Option NameKind} {x : Str} : ∀ {binds : List (Str × Value)} {m : Str → Option Value}, (∀ v, (x, v) ∉ binds) → bindL kindOf binds m x = m x
  | [], _, _ => rfl
  | (n, v) :: r, m, h => by
    unfold bindL
    rw [bindL_out fun w hw => h w (List.mem_cons_of_mem _ hw)]
    split
    · have : x ≠ n := by rintro rfl; exact h v List.mem_cons_self
      simp [this]
    · rfl
theorem bindC_out {kindOf : Str → Option NameKind} {x : Str} : ∀ {binds : List (Str × Value)} {m : Str → Option Value}, (∀ v, (x, v) ∉ binds) → bindC kindOf binds m x = m x
  | [], _, _ => rfl
  | (n, v) :: r, m, h => by
    unfold bindC
    rw [bindC_out fun w hw => h w (List.mem_cons_of_mem _ hw)]
    split
    · rfl
    · have : x ≠ n := by rintro rfl; exact h v List.mem_cons_self
      simp [this]
theorem bindL_get {kindOf : Str → Option NameKind} {x : Str} {v : Value} : ∀ {P : List Str} {vs : List Value} {i : Nat} {m : Str → Option Value}, P.Nodup → P[i]? = some x → vs[i]? = some v → kindOf x = some .local →
    bindL kindOf (P.zip vs) m x = some v
  | [], _, _, _, _, h, _, _ => by simp at h
  | _ :: _, [], _, _, _, _, h, _ => by simp at h
  | p :: P, w :: vs, 0, m, nd, h1, h2, hk => by
    simp at h1 h2; subst h1; subst h2
    show bindL kindOf ((p, w) :: P.zip vs) m p = _
    unfold bindL
    rw [bindL_out fun v hv => (List.nodup_cons.mp nd).1 (List.of_mem_zip hv).1, if_pos hk]
    simp
  | p :: P, w :: vs, i + 1, m, nd, h1, h2, hk => by
    show bindL kindOf ((p, w) :: P.zip vs) m x = _
    unfold bindL
    exact bindL_get (i := i) (List.nodup_cons.mp nd).2 (by simpa using h1) (by simpa using h2) hk
theorem bindC_get {kindOf : Str → Option NameKind} {x : Str} {v : Value} : ∀ {P : List Str} {vs : List Value} {i : Nat} {m : Str → Option Value}, P.Nodup → P[i]? = some x → vs[i]? = some v → kindOf x ≠ some .local →
    bindC kindOf (P.zip vs) m x = some v
  | [], _, _, _, _, h, _, _ => by simp at h
  | _ :: _, [], _, _, _, _, h, _ => by simp at h
  | p :: P, w :: vs, 0, m, nd, h1, h2, hk => by
    simp at h1 h2; subst h1; subst h2
    show bindC kindOf ((p, w) :: P.zip vs) m p = _
    unfold bindC
    rw [bindC_out fun v hv => (List.nodup_cons.mp nd).1 (List.of_mem_zip hv).1, if_neg hk]
    simp
  | p :: P, w :: vs, i + 1, m, nd, h1, h2, hk => by
    show bindC kindOf ((p, w) :: P.zip vs) m x = _
    unfold bindC
    exact bindC_get (i := i) (List.nodup_cons.mp nd).2 (by simpa using h1) (by simpa using h2) hk

noncomputable def start (N : List Str) (vs : List V) : St := vs.map some ++ List.replicate (N.length - vs.length) none

noncomputable def cxOf (CX : CXT) (P : Program) (w : World) (K : PySem.W.Frag) (mg : Str → Option Value) (base : Heap) (N : List Str) (qual : Str) (scope : Scope) (f : Addr) (cd : Value) (A : Around) (outer : List Env) (s : Shared) (H : Hp) (E : XK) : Cx where
  prog := P
  w := w
  K := K
  mg := mg
  base := base
  A := A.deeper (envOfC qual scope s.heap.objs.size f cd)
  N := N
  s₀ := s
  H₀ := H
  env := envOfC qual scope s.heap.objs.size f cd
  outer := outer
  stack := envOfC qual scope s.heap.objs.size f cd :: outer
  ex := []
  calm := true
  fn := fun _ => true
  pn := []
  xe := fun e s' => wpAny (model P w) (A.deeper (envOfC qual scope s.heap.objs.size f cd)) (leaving (envOfC qual scope s.heap.objs.size f cd) e) (fun _ s'' => CX outer H s E e s'') (fun e' s'' => CX outer H s E e' s'') s'

theorem cell_has {sc : Scope} {n : Nat} {x : Str} (h : sc.names.lookup x = some .cell) : ∃ c, (cellsFrom n sc.names []).lookup x = some c := by
  have q := PySem.W.cellsFrom_some sc.names n [] (.inl h)
  exact Option.isSome_iff_exists.mp q

theorem inv_start {CX : CXT} {P : Program} {w : World} {K : PySem.W.Frag} {mg : Str → Option Value} {base : Heap} {N ps : List Str} {qual : Str} {scope : Scope} {f : Addr} {cd : Value} {A : Around} {outer : List Env} {s s1 : Shared} {H : Hp} {E : XK} {us : List Value} {vs : List V}
    (S : FnScope N ps scope) (hd : A.handled = none) (e0 : Env0 P w K mg base A outer s H) (hl : vs.length = ps.length) (r : Vals vs us)
    (x : InCallC s s.heap.objs.size (bindL (envOfC qual scope s.heap.objs.size f cd).kindOf (ps.zip us) fun _ => none) (cellsFrom (s.heap.objs.size + 1) scope.names []) (bindC (envOfC qual scope s.heap.objs.size f cd).kindOf (ps.zip us) fun _ => none) s1) :
    Inv (cxOf CX P w K mg base N qual scope f cd A outer s H E) [] (start N vs) H s1 := by
  have hpl : ps.length ≤ N.length := by have := congrArg List.length S.pre; rw [List.length_take] at this; omega
  obtain ⟨h1, tk, rfl, hk⟩ := x.done
  have noA : ∀ b : Addr, b ∉ (cxOf CX P w K mg base N qual scope f cd A outer s H E).ex := fun b z => absurd (show b ∈ ([] : List Addr) from z) (by simp)
  refine ⟨⟨e0.mod, S.kind, rfl, rfl, Nat.le_refl _, fun y z c h1 h2 => ?_, fun y hy => ?_, fun y c _ h => ?_, fun _ => hd, Around.frames_deeper e0.frames, .inr ⟨rfl, rfl⟩, fun b z => absurd z (noA b), e0.bs, e0.bsz, fun b _ _ => noA b, fun b z => absurd z (noA b), e0.funs, e0.frf⟩,
    rfl, e0.bare, Un.kept hk, ⟨_, x.toInCall.ns, fun i y v h1 h2 h3 => ?_⟩, fun y c h => ⟨_, x.cell y c h⟩, e0.hok.fresh (Nat.le_refl _), fun y c h => ?_, fun p hp => absurd (show p ∈ ([] : List (Addr × Obj)) from hp) (by simp), e0.hok.kept hk, ?_⟩
  · exact name_of_addr x.apart (PySem.mem_of_lookup h1) (PySem.mem_of_lookup h2)
  · have hy : scope.names.lookup y = some .cell ∨ scope.names.lookup y = some .free := hy
    rcases hy with hy | hy
    · exact cell_has hy
    · exact absurd rfl (S.nofree _ (PySem.mem_of_lookup hy))
  · exact Nat.le_of_lt (x.above y c (PySem.mem_of_lookup h))
  · have hi : i < vs.length := by
      unfold start at h2
      by_cases hi : i < vs.length
      · exact hi
      · rw [List.getElem?_append_right (by simpa using hi)] at h2
        rw [List.getElem?_replicate] at h2
        split at h2 <;> cases h2
    have ha : vs[i]? = some v := by
      unfold start at h2
      rw [List.getElem?_append_left (by simpa using hi), List.getElem?_map] at h2
      cases e : vs[i]? with
      | none => rw [e] at h2; cases h2
      | some a => rw [e] at h2; cases h2; rfl
    obtain ⟨u, hu, rv⟩ := r.get ha
    have hp : ps[i]? = some y := by
      rw [← S.pre, List.getElem?_take_of_lt (by omega)]; exact h1
    have ndP : ps.Nodup := by rw [← S.pre]; exact S.nd.sublist (List.take_sublist _ _)
    refine ⟨u, rv, ?_⟩
    rcases S.par y (List.mem_of_getElem? hp) with k | k
    · exact .inl ⟨k, bindL_get ndP hp hu k⟩
    · obtain ⟨c, e⟩ := cell_has (n := s.heap.objs.size + 1) k
      refine .inr ⟨.inl k, c, e, ?_⟩
      have q := x.cell y c e
      rw [bindC_get ndP hp hu (by show scope.names.lookup y ≠ _; rw [k]; decide)] at q
      exact q
  · exact e0.hok.fresh (Nat.le_of_lt (x.above y c (PySem.mem_of_lookup h)))
  · unfold start
    show _ = N.length
    rw [List.length_append, List.length_map, List.length_replicate]
    omega

theorem fn_of {CX : CXT} {P : Program} {w : World} {K : PySem.W.Frag} {mg : Str → Option Value} {base : Heap} {k : Nat} {f : Addr} {name qual : Str} {params : Arguments} {body : List Stmt} {scope : Scope} {dV kV doc pm cdv ct oc : Value} {an od : Option Addr}
    {osl : Array (Option Value)} {N ps : List Str} {sp : Sp} (lk : K.lookup f = some ⟨oc, od, .func (PySem.W.fnOf name qual params body scope dV kV doc pm an cdv ct), osl⟩) (hcd : PySem.W.codeIn K cdv qual = true) (S : FnScope N ps scope)
    (len : ∀ vs H Q E, sp vs H Q E → vs.length = ps.length)
    (hbody : ∀ (A : Around) (outer : List Env) (s : Shared) (H : Hp) (vs : List V) (Q : VK) (E : XK), Room k (A.deeper (envOfC qual scope s.heap.objs.size f cdv)) → sp vs H Q E →
      ∃ t, PSs (cxOf CX P w K mg base N qual scope f cdv A outer s H E) body t ∧ t { nx := fun _ H' => Q .non H', rt := Q } (start N vs) H) :
    FnOk P w K mg base CX (k + 1) f (PySem.W.fnOf name qual params body scope dV kV doc pm an cdv ct) ps sp := by
  refine ⟨len, fun A outer s H args us vs Q E hr e0 hb r hsp => ?_⟩
  have hl := len _ _ _ _ hsp
  have KX : K.In s.heap := e0.mod.kin.keeps fun b o e => (e0.bs b o e).1
  have lim : s.heap.NoLimit := e0.mod.nolimit.keeps fun b o e => (e0.bs b o e).1
  have hkind : ∀ y ∈ ps.zip us, scope.names.lookup y.1 = some .local ∨ (scope.names.lookup y.1 = some .cell ∧ ((cellsFrom (s.heap.objs.size + 1) scope.names []).lookup y.1).isSome = true) := fun ⟨n, v⟩ hy => by
    rcases S.par n (List.of_mem_zip hy).1 with q | q
    · exact .inl q
    · exact .inr ⟨q, PySem.W.cellsFrom_some _ _ _ (.inl q)⟩
  refine codeAny_call_function hr.depth (KX _ _ lk) rfl S.co S.gen rfl (PySem.W.codeRec_of KX hcd) (hb _ _ _ _ ?_)
  refine wpAny_newFunctionEnv_cells S.kind hkind fun env he s1 x => ?_
  subst he
  refine ⟨lim.keeps x.toInCall.keep, codeAny_func ?_⟩
  obtain ⟨t, ht, hq⟩ := hbody A outer s H vs Q E (hr.deeper _) hsp
  have I : Inv (cxOf CX P w K mg base N qual scope f cdv A outer s H E) [] (start N vs) H s1 := inv_start S hr.hd e0 hl r x
  refine wpAny_mono (ht [] s1 (start N vs) H _ I hq) (fun fl s' hs => ?_) fun e s' hs => hs
  have fin : ∀ {σ' : St} {H' : Hp} {v : V} {u : Value}, Inv (cxOf CX P w K mg base N qual scope f cdv A outer s H E) [] σ' H' s' → RelV v u → Q v H' → CE outer P w H s Q u s' :=
    fun {σ' H' v u} J rv q => ⟨v, H', J.os, J.bare, J.base, J.hok, rv, q⟩
  cases fl with
  | ret u =>
    obtain ⟨v, σ', H', J, rv, q⟩ := hs
    exact fin J rv q
  | next =>
    obtain ⟨σ', H', J, q⟩ := hs
    exact fin (v := V.non) (u := Value.none) J rfl q
  | brk =>
    obtain ⟨_, _, _, q⟩ := hs
    exact False.elim q
  | cont =>
    obtain ⟨_, _, _, q⟩ := hs
    exact False.elim q
end L2

namespace L2
open PySem PySem.Spec PyProof.Rows
section
variable {X : Cx} {x : Str} {p pos : Pos} {e : Expr} {es : List Expr} {t : TA} {id T : String} {r : List V → Hp → VK → Prop}

noncomputable def tCB (r : List V → Hp → VK → Prop) (t : TA) : TE := fun σ H Q => t σ H fun vs H1 => r vs H1 Q
theorem pe_callB (hc : CallR X (.builtin id) r) (hg : Gl X x) (hm : X.mg x = none) (hv : bootBuiltins x = some (.builtin id)) (ha : PA X (e :: es) t) (hn : autoParam (x ≠ "__name__") L2.aD._auto_1) (hdb : autoParam ((x == ("__debug__" : Str)) = false) L2.aD._auto_1)
    (he : autoParam (starEach (e :: es) X.env = (false, eval e X.env) :: starEach es X.env) L2.aR._auto_1) (hpl : autoParam ((backTo pos (starEach es X.env)).any (·.1) = false) L2.aR._auto_1) : PE X (.Call (.Name x p) (e :: es) [] pos) (tCB r t) := by
  intro pins s σ H Q I h
  refine wpAny_Call_Name_kw (ld_blt I hg hm hv ?_ hn hdb)
  exact PyProof.Rows.callWith_builtin1 (thn (ha pos pins s σ H _ I h) fun us s1 ⟨vs, H1, I1, r1, q1⟩ => hc pins s1 σ H1 vs us Q I1 r1 q1) he hpl
theorem pe_callTy (hc : CallR X (.type T) r) (hg : Gl X x) (hm : X.mg x = none) (hv : bootBuiltins x = some (.type T)) (ha : PA X (e :: es) t) (hn : autoParam (x ≠ "__name__") L2.aD._auto_1) (hdb : autoParam ((x == ("__debug__" : Str)) = false) L2.aD._auto_1)
    (he : autoParam (starEach (e :: es) X.env = (false, eval e X.env) :: starEach es X.env) L2.aR._auto_1) (hpl : autoParam ((backTo pos (starEach es X.env)).any (·.1) = false) L2.aR._auto_1) : PE X (.Call (.Name x p) (e :: es) [] pos) (tCB r t) := by
  intro pins s σ H Q I h
  refine wpAny_Call_Name_kw (ld_blt I hg hm hv ?_ hn hdb)
  exact PyProof.Rows.callWith_type1 (thn (ha pos pins s σ H _ I h) fun us s1 ⟨vs, H1, I1, r1, q1⟩ => hc pins s1 σ H1 vs us Q I1 r1 q1) he hpl
end
end L2

namespace HT
open PySem PyProof.Rows



section
open PySem.SeqAt
open PySem.AutoSeq1 (wpAny_loadPart')
open PySem.MeetsSeq PySem.MeetsSeq2 PySem.MeetsSeq3

end

section
variable {prog : Program} {w : World} {A : Around} {E : Value → Shared → Prop} {s : Shared}



end
end HT

namespace L2
open PySem PySem.Spec PyProof.Rows

theorem intsAre_of {ns : List Int} : ∀ {us : List Value}, Vals (ns.map V.int) us → IntsAre us ns := by
  induction ns with
  | nil => intro us r; rw [List.map_nil] at r; cases r; exact .nil
  | cons n ns ih =>
    intro us r
    rw [List.map_cons] at r
    cases r with
    | cons r1 r2 =>
      obtain ⟨t, e⟩ := r1
      subst e
      exact .cons n t (ih r2)

section
variable {X : Cx} {e : Expr} {te : TE} {lo hi : Option Expr} {tl th : TO} {pos p2 : Pos}




end
end L2

namespace L2
open PySem PySem.Spec PyProof.Rows

noncomputable def ixN (n : Nat) (i : Int) : Option Nat := if 0 ≤ i then (if i < n then some i.toNat else none) else if -(n : Int) ≤ i then some (i + n).toNat else none
noncomputable def atI {α : Type} (xs : List α) (i : Int) : Option α := (ixN xs.length i).bind fun j => xs[j]?
theorem ixN_seq {n : Nat} {i : Int} {j : Nat} (h : ixN n i = some j) : seqIndex? i n = some j ∧ j < n ∧ -(n : Int) ≤ i ∧ i < n := by
  unfold ixN at h
  by_cases h0 : 0 ≤ i
  · rw [if_pos h0] at h
    by_cases h1 : i < n
    · rw [if_pos h1] at h
      have e : i.toNat = j := Option.some.inj h
      exact ⟨by rw [seqIndex_of h0 h1, e], by omega, by omega, h1⟩
    · rw [if_neg h1] at h; cases h
  · rw [if_neg h0] at h
    by_cases h1 : -(n : Int) ≤ i
    · rw [if_pos h1] at h
      have e : (i + n).toNat = j := Option.some.inj h
      exact ⟨by rw [seqIndex_neg (by omega) h1, e], by omega, h1, by omega⟩
    · rw [if_neg h1] at h; cases h
theorem atI_get {α : Type} {xs : List α} {i : Int} {v : α} (h : atI xs i = some v) : ∃ j, seqIndex? i xs.length = some j ∧ xs[j]? = some v ∧ j < xs.length ∧ -(xs.length : Int) ≤ i ∧ i < xs.length := by
  unfold atI at h
  cases e : ixN xs.length i with
  | none => rw [e] at h; cases h
  | some j =>
    rw [e] at h
    obtain ⟨h1, h2, h3, h4⟩ := ixN_seq e
    exact ⟨j, h1, h, h2, h3, h4⟩
theorem atI_nat {α : Type} {xs : List α} {j : Nat} {v : α} (h : xs[j]? = some v) : atI xs (j : Int) = some v := by
  have hj : j < xs.length := (List.getElem?_eq_some_iff.mp h).1
  have e : ixN xs.length (j : Int) = some j := by
    unfold ixN
    rw [if_pos (by omega), if_pos (by omega)]; simp
  unfold atI; rw [e]; exact h

noncomputable def PlainIx (b : Expr) : Prop := ∀ o i, subscripted b false o i = operate [o, i] (getItem o i)
noncomputable def IxR (X : Cx) (r : R2) : Prop :=
  ∀ (value slice : Expr) (pins : List (Addr × Obj)) (s : Shared) (σ : St) (H : Hp) (x y : V) (v u : Value) (Q : VK), Inv X pins σ H s → RelV x v → RelV y u → r x y H Q →
    subscripted slice false v u = operate [v, u] (getItem v u) → wpAny (model X.prog X.w) X.A (subscriptTail value slice v u) (EP X pins σ Q) X.xe s
section
variable {X : Cx} {a b : Expr} {ta tb : TE} {pos : Pos}
theorem pe_ix {r : R2} (hr : IxR X r) (ha : PE X a ta) (hb : PE X b tb) (hs : PlainIx b) : PE X (.Subscript a b pos) (tOp r ta tb) := by
  intro pins s σ H Q I h
  exact Subscript_ (binT ha hb I h fun v u s2 x y H2 I2 rx ry q => hr a b pins s2 σ H2 x y v u Q I2 rx ry q (hs _ _))

noncomputable def rIxL (K : PySem.W.Frag) : R2 := fun x y H Q => ∃ p xs i v, x = .ref p ∧ y = .int i ∧ SqL K H p xs ∧ atI xs i = some v ∧ Q v H
noncomputable def rIxT (K : PySem.W.Frag) : R2 := fun x y H Q => ∃ p xs i v, x = .ref p ∧ y = .int i ∧ SqT K H p xs ∧ atI xs i = some v ∧ Q v H
theorem ix_list : IxR X (rIxL X.K) := by
  intro value slice pins s σ H x y v u Q I rx ry h hs
  obtain ⟨p, xs, i, z, rfl, rfl, hq, he, q⟩ := h
  cases rx
  obtain ⟨t, rfl⟩ := ry
  obtain ⟨its, r, pl, hz⟩ := I.list hq
  obtain ⟨j, h1, h2, h3, h4, h5⟩ := atI_get he
  obtain ⟨w, ew, rw'⟩ := r.get h2
  have hl := r.length
  have hn := line63
  have fin : EP X pins σ Q w s := ⟨z, H, I, rw', q⟩
  by_cases h0 : 0 ≤ i
  · have hj : i.toNat = j := by
      rw [seqIndex_of h0 h5] at h1
      exact Option.some.inj h1
    exact item_listR pl.isList h0 (by omega) (by rw [hj]; simpa using ew) fin hs
  · have hj : (i + (its.toArray.size : Int)).toNat = j := by
      rw [seqIndex_neg (by omega) h4] at h1
      rw [List.size_toArray, ← hl]
      exact Option.some.inj h1
    exact subscriptTail_builtinR (x := w) pl.isList.typeIs slot_list_getitem.lookup
      (wpAny_getItem_list_neg (Q := fun r s' => r = w ∧ EP X pins σ Q r s') pl.isList (by omega) (by rw [List.size_toArray] <;> omega) (by omega) (by rw [hj]; simpa using ew) ⟨rfl, fin⟩) hs
theorem ix_tup : IxR X (rIxT X.K) := by
  intro value slice pins s σ H x y v u Q I rx ry h hs
  obtain ⟨p, xs, i, z, rfl, rfl, hq, he, q⟩ := h
  cases rx
  obtain ⟨t, rfl⟩ := ry
  obtain ⟨its, r, pl, hz⟩ := I.tuple hq
  obtain ⟨j, h1, h2, h3, h4, h5⟩ := atI_get he
  obtain ⟨w, ew, rw'⟩ := r.get h2
  have hl := r.length
  have hn := line63
  have fin : EP X pins σ Q w s := ⟨z, H, I, rw', q⟩
  exact subscriptTail_builtinR (x := w) pl.typeIs slot_tuple_getitem.lookup
    (getItem_tuple (j := j) (Q := fun r s' => r = w ∧ EP X pins σ Q r s') pl (by omega) (by omega) (by rw [List.size_toArray, ← hl]; exact h1) (by simpa using ew) ⟨rfl, fin⟩) hs

theorem call_len_seq : CallR X (.builtin "len") (fun xs H Q => ∃ p ys, xs = [.ref p] ∧ (SqL X.K H p ys ∨ SqT X.K H p ys) ∧ Q (.int ys.length) H) := by
  intro pins s σ H xs us Q I r h
  obtain ⟨p, ys, rfl, hq, q⟩ := h
  obtain ⟨u, rfl, rx⟩ := vals1 r
  cases rx
  have hn := line63
  rcases hq with hq | hq
  · obtain ⟨its, r', pl, hz⟩ := I.list hq
    have hlen := r'.length
    exact Calls.call_len_list pl.isList (by simp only [List.size_toArray] <;> omega) ⟨.int ys.length, H, I.tok _, ⟨s.toks + 1, by rw [List.size_toArray, hlen]⟩, q⟩
  · obtain ⟨its, r', pl, hz⟩ := I.tuple hq
    have hlen := r'.length
    exact len_tuple pl (by simp only [List.size_toArray] <;> omega) ⟨.int ys.length, H, I.tok _, ⟨s.toks + 1, by rw [List.size_toArray, hlen]⟩, q⟩

variable {o e : Expr} {es : List Expr} {to : TE} {t : TA} {name : Str} {apos cpos : Pos} {T id : String} {r : V → List V → Hp → VK → Prop}
/- xs.append(e), list.index on a module's tuple .. are MtR facts of 06m -/
end
end L2

namespace L2
open PySem PySem.Spec PyProof.Rows

noncomputable def MtM (X : Cx) (id : String) (r : V → List V → Hp → VK → Prop) : Prop :=
  ∀ (pins : List (Addr × Obj)) (s : Shared) (σ : St) (H : Hp) (x : V) (xs : List V) (v : Value) (us : List Value) (Q : VK), Inv X pins σ H s → RelV x v → Vals xs us → r x xs H Q →
    wpAny (model X.prog X.w) X.A (call (.builtin id) (v :: us)) (EP X pins σ Q) X.xe s

theorem Vals.one {x : V} {us : List Value} (h : Vals [x] us) : ∃ u, us = [u] ∧ RelV x u := vals1 h
theorem Vals.rep {xs : List V} {us : List Value} (h : Vals xs us) : ∀ k : Nat, Vals (List.replicate k xs).flatten (List.replicate k us).flatten
  | 0 => .nil
  | k + 1 => by
    rw [List.replicate_succ, List.replicate_succ, List.flatten_cons, List.flatten_cons]
    exact Vals.append h (Vals.rep h k)
theorem foldl_rep (its : List Value) : ∀ (k : Nat) (acc : List Value),
    List.foldl (fun x1 x2 => x1 ++ x2) acc.toArray (List.replicate k its.toArray) = (acc ++ (List.replicate k its).flatten).toArray
  | 0, acc => by simp
  | k + 1, acc => by
    have e : acc.toArray ++ its.toArray = (acc ++ its).toArray := by simp
    have e2 : (acc ++ its) ++ (List.replicate k its).flatten = acc ++ (List.replicate (k + 1) its).flatten := by
      rw [List.replicate_succ, List.flatten_cons, List.append_assoc]
    rw [← e2, ← foldl_rep its k (acc ++ its), ← e, List.replicate_succ, List.foldl_cons]

section
variable {X : Cx} {pins : List (Addr × Obj)} {σ : St} {H : Hp} {s : Shared} {l b : Addr} {xs ys zs : List V}

theorem Inv.lset {its its' : List Value} {n : Nat} {f : Array Value → Array Value} {t' : Nat} (I : Inv X pins σ H s) (hH : H l = some (.lst xs))
    (e : s.heap.get? l = some { cls := .type "list", data := .seq its.toArray n }) (hf : f its.toArray = its'.toArray) (hv : Vals ys its') (hz : ys.length ≤ sizeLine) :
    Inv X pins σ (upd H l (.lst ys)) { s with heap := s.heap.update l (Obj.mapSeq f), toks := t' } := by
  have q := PySem.IsL.update e f
  rw [hf] at q
  refine I.write (x := l) (e := l) (by rw [hH]; exact trivial) (.inl rfl) (fun b' u hb hu => (Heap.get?_update_other s.heap (Obj.mapSeq f) (Ne.symm hb)).trans hu) ⟨_, q⟩ ?_
  exact ⟨hz, its', _, hv, q⟩
theorem Inv.lnew {its : List Value} {t' : Nat} (I : Inv X pins σ H s) (hv : Vals ys its) (hz : ys.length ≤ sizeLine) :
    Inv X pins σ (upd H s.heap.objs.size (.lst ys)) { s with heap := s.heap.push { cls := .type "list", data := .seq its.toArray }, toks := t' } :=
  I.laid (fun _ _ q => Heap.get?_push_of_some _ q) (Nat.le_refl _) ⟨hz, its, 0, hv, Heap.get?_push_size _ rfl⟩
theorem Inv.fresh (I : Inv X pins σ H s) : H s.heap.objs.size = none := I.hok.fresh (Nat.le_refl _)
theorem Inv.lstM (I : Inv X pins σ H s) (hH : H l = some (.lst xs)) : xs.length ≤ sizeLine ∧ ∃ (its : List Value) (n : Nat), Vals xs its ∧ xs.length = its.length ∧ s.heap.get? l = some { cls := .type "list", data := .seq its.toArray n } := by
  obtain ⟨z, its, n, r, e⟩ := I.hok l _ hH
  exact ⟨z, its, n, r, r.length, e⟩

theorem notLongL {n : Nat} (h : n ≤ sizeLine) : Builtin.List.listTooLong n = false := by
  unfold Builtin.List.listTooLong
  exact decide_eq_false (by omega)
end

section
variable {X : Cx}

noncomputable def rAppend : V → List V → Hp → VK → Prop := fun x vs H Q => ∃ l xs y, x = .ref l ∧ vs = [y] ∧ H l = some (.lst xs) ∧ xs.length < sizeLine ∧ Q .non (upd H l (.lst (xs ++ [y])))
theorem mt_append : MtM X "list.append" rAppend := by
  intro pins s σ H x vs v us Q I rx rv h
  obtain ⟨l, xs, y, rfl, rfl, hH, hz, q⟩ := h
  cases rx
  obtain ⟨u, rfl, ru⟩ := rv.one
  obtain ⟨z, its, n, r, hl, e⟩ := I.lstM hH
  refine call_meets F.slot_list_append ⟨_, e, rfl⟩ F.entry_list_append (F.args_list_append_2 _ _) (PySem.list_append l its.toArray n u (by rw [List.size_toArray]; omega)) ⟨e, ?_⟩
  refine ⟨.non, _, I.lset (its' := its ++ [u]) hH e (by simp) (r.append (.cons ru .nil)) ?_, rfl, q⟩
  rw [List.length_append, List.length_singleton]
  omega






noncomputable def rCat : R2 := fun x y H Q => ∃ l b xs zs, x = .ref l ∧ y = .ref b ∧ H l = some (.lst xs) ∧ H b = some (.lst zs) ∧ xs.length + zs.length ≤ sizeLine ∧ ∀ p, H p = none → Q (.ref p) (upd H p (.lst (xs ++ zs)))
theorem op_cat : OpR X (binaryOp .Add) rCat := by
  intro pins s σ H x y v u Q I rx ry h
  obtain ⟨l, b, xs, zs, rfl, rfl, hH, hB, hz, q⟩ := h
  cases rx
  cases ry
  obtain ⟨z, its, n, r, hl, e⟩ := I.lstM hH
  obtain ⟨z2, its2, n2, r2, hl2, e2⟩ := I.lstM hB
  refine PySem.P.add_list e e2 ?_ (by rw [List.size_toArray, List.size_toArray]; omega)
  have ea : its.toArray ++ its2.toArray = (its ++ its2).toArray := by simp
  rw [ea]
  exact ⟨.ref _, _, I.lnew (t' := s.toks) (r.append r2) (by rw [List.length_append]; omega), rfl, q _ I.fresh⟩
noncomputable def rRep : R2 := fun x y H Q => ∃ l k xs, x = .ref l ∧ y = .int k ∧ H l = some (.lst xs) ∧ -(2 ^ 63) ≤ k ∧ k < 2 ^ 63 ∧ xs.length * k.toNat ≤ sizeLine ∧
  ∀ p, H p = none → Q (.ref p) (upd H p (.lst (List.replicate k.toNat xs).flatten))
theorem len_rep {α : Type} (xs : List α) (k : Nat) : (List.replicate k xs).flatten.length = k * xs.length := by
  induction k with
  | zero => simp
  | succ k ih => rw [List.replicate_succ, List.flatten_cons, List.length_append, ih, Nat.succ_mul, Nat.add_comm]
theorem op_rep : OpR X (binaryOp .Mult) rRep := by
  intro pins s σ H x y v u Q I rx ry h
  obtain ⟨l, k, xs, rfl, rfl, hH, h1, h2, hz, q⟩ := h
  cases rx
  obtain ⟨t, rfl⟩ := ry
  obtain ⟨z, its, n, r, hl, e⟩ := I.lstM hH
  have hlen : its.toArray.size * k.toNat ≤ sizeLine := by rw [List.size_toArray, ← hl]; exact hz
  have hcap : ¬ its.toArray.size * k.toNat > (2 ^ 63 - 1) / 8 := by
    have : (sizeLine : Nat) ≤ (2 ^ 63 - 1) / 8 := by decide
    omega
  have hfit : ¬ (!Builtin.List.listFitsIndex k) = true := by
    rw [fitsIndex_both h1 h2]
    exact Bool.false_ne_true
  have hlong : ¬ Builtin.List.listTooLong (its.toArray.size * k.toNat) = true := by
    rw [notLongL hlen]
    exact Bool.false_ne_true
  have hnew : List.foldl (fun x1 x2 => x1 ++ x2) #[] (List.replicate (if its.toArray.isEmpty = true then 0 else k.toNat) its.toArray) = (List.replicate k.toNat its).flatten.toArray := by
    have f0 : ∀ m : Nat, List.foldl (fun x1 x2 => x1 ++ x2) #[] (List.replicate m its.toArray) = (List.replicate m its).flatten.toArray := fun m => by
      have := foldl_rep its m []
      rw [List.nil_append] at this
      exact this
    rw [f0]
    cases its with
    | nil => simp
    | cons a r' => rw [if_neg (by simp)]
  refine wpAny_binaryOp_repeat_ref (T := "list") (U := "int") (by decide) ⟨_, e, rfl⟩ (fun s' => typeIs_int s' k t) noFill_list_mul F.fills_int_mul F.slot_int_rmul repeat_list F.slot_int_index.lookup
    (call_meets F.slot_int_rmul (typeIs_int s k t) F.entry_int_rmul (F.args_int_rmul_2 _ _) (int___rmul___int_list k t l its.toArray n)
      ⟨e, rfl, ⟨_, e, rfl⟩, call_meets F.slot_list_mul ⟨_, e, rfl⟩ F.entry_list_mul (F.args_list_mul_2 _ _) (AutoListH.list___mul___list_int_3 l its.toArray n k t hfit hcap hlong) ⟨e, ?_⟩⟩)
  rw [hnew]
  exact ⟨.ref _, _, I.lnew (t' := s.toks) (r.rep k.toNat) (by rw [len_rep, Nat.mul_comm]; exact hz), rfl, q _ I.fresh⟩

end

section
variable {prog : Program} {w : World} {A : Around} {E : Value → Shared → Prop} {s : Shared}
set_option maxRecDepth 100000 in
end

section
variable {X : Cx}
end
end L2

namespace Att
open PySem PySem.W PySem.Calls PyProof.Rows

theorem ints_of_wellAll {P : Params} {h : Heap} : ∀ (ns : List Int) (vs : List Value), WellAll P h vs (ns.map WData.int) → IntsAre vs ns := by
  intro ns
  induction ns with
  | nil =>
    intro vs w
    rw [List.map_nil] at w
    cases w
    exact .nil
  | cons n ns ih =>
    intro vs w
    rw [List.map_cons] at w
    cases w with
    | cons a b =>
      cases a
      exact .cons _ _ (ih _ b)

theorem script_of {l : OpenLaw} {n : Nat} (hn : l.most = some n) {P : Params} {h : Heap} {args : List WData} {vals : List Value}
    (hpre : l.row.toRowW.claim.pre args = true) (hwl : WellAll P h vals args) :
    ∃ a vs ns, vals = [Value.ref a] ∧ args = [WData.list (ns.map WData.int)] ∧ h.get? a = some { cls := .type "list", data := .seq vs.toArray } ∧ IntsAre vs ns ∧ ns.length ≤ n := by
  have hsh : WShape.hasAll [] args [.list .int] = true := (pre_splitW hpre).1
  have hc : l.pre.holds [] { args := args } = true := (pre_splitW hpre).2
  obtain ⟨d, r, rfl, h1, h2⟩ := hasAllW_cons hsh
  obtain rfl := hasAllW_nil h2
  obtain ⟨xs, rfl, h3⟩ := hasW_list h1
  obtain ⟨ns, rfl⟩ := items_int h3
  have hlen : ns.length ≤ n := by
    unfold OpenLaw.pre at hc
    have h4 : (WTm.not (.lt (.lit (.int (n : Int))) (.len (.arg 0)))).holds [] { args := [.list (ns.map .int)] } = true := by
      have h4 := (holds_andW hc).1
      rw [hn] at h4
      exact h4
    have h5 := condW_of h4 (w_not (w_lt w_lit (w_len_list (w_arg rfl))))
    rw [List.length_map] at h5
    refine Nat.le_of_not_lt fun q => ?_
    have q' : (n : Int) < ((ns.length : Nat) : Int) := by omega
    first
      | (rw [decide_eq_true q'] at h5; exact absurd h5 (by decide))
      | (simp at h5; omega)
  cases hwl with
  | cons w1 w2 =>
    cases w2
    cases w1 with
    | list ho hall => exact ⟨_, _, ns, rfl, rfl, ho, ints_of_wellAll ns _ hall, hlen⟩

theorem post_true (l : OpenLaw) (args : List WData) : l.row.toRowW.claim.post args (.bool true) args = true :=
  postW_of (r := l.row.toRowW) (X := (true == true))
    (show WShape.has [] (.bool true) .bool = true by first | rfl | decide | simp [WShape.has, WShape.arms, WShape.armsAll])
    (show (WTm.eq .res (.lit (.bool true))).value [] { args := args, res := some (.bool true), after := args } = some (.bool (true == true)) from w_eq_bool (w_res rfl) w_lit) rfl

section
variable {prog : Program} {w : World} {A : Around} {E : Value → Shared → Prop} {s : Shared} {K : Frag}





end
end Att

namespace L2
open PySem PySem.Spec PyProof.Rows

theorem vals_ints : ∀ {vs : List Value} {ns : List Int}, IntsAre vs ns → Vals (ns.map V.int) vs
  | _, _, .nil => .nil
  | _, _, .cons n t h => .cons ⟨t, rfl⟩ (vals_ints h)

noncomputable def Only (H : Hp) : Prop := ∀ b, H b = none ∨ ∃ o xs, H b = some (.frz o (.lst xs))

theorem law_call {P : Program} {w : World} {K : PySem.W.Frag} {mg mb : Str → Option Value} {CX : CXT} {k : Nat} {fa a : Addr} {fd : FuncData} {x : Str} {sp : Sp} {s₁ : Shared} {vs : List Value} {ns : List Int}
    (KX : K.In s₁.heap) (hns : s₁.heap.Ns mainGlobals mg) (hb : s₁.heap.Ns builtinsNs mb) (hbb : ∀ x : Str, x ≠ "__name__" → mb x = bootBuiltins x) (hlim : s₁.heap.NoLimit) (hg : s₁.gens = #[])
    (ha : s₁.heap.get? a = some { cls := .type "list", data := .seq vs.toArray }) (hi : IntsAre vs ns) (hl : ns.length ≤ sizeLine) (hr : Room k callerA)
    (F : ∀ base : Heap, K.In base → base.Ns mainGlobals mg → FnOk P w K mg base CX k fa fd [x] sp) (hbind : ∀ (s : Shared) (u : Value), BindsTo s fd ⟨[u], []⟩ [(x, u)])
    (hsp : ∀ H : Hp, Only H → SqL K H a (ns.map V.int) → sp [.ref a] H (fun v _ => v = .bl true) fun _ _ _ => False)
    (hCX : ∀ H e s', CX [] H s₁ (fun _ _ _ => False) e s' → False) :
    codeAny (model P w) callerA (.call (.ref fa) ⟨[.ref a], []⟩) (fun r s' => r = .ok (.ret (.bool true)) ∧ OldK s₁.heap s'.heap ∧ s'.os = s₁.os ∧ AllBare s'.gens) s₁ := by
  have rv := vals_ints hi
  have lenV := hi.length
  -- from an abstract heap in which nothing but the script may be tracked
  have core : ∀ H : Hp, Only H → SqL K H a (ns.map V.int) → HOk P w H s₁.heap → (∀ b, H b ≠ none → b = a) → (H a ≠ none → K.lookup a = none) →
      codeAny (model P w) callerA (.call (.ref fa) ⟨[.ref a], []⟩) (fun r s' => r = .ok (.ret (.bool true)) ∧ OldK s₁.heap s'.heap ∧ s'.os = s₁.os ∧ AllBare s'.gens) s₁ := by
    intro H hO hS hok hA hK
    have base_of : ∀ {b : Addr} {o : Obj}, s₁.heap.get? b = some o → H b = none → (hidT s₁.heap H).get? b = some o := fun e n => hidT_get e n
    have noA : ∀ {b : Addr} {o : Obj} {es : Array DictEntry} {ep : Nat}, s₁.heap.get? b = some o → o.data = .dict es ep → H b = none := fun {b o es ep} e d => by
      cases q : H b with
      | none => rfl
      | some u =>
        have e' : b = a := hA b (by rw [q]; simp)
        subst e'
        rw [ha] at e; cases e
        have d' : Data.seq vs.toArray _ = Data.dict es ep := d
        cases d'
    have nsK : ∀ {b : Addr} {m : Str → Option Value}, s₁.heap.Ns b m → (hidT s₁.heap H).Ns b m := fun {b m} ⟨o, es, ep, e, d, r⟩ => ⟨o, es, ep, base_of e (noA e d), d, r⟩
    have hKb : K.In (hidT s₁.heap H) := fun b o e => base_of (KX b o e) (by
      cases q : H b with
      | none => rfl
      | some u =>
        have e' : b = a := hA b (by rw [q]; simp)
        subst e'
        rw [hK (by rw [q]; simp)] at e; cases e)
    have hM : Mod K mg (hidT s₁.heap H) := ⟨hKb, nsK hns, ⟨mb, nsK hb, hbb⟩, let ⟨mc, h1, h2⟩ := hlim; ⟨mc, nsK h1, h2⟩⟩
    have e0 : Env0 P w K mg (hidT s₁.heap H) callerA [] s₁ H := ⟨rfl, hM, fun b o e => of_hidT e, Nat.le_of_eq (hidT_size _ _), trivial, fun b hb => absurd (show b ∈ ([] : List Addr) from hb) (by simp), hok, .of_eq hg⟩
    refine codeAny_mono ((F _ hKb (nsK hns)).run callerA [] s₁ H ⟨[.ref a], []⟩ [.ref a] [.ref a] _ _ hr e0 (hbind s₁ (.ref a)) (.cons rfl .nil) (hsp H hO hS)) fun r s' h => ?_
    cases r with
    | error e => exact (hCX H e s' h).elim
    | ok fl =>
      cases fl with
      | next => exact False.elim h
      | brk => exact False.elim h
      | cont => exact False.elim h
      | ret u =>
        obtain ⟨v, H', os, bare, un, hok', r', q⟩ := h
        have q' : v = .bl true := q
        subst q'
        obtain rfl : u = Value.bool true := r'
        refine ⟨rfl, OldK.of_keep fun b o e => ?_, os, bare⟩
        cases q : H b with
        | none => exact un.keep b o e q (by intro z; exact absurd (show b ∈ ([] : List Addr) from z) (by simp)) (by simp)
        | some u =>
          rcases hO b with z | ⟨ob, xs, z⟩
          · rw [q] at z; cases z
          · have z2 := un.frzs b ob _ z
            obtain ⟨e1, _⟩ := hok b _ z
            obtain ⟨e2, _⟩ := hok' b _ z2
            rw [e] at e1; cases e1
            exact e2
  cases hk : K.lookup a with
  | some o =>
    -- the script is one of the module's own objects
    have e := KX a o hk
    rw [ha] at e
    cases e
    refine core (fun _ => none) (fun _ => .inl rfl) (.inr ⟨_, vs.toArray, _, hk, rfl, rfl, rfl, by rw [List.size_toArray, lenV]; exact hl, by simpa using rv⟩) (fun b u z => by have z' : (none : Option HO) = some u := z; cases z') (fun b z => absurd rfl z) fun z => absurd rfl z
  | none =>
    refine core (fun b => if b = a then some (.frz { cls := .type "list", data := .seq vs.toArray } (.lst (ns.map V.int))) else none) (fun b => ?_) (.inl (.inr ⟨{ cls := .type "list", data := .seq vs.toArray }, if_pos rfl⟩)) (fun b u z => ?_) (fun b z => ?_) fun _ => hk
    · by_cases hb : b = a
      · exact .inr ⟨_, _, if_pos hb⟩
      · exact .inl (if_neg hb)
    · by_cases hb : b = a
      · have z' := (if_pos hb).symm.trans z
        cases z'
        subst hb
        exact ⟨ha, by rw [List.length_map]; exact hl, vs, _, rv, ha⟩
      · have z' := (if_neg hb).symm.trans z
        cases z'
    · by_cases hb : b = a
      · exact hb
      · exact absurd (if_neg hb) z
end L2

namespace L2
open PySem PySem.Spec PyProof.Rows

noncomputable abbrev KOf {K : PySem.W.Frag} {h : Heap} (_ : K.In h) : PySem.W.Frag := K

end L2

/- THE LAST THEOREM (shape; LID, My.* are yours):
   My.Adr: a structure of the addresses that your layer names (classes, functions); My.Txt K t: a structure (Prop) of the equations over K;
   My.txt_mk : {K} {implicit addresses ..} (e1 : nsIn K mainGlobals "law" = some (some (.ref f))) (e2 : K.lookup f = some ⟨oc, od, .func (fnOf "law" "law" params body scope dV kV doc pm an cdv ct), sl⟩) (e3 : codeIn K cdv "law" = true) .. : ∃ t, My.Txt K t

set_option maxRecDepth 100000 in
set_option maxHeartbeats 0 in
theorem PySem.Challenge.cw_LID_holds : PySem.Challenge.rw_LID.Holds := by
  w_on; o_law; k_head; (case hw => w_witness2)
  k_fill
  refine L2.walk_of (l := PySem.Challenge.rw_LID) (n := 63) (k := 40) (x := "script") (CX := fun w => ..) (sp := fun _ => My.sp_law) rfl (by decide) rfl ⟨rfl, by decide, by decide⟩ (fun w h Y => PySem.W.kIn_of Y) ?F ?S ?C
  case F =>
    intro w mg fa h KX G hmg
    have T : ∃ t, My.Txt (L2.KOf KX) t := by
      dsimp only [L2.KOf]                          -- K must stand as «<heap const> w.params» for k_is
      refine' My.txt_mk ?e1 ?e2 ?e3 ..
      (case e1 => PySem.W.k_is)                    -- in the order: a name -> its address -> its object -> its parts
      (case e2 => PySem.W.k_is)
      ..
    obtain ⟨t, T⟩ := T
    have e0 := hmg.symm.trans (PySem.W.mg_of KX G T.law)
    cases e0                                       -- fa is the law's own address
    exact ⟨_, fun s u => .of_eq rfl, fun base kb nb => My.law_fn T kb nb⟩     -- if «.of_eq rfl» comes too early: refine' ⟨_, ?b, fun base kb nb => My.law_fn T kb nb⟩; exact fun s u => .of_eq rfl
  case S => exact fun w H a ns hl hO hS => ..
  case C => exact ..
(the tactic k_is has no namespace: write k_is) -/

namespace L2
open PySem PySem.Spec PyProof.Rows

noncomputable def defArgs (s : Stmt) : Arguments := match s with
  | .FunctionDef _ a _ _ _ _ _ _ _ _ => a
  | _ => { posonlyargs := [], args := [], vararg := none, kwonlyargs := [], kw_defaults := [], kwarg := none, defaults := [] }
noncomputable def defBody (s : Stmt) : List Stmt := match s with
  | .FunctionDef _ _ b _ _ _ _ _ _ _ => b
  | _ => []
noncomputable def defScope (s : Stmt) : Scope := match s with
  | .FunctionDef _ _ _ _ _ _ sc _ _ _ => sc
  | _ => { kind := .function, names := [], isGenerator := false, isCoroutine := false }

noncomputable abbrev CX0 : CXT := fun _ _ _ _ _ _ => False
noncomputable abbrev E0 : XK := fun _ _ _ => False
theorem pass0 {X : Cx} : Passes CX0 X E0 := fun _ _ _ _ _ _ _ h => h.elim

structure Fun (K : PySem.W.Frag) (x qual : Str) (st : Stmt) (f : Addr) (fd : FuncData) : Prop where
  ex : ∃ (oc : Value) (od : Option Addr) (kV doc pm : Value) (an : Option Addr) (cdv ct : Value) (osl : Array (Option Value)),
    fd = PySem.W.fnOf x qual (defArgs st) (defBody st) (defScope st) .none kV doc pm an cdv ct ∧ K.lookup f = some ⟨oc, od, .func fd, osl⟩ ∧ PySem.W.codeIn K cdv qual = true
  kp : PySem.W.keepIn K (.ref f) = true
section
variable {P : Program} {w : World} {K : PySem.W.Frag} {mg : Str → Option Value} {base : Heap}
theorem Fun.ok {x qual : Str} {st : Stmt} {f : Addr} {fd : FuncData} {N ps : List Str} {k : Nat} {sp : Sp} (F : Fun K x qual st f fd) (S : FnScope N ps (defScope st)) (len : ∀ vs H Q E, sp vs H Q E → vs.length = ps.length)
    (hbody : ∀ (cdv : Value) (A : Around) (outer : List Env) (s : Shared) (H : Hp) (vs : List V) (Q : VK) (E : XK), Room k (A.deeper (envOfC qual (defScope st) s.heap.objs.size f cdv)) → sp vs H Q E →
      ∃ t, PSs (cxOf CX0 P w K mg base N qual (defScope st) f cdv A outer s H E).nox (defBody st) t ∧ t { nx := fun _ H' => Q .non H', rt := Q } (start N vs) H) : FnOk P w K mg base CX0 (k + 1) f fd ps sp := by
  obtain ⟨oc, od, kV, doc, pm, an, cdv, ct, osl, rfl, lk, hcd⟩ := F.ex
  refine fn_of lk hcd S len fun A outer s H vs Q E hr hsp => ?_
  obtain ⟨t, h, q⟩ := hbody cdv A outer s H vs Q E hr hsp
  exact ⟨t, h.nox, q⟩
theorem Fun.binds {x qual : Str} {st : Stmt} {f : Addr} {fd : FuncData} {ps : List Str} (F : Fun K x qual st f fd)
    (h : ∀ (kV doc pm : Value) (an : Option Addr) (cdv ct : Value) (us : List Value), us.length = ps.length → bindArgs (PySem.W.fnOf x qual (defArgs st) (defBody st) (defScope st) .none kV doc pm an cdv ct) ⟨us, []⟩ = pure (ps.zip us)) : Binds K fd ps [] := by
  obtain ⟨oc, od, kV, doc, pm, an, cdv, ct, osl, rfl, lk, hcd⟩ := F.ex
  exact .all (h kV doc pm an cdv ct)
theorem fun_mk {x qual : Str} {st : Stmt} {f : Addr} {oc : Value} {od an : Option Addr} {osl : Array (Option Value)} {kV doc pm cdv ct : Value} (l : K.lookup f = some ⟨oc, od, .func (PySem.W.fnOf x qual (defArgs st) (defBody st) (defScope st) .none kV doc pm an cdv ct), osl⟩)
    (c : PySem.W.codeIn K cdv qual = true) (k : PySem.W.keepIn K (.ref f) = true) : Fun K x qual st f (PySem.W.fnOf x qual (defArgs st) (defBody st) (defScope st) .none kV doc pm an cdv ct) := ⟨⟨oc, od, kV, doc, pm, an, cdv, ct, osl, rfl, l, c⟩, k⟩
end
theorem small1000 {n : Nat} (h : n ≤ 1000) : n < sizeLine := Nat.lt_of_le_of_lt h (by decide)

section
variable {X : Cx}
end

theorem iteF {A B : Prop} (h : B) : if false = true then A else B := by
  rw [if_neg Bool.false_ne_true]
  exact h
theorem iteT {A B : Prop} (h : A) : if true = true then A else B := by
  rw [if_pos rfl]
  exact h
theorem ite2 {c A B : Prop} [Decidable c] (h1 : c → A) (h2 : ¬ c → B) : if c then A else B := by
  by_cases h : c
  · rw [if_pos h]
    exact h1 h
  · rw [if_neg h]
    exact h2 h
theorem iteNS {c A B : Prop} [Decidable c] (hc : c) (h : B) : if (!decide c) = true then A else B := by
  rw [decide_eq_true hc]
  exact iteF h

noncomputable def Same (H H' : Hp) : Prop := ∀ b o, H b = some o → H' b = some o
theorem Same.refl (H : Hp) : Same H H := fun _ _ h => h
theorem Same.trans {H H1 H2 : Hp} (a : Same H H1) (b : Same H1 H2) : Same H H2 := fun c o h => b c o (a c o h)
theorem Same.seq {K : PySem.W.Frag} {H H' : Hp} {a : Addr} {xs : List V} (e : Same H H') (h : SqL K H a xs) : SqL K H' a xs := by
  rcases h with (h | ⟨o, h⟩) | h
  · exact .inl (.inl (e _ _ h))
  · exact .inl (.inr ⟨o, e _ _ h⟩)
  · exact .inr h

end L2

namespace FW
theorem p2 (n : Nat) : (0 : Int) < 2 ^ n := Int.pow_pos (by decide)
theorem p4 (n : Nat) : (0 : Int) < 4 ^ n := Int.pow_pos (by decide)
theorem p2s (n : Nat) : (2 : Int) ^ (n + 1) = 2 * 2 ^ n := by rw [Int.pow_succ, Int.mul_comm]
theorem p4s (n : Nat) : (4 : Int) ^ (n + 1) = 4 * 4 ^ n := by rw [Int.pow_succ, Int.mul_comm]
theorem p4e : ∀ n : Nat, (4 : Int) ^ n = 2 ^ n * 2 ^ n
  | 0 => rfl
  | n + 1 => by
    rw [p4s, p2s, p4e n]
    rw [Int.mul_assoc 2, Int.mul_left_comm (2 ^ n) 2, ← Int.mul_assoc 2 2]
    rfl
theorem p2mono {m n : Nat} (h : m ≤ n) : (2 : Int) ^ m ≤ 2 ^ n := by
  obtain ⟨k, rfl⟩ := Nat.exists_eq_add_of_le h
  induction k with
  | zero => exact Int.le_refl _
  | succ k ih =>
    have := ih (by omega)
    have e : (2 : Int) ^ (m + (k + 1)) = 2 * 2 ^ (m + k) := p2s (m + k)
    have := p2 (m + k)
    omega
theorem p4mono {m n : Nat} (h : m ≤ n) : (4 : Int) ^ m ≤ 4 ^ n := by
  obtain ⟨k, rfl⟩ := Nat.exists_eq_add_of_le h
  induction k with
  | zero => exact Int.le_refl _
  | succ k ih =>
    have := ih (by omega)
    have e : (4 : Int) ^ (m + (k + 1)) = 4 * 4 ^ (m + k) := p4s (m + k)
    have := p4 (m + k)
    omega
noncomputable def On (c : Int × Int) (s : Int) : Prop := 0 ≤ c.1 ∧ c.1 < s ∧ 0 ≤ c.2 ∧ c.2 < s
end FW

namespace FW
structure B4 where
  l : Int
  b : Int
  r : Int
  t : Int
noncomputable abbrev Bx := Option B4
structure Box (s : Int) (x : B4) : Prop where
  l0 : 0 ≤ x.l
  lr : x.l ≤ x.r
  r1 : x.r < s
  b0 : 0 ≤ x.b
  bt : x.b ≤ x.t
  t1 : x.t < s
noncomputable def Good (x : Bx) (s : Int) : Prop := ∀ y, x = some y → Box s y
noncomputable def ar : Bx → Int
  | none => 0
  | some x => (x.r - x.l + 1) * (x.t - x.b + 1)
noncomputable def mn (a b : Int) : Int := if b < a then b else a
noncomputable def mx (a b : Int) : Int := if b > a then b else a
theorem mn_le (a b : Int) : mn a b ≤ a := by unfold mn; split <;> omega
theorem mx_ge (a b : Int) : a ≤ mx a b := by unfold mx; split <;> omega
theorem good_none {s : Int} : Good none s := fun _ e => nomatch e
theorem Box.good {s : Int} {x : B4} (h : Box s x) : Good (some x) s := fun y e => by cases e; exact h
end FW

namespace L2
open PySem PySem.Spec PyProof.Rows
section
variable {X : Cx}
theorem op_mulB : OpR X (binaryOp .Mult) (rI (fun i j => IntMulOk i j) fun i j => .int (i * j)) := opI fun _ _ _ _ _ _ _ hc q => mul_int q hc
end
section
variable {prog : Program} {w : World} {A : Around} {E : Value → Shared → Prop} {s : Shared}
theorem min_pair {l : Addr} {a b : Int} {t u : Tok} {Q : Value → Shared → Prop} (hh : A.handled = none) (hT0 : s.heap.IsTuple l #[.int a t, .int b u])
    (h : ∀ h' tk, (∀ c o, s.heap.get? c = some o → h'.get? c = some o) → Q (if b < a then .int b u else .int a t) { s with heap := h', toks := tk }) :
    wpAny (model prog w) A (call (.builtin "min") [.ref l]) Q E s := by
  have hT : s.heap.IsTuple l (intItems #[(a, t), (b, u)]) := by simpa [intItems] using hT0
  have hlt : l < s.heap.objs.size := by obtain ⟨o, e, _⟩ := id hT0; exact Heap.lt_size e
  refine call_min_walk (wpAny_pyIter_tuple hT ?_)
  refine ⟨_, [_, l], [_], _, _, _, _, rfl, Walks.tuple (A := A.in1) hh _ l (Nat.ne_of_lt hlt) (intItems #[(a, t), (b, u)]),
    ⟨⟨_, Heap.get?_push_size _ rfl, rfl, rfl⟩, hT.push _⟩, fun c hc => ?_, by simp [intItems], CmpOf.ints_lt (numAt #[(a, t), (b, u)]) (fun _ _ => intItems_at), fun v h' tk hP hk => ?_⟩
  · show c < (s.heap.push _).objs.size
    rw [Heap.size_push]
    rcases List.mem_cons.mp hc with rfl | hc
    · exact Nat.lt_succ_self _
    · rcases List.mem_cons.mp hc with rfl | hc
      · exact Nat.lt_succ_of_lt hlt
      · cases hc
  · have hold : ∀ c o, s.heap.get? c = some o → h'.get? c = some o := fun c o e => by
      refine hk c o (fun hm => ?_) (Heap.get?_push_of_some _ e)
      rcases List.mem_cons.mp hm with e1 | hm
      · have := Heap.lt_size e; rw [e1] at this; exact Nat.lt_irrefl _ this
      · cases hm
    have := h h' tk hold
    have hv : v = if b < a then Value.int b u else Value.int a t := by
      have hP' : (intItems #[(a, t), (b, u)])[argBest (fun i j => decide (numAt #[(a, t), (b, u)] i < numAt #[(a, t), (b, u)] j)) 1]? = some v := by
        have hsz2 : (intItems #[(a, t), (b, u)]).size - 1 = 1 := by simp [intItems]
        rw [← hsz2]; exact hP
      by_cases hba : b < a
      · have e : argBest (fun i j => decide (numAt #[(a, t), (b, u)] i < numAt #[(a, t), (b, u)] j)) 1 = 1 := by simp [argBest, numAt, hba]
        rw [e] at hP'
        simpa [intItems, hba] using hP'.symm
      · have e : argBest (fun i j => decide (numAt #[(a, t), (b, u)] i < numAt #[(a, t), (b, u)] j)) 1 = 0 := by simp [argBest, numAt, hba]
        rw [e] at hP'
        simpa [intItems, hba] using hP'.symm
    rw [hv]; exact this
theorem max_pair {l : Addr} {a b : Int} {t u : Tok} {Q : Value → Shared → Prop} (hh : A.handled = none) (hT0 : s.heap.IsTuple l #[.int a t, .int b u])
    (h : ∀ h' tk, (∀ c o, s.heap.get? c = some o → h'.get? c = some o) → Q (if b > a then .int b u else .int a t) { s with heap := h', toks := tk }) :
    wpAny (model prog w) A (call (.builtin "max") [.ref l]) Q E s := by
  have hT : s.heap.IsTuple l (intItems #[(a, t), (b, u)]) := by simpa [intItems] using hT0
  have hlt : l < s.heap.objs.size := by obtain ⟨o, e, _⟩ := id hT0; exact Heap.lt_size e
  refine call_max_walk (wpAny_pyIter_tuple hT ?_)
  refine ⟨_, [_, l], [_], _, _, _, _, rfl, Walks.tuple (A := A.in1) hh _ l (Nat.ne_of_lt hlt) (intItems #[(a, t), (b, u)]),
    ⟨⟨_, Heap.get?_push_size _ rfl, rfl, rfl⟩, hT.push _⟩, fun c hc => ?_, by simp [intItems], CmpOf.ints_gt (numAt #[(a, t), (b, u)]) (fun _ _ => intItems_at), fun v h' tk hP hk => ?_⟩
  · show c < (s.heap.push _).objs.size
    rw [Heap.size_push]
    rcases List.mem_cons.mp hc with rfl | hc
    · exact Nat.lt_succ_self _
    · rcases List.mem_cons.mp hc with rfl | hc
      · exact Nat.lt_succ_of_lt hlt
      · cases hc
  · have hold : ∀ c o, s.heap.get? c = some o → h'.get? c = some o := fun c o e => by
      refine hk c o (fun hm => ?_) (Heap.get?_push_of_some _ e)
      rcases List.mem_cons.mp hm with e1 | hm
      · have := Heap.lt_size e; rw [e1] at this; exact Nat.lt_irrefl _ this
      · cases hm
    have := h h' tk hold
    have hv : v = if b > a then Value.int b u else Value.int a t := by
      have hP' : (intItems #[(a, t), (b, u)])[argBest (fun i j => decide (numAt #[(a, t), (b, u)] i > numAt #[(a, t), (b, u)] j)) 1]? = some v := by
        have hsz2 : (intItems #[(a, t), (b, u)]).size - 1 = 1 := by simp [intItems]
        rw [← hsz2]; exact hP
      by_cases hba : b > a
      · have e : argBest (fun i j => decide (numAt #[(a, t), (b, u)] i > numAt #[(a, t), (b, u)] j)) 1 = 1 := by simp [argBest, numAt, hba]
        rw [e] at hP'
        simpa [intItems, hba] using hP'.symm
      · have e : argBest (fun i j => decide (numAt #[(a, t), (b, u)] i > numAt #[(a, t), (b, u)] j)) 1 = 0 := by simp [argBest, numAt, hba]
        rw [e] at hP'
        simpa [intItems, hba] using hP'.symm
    rw [hv]; exact this
end
section
variable {X : Cx}
theorem pair_of {its : List Value} {i j : Int} (r : Vals [V.int i, V.int j] its) : ∃ t u, its = [.int i t, .int j u] := by
  cases r with
  | cons a b =>
    cases b with
    | cons c d =>
      cases d
      obtain ⟨t, rfl⟩ := a
      obtain ⟨u, rfl⟩ := c
      exact ⟨t, u, rfl⟩
theorem call_minP (hc : X.calm = true) : CallR X (.builtin "min") (fun xs H Q => ∃ a i j, xs = [.ref a] ∧ SqT X.K H a [.int i, .int j] ∧ Q (.int (if j < i then j else i)) H) := by
  intro pins s σ H xs us Q I r h
  obtain ⟨a, i, j, rfl, hS, q⟩ := h
  obtain ⟨u, rfl, e⟩ := vals1 r
  cases e
  obtain ⟨its, r1, p1, _⟩ := I.tuple hS
  obtain ⟨t, u, rfl⟩ := pair_of r1
  refine min_pair (I.ok.hd hc) (show s.heap.IsTuple a #[.int i t, .int j u] from p1) fun h' tk k => ⟨_, H, I.kept k, ?_, q⟩
  by_cases hj : j < i
  · rw [if_pos hj, if_pos hj]; exact ⟨_, rfl⟩
  · rw [if_neg hj, if_neg hj]; exact ⟨_, rfl⟩
theorem call_maxP (hc : X.calm = true) : CallR X (.builtin "max") (fun xs H Q => ∃ a i j, xs = [.ref a] ∧ SqT X.K H a [.int i, .int j] ∧ Q (.int (if j > i then j else i)) H) := by
  intro pins s σ H xs us Q I r h
  obtain ⟨a, i, j, rfl, hS, q⟩ := h
  obtain ⟨u, rfl, e⟩ := vals1 r
  cases e
  obtain ⟨its, r1, p1, _⟩ := I.tuple hS
  obtain ⟨t, u, rfl⟩ := pair_of r1
  refine max_pair (I.ok.hd hc) (show s.heap.IsTuple a #[.int i t, .int j u] from p1) fun h' tk k => ⟨_, H, I.kept k, ?_, q⟩
  by_cases hj : j > i
  · rw [if_pos hj, if_pos hj]; exact ⟨_, rfl⟩
  · rw [if_neg hj, if_neg hj]; exact ⟨_, rfl⟩
end
theorem lenS {n : Nat} {us : List Value} (h : us.length = n + 1) : ∃ a t, us = a :: t ∧ t.length = n := by
  cases us with
  | nil => exact nomatch h
  | cons a t => exact ⟨a, t, rfl, Nat.succ.inj h⟩
theorem len1e {us : List Value} (h : us.length = 1) : ∃ a, us = [a] := by
  obtain ⟨a, t, rfl, h'⟩ := lenS h
  exact ⟨a, congrArg _ (List.eq_nil_of_length_eq_zero h')⟩
theorem len2e {us : List Value} (h : us.length = 2) : ∃ a b, us = [a, b] := by
  obtain ⟨a, t, rfl, h'⟩ := lenS h
  obtain ⟨b, rfl⟩ := len1e h'
  exact ⟨a, b, rfl⟩
theorem len3e {us : List Value} (h : us.length = 3) : ∃ a b c, us = [a, b, c] := by
  obtain ⟨a, t, rfl, h'⟩ := lenS h
  obtain ⟨b, c, rfl⟩ := len2e h'
  exact ⟨a, b, c, rfl⟩
theorem len4e {us : List Value} (h : us.length = 4) : ∃ a b c d, us = [a, b, c, d] := by
  obtain ⟨a, t, rfl, h'⟩ := lenS h
  obtain ⟨b, c, d, rfl⟩ := len3e h'
  exact ⟨a, b, c, d, rfl⟩
theorem len5e {us : List Value} (h : us.length = 5) : ∃ a b c d e, us = [a, b, c, d, e] := by
  obtain ⟨a, t, rfl, h'⟩ := lenS h
  obtain ⟨b, c, d, e, rfl⟩ := len4e h'
  exact ⟨a, b, c, d, e, rfl⟩
noncomputable def DefAt (K : PySem.W.Frag) (mg : Str → Option Value) (x : Str) (st : Stmt) : Prop := ∃ f fd, Fun K x x st f fd ∧ mg x = some (.ref f)
theorem DefAt.of {K : PySem.W.Frag} {h : Heap} {mg : Str → Option Value} {x : Str} {st : Stmt} {f : Addr} {oc : Value} {od an : Option Addr} {osl : Array (Option Value)} {kV doc pm cdv ct : Value} (X : K.In h) (G : h.Ns mainGlobals mg)
    (a : PySem.W.nsIn K mainGlobals x = some (some (.ref f))) (l : K.lookup f = some ⟨oc, od, .func (PySem.W.fnOf x x (defArgs st) (defBody st) (defScope st) .none kV doc pm an cdv ct), osl⟩)
    (c : PySem.W.codeIn K cdv x = true) (k : PySem.W.keepIn K (.ref f) = true) : DefAt K mg x st := ⟨f, _, fun_mk l c k, PySem.W.mg_of X G a⟩
noncomputable def FdAt (K : PySem.W.Frag) (f : Addr) (fd : FuncData) : Prop := ∃ oc od osl, K.lookup f = some ⟨oc, od, .func fd, osl⟩
theorem Fun.fdAt {K : PySem.W.Frag} {x qual : Str} {st : Stmt} {f : Addr} {fd : FuncData} (F : Fun K x qual st f fd) : FdAt K f fd := by
  obtain ⟨oc, od, kV, doc, pm, an, cdv, ct, osl, e, lk, hcd⟩ := F.ex
  exact ⟨oc, od, osl, lk⟩
noncomputable def FnAt (P : Program) (w : World) (K : PySem.W.Frag) (mg : Str → Option Value) (base : Heap) (k : Nat) (x : Str) (ps : List Str) (sp : Sp) : Prop :=
  ∃ f fd, FnOk P w K mg base CX0 k f fd ps sp ∧ Binds K fd ps [] ∧ PySem.W.keepIn K (.ref f) = true ∧ mg x = some (.ref f) ∧ FdAt K f fd
section
variable {P : Program} {w : World} {K : PySem.W.Frag} {mg : Str → Option Value} {base : Heap}
theorem FnAt.mk {x : Str} {st : Stmt} {N ps : List Str} {k : Nat} {sp : Sp} (D : DefAt K mg x st) (S : FnScope N ps (defScope st))
    (h : ∀ (kV doc pm : Value) (an : Option Addr) (cdv ct : Value) (us : List Value), us.length = ps.length → bindArgs (PySem.W.fnOf x x (defArgs st) (defBody st) (defScope st) .none kV doc pm an cdv ct) ⟨us, []⟩ = pure (ps.zip us))
    (len : ∀ vs H Q E, sp vs H Q E → vs.length = ps.length)
    (hbody : ∀ (f : Addr) (cdv : Value) (A : Around) (outer : List Env) (s : Shared) (H : Hp) (vs : List V) (Q : VK) (E : XK), Room k (A.deeper (envOfC x (defScope st) s.heap.objs.size f cdv)) → sp vs H Q E →
      ∃ t, PSs (cxOf CX0 P w K mg base N x (defScope st) f cdv A outer s H E).nox (defBody st) t ∧ t { nx := fun _ H' => Q .non H', rt := Q } (start N vs) H) : FnAt P w K mg base (k + 1) x ps sp := by
  obtain ⟨f, fd, F, m⟩ := D
  exact ⟨f, fd, F.ok S len (hbody f), F.binds h, F.kp, m, F.fdAt⟩
end
section
variable {X : Cx} {k : Nat} {ps : List Str} {sp : Sp} {x : Str} {p pos : Pos} {e : Expr} {es : List Expr} {t : TA}
theorem pe_fn (F : FnAt X.prog X.w X.K X.mg X.base k x ps sp) (hr : Room k X.A) (hg : Gl X x) (ha : PA X (e :: es) t)
    (hdb : autoParam ((x == ("__debug__" : Str)) = false) L2.aD._auto_1) (he : autoParam (starEach (e :: es) X.env = (false, eval e X.env) :: starEach es X.env) L2.aR._auto_1) (hpl : autoParam ((backTo pos (starEach es X.env)).any (·.1) = false) L2.aR._auto_1) :
    PE X (.Call (.Name x p) (e :: es) [] pos) (tCall sp [] E0 t) := by
  obtain ⟨f, fd, F, b, kp, m, _⟩ := F
  exact pe_call F hr hg m kp b .nil pass0 ha (hdb := hdb) (he := he) (hpl := hpl)
end
theorem bits_of_lay {ns : List Int} (h : PySem.W.WData.layableAll [.list (ns.map .int)] = true) : ∀ n ∈ ns, Builtin.Int.intBits n ≤ 2 ^ 20 := fun n hn => by
  have h1 := PySem.W.layableW_arg h _ (List.mem_singleton.mpr rfl)
  have h2 := PySem.W.layableW_item h1 (.int n) (List.mem_map.mpr ⟨n, hn, rfl⟩)
  have h3 := (PySem.W.layableW_iff.mp h2).2.2
  simpa only [PySem.W.WData.weight, Builtin.Int.intBits] using h3
end L2
namespace Att
open PySem PySem.W PyProof.Rows PySem.Calls PySem.Spec
theorem attach_callB {l : OpenLaw} {n : Nat} {q : Program} {loose : List Str} {XP : (Str → Option Value) → Heap → Prop} {YP : World → Heap → Prop} {d : DefRec}
    (hn : l.most = some n) (hdf : d.params.defaults = [])
    (call : ∀ (w : World) (s₀ s₁ : Shared) (mg mb : Str → Option Value) (fa : Addr) (o : Obj) (pm cd doc : Value) (a : Addr) (vs : List Value) (ns : List Int),
      Ground q loose [] XP w s₀ mg mb s₁.heap → YP w s₁.heap →
      s₁.heap.get? fa = some o → o.data = .func (docDef d.name d.params d.body d.scope pm cd doc) → s₁.heap.CodeRec cd d.name → mg d.name = some (.ref fa) →
      s₁.heap.get? a = some { cls := .type "list", data := .seq vs.toArray } → IntsAre vs ns → ns.length ≤ n → s₁.gens = #[] → (∀ n ∈ ns, Builtin.Int.intBits n ≤ 2 ^ 20) →
      codeAny (model l.prog w) callerA (.call (.ref fa) ⟨[.ref a], []⟩) (fun r s' => r = .ok (.ret (.bool true)) ∧ OldK s₁.heap s'.heap ∧ s'.os = s₁.os ∧ AllBare s'.gens) s₁) :
    WalkO q loose XP YP l.row.toRowW d [] (fun f vs => PySem.call f vs) := by
  intro w s₀ s₁ mg mb G Y fa o pm cd doc dV kV ho hd hcd hD hmg hg args vals as hpre hlay hrd hwl hlo
  obtain rfl : dV = .none := Dflts.none hD hdf
  obtain rfl : kV = .none := Dflts.noKw hD
  obtain ⟨a, vs, ns, rfl, rfl, hobj, hints, hlen⟩ := script_of hn hpre hwl
  refine enter_call (codeAny_mono (call w s₀ s₁ mg mb fa o pm cd doc a vs ns G Y ho (fd_plain hd) hcd hmg hobj hints hlen hg (L2.bits_of_lay hlay)) fun r s' hq => ?_)
  obtain ⟨rfl, h2, h3, h4⟩ := hq
  exact ⟨.inl ⟨.bool true, .bool true, [], rfl, fun _ => rfl, .bool true, post_true l _, fun _ => ⟨List.Pairwise.nil, fun _ hm => (nomatch hm)⟩⟩, h2, h3, h4⟩
end Att
namespace L2
open PySem PySem.Spec PyProof.Rows
theorem Fun.bind1 {K : PySem.W.Frag} {x qual : Str} {st : Stmt} {f : Addr} {fd : FuncData} {y : Str} (F : Fun K x qual st f fd)
    (h : ∀ (kV doc pm : Value) (an : Option Addr) (cdv ct : Value) (u : Value), bindArgs (PySem.W.fnOf x qual (defArgs st) (defBody st) (defScope st) .none kV doc pm an cdv ct) ⟨[u], []⟩ = pure [(y, u)]) (s : Shared) (u : Value) : BindsTo s fd ⟨[u], []⟩ [(y, u)] := by
  obtain ⟨oc, od, kV, doc, pm, an, cdv, ct, osl, rfl, lk, hcd⟩ := F.ex
  exact .of_eq (h kV doc pm an cdv ct u)
theorem walk_ofB {l : PySem.W.OpenLaw} {k : Nat} {q : Program} {loose : List Str} {XP : (Str → Option Value) → Heap → Prop} {YP : World → Heap → Prop} {d : DefRec} {K : Params → PySem.W.Frag} {sp : PySem.W.Frag → Sp} {x : Str}
    (hn : l.most = some 63) (hdf : d.params.defaults = []) (hr : Room k callerA)
    (hY : ∀ (w : World) (h : Heap), YP w h → (K w.params).In h)
    (F : ∀ (w : World) (mg : Str → Option Value) (h : Heap), (K w.params).In h → h.Ns mainGlobals mg →
        ∃ f fd, mg d.name = some (.ref f) ∧ (∀ (s : Shared) (u : Value), BindsTo s fd ⟨[u], []⟩ [(x, u)]) ∧ ∀ base : Heap, (K w.params).In base → base.Ns mainGlobals mg → FnOk l.prog w (K w.params) mg base CX0 k f fd [x] (sp (K w.params)))
    (hsp : ∀ (K : PySem.W.Frag) (H : Hp) (a : Addr) (ns : List Int), ns.length ≤ 63 → (∀ n ∈ ns, Builtin.Int.intBits n ≤ 2 ^ 20) → Only H → SqL K H a (ns.map V.int) → sp K [.ref a] H (fun v _ => v = .bl true) fun _ _ _ => False) :
    PySem.W.WalkO q loose XP YP l.row.toRowW d [] (fun f vs => PySem.call f vs) := by
  refine Att.attach_callB hn hdf fun w s₀ s₁ mg mb fa o pm cd doc a vs ns G Y ho hd hcd hmg hobj hints hlen hg hbit => ?_
  have KX := hY w _ Y
  obtain ⟨f, fd, hm, hb, hF⟩ := F w mg _ KX G.T.g
  have e := hmg.symm.trans hm
  cases e
  exact law_call KX G.T.g G.T.b G.T.builtins G.T.nolimit hg hobj hints (Nat.le_trans hlen (by decide)) hr hF hb (fun H hO hS => hsp _ H a ns hlen hbit hO hS) fun H e s' z => z
end L2

namespace L2
open PySem PySem.Spec PyProof.Rows
theorem ObjOk.got {P : Program} {w : World} {H : Hp} {h : Heap} {a : Addr} {o : HO} (x : ObjOk P w H h a o) : ∃ ob, h.get? a = some ob := by
  cases o with
  | lst xs => obtain ⟨_, _, _, _, e⟩ := x; exact ⟨_, e⟩
  | tup xs => obtain ⟨_, _, _, ob, e, _⟩ := x; exact ⟨_, e⟩
  | dK kvs => obtain ⟨_, _, _, _, o, _, _, e, _⟩ := x; exact ⟨_, e⟩
  | dT kvs => obtain ⟨_, _, _, _, o, _, _, e, _⟩ := x; exact ⟨_, e⟩
  | set S n => obtain ⟨o, _, _, _, e, _⟩ := x; exact ⟨_, e⟩
  | ins C dx fs => obtain ⟨_, _, _, e, _⟩ := x; exact ⟨_, e⟩
  | own y => exact x
  | xd fs => obtain ⟨_, ⟨_, _, _, e, _⟩, _⟩ := x; exact ⟨_, e⟩
  | rng lo hi => obtain ⟨_, _, _, e⟩ := x; exact ⟨_, e⟩
  | frz ob u => obtain ⟨e, _⟩ := x; exact ⟨_, e⟩
  | tbl ps => exact ⟨_, (show h.get? a = some _ from x)⟩
  | met f y => exact ⟨_, (show h.get? a = some _ from x)⟩
  | ext φ => obtain ⟨_, e, _⟩ := x; exact e
structure FlyAt (P : Program) (w : World) (outer : List Env) (H : Hp) (s : Shared) (C : Addr) (H' : Hp) (B : Heap) (a : Addr) (s' : Shared) : Prop where
  fly : ∃ a0, Heap.FlyingW B outer a (.ref C) a0 s'.heap
  os : s'.os = s.os
  bare : AllBare s'.gens
  hok : HOk P w H' B
  keep : ∀ b o, s.heap.get? b = some o → H b = none → b ∉ frs outer → B.get? b = some o
  there : ∀ b o, s.heap.get? b = some o → b ∉ frs outer → ∃ o', B.get? b = some o'
  slot : ∀ b o, s.heap.get? b = some o → H b = none → b ∈ frs outer → ∃ sl, s'.heap.get? b = some { o with slots := sl }
  free : ∀ b o, s.heap.get? b = some o → H b = none → H' b = none
  tups : ∀ b xs, H b = some (.tup xs) → H' b = some (.tup xs)
  frzs : ∀ b o u, H b = some (.frz o u) → H' b = some (.frz o u)
  tbls : ∀ b ps, H b = some (.tbl ps) → ∃ more, H' b = some (.tbl (ps ++ more))
noncomputable def CX1 (P : Program) (w : World) : CXT := fun outer H s E e s' => ∃ (C : Addr) (H' : Hp) (B : Heap) (a : Addr), e = .ref a ∧ FlyAt P w outer H s C H' B a s' ∧ E (.ref C) none H'
theorem FlyAt.un {P : Program} {w : World} {outer : List Env} {H H' : Hp} {s s' : Shared} {C a : Addr} {B h'' : Heap} (F : FlyAt P w outer H s C H' B a s') (hf : ∀ b ∈ frs outer, H b = none) (st : B.StaysIn h'') (up : s'.heap.UpToSlots h'') :
    Un (frs outer) [] H H' s.heap h'' := by
  have slot : ∀ b o, s.heap.get? b = some o → H b = none → b ∈ frs outer → ∃ sl, h''.get? b = some { o with slots := sl } := fun b o e n hb => by
    obtain ⟨sl, e1⟩ := F.slot b o e n hb
    obtain ⟨a0, _, _, ff, _⟩ := F.fly
    obtain ⟨_, o', e2, nd⟩ := ff.mem hb
    rw [e1] at e2
    cases e2
    obtain ⟨sl', e3⟩ := up b _ e1 nd
    exact ⟨sl', e3⟩
  refine ⟨fun b o e n hb _ => st b o (F.keep b o e n hb), fun b o e n hb _ => slot b o e n hb, fun b o e n _ => F.free b o e n, fun b o e _ => ?_, F.tups, F.frzs, F.tbls⟩
  by_cases hb : b ∈ frs outer
  · obtain ⟨sl, e1⟩ := slot b o e (hf b hb) hb
    exact ⟨_, e1⟩
  · obtain ⟨o', e1⟩ := F.there b o e hb
    exact ⟨o', st b o' e1⟩
section
variable {X : Cx} {pins : List (Addr × Obj)} {σ : St} {H H' : Hp} {s s' : Shared} {C a : Addr} {B : Heap}
theorem Inv.flown (I : Inv X pins σ H s) (F : FlyAt X.prog X.w X.stack H s C H' B a s') {h'' : Heap} (st : B.StaysIn h'') (up : s'.heap.UpToSlots h'') : Inv X pins σ H' { s' with heap := h'' } := by
  have J := I.call (h' := h'') (g' := s'.gens) (d' := s'.drawn) (t' := s'.toks) (ch := []) (F.un I.stkFree st up) (F.hok.kept st) F.bare (fun b z => absurd z (by simp))
  obtain ⟨hh, g, d, t, os'⟩ := s'
  obtain rfl : os' = s.os := F.os
  exact J
end
section
variable {P : Program} {w : World} {K : PySem.W.Frag} {mg : Str → Option Value} {base : Heap} {N : List Str} {qual : Str} {scope : Scope} {f : Addr} {cd : Value} {A : Around} {outer : List Env} {s₀ : Shared} {H₀ : Hp} {E : XK}
theorem pass1 : Passes (CX1 P w) (cxOf (CX1 P w) P w K mg base N qual scope f cd A outer s₀ H₀ E) E := by
  intro pins σ H s e s' I h
  obtain ⟨C, H', B, a, rfl, F, q⟩ := h
  obtain ⟨a0, fl⟩ := id F.fly
  have nst : ∀ b o, s₀.heap.get? b = some o → b ∉ frs outer → b ∉ frs (cxOf (CX1 P w) P w K mg base N qual scope f cd A outer s₀ H₀ E).stack := fun b o e hb z => by
    rcases List.mem_cons.mp (I.stkSub b z) with r | r
    · exact absurd (Heap.lt_size e) (by rw [r]; exact Nat.lt_irrefl _)
    · exact hb r
  refine wpAny_leaves_onW I.ok.frames rfl fl fun h'' fl' up => ?_
  have J := I.flown F fl'.1 up
  refine ⟨C, H', B, a, rfl, ⟨⟨a0, fl'⟩, J.os, J.bare, F.hok, fun b o e n hb => ?_, fun b o e hb => ?_, fun b o e n hb => ?_, fun b o e n => ?_, J.base.tups, J.base.frzs, J.base.tbls⟩, q⟩
  · exact F.keep b o (I.base.keep b o e n hb (by intro z; exact nomatch z)) (I.base.free b o e n (by intro z; exact nomatch z)) (nst b o e hb)
  · obtain ⟨o', e1⟩ := I.base.there b o e (by intro z; exact nomatch z)
    exact F.there b o' e1 (nst b o e hb)
  · exact J.base.slot b o e n hb (by intro z; exact nomatch z)
  · exact J.base.free b o e n (by intro z; exact nomatch z)
noncomputable def Throws (X : Cx) (E : XK) : Prop := ∀ (pins : List (Addr × Obj)) (σ : St) (H : Hp) (s : Shared) (h' : Heap) (e C : Addr) (vs : List Value), Inv X pins σ H s → Heap.MadeExcOf s.heap h' e (.ref C) vs → E (.ref C) none H → X.xe (.ref e) { s with heap := h' }
theorem throw1 : Throws (cxOf (CX1 P w) P w K mg base N qual scope f cd A outer s₀ H₀ E) E := by
  intro pins σ H s h' e C vs I hx q
  have nst : ∀ b o, s₀.heap.get? b = some o → b ∉ frs outer → b ∉ frs (cxOf (CX1 P w) P w K mg base N qual scope f cd A outer s₀ H₀ E).stack := fun b o e hb z => by
    rcases List.mem_cons.mp (I.stkSub b z) with r | r
    · exact absurd (Heap.lt_size e) (by rw [r]; exact Nat.lt_irrefl _)
    · exact hb r
  have hin : ∀ env ∈ (cxOf (CX1 P w) P w K mg base N qual scope f cd A outer s₀ H₀ E).stack, ∀ b, env.frame = some b → b ∈ frs (cxOf (CX1 P w) P w K mg base N qual scope f cd A outer s₀ H₀ E).stack := fun env he b hb => List.mem_filterMap.mpr ⟨env, he, hb⟩
  refine wpAny_leaves_madeW (base := PySem.W.hideAll s.heap (frs (cxOf (CX1 P w) P w K mg base N qual scope f cd A outer s₀ H₀ E).stack)) (h := s.heap) I.ok.frames rfl (fun b o q => PySem.W.of_hideAll _ q) (PySem.W.funFrames_hide I.stack hin) hx fun h'' t fl _ _ up => ?_
  refine ⟨C, H, _, e, rfl, ⟨⟨_, fl⟩, I.os, I.bare, fun b o eb => ?_, fun b o eb n hb => ?_, fun b o eb hb => ?_, fun b o eb n hb => ?_, fun b o eb n => ?_, I.base.tups, I.base.frzs, I.base.tbls⟩, q⟩
  · refine (I.hok b o eb).stay (fun c u hc qc => PySem.W.hideAll_get _ qc fun z => ?_) (fun _ z => z) fun _ _ z => z
    have fr := I.stkFree c z
    rcases hc with rfl | hc
    · rw [fr] at eb; cases eb
    · rw [fr] at hc; cases hc
  · exact PySem.W.hideAll_get _ (I.base.keep b o eb n hb (by intro z; exact nomatch z)) (nst b o eb hb)
  · obtain ⟨o', e1⟩ := I.base.there b o eb (by intro z; exact nomatch z)
    exact ⟨o', PySem.W.hideAll_get _ e1 (nst b o eb hb)⟩
  · obtain ⟨sl, e1⟩ := I.base.slot b o eb n hb (by intro z; exact nomatch z)
    obtain ⟨_, o', e2, nd⟩ := I.funs.mem hb
    rw [e1] at e2
    cases e2
    obtain ⟨sl', e3⟩ := up b _ (hx.keeps b _ e1) nd
    exact ⟨sl', e3⟩
  · exact I.base.free b o eb n (by intro z; exact nomatch z)
end
structure Exc (K : PySem.W.Frag) (mg : Str → Option Value) (x : Str) (C : Addr) : Prop where
  nm : mg x = some (.ref C)
  ex : PySem.W.excIn K C [.type "ValueError", .type "Exception", .type "BaseException", .type "object"] "ValueError.__new__" = true
theorem exc_obj {K : PySem.W.Frag} {h : Heap} {C : Addr} {bmB : List Value} {newId : String} (X : K.In h) (q : PySem.W.excIn K C bmB newId = true) :
    ∃ bm N nm q bs hdct sn sub ab col dd k0 k1 k2 k3 k5 mN, h.get? C = some (excClassObj nm q C N bs bm hdct sn sub ab col dd k0 k1 k2 k3 k5 newId) ∧ h.Ns N mN ∧ mN "__init__" = none ∧ OwnTail h bmB bm := by
  unfold PySem.W.excIn at q
  split at q
  · rename_i dd cd sl ho
    split at q
    · rename_i C' bm k0 k1 k2 k3 n k5 hm hs
      simp only [Bool.and_eq_true, beq_iff_eq, Bool.not_eq_true'] at q
      obtain ⟨⟨⟨⟨⟨rfl, rfl⟩, hdel⟩, ht⟩, hok⟩, hni⟩ := q
      obtain ⟨nm, bs, mro, ns, qn, hd, sn, sub, ab, col, del⟩ := cd
      dsimp only at hm hdel hok hni
      subst hm hdel
      have hsl : sl = #[k0, k1, k2, k3, some (.builtin n), k5] := by
        obtain ⟨l⟩ := sl
        simp only at hs
        rw [hs]
      subst hsl
      exact ⟨bm, ns, nm, qn, bs, hd, sn, sub, ab, col, dd, k0, k1, k2, k3, k5, _, X _ _ ho, .of_isNs (PySem.W.isNs_of_in X hok), PySem.W.nsMap_none_of_in X hok hni, PySem.W.tail_of_in X ht⟩
    · cases q
  · cases q
noncomputable def tRaise (C : Addr) (E : XK) (ta : TA) : TS := fun _ σ H => ta σ H fun vs H1 => vs.length ≤ sizeLine ∧ E (.ref C) none H1
section
variable {X : Cx}
theorem ps_raise {x : Str} {C : Addr} {E : XK} {e₀ : Expr} {rest : List Expr} {ta : TA} {np cpos pos : Pos} (O : Exc X.K X.mg x C) (T : Throws X E) (hc : X.calm = true) (hg : Gl X x) (ha : PA X (e₀ :: rest) ta) (hd : autoParam ((x == ("__debug__" : Str)) = false) L2.aD._auto_1)
    (he : autoParam (starEach (e₀ :: rest) X.env = (false, eval e₀ X.env) :: starEach rest X.env) L2.aR._auto_1) (hpl : autoParam ((backTo cpos (starEach rest X.env)).any (·.1) = false) L2.aR._auto_1) :
    PS X (.Raise (some (.Call (.Name x np) (e₀ :: rest) [] cpos)) none pos) (tRaise C E ta) := by
  intro pins s σ H D I h
  obtain ⟨tl, N, nm, q, bs, hdct, sn, sub, ab, col, dd, k0, k1, k2, k3, k5, mN, hC, hN, hni, TL⟩ := exc_obj I.mod.kin O.ex
  refine wpAny_Raise_call_subT (C := C) (nm := nm) (q := q) (N := N) (bs := bs) (bm := tl) (hdct := hdct) (sn := sn) (sub := sub) (ab := ab) (col := col) (dd := dd) (k0 := k0) (k1 := k1) (k2 := k2) (k3 := k3) (k5 := k5)
    F.excBase_ValueError (mN := mN) (TL.hasType F.excBase_ValueError.hasBase) (I.ok.hd hc) (by rw [he]; show (false || (backTo cpos (starEach rest X.env)).any (·.1)) = false; rw [hpl]; rfl) hni (ld_glob I hg O.nm ⟨rfl, ?_⟩ hd)
  have ha' := ha cpos pins s σ H _ I h
  rw [he] at ha' ⊢
  exact Calls.evalArgs_plain (wpAny_mono ha' (fun vs s₂ ⟨us, H2, I2, r, z, q⟩ => ⟨rfl, by rw [← r.length]; exact z, I2.bk _ _ hC, hN.keeps I2.bk, TL.keeps I2.bk, fun h' e hx => T pins σ H2 s₂ h' e C _ I2 hx q⟩) fun _ _ y => y)
end
section
variable {P : Program} {w : World} {K : PySem.W.Frag} {mg : Str → Option Value} {base : Heap}
theorem FnOk.up {CX CX' : CXT} {k : Nat} {f : Addr} {fd : FuncData} {ps : List Str} {sp sp' : Sp} (F : FnOk P w K mg base CX k f fd ps sp)
    (h : ∀ vs H Q E, sp' vs H Q E → ∃ E', sp vs H Q E' ∧ ∀ outer s e s', CX outer H s E' e s' → CX' outer H s E e s') : FnOk P w K mg base CX' k f fd ps sp' := by
  refine ⟨fun vs H Q E q => ?_, fun A outer s H args us vs Q E hr he hb hv hs => ?_⟩
  · obtain ⟨E', q', _⟩ := h vs H Q E q
    exact F.len _ _ _ _ q'
  · obtain ⟨E', q', k'⟩ := h vs H Q E hs
    refine codeAny_mono (F.run A outer s H args us vs Q E' hr he hb hv q') fun r s' hq => ?_
    cases r with
    | error e => exact k' outer s e s' hq
    | ok fl => cases fl <;> exact hq
noncomputable def FnAt1 (P : Program) (w : World) (K : PySem.W.Frag) (mg : Str → Option Value) (base : Heap) (k : Nat) (x : Str) (ps : List Str) (sp : Sp) : Prop :=
  ∃ f fd, FnOk P w K mg base (CX1 P w) k f fd ps sp ∧ Binds K fd ps [] ∧ PySem.W.keepIn K (.ref f) = true ∧ mg x = some (.ref f) ∧ FdAt K f fd
theorem FnAt1.mk {x : Str} {st : Stmt} {N ps : List Str} {k : Nat} {sp : Sp} (D : DefAt K mg x st) (S : FnScope N ps (defScope st))
    (h : ∀ (kV doc pm : Value) (an : Option Addr) (cdv ct : Value) (us : List Value), us.length = ps.length → bindArgs (PySem.W.fnOf x x (defArgs st) (defBody st) (defScope st) .none kV doc pm an cdv ct) ⟨us, []⟩ = pure (ps.zip us))
    (len : ∀ vs H Q E, sp vs H Q E → vs.length = ps.length)
    (hbody : ∀ (f : Addr) (cdv : Value) (A : Around) (outer : List Env) (s : Shared) (H : Hp) (vs : List V) (Q : VK) (E : XK), Room k (A.deeper (envOfC x (defScope st) s.heap.objs.size f cdv)) → sp vs H Q E →
      ∃ t, PSs (cxOf (CX1 P w) P w K mg base N x (defScope st) f cdv A outer s H E) (defBody st) t ∧ t { nx := fun _ H' => Q .non H', rt := Q } (start N vs) H) : FnAt1 P w K mg base (k + 1) x ps sp := by
  obtain ⟨f, fd, F, m⟩ := D
  refine ⟨f, fd, ?_, F.binds h, F.kp, m, F.fdAt⟩
  obtain ⟨oc, od, kV, doc, pm, an, cdv, ct, osl, rfl, lk, hcd⟩ := F.ex
  exact fn_of lk hcd S len fun A outer s H vs Q E hr hsp => hbody f cdv A outer s H vs Q E hr hsp
theorem FnAt1.or {x : Str} {ps : List Str} {k : Nat} {sp sp' : Sp} (F : FnAt1 P w K mg base k x ps sp) (G : FnAt1 P w K mg base k x ps sp') : FnAt1 P w K mg base k x ps (fun vs H Q E => sp vs H Q E ∨ sp' vs H Q E) := by
  obtain ⟨f, fd, F, b, kp, m, d⟩ := F
  obtain ⟨f', fd', F', b', kp', m', d'⟩ := G
  have e : f = f' := by
    rw [m] at m'
    cases m'
    rfl
  subst e
  have e : fd = fd' := by
    obtain ⟨_, _, _, l⟩ := d
    obtain ⟨_, _, _, l'⟩ := d'
    rw [l] at l'
    cases l'
    rfl
  subst e
  exact ⟨f, fd, ⟨fun vs H Q E h => h.elim (F.len vs H Q E) (F'.len vs H Q E), fun A outer s H args us vs Q E hr he hb hv h => h.elim (F.run A outer s H args us vs Q E hr he hb hv) (F'.run A outer s H args us vs Q E hr he hb hv)⟩, b, kp, m, d⟩
theorem FnAt.to1 {x : Str} {ps : List Str} {k : Nat} {sp : Sp} (F : FnAt P w K mg base k x ps sp) (h : ∀ vs H Q E E', sp vs H Q E → sp vs H Q E') : FnAt1 P w K mg base k x ps sp := by
  obtain ⟨f, fd, F, r⟩ := F
  exact ⟨f, fd, F.up fun vs H Q E q => ⟨E, q, fun _ _ _ _ z => z.elim⟩, r⟩
end
section
variable {X : Cx} {k : Nat} {ps : List Str} {sp : Sp} {E : XK} {x : Str} {p pos : Pos} {e : Expr} {es : List Expr} {t : TA}
theorem pe_fn1 (F : FnAt1 X.prog X.w X.K X.mg X.base k x ps sp) (hx : Passes (CX1 X.prog X.w) X E) (hr : Room k X.A) (hg : Gl X x) (ha : PA X (e :: es) t)
    (hdb : autoParam ((x == ("__debug__" : Str)) = false) L2.aD._auto_1) (he : autoParam (starEach (e :: es) X.env = (false, eval e X.env) :: starEach es X.env) L2.aR._auto_1) (hpl : autoParam ((backTo pos (starEach es X.env)).any (·.1) = false) L2.aR._auto_1) :
    PE X (.Call (.Name x p) (e :: es) [] pos) (tCall sp [] E t) := by
  obtain ⟨f, fd, F, b, kp, m, _⟩ := F
  exact pe_call F hr hg m kp b .nil hx ha (hdb := hdb) (he := he) (hpl := hpl)
end
end L2

namespace L2
open PySem PySem.Spec PyProof.Rows
noncomputable def excO (a C : Addr) : HO := .ext fun h => ∃ o vs, h.get? a = some o ∧ o.cls = .ref C ∧ o.data = .fields vs
noncomputable abbrev Cx.pnd (X : Cx) (pn : List (Addr × Obj)) : Cx := { X with pn := pn }
theorem Cx.Ok.pnd {X : Cx} (ok : X.Ok) (pn : List (Addr × Obj)) : (X.pnd pn).Ok :=
  ⟨ok.mod, ok.kind, ok.glob, ok.blt, ok.above, ok.inj, ok.has, ok.cab, ok.hd, ok.frames, ok.stk, ok.exf, ok.bs, ok.bsz, ok.noex, ok.exfs, ok.funs, ok.frf⟩
theorem Cx.Ok.unpnd {X : Cx} {pn : List (Addr × Obj)} (ok : (X.pnd pn).Ok) : X.Ok :=
  ⟨ok.mod, ok.kind, ok.glob, ok.blt, ok.above, ok.inj, ok.has, ok.cab, ok.hd, ok.frames, ok.stk, ok.exf, ok.bs, ok.bsz, ok.noex, ok.exfs, ok.funs, ok.frf⟩
section
variable {X : Cx} {pins : List (Addr × Obj)} {σ : St} {H H' : Hp} {s s' : Shared} {C a : Addr} {B : Heap}
theorem Inv.pnd (I : Inv X pins σ H s) : Inv (X.pnd (X.pn ++ pins)) [] σ H s :=
  ⟨I.ok.pnd _, I.os, I.bare, I.base, I.loc, I.cell, I.free, I.freeC, fun p hp => I.pin p (by simpa using hp), I.hok, I.len⟩
theorem Inv.unpnd (I : Inv (X.pnd (X.pn ++ pins)) [] σ H s) : Inv X pins σ H s :=
  ⟨I.ok.unpnd, I.os, I.bare, I.base, I.loc, I.cell, I.free, I.freeC, fun p hp => I.pin p (by simpa using hp), I.hok, I.len⟩
theorem Inv.flownT (I : Inv X pins σ H s) (F : FlyAt X.prog X.w X.stack H s C H' B a s') {h'' : Heap} {o : HO} (st : B.StaysIn h'') (up : s'.heap.UpToSlots h'') (new : ObjOk X.prog X.w (upd H' a o) h'' a o) : Inv X pins σ (upd H' a o) { s' with heap := h'' } := by
  obtain ⟨a0, _, hBa, ff, oe, vs, T, oT, ts, he, _, hd, _⟩ := id F.fly
  have nfr : a ∉ frs X.stack := fun z => by
    obtain ⟨_, o', e2, nd⟩ := ff.mem z
    rw [he] at e2; cases e2
    exact nd vs hd
  have fresh : s.heap.get? a = none := by
    cases q : s.heap.get? a with
    | none => rfl
    | some u =>
      obtain ⟨o', e⟩ := F.there a u q nfr
      rw [hBa] at e; cases e
  have ne : ∀ b u, s.heap.get? b = some u → b ≠ a := fun b u e z => by rw [z, fresh] at e; cases e
  have neH : ∀ b u, H b = some u → b ≠ a := fun b u e => by
    obtain ⟨ob, e'⟩ := (I.hok b u e).got
    exact ne b ob e'
  have hna : H' a = none := by
    cases q : H' a with
    | none => rfl
    | some u =>
      obtain ⟨ob, e⟩ := (F.hok a u q).got
      rw [hBa] at e; cases e
  have u0 := F.un I.stkFree st up
  have u1 : Un (frs X.stack) [] H (upd H' a o) s.heap h'' :=
    ⟨u0.keep, u0.slot, fun b ob e n hx => by rw [upd_ne (ne b ob e)]; exact u0.free b ob e n hx, u0.there, fun b xs e => by rw [upd_ne (neH b _ e)]; exact u0.tups b xs e, fun b ob xs e => by rw [upd_ne (neH b _ e)]; exact u0.frzs b ob xs e,
      fun b ps e => by rw [upd_ne (neH b _ e)]; exact u0.tbls b ps e⟩
  have hok : HOk X.prog X.w (upd H' a o) h'' := fun b u e => by
    by_cases hb : b = a
    · subst hb; rw [upd_same] at e; cases e; exact new
    · rw [upd_ne hb] at e
      exact ((F.hok.kept st) b u e).stay (fun c v _ q => q) (fun c q => by rw [upd_ne (ne_of_none q hna)]; exact q) fun c xs q => by rw [upd_ne (ne_of_none q hna)]; exact q
  have J := I.call (h' := h'') (g' := s'.gens) (d' := s'.drawn) (t' := s'.toks) (ch := []) u1 hok F.bare (fun b z => absurd z (by simp))
  obtain ⟨hh, g, d, t, os'⟩ := s'
  obtain rfl : os' = s.os := F.os
  exact J
end
noncomputable def XE (X : Cx) (pn : List (Addr × Obj)) (XQ : St → Addr → Hp → Prop) (e : Value) (s' : Shared) : Prop :=
  ∃ (σ' : St) (H' : Hp) (C a : Addr) (B : Heap) (a0 : Value), e = .ref a ∧ Heap.FlyingW B X.stack a (.ref C) a0 s'.heap ∧ H' a = none ∧
    (∀ (h'' : Heap) (o : HO), B.StaysIn h'' → s'.heap.UpToSlots h'' → ObjOk X.prog X.w (upd H' a o) h'' a o → Inv (X.pnd pn) [] σ' (upd H' a o) { s' with heap := h'' }) ∧ XQ σ' C H'
noncomputable abbrev tryCx (X : Cx) (pn : List (Addr × Obj)) (XQ : St → Addr → Hp → Prop) : Cx := (X.pnd pn).wish (XE X pn XQ)
noncomputable abbrev hanCx (X : Cx) (a : Addr) : Cx := { X with A := X.A.mark (some (.ref a)), calm := false, xe := fun _ _ => False }
theorem Inv.han {X : Cx} {pins : List (Addr × Obj)} {σ : St} {H : Hp} {s : Shared} (I : Inv X pins σ H s) (a : Addr) : Inv (hanCx X a) pins σ H s :=
  ⟨⟨I.ok.mod, I.ok.kind, I.ok.glob, I.ok.blt, I.ok.above, I.ok.inj, I.ok.has, I.ok.cab, (fun z => by cases z), I.ok.frames, I.ok.stk, I.ok.exf, I.ok.bs, I.ok.bsz, I.ok.noex, I.ok.exfs, I.ok.funs, I.ok.frf⟩, I.os, I.bare, I.base, I.loc, I.cell, I.free, I.freeC, I.pin, I.hok, I.len⟩
theorem Inv.unhan {X : Cx} {a : Addr} {pins : List (Addr × Obj)} {σ : St} {H : Hp} {s : Shared} (I : Inv (hanCx X a) pins σ H s) (hd : X.calm = true → X.A.handled = none) : Inv X pins σ H s :=
  ⟨⟨I.ok.mod, I.ok.kind, I.ok.glob, I.ok.blt, I.ok.above, I.ok.inj, I.ok.has, I.ok.cab, hd, I.ok.frames, I.ok.stk, I.ok.exf, I.ok.bs, I.ok.bsz, I.ok.noex, I.ok.exfs, I.ok.funs, I.ok.frf⟩, I.os, I.bare, I.base, I.loc, I.cell, I.free, I.freeC, I.pin, I.hok, I.len⟩
theorem SP.unhan {X : Cx} {a : Addr} {pins : List (Addr × Obj)} {D : Ends} {f : Flow} {s' : Shared} (h : SP (hanCx X a) pins D f s') (hd : X.calm = true → X.A.handled = none) : SP X pins D f s' := by
  cases f with
  | next => obtain ⟨σ', H', I, q⟩ := h; exact ⟨σ', H', I.unhan hd, q⟩
  | brk => obtain ⟨σ', H', I, q⟩ := h; exact ⟨σ', H', I.unhan hd, q⟩
  | cont => obtain ⟨σ', H', I, q⟩ := h; exact ⟨σ', H', I.unhan hd, q⟩
  | ret u => obtain ⟨v, σ', H', I, r, q⟩ := h; exact ⟨v, σ', H', I.unhan hd, r, q⟩
theorem SP.unpnd {X : Cx} {pins : List (Addr × Obj)} {D : Ends} {f : Flow} {s' : Shared} (h : SP (X.pnd (X.pn ++ pins)) [] D f s') : SP X pins D f s' := by
  cases f with
  | next => obtain ⟨σ', H', I, q⟩ := h; exact ⟨σ', H', I.unpnd, q⟩
  | brk => obtain ⟨σ', H', I, q⟩ := h; exact ⟨σ', H', I.unpnd, q⟩
  | cont => obtain ⟨σ', H', I, q⟩ := h; exact ⟨σ', H', I.unpnd, q⟩
  | ret u => obtain ⟨v, σ', H', I, r, q⟩ := h; exact ⟨v, σ', H', I.unpnd, r, q⟩
noncomputable def tCallT (sp : Sp) (dvs : List V) (XQ : St → Addr → Hp → Prop) (t : TA) : TE := fun σ H Q => t σ H fun vs H1 => sp (vs ++ dvs) H1 Q fun Cv _ H2 => ∃ C, Cv = .ref C ∧ XQ σ C H2
section
variable {X : Cx} {pn : List (Addr × Obj)} {XQ : St → Addr → Hp → Prop} {k : Nat} {f : Addr} {fd : FuncData} {ps : List Str} {sp : Sp} {dvs : List V} {ds : List Value} {x : Str} {p pos : Pos} {e : Expr} {es : List Expr} {t : TA}
theorem run_fnT {pins : List (Addr × Obj)} {σ : St} {H : Hp} {s : Shared} {Q : VK} {us : List Value} {vs : List V} (F : FnOk X.prog X.w X.K X.mg X.base (CX1 X.prog X.w) k f fd ps sp) (hr : Room k X.A) (hb : Binds X.K fd ps ds) (hd : Vals dvs ds)
    (I : Inv (tryCx X pn XQ) pins σ H s) (r : Vals vs us) (h : sp (vs ++ dvs) H Q fun Cv _ H2 => ∃ C, Cv = .ref C ∧ XQ σ C H2) : wpAny (model X.prog X.w) X.A (call (.ref f) us) (EP (tryCx X pn XQ) pins σ Q) (tryCx X pn XQ).xe s := by
  have r2 : Vals (vs ++ dvs) (us ++ ds) := r.append hd
  have hl : (us ++ ds).length = ps.length := by rw [← r2.length]; exact F.len _ _ _ _ h
  refine wpAny_call (codeAny_mono (F.run X.A X.stack s H ⟨us, []⟩ (us ++ ds) (vs ++ dvs) Q _ hr I.env0 (hb s us I.kIn hl) r2 h) fun r s' hq => ?_)
  cases r with
  | error e =>
    obtain ⟨C, H', B, a, rfl, FA, C', ec, q⟩ := hq
    cases ec
    obtain ⟨a0, fl⟩ := id FA.fly
    have hna : H' a = none := by
      cases q : H' a with
      | none => rfl
      | some u =>
        obtain ⟨ob, e⟩ := (FA.hok a u q).got
        rw [fl.2.1] at e; cases e
    exact ⟨σ, H', C, a, B, a0, rfl, fl, hna, fun h'' o st up new => ((I.flownT FA st up new).pins_of (pins' := []) fun p hp => absurd hp (by simp)).unwish, q⟩
  | ok fl =>
    cases fl with
    | ret u => exact I.after hq
    | next => exact False.elim hq
    | brk => exact False.elim hq
    | cont => exact False.elim hq
theorem pe_callT (F : FnOk X.prog X.w X.K X.mg X.base (CX1 X.prog X.w) k f fd ps sp) (hr : Room k X.A) (hg : Gl X x) (hm : X.mg x = some (.ref f)) (hk : PySem.W.keepIn X.K (.ref f) = true) (hb : Binds X.K fd ps ds) (hd : Vals dvs ds)
    (ha : PA (tryCx X pn XQ) (e :: es) t) (hdb : autoParam ((x == ("__debug__" : Str)) = false) L2.aD._auto_1) (he : autoParam (starEach (e :: es) X.env = (false, eval e X.env) :: starEach es X.env) L2.aR._auto_1) (hpl : autoParam ((backTo pos (starEach es X.env)).any (·.1) = false) L2.aR._auto_1) :
    PE (tryCx X pn XQ) (.Call (.Name x p) (e :: es) [] pos) (tCallT sp dvs XQ t) := by
  intro pins s σ H Q I h
  refine wpAny_Call_Name_kw (ld_glob I hg hm ?_ hdb)
  refine PySem.W.callWith_K (h₀ := X.base) I.ok.mod.kin hk (thn (ha pos pins s σ H _ I h) fun us s1 ⟨vs, H1, I1, r, q⟩ => ⟨I1.kIn, ?_⟩) he hpl
  exact run_fnT F hr hb hd I1 r q
theorem pe_fnT (F : FnAt1 X.prog X.w X.K X.mg X.base k x ps sp) (hr : Room k X.A) (hg : Gl X x) (ha : PA (tryCx X pn XQ) (e :: es) t)
    (hdb : autoParam ((x == ("__debug__" : Str)) = false) L2.aD._auto_1) (he : autoParam (starEach (e :: es) X.env = (false, eval e X.env) :: starEach es X.env) L2.aR._auto_1) (hpl : autoParam ((backTo pos (starEach es X.env)).any (·.1) = false) L2.aR._auto_1) :
    PE (tryCx X pn XQ) (.Call (.Name x p) (e :: es) [] pos) (tCallT sp [] XQ t) := by
  obtain ⟨f, fd, F, b, kp, m, _⟩ := F
  exact pe_callT F hr hg m kp b .nil ha (hdb := hdb) (he := he) (hpl := hpl)
end
noncomputable def tTryAs (K : PySem.W.Frag) (W : Addr) (i : Nat) (tb : (St → Addr → Hp → Prop) → TS) (th : TS) : TS := fun D σ H => ∃ XQ : St → Addr → Hp → Prop,
  (∀ σ' C H' a, XQ σ' C H' → H' a = none → PySem.W.exmOne K (.ref C) (.ref W) = some true ∧
    th { D with nx := fun σ2 H2 => D.nx (σ2.set i none) H2, bk := fun σ2 H2 => D.bk (σ2.set i none) H2, ct := fun σ2 H2 => D.ct (σ2.set i none) H2 } (σ'.set i (some (.ref a))) (upd H' a (excO a C))) ∧ tb XQ D σ H
theorem excO_ok {P : Program} {w : World} {H : Hp} {h : Heap} {a C : Addr} {o : Obj} {vs : Array Value} (e : h.get? a = some o) (c : o.cls = .ref C) (d : o.data = .fields vs) : ObjOk P w H h a (excO a C) :=
  ⟨⟨o, vs, e, c, d⟩, ⟨o, e⟩, fun h1 h2 ⟨o1, v1, e1, r⟩ k => ⟨o1, v1, k o1 e1, r⟩⟩
section
variable {X : Cx} {x : Str} {W : Addr} {body suite : List Stmt} {b₀ : Stmt} {np hp pos : Pos} {tb : (St → Addr → Hp → Prop) → TS} {th : TS}
theorem name_gone {M : Model} {A : Around} {E : Value → Shared → Prop} {pins : List (Addr × Obj)} {σ : St} {H : Hp} {s : Shared} {i : Nat} {n : Str} {ps : Pos} {Q : Unit → Shared → Prop} (I : Inv X pins σ H s) (hN : X.N.Nodup) (hi : X.N[i]? = some n) (hk : X.env.scope.names.lookup n = some .local)
    (h : ∀ s', Inv X pins (σ.set i none) H s' → Q () s') : wpAny M A (do bindName X.env n .none; unbindBehindTheSuite X.env n ps) Q E s := by
  obtain ⟨m, hn, hl⟩ := id I.loc
  have hcls : (X.env.scope.kind == .class || (X.env.scope.kind == .module && X.env.locals != X.env.globals)) = false := by rw [I.ok.kind]; rfl
  refine wpAny_nameGoes_keeps hk hn hcls fun h' v hn' hs => h _ ?_
  have old : ∀ b o, X.s₀.heap.get? b = some o → b ≠ X.env.locals := fun b o e => Nat.ne_of_lt (Nat.lt_of_lt_of_le (Heap.lt_size e) I.ok.above)
  have hokk : HOk X.prog X.w H h' := fun b ob e => by
    refine (I.hok b ob e).stay (fun c w' hc q => (hs.2 c ?_).trans q) (fun _ q => q) fun _ _ q => q
    rintro rfl
    rcases hc with rfl | hc
    · rw [I.free] at e; cases e
    · rw [I.free] at hc; cases hc
  refine ⟨I.ok, I.os, I.bare, ⟨fun b o e nn hb hx => (hs.2 b (old b o e)).trans (I.base.keep b o e nn hb hx), fun b o e nn hb hx => ?_, I.base.free, fun b o e hx => ?_, I.base.tups, I.base.frzs, I.base.tbls⟩, ⟨_, hn', fun j y v' e1 e2 e3 => ?_⟩, fun y c e => ?_, I.free, I.freeC, fun p hp => ?_, hokk, by simpa using I.len⟩
  · obtain ⟨sl, e1⟩ := I.base.slot b o e nn hb hx
    exact ⟨sl, (hs.2 b (old b o e)).trans e1⟩
  · obtain ⟨o', e1⟩ := I.base.there b o e hx
    exact ⟨o', (hs.2 b (old b o e)).trans e1⟩
  · by_cases hj : j = i
    · subst hj
      have hiσ : j < σ.length := by rw [I.len]; exact (List.getElem?_eq_some_iff.mp hi).1
      rw [List.getElem?_set_self hiσ] at e2
      cases e2
    · rw [List.getElem?_set_ne (Ne.symm hj)] at e2
      obtain ⟨u', r', q⟩ := hl j y v' e1 e2 e3
      refine ⟨u', r', ?_⟩
      rcases q with ⟨k, e⟩ | ⟨k, c, e, z⟩
      · refine .inl ⟨k, ?_⟩
        have : y ≠ n := fun e => hj (nodup_ix hN e1 (e ▸ hi))
        simp [this, e]
      · exact .inr ⟨k, c, e, z.sameBut hs (I.cne y c e)⟩
  · obtain ⟨w', z⟩ := I.cell y c e
    exact ⟨w', z.sameBut hs (I.cne y c e)⟩
  · obtain ⟨e, nn, ne, nf, d⟩ := I.pin p hp
    exact ⟨(hs.2 p.1 ne).trans e, nn, ne, nf, d⟩
theorem ps_tryAs {n : Str} {i : Nat} (hc : X.calm = true) (hst : X.stack = X.env :: X.outer) (hfr : X.env.frame = some X.env.locals) (hN : X.N.Nodup) (hi : X.N[i]? = some n) (hk : X.env.scope.names.lookup n = some .local) (hg : Gl X x) (hm : X.mg x = some (.ref W))
    (hb : ∀ pn XQ, PSs (tryCx X pn XQ) body (tb XQ)) (hh : ∀ a, PSs (hanCx X a) (b₀ :: suite) th)
    (hd : autoParam ((x == ("__debug__" : Str)) = false) L2.aD._auto_1) : PS X (.Try body [.ExceptHandler (some (.Name x np)) (some n) (b₀ :: suite) hp] [] [] pos) (tTryAs X.K W i tb th) := by
  intro pins s σ H D I h
  obtain ⟨XQ, hX, hbody⟩ := h
  have hcalm := I.ok.hd
  refine wpAny_Try_except (wpAny_mono (hb (X.pn ++ pins) XQ [] s σ H D (I.pnd.wish _) hbody) (fun f s₁ q => ?_) fun e s₁ q => ?_)
  · have q1 := SP.unpnd (SP.unwish q)
    cases f with
    | next => exact wpAny_execs_nil q1
    | brk => exact q1
    | cont => exact q1
    | ret u => exact q1
  · obtain ⟨σ', H', C, a, B, a0, rfl, fl, hna, inv, xq⟩ := q
    obtain ⟨hex, hth⟩ := hX σ' C H' a xq hna
    rw [hst] at fl
    have hfrs : X.A.frames = some (X.env :: X.outer) := by rw [← hst]; exact I.ok.frames
    refine wpAny_looks_onW hfrs hfr fl fun h₄ hheld₄ hsm₄ => ?_
    refine wpAny_landsW hheld₄ fun h₅ hfl₅ hsm₅ => ?_
    have ok5 : ∀ {h : Heap} {l : List Env}, Heap.FlyingW B l a (.ref C) a0 h → ObjOk X.prog X.w (upd H' a (excO a C)) h a (excO a C) := fun {h l} z => by
      obtain ⟨_, _, _, oe, vs, _, _, _, he, hcl, hdt, _⟩ := z
      exact excO_ok he hcl.1 hdt
    have J5 := inv h₅ (excO a C) hfl₅.1 (hsm₄.trans hsm₅) (ok5 hfl₅)
    have I5 := J5.unpnd.han a
    refine wpAny_handleBy_cons (codeAny_handlers_test ?_) (by intro q; cases q)
    refine ld_glob (X := hanCx X a) I5 hg hm ?_ hd
    have LT : PySem.W.Looks (model X.prog X.w) h₅ (typeOf (.ref a)) (.ref C) := by
      obtain ⟨ob, hob, hobc⟩ := hfl₅.there
      exact hobc ▸ (PySem.W.Looks.ld hob).andThen .now
    refine PySem.W.exm_one (show X.K.In h₅ from I5.kIn) LT hex _ _ _ _ (fun _ _ e => e) ?_
    refine codeAny_handlers_suite_as (lands_againW hfl₅ fun h₆ hfl₆ hsm₆ => ?_)
    have J6 := inv h₆ (excO a C) hfl₆.1 ((hsm₄.trans hsm₅).trans hsm₆) (ok5 hfl₆)
    refine store_ok (X := hanCx X a) (J6.unpnd.han a) hN hi (.inl hk) (v := .ref a) rfl (fun s2 I2 => ?_) (.inr hk)
    refine wpAny_mono (hh a pins _ _ _ _ I2 hth) (fun f s₂ q => ?_) (fun _ _ z => z.elim)
    have q1 := SP.unhan q hcalm
    show wpAny _ _ (do bindName X.env n .none; unbindBehindTheSuite X.env n hp) _ _ _
    cases f with
    | next =>
      obtain ⟨σ3, H3, I3, q3⟩ := q1
      exact name_gone I3 hN hi hk fun s4 I4 => ⟨_, H3, I4, q3⟩
    | brk =>
      obtain ⟨σ3, H3, I3, q3⟩ := q1
      exact name_gone I3 hN hi hk fun s4 I4 => ⟨_, H3, I4, q3⟩
    | cont =>
      obtain ⟨σ3, H3, I3, q3⟩ := q1
      exact name_gone I3 hN hi hk fun s4 I4 => ⟨_, H3, I4, q3⟩
    | ret u =>
      obtain ⟨v, σ3, H3, I3, r3, q3⟩ := q1
      exact name_gone I3 hN hi hk fun s4 I4 => ⟨v, _, H3, I4, r3, q3⟩
end
end L2

namespace L2
open PySem PySem.Spec PyProof.Rows PySem.W PySem.Calls Builtin.Getset_descriptor
structure ExcAttr (K : PySem.W.Frag) (C : Addr) : Prop where
  ga : PySem.W.findIn K (.ref C) "__getattribute__" = some (some (.builtin "BaseException.__getattribute__"))
  gh : PySem.W.findIn K (.ref C) "__getattr__" = some none
  cl : PySem.W.findIn K (.ref C) "__class__" = some (some (.builtin "object.__class__"))
  gt : PySem.W.specialIn K (.builtin "object.__class__") "__get__" = some (some (.builtin "getset_descriptor.__get__"))
  tk : PySem.W.takesIn K (.builtin "object.__class__") = some true
  mo : PySem.W.mroIn K C (.type "object") = some true
  mb : PySem.W.mroIn K C (.type "BaseException") = some true
  cd : (PySem.W.clsIn K C).isSome = true
section
variable {prog : Program} {w : World} {A : Around} {E : Value → Shared → Prop} {s : Shared} {K : PySem.W.Frag} {x C : Addr}
theorem excx_call {tk : Tok} {R : Result → Shared → Prop} (Z : ExcAttr K C) (X : K.In s.heap) (L0 : ∀ M, PySem.W.Looks M s.heap (typeOf (.ref x)) (.ref C)) (h : R (.ok (.ret (.ref C))) s) :
    codeAny (model prog w) A (.call (.builtin "BaseException.__getattribute__") ⟨[.ref x, .str "__class__" tk], []⟩) R s := by
  obtain ⟨hh, g, d, t, os⟩ := s
  have L0' := L0 (model prog w)
  refine codeAny_call_builtin F.excAttr_ValueError.ga.plain F.entry_bexc_ga ?_
  have hk : builtinKind "BaseException.__getattribute__" = some .slot := by decide +kernel
  have hsplit : splitId "BaseException.__getattribute__" = some ("BaseException", "__getattribute__") := by decide +kernel
  have L1 := PySem.W.looks_mroIn (M := model prog w) X Z.mb
  simp only [checkBuiltinCall, hk, hsplit]
  have ha := F.args_bexc_ga (.ref x) (.str "__class__" tk)
  refine wpAny_bind ?_
  unfold isInstance
  refine wpAny_bind (L0'.at (L1.at ?_))
  simp only [Bool.not_true, Bool.false_eq_true, if_false]
  refine wpAny_of_eq (show _ = pure () from ha) ?_
  unfold Builtin.«object.__getattribute__»
  have L2 : Looks (model prog w) hh (Builtin.ObjectAttr.find (.ref x) (.ref C) "__class__") (.bind (.builtin "getset_descriptor.__get__") (.builtin "object.__class__")) := by
    have M1 := looks_findIn (M := model prog w) X Z.cl
    have M2 : Looks (model prog w) hh (Builtin.ObjectAttr.getOf (some (.builtin "object.__class__"))) (some (.builtin "getset_descriptor.__get__")) := looks_specialIn X Z.gt
    have M3 := looks_takesIn (M := model prog w) X Z.tk
    exact M1.andThen (M2.andThen ((show Looks (model prog w) hh (Builtin.ObjectAttr.dataDescriptor? (some (.builtin "object.__class__")) (some (.builtin "getset_descriptor.__get__"))) (some (.builtin "getset_descriptor.__get__", .builtin "object.__class__")) from M3.andThen .now).andThen (Looks.tag .now)))
  refine wpAny_bind (wpAny_pure ?_)
  refine wpAny_bind (wpAny_pure ?_)
  refine wpAny_bind (L0'.at (wpAny_bind (L2.at ?_)))
  show wpAny _ _ (Builtin.ObjectAttr.bindTo _ _ _ _) _ _ _
  unfold Builtin.ObjectAttr.bindTo
  dsimp only
  refine wpAny_bind (wpAny_holding (wpAny_call ?_))
  have L3 := looks_mroIn (M := model prog w) X Z.mo
  refine codeAny_call_builtin KF.slot_gs.plain KF.entry_gs (KF.slot_gs.check _ _ _ _ _ _ _ _ KF.type_class (KF.args_gs _ _ _) ?_)
  unfold Builtin.«getset_descriptor.__get__» descrGet
  rw [dga_obj]
  refine wpAny_bind (wpAny_pure ?_)
  unfold descrGetter descrCheckInstance descrNameAndClass isInstance
  simp only [KF.owner_class]
  repeat lk
  refine ⟨Code.quiet_builtin _ (by decide +kernel), codeAny_builtin KF.entry_class ?_⟩
  unfold Builtin.«object.__class__» shownTypeOf
  repeat lk
  exact h
theorem excx_class {Q : Option Value → Shared → Prop} (Z : ExcAttr K C) (X : K.In s.heap) (L0 : ∀ M, Looks M s.heap (typeOf (.ref x)) (.ref C)) (h : Q (some (.ref C)) { s with toks := s.toks + 1 }) :
    wpAny (model prog w) A (getAttr? (.ref x) "__class__") Q E s := by
  obtain ⟨hh, g, d, t, os⟩ := s
  have L0' := L0 (model prog w)
  have L1 := looks_findIn (M := model prog w) X Z.ga
  have L2 := looks_findIn (M := model prog w) X Z.gh
  unfold getAttr? getAttrBy? getAttrBy
  refine wpAny_bind (wpAny_mkText (wpAny_bind (wpAny_attempt (wpAny_holding (wpAny_bind (L0'.at (wpAny_bind (L1.at ?_))))))))
  have hx1 : (onTheHeap (Value.ref C) && Value.builtin "BaseException.__getattribute__" == Value.builtin "object.__getattribute__") = false := by
    rw [show (Value.builtin "BaseException.__getattribute__" == Value.builtin "object.__getattribute__") = false by decide +kernel]; rfl
  dsimp only
  rw [if_neg (by rw [hx1]; decide)]
  unfold getAttrByItsOwn hookBefore
  rw [if_pos (show onTheHeap (Value.ref C) = true from rfl)]
  refine wpAny_bind (L2.at ?_)
  unfold callGetattribute
  rw [if_neg (by decide)]
  unfold boundAndCalled
  refine wpAny_bind (wpAny_attempt (wpAny_holding ?_))
  have f3 := F.excAttr_ValueError.ga.bind (.ref x)
  refine wpAny_bind (wpAny_of_eq f3 ?_)
  dsimp only
  refine wpAny_call (excx_call Z (s := ⟨hh, g, d, t + 1, os⟩) X L0 ?_)
  exact wpAny_pure (wpAny_pure h)
theorem exc_type {h : Heap} (p : ∃ o vs, h.get? x = some o ∧ o.cls = .ref C ∧ o.data = .fields vs) (M : Model) : Looks M h (typeOf (.ref x)) (.ref C) := by
  obtain ⟨o, vs, e, c, _⟩ := p
  exact c ▸ (Looks.ld e).andThen .now
theorem kitx_exc (Z : ExcAttr K C) : KitX K (.ref x) (.ref C) (fun h => ∃ o vs, h.get? x = some o ∧ o.cls = .ref C ∧ o.data = .fields vs) where
  ty := fun M h _ p => exc_type p M
  it := fun _ _ X _ => by
    obtain ⟨cd, hc⟩ := Option.isSome_iff_exists.mp Z.cd
    unfold clsIn at hc
    split at hc
    · rename_i c' d' cd' sl' ho
      intro A' Q' E' s' k q
      unfold isType loadHead
      exact wpAny_bind (wpAny_loadPart (k _ _ (X _ _ ho)) (wpAny_pure q))
    · cases hc
  ne := fun h tp dd its n sl X htp => by
    obtain ⟨cd, hc⟩ := Option.isSome_iff_exists.mp Z.cd
    refine Bool.eq_false_iff.mpr fun q => ?_
    have e : C = tp := Value.ref.inj (beq_iff_eq.mp q)
    subst e
    unfold clsIn at hc
    split at hc
    · rename_i c' d' cd' sl' ho
      have z := (X _ _ ho).symm.trans htp
      cases z
    · cases hc
  ca := fun X p k => excx_class Z X (exc_type p) k
end
theorem call_isinstX {X : Cx} : CallR X (.builtin "isinstance") (fun xs H Q => ∃ a C c cv b, xs = [.ref a, c] ∧ RelV c cv ∧ H a = some (excO a C) ∧ ExcAttr X.K C ∧ kitOne X.K (.ref C) cv = some b ∧ Q (.bl b) H) := by
  intro pins s σ H xs us Q I r h
  obtain ⟨a, C, c, cv, b, rfl, rc, ha, Z, e, q⟩ := h
  cases r with
  | cons r1 r2 =>
    cases r2 with
    | cons r3 r4 =>
      cases r4
      cases (show _ = Value.ref a from r1)
      have ec : ∀ {v1 v2 : Value}, RelV c v1 → RelV c v2 → kitOne X.K (.ref C) v2 = some b → kitOne X.K (.ref C) v1 = some b := fun {v1 v2} k1 k2 k3 => by
        cases c with
        | ref p => cases k1; cases k2; exact k3
        | ty p => cases k1; cases k2; exact k3
        | non => cases k1; cases k2; exact k3
        | bl p => cases k1; cases k2; exact k3
        | int p => obtain ⟨_, rfl⟩ := k2; cases k3
        | str p => obtain ⟨_, rfl⟩ := k2; cases k3
        | byt p => obtain ⟨_, rfl⟩ := k2; cases k3
        | flt p => obtain ⟨_, rfl⟩ := k2; cases k3
      have p : ∃ o vs, s.heap.get? a = some o ∧ o.cls = .ref C ∧ o.data = .fields vs := (I.hok a _ ha).1
      exact kia_one (kitx_exc Z) I.kIn p (ec r3 rc e) (fun z => nomatch z) fun tk => ⟨.bl b, H, I.tok tk, rfl, q⟩
end L2

namespace L2
open PySem PySem.Spec PyProof.Rows
theorem compLoop_own {prog : Program} {w : World} {A : Around} {R : Result → Shared → Prop} {s : Shared} {elt target iter : Expr} {scope : Scope} {pos : Pos} {it acc : Value} {env : Env} (J : Nat → Shared → Prop)
    (turn : ∀ n s, J n s → wpAny (model prog w) A (pyNext it) (fun r s₁ => match r with
      | none => R (.ok .next) s₁
      | some v => wpAny (model prog w) A (letOwnedTupleGo target it v) (fun _ s₂ => wpAny (model prog w) A (assign target env v) (fun _ s₃ => wpAny (model prog w) A (eval elt env) (fun x s₄ =>
          wpAny (model prog w) A (call (.builtin "list.append") [acc, x]) (fun _ s₅ => ∃ m, m < n ∧ J m s₅) (fun _ _ => False) s₄)
          (fun _ _ => False) s₃) (fun _ _ => False) s₂) (fun _ _ => False) s₁) (fun _ _ => False) s) (n : Nat) (h : J n s) :
    codeAny (model prog w) A (.compLoop (.ListComp elt [⟨target, iter, [], 0⟩] scope pos) 0 it acc env) R s := by
  refine codeAny_loop rfl J (fun n s hI => ?_) n h
  show wpAny _ _ ((compTurn (.ListComp elt [⟨target, iter, [], 0⟩] scope pos) 0 it acc env).onRaise (fun x => do noteFrame x env; theTreesLotGoes x)) _ _ s
  refine wpAny_noted ?_
  rw [compTurn_list1]
  refine wpAny_bind (wpAny_standAt (wpAny_bind (wpAny_mono (turn n s hI) (fun r s₁ h₁ => ?_) fun _ _ z => z.elim)))
  cases r with
  | none => exact wpAny_pure h₁
  | some v =>
    refine wpAny_bind (wpAny_mono h₁ (fun _ s₂ h₂ => ?_) fun _ _ z => z.elim)
    refine wpAny_bind (wpAny_mono h₂ (fun _ s₃ h₃ => ?_) fun _ _ z => z.elim)
    refine wpAny_bind (wpAny_bind (wpAny_mono h₃ (fun x s₄ h₄ => ?_) fun _ _ z => z.elim))
    exact wpAny_bind (wpAny_mono h₄ (fun _ s₅ h₅ => wpAny_pure (wpAny_pure ⟨rfl, h₅⟩)) fun _ _ z => z.elim)
noncomputable def compCx (X : Cx) (scope : Scope) (cl : List (Str × Addr)) (bn : List Str) (s₀ : Shared) (H₀ : Hp) (ex : List Addr) : Cx where
  prog := X.prog
  w := X.w
  K := X.K
  mg := X.mg
  base := X.base
  A := X.A
  N := bn
  s₀ := s₀
  H₀ := H₀
  env := compEnvC scope cl s₀.heap.objs.size X.env
  outer := X.stack
  stack := X.stack
  ex := ex
  fn := fun _ => false
  calm := X.calm
  pn := []
  xe := fun _ _ => False
structure CompScope (X : Cx) (scope : Scope) (cl : List (Str × Addr)) (x : Str) (fr : List Str) (js : List Nat) : Prop where
  clos : closureFor scope X.env = pure cl
  cls : ∀ p ∈ cl, X.env.cells.lookup p.1 = some p.2
  nocell : ∀ y ∈ scope.names, y.2 ≠ .cell
  kind : scope.kind = .function
  names : ∀ y ∈ scope.names, y.2 = .local → scope.names.lookup y.1 = some .local
  xl : scope.names.lookup x = some .local
  free : ∀ y ∈ scope.names, y.2 = .free → ∃ c, cl.lookup y.1 = some c
  cap : ∀ (k : Nat) (y : Str), fr[k]? = some y → ∃ j, js[k]? = some j ∧ X.N[j]? = some y ∧ X.env.scope.names.lookup y = some .cell ∧ scope.names.lookup y = some .free ∧ y ≠ x
  len : fr.length = js.length
  nd : (x :: fr).Nodup
noncomputable def tComp (wi : TI) (js : List Nat) (te : TE) : TE := fun σ H Q => wi σ H fun J H1 => ∀ D, H1 D = none → ∃ (n : Nat) (Pv : Nat → Hp → Prop), Pv 0 (upd H1 D (.lst [])) ∧
  ∀ i H2, Pv i H2 → (J.stop i H2 ∧ Q (.ref D) H2) ∨ (i < n ∧ J.go i H2 ∧ ∀ v H3, J.yld i H2 v H3 → te (some v :: js.map fun k => (σ[k]?).join) H3 fun y H4 => ∃ ys, H4 D = some (.lst ys) ∧ ys.length < sizeLine ∧ Pv (i + 1) (upd H4 D (.lst (ys ++ [y]))))
theorem relabel_free {env : Env} : ∀ {names : List (Str × NameKind)} {y : Str} {k : NameKind}, (names.map fun (n, k) => if (k == NameKind.free && env.scope.kind == .function && env.kindOf n == some .cell) then (n, NameKind.cell) else (n, k)).lookup y = some k →
    names.lookup y = some k ∨ (k = .cell ∧ names.lookup y = some .free)
  | [], y, k, h => by simp at h
  | (n, k') :: r, y, k, h => by
    have ih := @relabel_free env r y k
    have h : List.lookup y ((if (k' == NameKind.free && env.scope.kind == .function && env.kindOf n == some .cell) = true then (n, NameKind.cell) else (n, k')) :: _) = some k := h
    by_cases hc : (k' == NameKind.free && env.scope.kind == .function && env.kindOf n == some .cell) = true
    · rw [if_pos hc] at h
      cases hy : y == n with
      | true =>
        simp only [List.lookup_cons, hy] at h ⊢
        cases h
        have : k' = .free := by
          have := (Bool.and_eq_true_iff.mp (Bool.and_eq_true_iff.mp hc).1).1
          simpa using this
        exact .inr ⟨rfl, by rw [this]⟩
      | false =>
        simp only [List.lookup_cons, hy] at h ⊢
        exact ih h
    · rw [if_neg hc] at h
      cases hy : y == n with
      | true => simp only [List.lookup_cons, hy] at h ⊢; exact .inl h
      | false => simp only [List.lookup_cons, hy] at h ⊢; exact ih h
section
variable {X : Cx}
theorem comp_inv {scope : Scope} {cl : List (Str × Addr)} {x : Str} {fr : List Str} {js : List Nat} (S : CompScope X scope cl x fr js) {pins : List (Addr × Obj)} {σ : St} {H : Hp} {s : Shared} {fp : List Addr} {h' : Heap} {t' : Nat}
    (I : Inv X pins σ H s) (hf : ∀ b ∈ fp, FpOk X pins H b) (hlt : ∀ b ∈ fp, b < s.heap.objs.size) (hns : ∃ m, h'.Ns s.heap.objs.size m) (hk : ∀ b o, s.heap.get? b = some o → h'.get? b = some o) :
    Inv (compCx X scope cl (x :: fr) s H fp) [] (none :: js.map fun k => (σ[k]?).join) H { s with heap := h', toks := t' } := by
  have clX : ∀ y c, cl.lookup y = some c → X.env.cells.lookup y = some c := fun y c e => S.cls (y, c) (PySem.mem_of_lookup e)
  have kfree : ∀ y k, (relabel scope X.env).names.lookup y = some k → (k = .cell ∨ k = .free) → ∃ c, cl.lookup y = some c := fun y k e hk => by
    rcases relabel_free e with e1 | ⟨_, e1⟩
    · rcases hk with rfl | rfl
      · exact absurd rfl (S.nocell _ (PySem.mem_of_lookup e1))
      · exact S.free _ (PySem.mem_of_lookup e1) rfl
    · exact S.free _ (PySem.mem_of_lookup e1) rfl
  obtain ⟨m, hn⟩ := hns
  have ok : (compCx X scope cl (x :: fr) s H fp).Ok := by
    refine ⟨I.ok.mod, S.kind, I.ok.glob, I.ok.blt, Nat.le_refl _, fun y z c h1 h2 => I.ok.inj y z c (clX y c h1) (clX z c h2), fun y hy => ?_, (fun y c h => by cases h), I.ok.hd, I.ok.frames, .inl rfl, fun b hb => ⟨Nat.ne_of_lt (hlt b hb), fun y c e => (hf b hb).2.2.2.2.1 y c (clX y c e)⟩, I.bs, Nat.le_trans I.ok.bsz I.sz, fun b o e hb => ?_, fun b hb hz => ?_, I.stack, I.stkFree⟩
    · rcases hy with hy | hy
      · exact kfree y _ hy (.inl rfl)
      · exact kfree y _ hy (.inr rfl)
    · rcases (hf b hb).2.2.2.1 with z | z
      · exact I.ok.noex b o e z
      · exact absurd (Nat.lt_of_lt_of_le (Heap.lt_size e) I.ok.bsz) (Nat.not_lt.mpr z)
    · rcases List.mem_cons.mp (I.stkSub b hz) with z | z
      · exact (hf b hb).2.1 z
      · exact (hf b hb).2.2.1 z
  refine ⟨ok, rfl, I.bare, Un.kept hk, ⟨m, hn, fun i y v e1 e2 e3 => ?_⟩, fun y c e => ?_, I.hok.fresh (Nat.le_refl _), fun y c e => I.freeC y c (clX y c e), fun p hp => absurd (show p ∈ ([] : List (Addr × Obj)) from hp) (by simp), I.hok.kept hk, by show (none :: js.map _).length = (x :: fr).length; simp [S.len]⟩
  · cases i with
    | zero =>
      have e2' : some (none : Option V) = some (some v) := e2
      cases e2'
    | succ k =>
      have e1' : fr[k]? = some y := e1
      obtain ⟨j, hj, hN, hc, hfree, _⟩ := S.cap k y e1'
      have e2' : (js.map fun k => (σ[k]?).join)[k]? = some (some v) := e2
      rw [List.getElem?_map, hj] at e2'
      have e4 : (σ[j]?).join = some v := Option.some.inj e2'
      have e5 : σ[j]? = some (some v) := by
        cases q : σ[j]? with
        | none => rw [q] at e4; cases e4
        | some z => rw [q] at e4; exact congrArg some e4
      obtain ⟨m', hn', hl⟩ := I.loc
      obtain ⟨u, r, l⟩ := hl j y v hN e5 (.inr (.inl hc))
      refine ⟨u, r, ?_⟩
      obtain ⟨c, hcl⟩ := S.free _ (PySem.mem_of_lookup hfree) rfl
      rcases l with ⟨k1, _⟩ | ⟨_, c', e6, o, ho, hd⟩
      · have k2 : some NameKind.cell = some NameKind.local := hc.symm.trans k1
        cases k2
      · have := clX y c hcl
        rw [e6] at this
        cases this
        refine .inr ⟨?_, _, hcl, o, hk _ _ ho, hd⟩
        have e3' : Vis (relabel scope X.env) y := e3
        rcases e3' with z | z | z
        · rcases relabel_free z with z1 | ⟨z1, _⟩
          · rw [hfree] at z1; cases z1
          · cases z1
        · exact .inl z
        · exact .inr z
  · obtain ⟨v, o, ho, hd⟩ := I.cell y c (clX y c e)
    exact ⟨v, o, hk _ _ ho, hd⟩
theorem pe_comp {elt iter : Expr} {x : Str} {px pos : Pos} {scope : Scope} {cl : List (Str × Addr)} {fr : List Str} {js : List Nat} {wi : TI} {te : TE} (hc : X.calm = true) (S : CompScope X scope cl x fr js) (hi : PI X (.Name x px) iter wi)
    (he : ∀ s₀ H₀ ex, PE (compCx X scope cl (x :: fr) s₀ H₀ ex) elt te) (hs : autoParam (∀ x, foldedSetIterable iter X.env x = pure x) L2.aI._auto_1) :
    PE X (.ListComp elt [⟨.Name x px, iter, [], 0⟩] scope pos) (tComp wi js te) := by
  intro pins s σ H Q I h
  rw [eval_ListComp]
  refine wpAny_comprehension_free (use := none) rfl hs S.clos S.kind S.names (thn (hi pins s σ H _ I h) fun v s1 h1 => thn h1 fun itv s2 h2 => ?_)
  obtain ⟨it, fp, tn, J, H2, rfl, I2, T, st2, f2, R⟩ := h2
  have hlt : ∀ b ∈ fp, b < s2.heap.objs.size := fun b hb => by
    obtain ⟨o, e, _⟩ := T.obj 0 _ st2 b hb
    exact Heap.lt_size e
  refine wpAny_newObj_type ?_
  have fD : H2 s2.heap.objs.size = none := I2.hok.fresh (Nat.le_refl _)
  have I3 : Inv X pins σ (upd H2 s2.heap.objs.size (.lst [])) { s2 with heap := s2.heap.push { cls := .type "list", data := .seq ([] : List Value).toArray } } :=
    I2.laid (t' := s2.toks) (fun b u e => Heap.get?_push_of_some _ e) (Nat.le_refl _) ⟨by decide, [], 0, .nil, Heap.get?_push_size _ rfl⟩
  obtain ⟨n, Pv, p0, turn⟩ := R _ fD
  generalize hs3 : ({ s2 with heap := s2.heap.push { cls := .type "list", data := .seq ([] : List Value).toArray } } : Shared) = s3 at I3
  have kp23 : ∀ b o, s2.heap.get? b = some o → s3.heap.get? b = some o := fun b o e => by rw [← hs3]; exact Heap.get?_push_of_some _ e
  have hlt3 : ∀ b ∈ fp, b < s3.heap.objs.size := fun b hb => by
    obtain ⟨o, e, _⟩ := T.obj 0 _ st2 b hb
    exact Heap.lt_size (kp23 b o e)
  have hf3 : ∀ b ∈ fp, FpOk X pins (upd H2 s2.heap.objs.size (.lst [])) b := fun b hb => ⟨by rw [upd_ne (Nat.ne_of_lt (hlt b hb))]; exact (f2 b hb).1, (f2 b hb).2⟩
  refine wpAny_newFunctionEnv S.nocell (by intro y hy; simp at hy) (fun h₁ hns₁ hsb₁ => ?_) S.kind
  have keeps : ∀ b o, s3.heap.get? b = some o → h₁.get? b = some o := fun b o e => hsb₁.extBut b o (Nat.ne_of_lt (Heap.lt_size e)) (Heap.get?_push_of_some _ e)
  have IY := comp_inv S (t' := s3.toks + ([] : List (Str × Value)).length) I3 hf3 hlt3 ⟨_, hns₁⟩ keeps
  have st4 : tn 0 h₁ := T.keep 0 _ _ st2 fun b hb o e => keeps b o (kp23 b o e)
  have stat : ∀ {H' : Hp}, (∀ b ∈ fp, H' b = none) → ∀ b ∈ fp, FpOk (compCx X scope cl (x :: fr) s3 (upd H2 s2.heap.objs.size (.lst [])) fp) [] H' b := fun {H'} hn b hb =>
    ⟨hn b hb, Nat.ne_of_lt (hlt3 b hb), IY.ok.exfs b hb, .inl hb, fun y c e => (IY.ok.exf b hb).2 y c e, fun p hp => absurd (show p ∈ ([] : List (Addr × Obj)) from hp) (by simp)⟩
  have nd : (compCx X scope cl (x :: fr) s3 (upd H2 s2.heap.objs.size (.lst [])) fp).N.Nodup := S.nd
  have hxl : (compCx X scope cl (x :: fr) s3 (upd H2 s2.heap.objs.size (.lst [])) fp).env.scope.names.lookup x = some .local := lookup_relabel_local S.xl
  have fin : ∀ {v0 : Option V} {H' : Hp} {s1 : Shared}, Inv (compCx X scope cl (x :: fr) s3 (upd H2 s2.heap.objs.size (.lst [])) fp) [] (v0 :: js.map fun k => (σ[k]?).join) H' s1 → Q (.ref s2.heap.objs.size) H' →
      ∃ m, s1.heap.Ns s3.heap.objs.size m ∧ ∀ h', Heap.SameBut s3.heap.objs.size s1.heap h' → EP X pins σ Q (.ref s2.heap.objs.size) { s1 with heap := h' } := fun {v0 H' s1} I1 q => by
    obtain ⟨m, hm, _⟩ := id I1.loc
    refine ⟨m, hm, fun h' hs => ?_⟩
    have ne : ∀ b o, s3.heap.get? b = some o → b ≠ s3.heap.objs.size := fun b o e => Nat.ne_of_lt (Heap.lt_size e)
    have u := I1.base
    have u1 : Un (frs X.stack) fp (upd H2 s2.heap.objs.size (.lst [])) H' s3.heap h' :=
      ⟨fun b o e nn hb hx => (hs.2 b (ne b o e)).trans (u.keep b o e nn hb hx), fun b o e nn hb hx => by
        obtain ⟨sl, e1⟩ := u.slot b o e nn hb hx
        exact ⟨sl, (hs.2 b (ne b o e)).trans e1⟩, u.free, fun b o e hx => by
        obtain ⟨o', e1⟩ := u.there b o e hx
        exact ⟨o', (hs.2 b (ne b o e)).trans e1⟩, u.tups, u.frzs, u.tbls⟩
    have hokk : HOk X.prog X.w H' h' := fun b ob e => by
      have fc : H' s3.heap.objs.size = none := I1.free
      refine (I1.hok b ob e).stay (fun c w' hcc qq => (hs.2 c ?_).trans qq) (fun _ qq => qq) fun _ _ qq => qq
      rintro rfl
      rcases hcc with rfl | hcc
      · rw [fc] at e; cases e
      · rw [fc] at hcc; cases hcc
    have J1 := I3.call (h' := h') (g' := s1.gens) (d' := s1.drawn) (t' := s1.toks) (ch := fp) u1 hokk I1.bare fun b hb => ⟨(hf3 b hb).2.2.2.1, (hf3 b hb).2.1, (hf3 b hb).2.2.2.2.1, (hf3 b hb).2.2.2.2.2⟩
    have eo : s1.os = s3.os := I1.os
    obtain ⟨hh, g, d, t, os'⟩ := s1
    obtain rfl : os' = s3.os := eo
    exact ⟨.ref s2.heap.objs.size, H', J1, rfl, q⟩
  have loop : ∀ s4 : Shared, s4 = { s3 with heap := h₁, toks := s3.toks + ([] : List (Str × Value)).length } →
      codeAny (model X.prog X.w) X.A (.compLoop (.ListComp elt [⟨.Name x px, iter, [], 0⟩] scope pos) 0 (.ref it) (.ref s2.heap.objs.size) (compEnvC scope cl s3.heap.objs.size X.env))
        (compPost (model X.prog X.w) X.A X.xe none (EP X pins σ Q) (.ref s2.heap.objs.size) s3.heap.objs.size) s4 := by
    rintro s4 rfl
    refine compLoop_own (fun k s' => ∃ (i : Nat) (v0 : Option V) (H' : Hp), Inv (compCx X scope cl (x :: fr) s3 (upd H2 s2.heap.objs.size (.lst [])) fp) [] (v0 :: js.map fun k => (σ[k]?).join) H' s' ∧ tn i s'.heap ∧ (∀ b ∈ fp, H' b = none) ∧ Pv i H' ∧ k = n - i) ?_ n
      ⟨0, none, _, IY, st4, fun b hb => (hf3 b hb).1, p0, rfl⟩
    rintro k s' ⟨i, v0, H', I', st', fr', pv, rfl⟩
    rcases turn i H' pv with ⟨stop, q⟩ | ⟨hin, go, step⟩
    · refine thn (T.done (compCx X scope cl (x :: fr) s3 (upd H2 s2.heap.objs.size (.lst [])) fp) rfl rfl rfl hc i [] s' _ H' _ I' (stat fr') st' stop) fun r s1 ⟨hr, I1⟩ => ?_
      subst hr
      exact fin I1 q
    · refine thn (T.item (compCx X scope cl (x :: fr) s3 (upd H2 s2.heap.objs.size (.lst [])) fp) rfl rfl rfl hc i [] s' _ H' _ I' (stat fr') st' go) fun r s1 ⟨u, hr, h4⟩ => ?_
      subst hr
      refine thn h4 fun _ s5 ⟨xv, H5, I5, r5, y5, st5, fr5⟩ => ?_
      have I5' := I5.pinned (stat fr5) (T.obj _ _ st5)
      refine thn (pg_name (X := compCx X scope cl (x :: fr) s3 (upd H2 s2.heap.objs.size (.lst [])) fp) (i := 0) nd rfl (Or.inl hxl) (.inr hxl) _ s5 _ H5 xv u (fun σ6 H6 => σ6 = (some xv :: js.map fun k => (σ[k]?).join) ∧ H6 = H5) I5' r5 ⟨rfl, rfl⟩) fun _ s6 ⟨σ6, H6, I6, e6, e6'⟩ => ?_
      subst e6 e6'
      refine thn (he s3 _ fp _ s6 _ _ _ I6 (step xv _ y5)) fun y s7 ⟨yv, H7, I7, r7, ys, hD, hz, pv'⟩ => ?_
      refine thn (mt_append (X := compCx X scope cl (x :: fr) s3 (upd H2 s2.heap.objs.size (.lst [])) fp) _ s7 _ H7 (.ref s2.heap.objs.size) [yv] (.ref s2.heap.objs.size) [y] (fun _ H8 => H8 = upd H7 s2.heap.objs.size (.lst (ys ++ [yv]))) I7 rfl (.cons r7 .nil)
        ⟨s2.heap.objs.size, ys, yv, rfl, rfl, hD, hz, rfl⟩) fun _ s8 ⟨_, H8, I8, _, e8⟩ => ?_
      subst e8
      refine ⟨n - (i + 1), by omega, i + 1, some xv, _, I8.unpinned, T.keep _ _ _ st5 fun b hb o e => (I8.pin (b, o) (List.mem_append_right _ (List.mem_append_right _ (mem_pinsAt hb e)))).1, fun b hb => ?_, pv', rfl⟩
      obtain ⟨o, e, d⟩ := T.obj _ _ st5 b hb
      exact (I8.pin (b, o) (List.mem_append_right _ (List.mem_append_right _ (mem_pinsAt hb e)))).2.1

  exact codeAny_compStart_list (loop _ rfl) (T.self _ 0 _ _ _ st4 (loop _ rfl))
end
end L2

namespace L2
open PySem PySem.Spec PyProof.Rows
theorem op_fdivL {X : Cx} : OpR X (binaryOp .FloorDiv) (rI (fun _ j => 0 < j ∧ j < 2 ^ 200) fun i j => .int (i / j)) := opI fun i j _ _ _ _ _ hc q => by
  have h1 : (0 : Int) < j := hc.1
  have h2 : j < 2 ^ 200 := hc.2
  refine floordiv_int (by omega) (by rw [Int.fdiv_eq_ediv_of_nonneg i (by omega)]; exact q) (.inl (PyProof.noPylong_of_log2 ?_))
  have h3 : j.natAbs < 2 ^ 200 := by omega
  have h4 := (Nat.log2_lt (by omega)).mpr h3
  omega
section
variable {X : Cx}
theorem bools_at {its : List Value} {bs : List Bool} (r : Vals (bs.map V.bl) its) {i : Nat} {v : Value} (e : its.toArray[i]? = some v) : v = .bool (bs.getD i true) := by
  have hl := r.length
  rw [List.length_map] at hl
  have hi : i < its.length := by
    have := (Array.getElem?_eq_some_iff.mp e).1
    simpa using this
  obtain ⟨u, e1, e2⟩ := r.get (i := i) (x := V.bl bs[i]) (by rw [List.getElem?_map, List.getElem?_eq_getElem (by omega)]; rfl)
  have e3 : its[i]? = some v := by simpa using e
  rw [e1] at e3
  cases e3
  rw [List.getD_eq_getElem?_getD, List.getElem?_eq_getElem (by omega)]
  exact e2
theorem call_sortedL : CallR X (.builtin "sorted") (fun xs H Q => ∃ (p : Addr) (ns : List Int), xs = [.ref p] ∧ SqL X.K H p (ns.map V.int) ∧ ns.length < 64 ∧ ∀ (D : Addr) (ms : List Int), H D = none → ms.Perm ns → ms.Pairwise (· ≤ ·) → Q (.ref D) (upd H D (.lst (ms.map V.int)))) := by
  intro pins s σ H xs us Q I r h
  obtain ⟨p, ns, rfl, hS, h64, q⟩ := h
  obtain ⟨u, rfl, e⟩ := vals1 r
  cases e
  obtain ⟨its, rv, p1, hz⟩ := I.list hS
  have hl := rv.length
  rw [List.length_map] at hl
  refine sorted_ints p1.isList (intsAre_of rv) (by omega) fun out ms a1 a2 a3 => ?_
  obtain ⟨e, he⟩ := sortedAll_at s.heap its out
  have hn : H (s.heap.objs.size + 1) = none := I.hok.fresh (Nat.le_succ _)
  have hm := a2.length_eq
  refine ⟨.ref _, _, I.laid (t' := s.toks) (o := .lst (ms.map V.int)) (fun b u e => sortedAll_old e) (Nat.le_succ _) ?_, rfl, q _ ms hn a2 a3⟩
  refine ⟨by rw [List.length_map]; exact Nat.le_of_lt (Nat.lt_of_lt_of_le (by omega : ms.length < 64) (by decide)), out.toList, e, vals_ints a1, ?_⟩
  exact he
theorem all_getB (ns ms : List Bool) : ((List.range (min ns.length ms.length)).all (fun j => decide (ns[j]? = ms[j]?)) && ns.length == ms.length) = decide (ns = ms) := by
  rw [Bool.eq_iff_iff]
  simp only [Bool.and_eq_true, List.all_eq_true, List.mem_range, decide_eq_true_eq, beq_iff_eq]
  constructor
  · rintro ⟨h1, h2⟩
    refine List.ext_getElem? fun j => ?_
    by_cases hj : j < ns.length
    · exact h1 j (by omega)
    · rw [List.getElem?_eq_none (by omega), List.getElem?_eq_none (by omega)]
  · rintro rfl
    exact ⟨fun _ _ => rfl, rfl⟩
noncomputable def rNeL (K : PySem.W.Frag) : R2 := fun x y H Q => ∃ (a b : Addr) (ns ms : List Bool), x = .ref a ∧ y = .ref b ∧ SqL K H a (ns.map V.bl) ∧ SqL K H b (ms.map V.bl) ∧ Q (.bl (!decide (ns = ms))) H
theorem op_neL (hu : X.A.units < cLine) : OpR X (compareOp .NotEq) (rNeL X.K) := by
  intro pins s σ H x y v u Q I rx ry h
  obtain ⟨a, b, ns, ms, rfl, rfl, ha, hb, q⟩ := h
  cases rx
  cases ry
  obtain ⟨its, r1, p1, _⟩ := I.list ha
  obtain ⟨its2, r2, p2, _⟩ := I.list hb
  have l1 := r1.length
  have l2 := r2.length
  rw [List.length_map] at l1 l2
  by_cases hz : ns.length = ms.length
  · have e := all_getB ns ms
    rw [hz, Nat.min_self, beq_self_eq_true, Bool.and_true] at e
    refine SeqAt.RcNeAt.lists (e := fun j => decide (ns[j]? = ms[j]?)) p1.isList p2.isList (by rw [List.size_toArray, List.size_toArray, ← l1, ← l2, hz]) hu (fun j h1 h2 => ?_) _ _ _ _ ?_
    · have k1 : j < ns.length := by simp at h1; omega
      have k2 : j < ms.length := by simp at h2; omega
      rw [bools_at r1 (i := j) (Array.getElem?_eq_getElem h1), bools_at r2 (i := j) (Array.getElem?_eq_getElem h2)]
      have e : decide (ns[j]? = ms[j]?) = (ns.getD j true == ms.getD j true) := by
        rw [List.getD_eq_getElem?_getD, List.getD_eq_getElem?_getD, List.getElem?_eq_getElem k1, List.getElem?_eq_getElem k2, Bool.eq_iff_iff]
        simp
      rw [e]
      exact SeqAt.EqAt.bool_bool _ _
    · refine fin_bl I q ?_
      rw [List.size_toArray, ← l1, hz, e]
  · refine SeqAt.RcNeAt.lists_lengths p1.isList p2.isList (by rw [List.size_toArray, List.size_toArray, ← l1, ← l2]; simpa using hz) hu _ _ _ _ (fin_bl I q ?_)
    rw [decide_eq_false (fun e => hz (by rw [e]))]
    rfl
end
end L2

namespace L2
open PySem PySem.Spec PyProof.Rows
end L2

namespace L2
open PySem PySem.Spec PyProof.Rows
noncomputable def DefAtD (K : PySem.W.Frag) (mg : Str → Option Value) (x : Str) (st : Stmt) (dV : Value) : Prop :=
  ∃ (f : Addr) (oc : Value) (od : Option Addr) (kV doc pm : Value) (an : Option Addr) (cdv ct : Value) (osl : Array (Option Value)),
    K.lookup f = some ⟨oc, od, .func (PySem.W.fnOf x x (defArgs st) (defBody st) (defScope st) dV kV doc pm an cdv ct), osl⟩ ∧ PySem.W.codeIn K cdv x = true ∧ PySem.W.keepIn K (.ref f) = true ∧ mg x = some (.ref f)
theorem DefAtD.of {K : PySem.W.Frag} {h : Heap} {mg : Str → Option Value} {x : Str} {st : Stmt} {f : Addr} {oc : Value} {od an : Option Addr} {osl : Array (Option Value)} {dV kV doc pm cdv ct : Value} (X : K.In h) (G : h.Ns mainGlobals mg)
    (a : PySem.W.nsIn K mainGlobals x = some (some (.ref f))) (l : K.lookup f = some ⟨oc, od, .func (PySem.W.fnOf x x (defArgs st) (defBody st) (defScope st) dV kV doc pm an cdv ct), osl⟩)
    (c : PySem.W.codeIn K cdv x = true) (k : PySem.W.keepIn K (.ref f) = true) : DefAtD K mg x st dV := ⟨f, oc, od, kV, doc, pm, an, cdv, ct, osl, l, c, k, PySem.W.mg_of X G a⟩
theorem DefAtD.ofInt {K : PySem.W.Frag} {h : Heap} {mg : Str → Option Value} {x : Str} {st : Stmt} {f : Addr} {oc : Value} {od an : Option Addr} {osl : Array (Option Value)} {kV doc pm cdv ct : Value} {T : Addr} {o : Obj} {v : Int} {t : Tok} {n : Nat} (X : K.In h) (G : h.Ns mainGlobals mg)
    (a : PySem.W.nsIn K mainGlobals x = some (some (.ref f))) (l : K.lookup f = some ⟨oc, od, .func (PySem.W.fnOf x x (defArgs st) (defBody st) (defScope st) (.ref T) kV doc pm an cdv ct), osl⟩)
    (c : PySem.W.codeIn K cdv x = true) (k : PySem.W.keepIn K (.ref f) = true) (ho : K.lookup T = some o) (hs : o.data = .seq #[.int v t] n) : ∃ T o t n, DefAtD K mg x st (.ref T) ∧ K.lookup T = some o ∧ o.data = .seq #[.int v t] n :=
  ⟨T, o, t, n, .of X G a l c k, ho, hs⟩
section
variable {P : Program} {w : World} {K : PySem.W.Frag} {mg : Str → Option Value} {base : Heap}
theorem FnAt1.mkD {x : Str} {st : Stmt} {N ps : List Str} {k : Nat} {sp : Sp} {T : Addr} {o : Obj} {items : Array Value} {n : Nat} (D : DefAtD K mg x st (.ref T)) (ho : K.lookup T = some o) (hs : o.data = .seq items n) (S : FnScope N ps (defScope st))
    (h : ∀ (kV doc pm : Value) (an : Option Addr) (cdv ct : Value) (us : List Value), us.length = ps.length → ∃ k : Option (Array Value) → Sem (List (Str × Value)),
      bindArgs (PySem.W.fnOf x x (defArgs st) (defBody st) (defScope st) (.ref T) kV doc pm an cdv ct) ⟨us, []⟩ = seqItems? (.ref T) >>= k ∧ k (some items) = pure (ps.zip us))
    (len : ∀ vs H Q E, sp vs H Q E → vs.length = ps.length)
    (hbody : ∀ (f : Addr) (cdv : Value) (A : Around) (outer : List Env) (s : Shared) (H : Hp) (vs : List V) (Q : VK) (E : XK), Room k (A.deeper (envOfC x (defScope st) s.heap.objs.size f cdv)) → sp vs H Q E →
      ∃ t, PSs (cxOf (CX1 P w) P w K mg base N x (defScope st) f cdv A outer s H E) (defBody st) t ∧ t { nx := fun _ H' => Q .non H', rt := Q } (start N vs) H) : FnAt1 P w K mg base (k + 1) x ps sp := by
  obtain ⟨f, oc, od, kV, doc, pm, an, cdv, ct, osl, lk, hcd, kp, m⟩ := D
  refine ⟨f, _, ?_, fun s us KX hl => ?_, kp, m, oc, od, osl, lk⟩
  rotate_left
  · rw [List.append_nil] at hl ⊢
    obtain ⟨k, h1, h2⟩ := h kV doc pm an cdv ct us hl
    exact BindsTo.of_defaults rfl (KX _ _ ho) hs h1 h2
  exact fn_of lk hcd S len fun A outer s H vs Q E hr hsp => hbody f cdv A outer s H vs Q E hr hsp
end
section
variable {X : Cx} {pn : List (Addr × Obj)} {XQ : St → Addr → Hp → Prop} {k : Nat} {ps : List Str} {sp : Sp} {dvs : List V} {ds : List Value} {x : Str} {p pos : Pos} {e : Expr} {es : List Expr} {t : TA}
end
end L2

namespace L2
open PySem PySem.Spec PyProof.Rows
noncomputable def tMidE (t : TE) : TE := fun σ H Q => ∃ N : VK, t σ H N ∧ ∀ v H', N v H' → Q v H'
theorem pe_mid {X : Cx} {e : Expr} {t : TE} (h : PE X e t) : PE X e (tMidE t) := by
  intro pins s σ H Q I hw
  obtain ⟨N, h1, h2⟩ := hw
  refine wpAny_mono (h pins s σ H _ I h1) (fun u s' q => ?_) (fun _ _ z => z)
  obtain ⟨v, H', I', r, q'⟩ := q
  exact ⟨v, H', I', r, h2 _ _ q'⟩
theorem isSome_of {α : Type} {o : Option α} {v : α} (h : o = some v) : o.isSome = true := by rw [h]; rfl
end L2

namespace L2
open PySem PySem.Spec PyProof.Rows
section
variable {X : Cx}
theorem PE.imp {e : Expr} {t t' : TE} (h : PE X e t) (k : ∀ σ H Q, t' σ H Q → t σ H Q) : PE X e t' := fun pins s σ H Q I hw => h pins s σ H Q I (k σ H Q hw)
theorem OpR.imp {f : Value → Value → Sem Value} {r r' : R2} (h : OpR X f r) (k : ∀ x y H Q, r' x y H Q → r x y H Q) : OpR X f r' := fun pins s σ H x y v u Q I rx ry hw => h pins s σ H x y v u Q I rx ry (k x y H Q hw)
noncomputable def mVar (i : Nat) : TE := fun σ H Q => match σ[i]? with | some (some v) => Q v H | _ => False
theorem mVar_t (i : Nat) (σ : St) (H : Hp) (Q : VK) (h : mVar i σ H Q) : tVar i σ H Q := by
  unfold mVar at h
  split at h
  · rename_i v e; exact ⟨v, e, h⟩
  · exact h.elim
theorem pw (i : Nat) {x : Str} {pos : Pos} (hN : autoParam (X.N[i]? = some x) L2.aR._auto_1) (hv : Vis X.env.scope x := by first | exact Or.inl rfl | exact Or.inr (Or.inl rfl) | exact Or.inr (Or.inr rfl)) (hd : autoParam ((x == ("__debug__" : Str)) = false) L2.aD._auto_1)
    (hcd : autoParam ((x == ("__classdict__" : Str)) = false) L2.aD._auto_1) : PE X (.Name x pos) (mVar i) := PE.imp (pe_var hN hv hd hcd) (mVar_t i)
noncomputable def vI : V → Option Int
  | .int i => some i
  | _ => none
noncomputable def vR : V → Option Addr
  | .ref a => some a
  | _ => none
noncomputable def vB : V → Option Bool
  | .bl b => some b
  | _ => none
theorem vI_e {x : V} {i : Int} (h : vI x = some i) : x = .int i := by
  cases x <;> first | (cases h; rfl) | cases h
theorem vR_e {x : V} {i : Addr} (h : vR x = some i) : x = .ref i := by
  cases x <;> first | (cases h; rfl) | cases h
theorem vB_e {x : V} {i : Bool} (h : vB x = some i) : x = .bl i := by
  cases x <;> first | (cases h; rfl) | cases h
noncomputable def o2 {α β : Type} (x : Option α) (y : Option β) (F : α → β → Prop) : Prop := match x with
  | some i => match y with
    | some j => F i j
    | none => False
  | none => False
theorem o2_e {α β : Type} {F : α → β → Prop} : ∀ {x : Option α} {y : Option β}, o2 x y F → ∃ i j, x = some i ∧ y = some j ∧ F i j
  | some i, some j, h => ⟨i, j, rfl, rfl, h⟩
  | some _, none, h => (show False from h).elim
  | none, _, h => (show False from h).elim
noncomputable def o1 {α : Type} (x : Option α) (F : α → Prop) : Prop := match x with
  | some i => F i
  | none => False
theorem o1_e {α : Type} {F : α → Prop} : ∀ {x : Option α}, o1 x F → ∃ i, x = some i ∧ F i
  | some i, h => ⟨i, rfl, h⟩
  | none, h => (show False from h).elim
theorem i2_e {x y : V} {F : Int → Int → Prop} (h : o2 (vI x) (vI y) F) : ∃ i j, x = .int i ∧ y = .int j ∧ F i j := by
  obtain ⟨i, j, a, b, h⟩ := o2_e h
  exact ⟨i, j, vI_e a, vI_e b, h⟩
theorem ri_e {x y : V} {F : Addr → Int → Prop} (h : o2 (vR x) (vI y) F) : ∃ i j, x = .ref i ∧ y = .int j ∧ F i j := by
  obtain ⟨i, j, a, b, h⟩ := o2_e h
  exact ⟨i, j, vR_e a, vI_e b, h⟩
noncomputable def mI (C : Int → Int → Prop) (g : Int → Int → V) : R2 := fun x y H Q => o2 (vI x) (vI y) fun i j => C i j ∧ Q (g i j) H
noncomputable def mI0 (g : Int → Int → V) : R2 := fun x y H Q => o2 (vI x) (vI y) fun i j => Q (g i j) H
noncomputable def mTest (t : TE) : TT := fun σ H Q => t σ H fun x H' => o1 (vB x) fun k => Q k H'
theorem mI_r {C : Int → Int → Prop} {g : Int → Int → V} (x y : V) (H : Hp) (Q : VK) (h : mI C g x y H Q) : rI C g x y H Q := i2_e h
theorem mI0_r {g : Int → Int → V} (x y : V) (H : Hp) (Q : VK) (h : mI0 g x y H Q) : rI0 g x y H Q := i2_e h
theorem om_add : OpR X (binaryOp .Add) (mI0 fun i j => .int (i + j)) := op_add.imp mI0_r
theorem om_sub : OpR X (binaryOp .Sub) (mI0 fun i j => .int (i - j)) := op_sub.imp mI0_r
theorem om_mul : OpR X (binaryOp .Mult) (mI CMul fun i j => .int (i * j)) := op_mul.imp mI_r
theorem om_lt : OpR X (compareOp .Lt) (mI0 fun i j => .bl (decide (i < j))) := op_lt.imp mI0_r
theorem om_gt : OpR X (compareOp .Gt) (mI0 fun i j => .bl (decide (j < i))) := op_gt.imp mI0_r
theorem om_ge : OpR X (compareOp .GtE) (mI0 fun i j => .bl (decide (j ≤ i))) := op_ge.imp mI0_r
theorem IxR.imp {r r' : R2} (h : IxR X r) (k : ∀ x y H Q, r' x y H Q → r x y H Q) : IxR X r' := fun value slice pins s σ H x y v u Q I rx ry hw => h value slice pins s σ H x y v u Q I rx ry (k x y H Q hw)
noncomputable def mB (t : TE) : TT := fun σ H Q => t σ H fun x H1 => o1 (vB x) fun k => Q k H1
theorem pt_cmpM {a b : Expr} {ta tb : TE} {pos : Pos} {op : CmpOp} {r : R2} (ho : OpR X (compareOp op) r) (ha : PE X a ta) (hb : PE X b tb) (hm : behindInMarks op b = false) : PT X (.Compare a [op] [b] pos) (mTest (tOp r ta tb)) := by
  intro pins s σ H Q I h
  refine wpAny_isTrue_Compare1 (thn (ha pins s σ H _ I h) fun v s1 ⟨x, H1, I1, r1, q1⟩ => thn (hb pins s1 σ H1 _ I1 q1) fun u s2 ⟨y, H2, I2, r2, q2⟩ =>
    thn (ho pins s2 σ H2 x y v u _ I2 r1 r2 q2) fun c s3 ⟨z, H3, I3, r3, q3⟩ => ?_) hm
  obtain ⟨k, e, q3⟩ := o1_e q3
  cases vB_e e; cases r3; exact wpAny_truthy_bool ⟨H3, I3, q3⟩
theorem pt_cmpB {a b : Expr} {pos : Pos} {op : CmpOp} {t : TE} (h : PC X op a b t) (h1 : behindInMarks op b = false := by first | exact nobehind _ (by decide) (by decide) | rfl) : PT X (.Compare a [op] [b] pos) (mB t) := by
  intro pins s σ H Q I hw
  refine wpAny_isTrue_Compare1 (thn (h pins s σ H _ I hw) fun v s1 h1 => thn h1 fun u s2 h2 => thn h2 fun c s3 ⟨x, H1, I1, r1, q1⟩ => ?_) h1
  obtain ⟨k, e, q1⟩ := o1_e q1
  cases vB_e e; cases r1; exact wpAny_truthy_bool ⟨H1, I1, q1⟩
theorem om_mod : OpR X (binaryOp .Mod) (mI (fun _ j => 0 < j) fun i j => .int (i % j)) := op_mod.imp mI_r
theorem om_fdiv : OpR X (binaryOp .FloorDiv) (mI CDiv fun i j => .int (i / j)) := op_fdiv.imp mI_r
theorem om_fdivL : OpR X (binaryOp .FloorDiv) (mI (fun _ j => 0 < j ∧ j < 2 ^ 200) fun i j => .int (i / j)) := op_fdivL.imp mI_r
theorem om_shl : OpR X (binaryOp .LShift) (mI CPow fun i j => .int (i * 2 ^ j.toNat)) := op_shl.imp mI_r
theorem om_pow : OpR X (binaryOp .Pow) (mI CPow fun i j => .int (i ^ j.toNat)) := op_pow.imp mI_r
theorem om_mulB : OpR X (binaryOp .Mult) (mI (fun i j => IntMulOk i j) fun i j => .int (i * j)) := op_mulB.imp mI_r
theorem om_le : OpR X (compareOp .LtE) (mI0 fun i j => .bl (decide (i ≤ j))) := op_le.imp mI0_r
noncomputable def mU (g : Int → V) : V → Hp → VK → Prop := fun x H Q => o1 (vI x) fun i => Q (g i) H
theorem UnR.imp {f : Value → Sem Value} {r r' : V → Hp → VK → Prop} (h : UnR X f r) (k : ∀ x H Q, r' x H Q → r x H Q) : UnR X f r' := fun pins s σ H x v Q I rx hw => h pins s σ H x v Q I rx (k x H Q hw)
theorem um_neg : UnR X (unaryOp .USub) (mU fun i => .int (-i)) := un_neg.imp fun x H Q h => by
  obtain ⟨i, e, h⟩ := o1_e h
  exact ⟨i, vI_e e, h⟩
theorem pt_valM {e : Expr} {t : TE} (h : PE X e t) (he : autoParam (∀ whole, isTrue e X.env whole = (do let v ← whole; standAt e.pos; holding [v] (truthy v))) L2.aI._auto_1) : PT X e (mB t) := by
  intro pins s σ H Q I hw
  refine isTrue_plain (thn (h pins s σ H _ I hw) fun v s1 ⟨x, H1, I1, r1, q1⟩ => ?_) (he _)
  obtain ⟨k, e, q1⟩ := o1_e q1
  cases vB_e e; cases r1; exact wpAny_truthy_bool ⟨H1, I1, q1⟩
end
end L2

namespace L2
open PySem PySem.Spec PyProof.Rows
theorem sq {t u : TS} {D : Ends} {σ : St} {H : Hp} (h : ∀ N : St → Hp → Prop, (∀ σ' H', u D σ' H' → N σ' H') → t { D with nx := N } σ H) : tSeq t u D σ H := h _ fun _ _ k => k
theorem gD {t : TS} {D : Ends} {σ : St} {H : Hp} (h : ∀ D' : Ends, (∀ σ' H', D.nx σ' H' → D'.nx σ' H') → (∀ v H', D.rt v H' → D'.rt v H') → t D' σ H) : t D σ H := h D (fun _ _ k => k) (fun _ _ k => k)
theorem same_new {H : Hp} {p : Addr} (h : H p = none) (o : HO) : Same H (upd H p o) := fun b u q => by rw [upd_ne (ne_of_none q h)]; exact q
section
variable {X : Cx}
theorem PA.mid {es : List Expr} {t : TA} (h : PA X es t) : PA X es (fun σ H Q => ∃ N : List V → Hp → Prop, t σ H N ∧ ∀ xs H', N xs H' → Q xs H') := by
  intro pos pins s σ H Q I hw
  obtain ⟨N, h1, h2⟩ := hw
  refine wpAny_mono (h pos pins s σ H _ I h1) (fun u s' q => ?_) (fun _ _ z => z)
  obtain ⟨v, H', I', r, q'⟩ := q
  exact ⟨v, H', I', r, h2 _ _ q'⟩
inductive NTup (xs : List V) (H : Hp) (Q : VK) : Prop
  | mk (z : xs.length ≤ sizeLine) (q : ∀ p H', Same H H' → H' p = some (.tup xs) → Q (.ref p) H') : NTup xs H Q
noncomputable def nTup (t : TA) : TE := fun σ H Q => t σ H fun xs H1 => NTup xs H1 Q
theorem pn_tup {es : List Expr} {t : TA} {x1} {pos : Pos} (h : PA X es t) : PE X (.Tuple es x1 pos) (nTup t) := PE.imp (pe_tup h.mid) fun σ H Q w => ⟨_, w, fun xs H1 q => by
  obtain ⟨z, q⟩ := q
  exact ⟨z, fun p hp => q p _ (same_new hp _) upd_same⟩⟩
inductive NLst (xs : List V) (H : Hp) (Q : VK) : Prop
  | mk (z : xs.length ≤ sizeLine) (q : ∀ p H', Same H H' → H' p = some (.lst xs) → Q (.ref p) H') : NLst xs H Q
noncomputable def nLst (t : TA) : TE := fun σ H Q => t σ H fun xs H1 => NLst xs H1 Q
theorem pn_lst {es : List Expr} {t : TA} {pos : Pos} (h : PA X es t) : PE X (.List es pos) (nLst t) := PE.imp (pe_lst h.mid) fun σ H Q w => ⟨_, w, fun xs H1 q => by
  obtain ⟨z, q⟩ := q
  exact ⟨z, fun p hp => q p _ (same_new hp _) upd_same⟩⟩
inductive IxL (p : Addr) (k : Int) (H : Hp) (Q : VK) : Prop
  | mk {xs : List V} {v : V} (h : H p = some (.lst xs)) (e : atI xs k = some v) (q : Q v H) : IxL p k H Q
noncomputable def nIxL : R2 := fun x y H Q => o2 (vR x) (vI y) fun p k => IxL p k H Q
theorem in_list : IxR X nIxL := ix_list.imp fun x y H Q h => by
  obtain ⟨p, k, rfl, rfl, h1, h2, h3⟩ := ri_e h
  exact ⟨_, _, _, _, rfl, rfl, SqL.of h1, h2, h3⟩
inductive IxT (K : PySem.W.Frag) (p : Addr) (k : Int) (H : Hp) (Q : VK) : Prop
  | mk {xs : List V} {v : V} (h : SqT K H p xs) (e : atI xs k = some v) (q : Q v H) : IxT K p k H Q
noncomputable def nIxT (K : PySem.W.Frag) : R2 := fun x y H Q => o2 (vR x) (vI y) fun p k => IxT K p k H Q
theorem in_tup : IxR X (nIxT X.K) := ix_tup.imp fun x y H Q h => by
  obtain ⟨p, k, rfl, rfl, h1, h2, h3⟩ := ri_e h
  exact ⟨_, _, _, _, rfl, rfl, h1, h2, h3⟩
noncomputable def mIxL (K : PySem.W.Frag) : R2 := fun x y H Q => o2 (vR x) (vI y) fun p k => ∃ xs v, SqL K H p xs ∧ atI xs k = some v ∧ Q v H
theorem im_list : IxR X (mIxL X.K) := ix_list.imp fun x y H Q h => by
  obtain ⟨p, k, rfl, rfl, xs, v, h1, h2, h3⟩ := ri_e h
  exact ⟨_, _, _, _, rfl, rfl, h1, h2, h3⟩
theorem in_tupK (K : PySem.W.Frag) (h : autoParam (X.K = K) L2.aR._auto_1) : IxR X (nIxT K) := h ▸ in_tup
theorem im_listK (K : PySem.W.Frag) (h : autoParam (X.K = K) L2.aR._auto_1) : IxR X (mIxL K) := h ▸ im_list
inductive NCat (l b : Addr) (H : Hp) (Q : VK) : Prop
  | mk {xs zs : List V} (h1 : H l = some (.lst xs)) (h2 : H b = some (.lst zs)) (z : xs.length + zs.length ≤ sizeLine) (q : ∀ p H', Same H H' → H' p = some (.lst (xs ++ zs)) → Q (.ref p) H') : NCat l b H Q
noncomputable def nCat : R2 := fun x y H Q => o2 (vR x) (vR y) fun l b => NCat l b H Q
theorem on_cat : OpR X (binaryOp .Add) nCat := op_cat.imp fun x y H Q h => by
  obtain ⟨l, b, e1, e2, h1, h2, z, q⟩ := o2_e h
  exact ⟨_, _, _, _, vR_e e1, vR_e e2, h1, h2, z, fun p hp => q p _ (same_new hp _) upd_same⟩
noncomputable def mEq : R2 := fun x y H Q => o2 (vI x) (vI y) fun i j => Q (.bl (decide (i = j))) H
theorem om_eq : OpR X (compareOp .Eq) mEq := by
  intro pins s σ H x y v u Q I rx ry h
  obtain ⟨i, j, rfl, rfl, h⟩ := i2_e h
  obtain ⟨t, rfl⟩ := rx
  obtain ⟨t', rfl⟩ := ry
  exact eq_int (fin_bl I h (by rw [Bool.eq_iff_iff]; simp))
end
end L2

namespace FW
open PySem L2
set_option maxHeartbeats 4000000
noncomputable def top (i : Nat) : Stmt := PySem.Challenge.pw_foldwalk_k08_refused.main.body.getD i (.Pass ⟨0, 0, 0, 0⟩)
noncomputable abbrev s_side_of : Stmt := top 11
noncomputable abbrev s_cells_of : Stmt := top 12
noncomputable abbrev s_check_folds : Stmt := top 13
noncomputable abbrev s_check_place : Stmt := top 14
noncomputable abbrev s_check_cell : Stmt := top 15
noncomputable abbrev s_into_quarter : Stmt := top 16
noncomputable abbrev s_out_of_quarter : Stmt := top 17
noncomputable abbrev s_quarter_of : Stmt := top 18
noncomputable abbrev s_cell_at : Stmt := top 19
noncomputable abbrev s_place_of : Stmt := top 20
noncomputable abbrev s_way_between : Stmt := top 21
noncomputable abbrev s_way_at : Stmt := top 22
noncomputable abbrev s_check_box : Stmt := top 24
noncomputable abbrev s_check_number : Stmt := top 25
noncomputable abbrev s_cells_in : Stmt := top 26
noncomputable abbrev s_part_in : Stmt := top 27
noncomputable abbrev s_count_ahead : Stmt := top 29
noncomputable abbrev s_cells_held : Stmt := top 30
noncomputable abbrev s_quarter_holding : Stmt := top 31
noncomputable abbrev s_place_numbered : Stmt := top 32
noncomputable abbrev s_counted : Stmt := top 33
noncomputable abbrev s_nth : Stmt := top 34
noncomputable abbrev s_next_in : Stmt := top 37
noncomputable abbrev s_next_out : Stmt := top 38
noncomputable abbrev s_end_of_stretch : Stmt := top 39
noncomputable abbrev s_stretches : Stmt := top 40
noncomputable abbrev s_check_size : Stmt := top 42
noncomputable abbrev s_square_at : Stmt := top 43
noncomputable abbrev s_law_cell_at : Stmt := top 45
noncomputable abbrev s_law_folds : Stmt := top 46
noncomputable abbrev s_law_far : Stmt := top 47
noncomputable abbrev s_law_number : Stmt := top 48
noncomputable abbrev s_law_cell : Stmt := top 49
noncomputable abbrev s_law_box : Stmt := top 50
noncomputable abbrev s_law_asked : Stmt := top 51
noncomputable abbrev s_law_classes : Stmt := top 52
noncomputable abbrev s_law_first : Stmt := top 53
noncomputable abbrev s_law_last : Stmt := top 54
noncomputable abbrev s_law_due : Stmt := top 55
noncomputable abbrev s_law : Stmt := top 56
theorem iteDF {c A B : Prop} [Decidable c] (hc : ¬ c) (h : B) : if decide c = true then A else B := by
  rw [decide_eq_false hc]; exact iteF h
theorem iteDT {c A B : Prop} [Decidable c] (hc : c) (h : A) : if decide c = true then A else B := by
  rw [decide_eq_true hc]; exact iteT h
theorem _root_.L2.Same.tup {K : PySem.W.Frag} {H H' : Hp} {a : Addr} {xs : List V} (e : Same H H') (h : SqT K H a xs) : SqT K H' a xs := by
  rcases h with (h | ⟨o, h⟩) | h
  · exact .inl (.inl (e _ _ h))
  · exact .inl (.inr ⟨o, e _ _ h⟩)
  · exact .inr h
theorem nine9 : ∀ j : Nat, j < 9 → j = 0 ∨ j = 1 ∨ j = 2 ∨ j = 3 ∨ j = 4 ∨ j = 5 ∨ j = 6 ∨ j = 7 ∨ j = 8 := by decide
theorem nine {j : Nat} (h : j ≤ 8) : j = 0 ∨ j = 1 ∨ j = 2 ∨ j = 3 ∨ j = 4 ∨ j = 5 ∨ j = 6 ∨ j = 7 ∨ j = 8 := nine9 j (Nat.lt_succ_of_le h)
theorem half_step {n i : Nat} (h : i < n) : ∃ m, n - i = m + 1 ∧ n - (i + 1) = m ∧ m ≤ n := ⟨n - (i + 1), by omega, rfl, Nat.sub_le _ _⟩
theorem rlo (n : Nat) : -(2 ^ 62) ≤ (n : Int) := Int.le_trans (by decide) (Int.natCast_nonneg n)
theorem rhi {n : Nat} (h : n ≤ 60) : (n : Int) < 2 ^ 62 := Int.lt_of_le_of_lt (Int.ofNat_le.mpr h) (by decide)
theorem mulb {z : Int} (h : 0 < z) (h1 : z ≤ 1152921504606846976) : -(2 ^ 64) < z ∧ z < 2 ^ 64 := ⟨Int.lt_trans (by decide) h, Int.lt_of_le_of_lt h1 (by decide)⟩
theorem nat_of {j k : Nat} (h : (j : Int) = (k : Int)) : j = k := Int.ofNat.inj h
theorem no_of {j k : Nat} (h : ¬ (j : Int) = (k : Int)) : ¬ j = k := fun e => h (congrArg (fun t : Nat => (t : Int)) e)
noncomputable def spSide : Sp := fun vs H Q _ => ∃ n : Nat, vs = [.int n] ∧ n ≤ 60 ∧ Q (.int (2 ^ n)) H
noncomputable def spCells : Sp := fun vs H Q _ => ∃ n : Nat, vs = [.int n] ∧ n ≤ 60 ∧ Q (.int (4 ^ n)) H
noncomputable def spChkF : Sp := fun vs H Q _ => ∃ n : Nat, vs = [.int n] ∧ n ≤ 60 ∧ Q .non H
noncomputable def spChkP : Sp := fun vs H Q _ => ∃ p e : Int, vs = [.int p, .int e] ∧ 0 ≤ p ∧ p < e ∧ Q .non H
noncomputable def spInto (K : PySem.W.Frag) : Sp := fun vs H Q _ => ∃ (a : Addr) (c : Int × Int) (s q : Int), vs = [.ref a, .int s, .int q] ∧ SqT K H a [.int c.1, .int c.2] ∧
  ∀ (p : Addr) (H' : Hp) (d : Int × Int), Same H H' → H' p = some (.tup [.int d.1, .int d.2]) → Q (.ref p) H'
noncomputable def spCellAt : Sp := fun vs H Q _ => ∃ (n : Nat) (p : Int), vs = [.int n, .int p] ∧ n ≤ 60 ∧ 0 ≤ p ∧ p < 4 ^ n ∧
  ∀ (a : Addr) (H' : Hp) (d : Int × Int), Same H H' → H' a = some (.tup [.int d.1, .int d.2]) → Q (.ref a) H'
theorem z4 : ([V.non, V.non, V.non, V.non] : List V).length ≤ sizeLine := by show 4 ≤ sizeLine; decide
theorem z2' : ([V.non, V.non] : List V).length ≤ sizeLine := by show 2 ≤ sizeLine; decide
section
variable {P : Program} {w : World} {K : PySem.W.Frag} {mg : Str → Option Value} {base : Heap}
theorem sc_side_of : FnScope ["folds", "side", "fold"] ["folds"] (defScope s_side_of) := ⟨rfl, rfl, rfl, by decide +kernel, rfl, by decide +kernel, by decide +kernel⟩
theorem ok_side_of (D : DefAt K mg "side_of" s_side_of) (mr : mg "range" = none) : FnAt P w K mg base 1 "side_of" ["folds"] spSide := by
  refine FnAt.mk D sc_side_of (fun _ _ _ _ _ _ us hl => by obtain ⟨_, rfl⟩ := len1e hl; rfl) (fun vs H Q E h => ?_) (fun f cdv A outer s H vs Q E hr h => ?_)
  · obtain ⟨n, rfl, _⟩ := h; rfl
  obtain ⟨n, rfl, hn, q⟩ := h
  refine ⟨_, pss_cons (ps_set (i := 1) sc_side_of.nd rfl (Or.inl rfl) pe_int)
    (pss_cons (ps_for PassesOwn.never rfl (pi_range1 rfl mr (pa_cons (pw 0) pa_nil)) (pg_name (i := 2) sc_side_of.nd rfl (Or.inl rfl))
      (pss_one (ps_set (i := 1) sc_side_of.nd rfl (Or.inl rfl) (pe_op om_mul pe_int (pw 1)))))
    (pss_one (ps_ret (pw 1)))), ?_⟩
  refine ⟨(n : Int), rfl, rlo n, rhi hn, for_range (lo := 0) (n := (n : Int).toNat) (fun i σ H' => ∃ v, σ = [some (.int n), some (.int (2 ^ i)), v] ∧ H' = H) ⟨none, rfl, rfl⟩ ?_ ?_⟩
  · rintro i σ H' hi ⟨v, rfl, rfl⟩
    refine ⟨.inl ⟨by decide, by decide⟩, ?_⟩
    exact ⟨_, by rw [p2s]; rfl, rfl⟩
  · rintro σ H' ⟨v, rfl, rfl⟩
    exact q
theorem sc_cells_of : FnScope ["folds", "side"] ["folds"] (defScope s_cells_of) := ⟨rfl, rfl, rfl, by decide +kernel, rfl, by decide +kernel, by decide +kernel⟩
theorem p2_60 {n : Nat} (h : n ≤ 60) : (2 : Int) ^ n ≤ 1152921504606846976 := p2mono h
theorem ok_cells_of (D : DefAt K mg "cells_of" s_cells_of) (G : FnAt P w K mg base 1 "side_of" ["folds"] spSide) : FnAt P w K mg base 2 "cells_of" ["folds"] spCells := by
  refine FnAt.mk D sc_cells_of (fun _ _ _ _ _ _ us hl => by obtain ⟨_, rfl⟩ := len1e hl; rfl) (fun vs H Q E h => ?_) (fun f cdv A outer s H vs Q E hr h => ?_)
  · obtain ⟨n, rfl, _⟩ := h; rfl
  obtain ⟨n, rfl, hn, q⟩ := h
  refine ⟨_, pss_cons (ps_set (i := 1) sc_cells_of.nd rfl (Or.inl rfl) (pe_fn G hr (by rfl) (pa_cons (pw 0) pa_nil)))
    (pss_one (ps_ret (pe_op om_mul (pw 1) (pw 1)))), ?_⟩
  refine ⟨n, rfl, hn, ?_⟩
  have h1 := p2 n
  have h2 := p2_60 hn
  refine ⟨.inl (mulb h1 h2), ?_⟩
  show Q (.int (2 ^ n * 2 ^ n)) H
  rw [← p4e]
  exact q
theorem sc_check_folds : FnScope ["folds"] ["folds"] (defScope s_check_folds) := ⟨rfl, rfl, rfl, by decide +kernel, rfl, by decide +kernel, by decide +kernel⟩
theorem ok_check_folds (D : DefAt K mg "check_folds" s_check_folds) (mM : ∃ t, mg "MOST_FOLDS" = some (.int 60 t)) : FnAt P w K mg base 1 "check_folds" ["folds"] spChkF := by
  obtain ⟨t, mM⟩ := mM
  refine FnAt.mk D sc_check_folds (fun _ _ _ _ _ _ us hl => by obtain ⟨_, rfl⟩ := len1e hl; rfl) (fun vs H Q E h => ?_) (fun f cdv A outer s H vs Q E hr h => ?_)
  · obtain ⟨n, rfl, _⟩ := h; rfl
  obtain ⟨n, rfl, hn, q⟩ := h
  refine ⟨_, pss_one (ps_if (pw_or (pt_cmpM om_lt (pw 0) pe_int (nomark _)) (pw_or1 (pt_cmpM om_gt (pw 0) (pe_glob (v := .int 60) (by rfl) mM ⟨_, rfl⟩) (nomark _)))).pt pss_never pss_nil), ?_⟩
  exact iteDF (show ¬ ((60 : Int) < (n : Int)) by omega) q
theorem sc_check_place : FnScope ["place", "end"] ["place", "end"] (defScope s_check_place) := ⟨rfl, rfl, rfl, by decide +kernel, rfl, by decide +kernel, by decide +kernel⟩
theorem ok_check_place (D : DefAt K mg "check_place" s_check_place) : FnAt P w K mg base 1 "check_place" ["place", "end"] spChkP := by
  refine FnAt.mk D sc_check_place (fun _ _ _ _ _ _ us hl => by obtain ⟨_, _, rfl⟩ := len2e hl; rfl) (fun vs H Q E h => ?_) (fun f cdv A outer s H vs Q E hr h => ?_)
  · obtain ⟨p, e, rfl, _⟩ := h; rfl
  obtain ⟨p, e, rfl, h0, h1, q⟩ := h
  refine ⟨_, pss_one (ps_if (pw_or (pt_cmpM om_lt (pw 0) pe_int (nomark _)) (pw_or1 (pt_cmpM om_ge (pw 0) (pw 1) (nomark _)))).pt pss_never pss_nil), ?_⟩
  refine iteDF (Int.not_lt.mpr h0) ?_
  exact iteDF (Int.not_le.mpr h1) q
theorem sc_into_quarter : FnScope ["cell", "side", "quarter", "x", "y"] ["cell", "side", "quarter"] (defScope s_into_quarter) := ⟨rfl, rfl, rfl, by decide +kernel, rfl, by decide +kernel, by decide +kernel⟩
theorem ok_into_quarter (D : DefAt K mg "into_quarter" s_into_quarter) : FnAt P w K mg base 1 "into_quarter" ["cell", "side", "quarter"] (spInto K) := by
  refine FnAt.mk D sc_into_quarter (fun _ _ _ _ _ _ us hl => by obtain ⟨_, _, _, rfl⟩ := len3e hl; rfl) (fun vs H Q E h => ?_) (fun f cdv A outer s H vs Q E hr h => ?_)
  · obtain ⟨a, c, s, q, rfl, _⟩ := h; rfl
  obtain ⟨a, c, sd, q, rfl, hS, kq⟩ := h
  refine ⟨_, pss_cons (ps_set (i := 3) sc_into_quarter.nd rfl (Or.inl rfl) (pe_ix (in_tupK K) (pw 0) pe_int (fun _ _ => rfl)))
    (pss_cons (ps_set (i := 4) sc_into_quarter.nd rfl (Or.inl rfl) (pe_ix (in_tupK K) (pw 0) pe_int (fun _ _ => rfl)))
    (pss_cons (ps_if (pt_cmpM om_eq (pw 2) pe_int (nomark _)) (pss_one (ps_ret (pn_tup (pa_cons (pw 4) (pa_cons (pw 3) pa_nil))))) pss_nil)
    (pss_cons (ps_if (pt_cmpM om_eq (pw 2) pe_int (nomark _)) (pss_one (ps_ret (pn_tup (pa_cons (pw 3) (pa_cons (pe_op om_add (pw 4) (pw 1)) pa_nil))))) pss_nil)
    (pss_cons (ps_if (pt_cmpM om_eq (pw 2) pe_int (nomark _)) (pss_one (ps_ret (pn_tup (pa_cons (pe_op om_add (pw 3) (pw 1)) (pa_cons (pe_op om_add (pw 4) (pw 1)) pa_nil))))) pss_nil)
    (pss_one (ps_ret (pn_tup (pa_cons (pe_op om_sub (pe_op om_sub (pe_op om_mul pe_int (pw 1)) pe_int) (pw 4)) (pa_cons (pe_op om_sub (pe_op om_sub (pw 1) pe_int) (pw 3)) pa_nil))))))))), ?_⟩
  refine sq fun N k => ⟨hS, rfl, k [some (.ref a), some (.int sd), some (.int q), some (.int c.1), none] _ ?_⟩
  refine sq fun N k => ⟨hS, rfl, k [some (.ref a), some (.int sd), some (.int q), some (.int c.1), some (.int c.2)] _ ?_⟩
  refine sq fun N k => ite2 (fun _ => ⟨z2', fun p H' s h => kq p H' (c.2, c.1) s h⟩) (fun _ => k _ _ ?_)
  refine sq fun N k => ite2 (fun _ => ⟨z2', fun p H' s h => kq p H' (c.1, c.2 + sd) s h⟩) (fun _ => k _ _ ?_)
  refine sq fun N k => ite2 (fun _ => ⟨z2', fun p H' s h => kq p H' (c.1 + sd, c.2 + sd) s h⟩) (fun _ => k _ _ ?_)
  exact ⟨.inl ⟨by decide, by decide⟩, z2', fun p H' s h => kq p H' (2 * sd - 1 - c.2, sd - 1 - c.1) s h⟩
theorem sc_cell_at : FnScope ["folds", "place", "cell", "side", "rest", "fold"] ["folds", "place"] (defScope s_cell_at) := ⟨rfl, rfl, rfl, by decide +kernel, rfl, by decide +kernel, by decide +kernel⟩
theorem ok_cell_at (D : DefAt K mg "cell_at" s_cell_at) (mr : mg "range" = none) (GF : FnAt P w K mg base 1 "check_folds" ["folds"] spChkF) (GP : FnAt P w K mg base 1 "check_place" ["place", "end"] spChkP)
    (GC : FnAt P w K mg base 2 "cells_of" ["folds"] spCells) (GI : FnAt P w K mg base 1 "into_quarter" ["cell", "side", "quarter"] (spInto K)) : FnAt P w K mg base 3 "cell_at" ["folds", "place"] spCellAt := by
  refine FnAt.mk D sc_cell_at (fun _ _ _ _ _ _ us hl => by obtain ⟨_, _, rfl⟩ := len2e hl; rfl) (fun vs H Q E h => ?_) (fun f cdv A outer s H vs Q E hr h => ?_)
  · obtain ⟨n, p, rfl, _⟩ := h; rfl
  obtain ⟨n, p, rfl, hn, h0, h1, kq⟩ := h
  have hr1 := hr.mono (j := 1) (by decide)
  refine ⟨_, pss_cons (ps_expr (pe_fn GF hr1 (by rfl) (pa_cons (pw 0) pa_nil)))
    (pss_cons (ps_expr (pe_fn GP hr1 (by rfl) (pa_cons (pw 1) (pa_cons (pe_fn GC hr (by rfl) (pa_cons (pw 0) pa_nil)) pa_nil))))
    (pss_cons (ps_set (i := 2) sc_cell_at.nd rfl (Or.inl rfl) (pn_tup (pa_cons pe_int (pa_cons pe_int pa_nil))))
    (pss_cons (ps_set (i := 3) sc_cell_at.nd rfl (Or.inl rfl) pe_int)
    (pss_cons (ps_set (i := 4) sc_cell_at.nd rfl (Or.inl rfl) (pw 1))
    (pss_cons (ps_for PassesOwn.never rfl (pi_range1 rfl mr (pa_cons (pw 0) pa_nil)) (pg_name (i := 5) sc_cell_at.nd rfl (Or.inl rfl))
      (pss_cons (ps_set (i := 2) sc_cell_at.nd rfl (Or.inl rfl) (pe_fn GI hr1 (by rfl) (pa_cons (pw 2) (pa_cons (pw 3) (pa_cons (pe_op om_mod (pw 4) pe_int) pa_nil)))))
      (pss_cons (ps_set (i := 4) sc_cell_at.nd rfl (Or.inl rfl) (pe_op om_fdiv (pw 4) pe_int))
      (pss_one (ps_set (i := 3) sc_cell_at.nd rfl (Or.inl rfl) (pe_op om_mul pe_int (pw 3)))))))
    (pss_one (ps_ret (pw 2)))))))), ?_⟩
  refine sq fun N k => ⟨n, rfl, hn, k _ _ ?_⟩
  refine sq fun N k => ⟨n, rfl, hn, p, _, rfl, h0, h1, k _ _ ?_⟩
  refine sq fun N k => ⟨z2', fun c G s0 h0 => k [some (.int n), some (.int p), some (.ref c), none, none, none] _ ?_⟩
  refine sq fun N k => k [some (.int n), some (.int p), some (.ref c), some (.int 1), none, none] _ ?_
  refine sq fun N k => k [some (.int n), some (.int p), some (.ref c), some (.int 1), some (.int p), none] _ ?_
  refine sq fun N k => ?_
  refine ⟨(n : Int), rfl, rlo n, rhi hn, for_range (lo := 0) (n := (n : Int).toNat) (fun i σ H' => ∃ (a : Addr) (d : Int × Int) (x y : Int) (v : Option V), σ = [some (.int n), some (.int p), some (.ref a), some (.int x), some (.int y), v] ∧ Same H H' ∧
    H' a = some (.tup [.int d.1, .int d.2])) ⟨c, (0, 0), _, _, none, rfl, s0, h0⟩ ?_ ?_⟩
  · rintro i σ H' hi ⟨a, d, x, y, v, rfl, s1, ha⟩
    refine ⟨(by show (0 : Int) < 4; decide), a, d, _, _, rfl, SqT.of ha, fun b H2 e s2 hb => ?_⟩
    exact ⟨⟨by decide, by decide⟩, .inl ⟨by decide, by decide⟩, b, e, _, _, _, rfl, s1.trans s2, hb⟩
  · rintro σ H' ⟨a, d, x, y, v, rfl, s1, ha⟩
    exact k _ _ (kq a H' d s1 ha)
end
noncomputable def spWayB (K : PySem.W.Frag) : Sp := fun vs H Q _ => ∃ (a b : Addr) (c d : Int × Int), vs = [.ref a, .ref b] ∧ SqT K H a [.int c.1, .int c.2] ∧ SqT K H b [.int d.1, .int d.2] ∧ ∀ x : Str, Q (.str x) H
noncomputable def spWay : Sp := fun vs H Q _ => ∃ (n : Nat) (p : Int), vs = [.int n, .int p] ∧ n ≤ 60 ∧ 0 ≤ p ∧ p + 1 < 4 ^ n ∧ ∀ (x : Str) (H' : Hp), Same H H' → Q (.str x) H'
section
variable {P : Program} {w : World} {K : PySem.W.Frag} {mg : Str → Option Value} {base : Heap}
theorem sc_way_between : FnScope ["here", "there"] ["here", "there"] (defScope s_way_between) := ⟨rfl, rfl, rfl, by decide +kernel, rfl, by decide +kernel, by decide +kernel⟩
theorem ok_way_between (D : DefAt K mg "way_between" s_way_between) : FnAt P w K mg base 1 "way_between" ["here", "there"] (spWayB K) := by
  refine FnAt.mk D sc_way_between (fun _ _ _ _ _ _ us hl => by obtain ⟨_, _, rfl⟩ := len2e hl; rfl) (fun vs H Q E h => ?_) (fun f cdv A outer s H vs Q E hr h => ?_)
  · obtain ⟨a, b, c, d, rfl, _⟩ := h; rfl
  obtain ⟨a, b, c, d, rfl, ha, hb, q⟩ := h
  refine ⟨_, pss_cons (ps_if (pt_cmpM om_gt (pe_ix (in_tupK K) (pw 1) pe_int (fun _ _ => rfl)) (pe_ix (in_tupK K) (pw 0) pe_int (fun _ _ => rfl)) (nomark _)) (pss_one (ps_ret pe_str)) pss_nil)
    (pss_cons (ps_if (pt_cmpM om_lt (pe_ix (in_tupK K) (pw 1) pe_int (fun _ _ => rfl)) (pe_ix (in_tupK K) (pw 0) pe_int (fun _ _ => rfl)) (nomark _)) (pss_one (ps_ret pe_str)) pss_nil)
    (pss_cons (ps_if (pt_cmpM om_gt (pe_ix (in_tupK K) (pw 1) pe_int (fun _ _ => rfl)) (pe_ix (in_tupK K) (pw 0) pe_int (fun _ _ => rfl)) (nomark _)) (pss_one (ps_ret pe_str)) pss_nil)
    (pss_one (ps_ret pe_str)))), ?_⟩
  refine sq fun N k => ⟨hb, rfl, ha, rfl, ite2 (fun _ => q _) (fun _ => k _ _ ?_)⟩
  refine sq fun N k => ⟨hb, rfl, ha, rfl, ite2 (fun _ => q _) (fun _ => k _ _ ?_)⟩
  refine sq fun N k => ⟨hb, rfl, ha, rfl, ite2 (fun _ => q _) (fun _ => k _ _ ?_)⟩
  exact q _
theorem sc_way_at : FnScope ["folds", "place"] ["folds", "place"] (defScope s_way_at) := ⟨rfl, rfl, rfl, by decide +kernel, rfl, by decide +kernel, by decide +kernel⟩
theorem ok_way_at (D : DefAt K mg "way_at" s_way_at) (GF : FnAt P w K mg base 1 "check_folds" ["folds"] spChkF) (GP : FnAt P w K mg base 1 "check_place" ["place", "end"] spChkP)
    (GC : FnAt P w K mg base 2 "cells_of" ["folds"] spCells) (GA : FnAt P w K mg base 3 "cell_at" ["folds", "place"] spCellAt) (GW : FnAt P w K mg base 1 "way_between" ["here", "there"] (spWayB K)) : FnAt P w K mg base 4 "way_at" ["folds", "place"] spWay := by
  refine FnAt.mk D sc_way_at (fun _ _ _ _ _ _ us hl => by obtain ⟨_, _, rfl⟩ := len2e hl; rfl) (fun vs H Q E h => ?_) (fun f cdv A outer s H vs Q E hr h => ?_)
  · obtain ⟨n, p, rfl, _⟩ := h; rfl
  obtain ⟨n, p, rfl, hn, h0, h1, kq⟩ := h
  have hr1 := hr.mono (j := 1) (by decide)
  have hr2 := hr.mono (j := 2) (by decide)
  refine ⟨_, pss_cons (ps_expr (pe_fn GF hr1 (by rfl) (pa_cons (pw 0) pa_nil)))
    (pss_cons (ps_expr (pe_fn GP hr1 (by rfl) (pa_cons (pw 1) (pa_cons (pe_op om_sub (pe_fn GC hr2 (by rfl) (pa_cons (pw 0) pa_nil)) pe_int) pa_nil))))
    (pss_one (ps_ret (pe_fn GW hr1 (by rfl) (pa_cons (pe_fn GA hr (by rfl) (pa_cons (pw 0) (pa_cons (pw 1) pa_nil))) (pa_cons (pe_fn GA hr (by rfl) (pa_cons (pw 0) (pa_cons (pe_op om_add (pw 1) pe_int) pa_nil))) pa_nil)))))), ?_⟩
  refine sq fun N k => ⟨n, rfl, hn, k _ _ ?_⟩
  refine sq fun N k => ⟨n, rfl, hn, p, _, rfl, h0, by omega, k _ _ ?_⟩
  refine ⟨n, p, rfl, hn, h0, by omega, fun a H1 c s1 e1 => ?_⟩
  refine ⟨n, p + 1, rfl, hn, by omega, h1, fun b H2 d s2 e2 => ?_⟩
  exact ⟨a, b, c, d, rfl, SqT.of (s2 _ _ e1), SqT.of e2, fun x => kq x H2 (s1.trans s2)⟩
end
noncomputable def spOut (K : PySem.W.Frag) : Sp := fun vs H Q _ => ∃ (a : Addr) (c : Int × Int) (s q : Int), vs = [.ref a, .int s, .int q] ∧ SqT K H a [.int c.1, .int c.2] ∧
  ∀ (p : Addr) (H' : Hp) (d : Int × Int), Same H H' → H' p = some (.tup [.int d.1, .int d.2]) → Q (.ref p) H'
theorem half_pow (m : Nat) : (2 : Int) ^ (m + 1) / 2 = 2 ^ m := by rw [p2s]; omega
section
variable {P : Program} {w : World} {K : PySem.W.Frag} {mg : Str → Option Value} {base : Heap}
theorem sc_out_of_quarter : FnScope ["cell", "side", "quarter", "x", "y"] ["cell", "side", "quarter"] (defScope s_out_of_quarter) := ⟨rfl, rfl, rfl, by decide +kernel, rfl, by decide +kernel, by decide +kernel⟩
theorem ok_out_of_quarter (D : DefAt K mg "out_of_quarter" s_out_of_quarter) : FnAt P w K mg base 1 "out_of_quarter" ["cell", "side", "quarter"] (spOut K) := by
  refine FnAt.mk D sc_out_of_quarter (fun _ _ _ _ _ _ us hl => by obtain ⟨_, _, _, rfl⟩ := len3e hl; rfl) (fun vs H Q E h => ?_) (fun f cdv A outer s H vs Q E hr h => ?_)
  · obtain ⟨a, c, s, q, rfl, _⟩ := h; rfl
  obtain ⟨a, c, sd, q, rfl, hS, kq⟩ := h
  refine ⟨_, pss_cons (ps_set (i := 3) sc_out_of_quarter.nd rfl (Or.inl rfl) (pe_ix (in_tupK K) (pw 0) pe_int (fun _ _ => rfl)))
    (pss_cons (ps_set (i := 4) sc_out_of_quarter.nd rfl (Or.inl rfl) (pe_ix (in_tupK K) (pw 0) pe_int (fun _ _ => rfl)))
    (pss_cons (ps_if (pt_cmpM om_eq (pw 2) pe_int (nomark _)) (pss_one (ps_ret (pn_tup (pa_cons (pw 4) (pa_cons (pw 3) pa_nil))))) pss_nil)
    (pss_cons (ps_if (pt_cmpM om_eq (pw 2) pe_int (nomark _)) (pss_one (ps_ret (pn_tup (pa_cons (pw 3) (pa_cons (pe_op om_sub (pw 4) (pw 1)) pa_nil))))) pss_nil)
    (pss_cons (ps_if (pt_cmpM om_eq (pw 2) pe_int (nomark _)) (pss_one (ps_ret (pn_tup (pa_cons (pe_op om_sub (pw 3) (pw 1)) (pa_cons (pe_op om_sub (pw 4) (pw 1)) pa_nil))))) pss_nil)
    (pss_one (ps_ret (pn_tup (pa_cons (pe_op om_sub (pe_op om_sub (pw 1) pe_int) (pw 4)) (pa_cons (pe_op om_sub (pe_op om_sub (pe_op om_mul pe_int (pw 1)) pe_int) (pw 3)) pa_nil))))))))), ?_⟩
  refine sq fun N k => ⟨hS, rfl, k [some (.ref a), some (.int sd), some (.int q), some (.int c.1), none] _ ?_⟩
  refine sq fun N k => ⟨hS, rfl, k [some (.ref a), some (.int sd), some (.int q), some (.int c.1), some (.int c.2)] _ ?_⟩
  refine sq fun N k => ite2 (fun _ => ⟨z2', fun p H' s h => kq p H' (c.2, c.1) s h⟩) (fun _ => k _ _ ?_)
  refine sq fun N k => ite2 (fun _ => ⟨z2', fun p H' s h => kq p H' (c.1, c.2 - sd) s h⟩) (fun _ => k _ _ ?_)
  refine sq fun N k => ite2 (fun _ => ⟨z2', fun p H' s h => kq p H' (c.1 - sd, c.2 - sd) s h⟩) (fun _ => k _ _ ?_)
  exact ⟨.inl ⟨by decide, by decide⟩, z2', fun p H' s h => kq p H' (sd - 1 - c.2, 2 * sd - 1 - c.1) s h⟩
end
noncomputable def spChkC (K : PySem.W.Frag) : Sp := fun vs H Q _ => ∃ (a : Addr) (c : Int × Int) (s : Int), vs = [.ref a, .int s] ∧ SqT K H a [.int c.1, .int c.2] ∧ On c s ∧ Q .non H
noncomputable def spQof (K : PySem.W.Frag) : Sp := fun vs H Q _ => ∃ (a : Addr) (c : Int × Int) (s : Int), vs = [.ref a, .int s] ∧ SqT K H a [.int c.1, .int c.2] ∧ ∀ q : Int, Q (.int q) H
noncomputable def spPlaceOf (K : PySem.W.Frag) : Sp := fun vs H Q _ => ∃ (n : Nat) (a : Addr) (c : Int × Int), vs = [.int n, .ref a] ∧ n ≤ 60 ∧ SqT K H a [.int c.1, .int c.2] ∧ On c (2 ^ n) ∧
  ∀ (r : Int) (H' : Hp), Same H H' → Q (.int r) H'
section
variable {P : Program} {w : World} {K : PySem.W.Frag} {mg : Str → Option Value} {base : Heap}
theorem sc_check_cell : FnScope ["cell", "side"] ["cell", "side"] (defScope s_check_cell) := ⟨rfl, rfl, rfl, by decide +kernel, rfl, by decide +kernel, by decide +kernel⟩
theorem ok_check_cell (D : DefAt K mg "check_cell" s_check_cell) (mn : mg "min" = none) (mx : mg "max" = none) : FnAt P w K mg base 1 "check_cell" ["cell", "side"] (spChkC K) := by
  refine FnAt.mk D sc_check_cell (fun _ _ _ _ _ _ us hl => by obtain ⟨_, _, rfl⟩ := len2e hl; rfl) (fun vs H Q E h => ?_) (fun f cdv A outer s H vs Q E hr h => ?_)
  · obtain ⟨a, c, s, rfl, _⟩ := h; rfl
  obtain ⟨a, c, sd, rfl, hS, ⟨h1, h2, h3, h4⟩, q⟩ := h
  refine ⟨_, pss_one (ps_if (pw_or (pt_cmpM om_lt (pe_callB (call_minP rfl) (by rfl) mn PyProof.Rows.boot_min (pa_cons (pw 0) pa_nil)) pe_int (nomark _))
    (pw_or1 (pt_cmpM om_ge (pe_callB (call_maxP rfl) (by rfl) mx PyProof.Rows.boot_max (pa_cons (pw 0) pa_nil)) (pw 1) (nomark _)))).pt pss_never pss_nil), ?_⟩
  refine ⟨a, _, _, rfl, hS, iteDF (by split <;> omega) ?_⟩
  exact ⟨a, _, _, rfl, hS, iteDF (by split <;> omega) q⟩
theorem sc_quarter_of : FnScope ["cell", "side"] ["cell", "side"] (defScope s_quarter_of) := ⟨rfl, rfl, rfl, by decide +kernel, rfl, by decide +kernel, by decide +kernel⟩
theorem ok_quarter_of (D : DefAt K mg "quarter_of" s_quarter_of) : FnAt P w K mg base 1 "quarter_of" ["cell", "side"] (spQof K) := by
  refine FnAt.mk D sc_quarter_of (fun _ _ _ _ _ _ us hl => by obtain ⟨_, _, rfl⟩ := len2e hl; rfl) (fun vs H Q E h => ?_) (fun f cdv A outer s H vs Q E hr h => ?_)
  · obtain ⟨a, c, s, rfl, _⟩ := h; rfl
  obtain ⟨a, c, sd, rfl, hS, q⟩ := h
  refine ⟨_, pss_cons (ps_if (pt_cmpM om_lt (pe_ix (in_tupK K) (pw 0) pe_int (fun _ _ => rfl)) (pw 1) (nomark _)) (pss_one (ps_ret (pe_ifExp (pt_cmpM om_lt (pe_ix (in_tupK K) (pw 0) pe_int (fun _ _ => rfl)) (pw 1) (nomark _)) pe_int pe_int))) pss_nil)
    (pss_one (ps_ret (pe_ifExp (pt_cmpM om_lt (pe_ix (in_tupK K) (pw 0) pe_int (fun _ _ => rfl)) (pw 1) (nomark _)) pe_int pe_int))), ?_⟩
  refine sq fun N k => ⟨hS, rfl, ite2 (fun _ => ?_) (fun _ => k _ _ ?_)⟩
  · exact ⟨hS, rfl, ite2 (fun _ => q _) (fun _ => q _)⟩
  · exact ⟨hS, rfl, ite2 (fun _ => q _) (fun _ => q _)⟩
theorem sc_place_of : FnScope ["folds", "cell", "side", "place", "inner", "fold", "quarter"] ["folds", "cell"] (defScope s_place_of) := ⟨rfl, rfl, rfl, by decide +kernel, rfl, by decide +kernel, by decide +kernel⟩
theorem ok_place_of (D : DefAt K mg "place_of" s_place_of) (mr : mg "range" = none) (GF : FnAt P w K mg base 1 "check_folds" ["folds"] spChkF) (GS : FnAt P w K mg base 1 "side_of" ["folds"] spSide) (GC : FnAt P w K mg base 1 "check_cell" ["cell", "side"] (spChkC K))
    (GQ : FnAt P w K mg base 1 "quarter_of" ["cell", "side"] (spQof K)) (GO : FnAt P w K mg base 1 "out_of_quarter" ["cell", "side", "quarter"] (spOut K)) : FnAt P w K mg base 2 "place_of" ["folds", "cell"] (spPlaceOf K) := by
  refine FnAt.mk D sc_place_of (fun _ _ _ _ _ _ us hl => by obtain ⟨_, _, rfl⟩ := len2e hl; rfl) (fun vs H Q E h => ?_) (fun f cdv A outer s H vs Q E hr h => ?_)
  · obtain ⟨n, a, c, rfl, _⟩ := h; rfl
  obtain ⟨n, a, c, rfl, hn, hS, hon, kq⟩ := h
  refine ⟨_, pss_cons (ps_expr (pe_fn GF hr (by rfl) (pa_cons (pw 0) pa_nil)))
    (pss_cons (ps_set (i := 2) sc_place_of.nd rfl (Or.inl rfl) (pe_fn GS hr (by rfl) (pa_cons (pw 0) pa_nil)))
    (pss_cons (ps_expr (pe_fn GC hr (by rfl) (pa_cons (pw 1) (pa_cons (pw 2) pa_nil))))
    (pss_cons (ps_set (i := 3) sc_place_of.nd rfl (Or.inl rfl) pe_int)
    (pss_cons (ps_set (i := 4) sc_place_of.nd rfl (Or.inl rfl) (pw 1))
    (pss_cons (ps_for PassesOwn.never rfl (pi_range1 rfl mr (pa_cons (pw 0) pa_nil)) (pg_name (i := 5) sc_place_of.nd rfl (Or.inl rfl))
      (pss_cons (ps_set (i := 2) sc_place_of.nd rfl (Or.inl rfl) (pe_op om_fdiv (pw 2) pe_int))
      (pss_cons (ps_set (i := 6) sc_place_of.nd rfl (Or.inl rfl) (pe_fn GQ hr (by rfl) (pa_cons (pw 4) (pa_cons (pw 2) pa_nil))))
      (pss_cons (ps_set (i := 3) sc_place_of.nd rfl (Or.inl rfl) (pe_op om_add (pe_op om_mul pe_int (pw 3)) (pw 6)))
      (pss_one (ps_set (i := 4) sc_place_of.nd rfl (Or.inl rfl) (pe_fn GO hr (by rfl) (pa_cons (pw 4) (pa_cons (pw 2) (pa_cons (pw 6) pa_nil))))))))))
    (pss_one (ps_ret (pw 3)))))))), ?_⟩
  refine sq fun N k => ⟨n, rfl, hn, k _ _ ?_⟩
  refine sq fun N k => ⟨n, rfl, hn, k [some (.int n), some (.ref a), some (.int (2 ^ n)), none, none, none, none] _ ?_⟩
  refine sq fun N k => ⟨a, c, _, rfl, hS, hon, k _ _ ?_⟩
  refine sq fun N k => k [some (.int n), some (.ref a), some (.int (2 ^ n)), some (.int 0), none, none, none] _ ?_
  refine sq fun N k => k [some (.int n), some (.ref a), some (.int (2 ^ n)), some (.int 0), some (.ref a), none, none] _ ?_
  refine sq fun N k => ?_
  refine ⟨(n : Int), rfl, rlo n, rhi hn, for_range (lo := 0) (n := (n : Int).toNat) (fun i σ H' => ∃ (b : Addr) (x p : Int) (d : Int × Int) (u v : Option V), σ = [some (.int n), some (.ref a), some (.int x), some (.int p), some (.ref b), u, v] ∧ Same H H' ∧
    SqT K H' b [.int d.1, .int d.2]) ⟨a, _, 0, c, none, none, rfl, Same.refl _, hS⟩ ?_ ?_⟩
  · rintro i σ H' hi ⟨b, x, p, d, u, v, rfl, s1, hb⟩
    refine ⟨⟨by decide, by decide⟩, b, d, _, rfl, hb, fun q => ⟨.inl ⟨by decide, by decide⟩, b, d, _, _, rfl, hb, fun e H2 d2 s2 he => ?_⟩⟩
    exact ⟨e, _, _, d2, _, _, rfl, s1.trans s2, SqT.of he⟩
  · rintro σ H' ⟨b, x, p, d, u, v, rfl, s1, hb⟩
    exact k _ _ (kq _ H' s1)
end
noncomputable def spCell (K : PySem.W.Frag) : Sp := fun vs H Q _ => ∃ (a : Addr) (ns : List Int) (k : Nat), vs = [.ref a, .int k] ∧ SqL K H a (ns.map V.int) ∧ Q (.int (ns.getD k 0)) H
noncomputable def spFolds : Sp := fun vs H Q _ => ∃ c : Int, vs = [.int c] ∧ ∀ n : Nat, n ≤ 60 → Q (.int n) H
theorem shl2 (n : Nat) : (1 : Int) * 2 ^ (2 * (n : Int)).toNat = 4 ^ n := by
  rw [Int.one_mul, show (2 * (n : Int)).toNat = 2 * n by omega, Int.pow_mul]
  rfl
theorem shl1 (n : Nat) : (1 : Int) * 2 ^ ((n : Int)).toNat = 2 ^ n := by
  rw [Int.one_mul, Int.toNat_natCast]
section
variable {P : Program} {w : World} {K : PySem.W.Frag} {mg : Str → Option Value} {base : Heap}
theorem sc_law_cell_at : FnScope ["_law_script", "_law_k"] ["_law_script", "_law_k"] (defScope s_law_cell_at) := ⟨rfl, rfl, rfl, by decide +kernel, rfl, by decide +kernel, by decide +kernel⟩
theorem ok_law_cell_at (D : DefAt K mg "_law_cell_at" s_law_cell_at) (ml : mg "len" = none) : FnAt P w K mg base 1 "_law_cell_at" ["_law_script", "_law_k"] (spCell K) := by
  refine FnAt.mk D sc_law_cell_at (fun _ _ _ _ _ _ us hl => by obtain ⟨_, _, rfl⟩ := len2e hl; rfl) (fun vs H Q E h => ?_) (fun f cdv A outer s H vs Q E hr h => ?_)
  · obtain ⟨a, ns, k, rfl, _⟩ := h; rfl
  obtain ⟨a, ns, k, rfl, hS, q⟩ := h
  refine ⟨_, pss_cons (ps_if (pt_cmpM om_lt (pw 1) (pe_callB call_len_seq (by rfl) ml PySem.boot_len (pa_cons (pw 0) pa_nil)) (nomark _)) (pss_one (ps_ret (pe_ix (im_listK K) (pw 0) (pw 1) (fun _ _ => rfl)))) pss_nil)
    (pss_one (ps_ret pe_int)), ?_⟩
  refine ⟨a, _, rfl, .inl hS, ?_⟩
  by_cases hk : k < ns.length
  · refine iteDT (by rw [List.length_map]; omega) ?_
    have e : ns.getD k 0 = ns[k] := by rw [List.getD_eq_getElem?_getD, List.getElem?_eq_getElem hk]; rfl
    rw [e] at q
    exact ⟨_, _, hS, atI_nat (by rw [List.getElem?_map, List.getElem?_eq_getElem hk]; rfl), q⟩
  · refine iteDF (by rw [List.length_map]; omega) ?_
    have e : ns.getD k 0 = 0 := by rw [List.getD_eq_getElem?_getD, List.getElem?_eq_none (by omega)]; rfl
    rw [e] at q
    exact q
end
section
variable {P : Program} {w : World} {K : PySem.W.Frag} {mg : Str → Option Value} {base : Heap}
theorem sc_law_folds : FnScope ["_law_cell_here"] ["_law_cell_here"] (defScope s_law_folds) := ⟨rfl, rfl, rfl, by decide +kernel, rfl, by decide +kernel, by decide +kernel⟩
theorem ok_law_folds (D : DefAt K mg "_law_folds" s_law_folds) : FnAt P w K mg base 1 "_law_folds" ["_law_cell_here"] spFolds := by
  refine FnAt.mk D sc_law_folds (fun _ _ _ _ _ _ us hl => by obtain ⟨_, rfl⟩ := len1e hl; rfl) (fun vs H Q E h => ?_) (fun f cdv A outer s H vs Q E hr h => ?_)
  · obtain ⟨c, rfl, _⟩ := h; rfl
  obtain ⟨c, rfl, q⟩ := h
  refine ⟨_, pss_cons (ps_if (pt_cmpM om_eq (pe_op om_mod (pw 0) pe_int) pe_int (nomark _)) (pss_one (ps_ret (pe_op om_mod (pe_op om_fdiv (pw 0) pe_int) pe_int))) pss_nil)
    (pss_one (ps_ret (pe_op om_mod (pe_op om_fdiv (pw 0) pe_int) pe_int))), ?_⟩
  have fin : ∀ m : Int, 0 < m → m ≤ 61 → Q (.int (c / 4 % m)) H := fun m h0 h1 => by
    have a1 := Int.emod_nonneg (c / 4) (show m ≠ 0 by omega)
    have a2 := Int.emod_lt_of_pos (c / 4) h0
    obtain ⟨n, e⟩ := Int.eq_ofNat_of_zero_le a1
    rw [e]
    exact q n (by omega)
  refine ⟨(by show (0 : Int) < 4; decide), ite2 (fun _ => ?_) (fun _ => ?_)⟩
  · exact ⟨⟨by decide, by decide⟩, (by show (0 : Int) < 61; decide), fin 61 (by decide) (by decide)⟩
  · exact ⟨⟨by decide, by decide⟩, (by show (0 : Int) < 8; decide), fin 8 (by decide) (by decide)⟩
end
theorem mulok {a b : Int} (ha : a.natAbs < 2 ^ 1000) (hb : b.natAbs < 2 ^ 1000) : IntMulOk a b := by
  refine IntMulOk.of_le (m := 1000) (n := 1000) (PyProof.Rows.intBits_le ha) (PyProof.Rows.intBits_le hb) (by decide)
theorem p4_60 {n : Nat} (h : n ≤ 60) : (4 : Int) ^ n ≤ 1329227995784915872903807060280344576 := p4mono h
noncomputable def spSquare : Sp := fun vs H Q _ => ∃ (n k : Nat) (p : Int), vs = [.int n, .int p, .int k] ∧ n ≤ 60 ∧ k ≤ n ∧ 0 ≤ p ∧ p < 4 ^ n ∧ ∀ (a : Addr) (H' : Hp), Same H H' → Q (.ref a) H'
noncomputable def spChkS : Sp := fun vs H Q _ => ∃ k n : Int, vs = [.int k, .int n] ∧ 0 ≤ k ∧ k ≤ n ∧ Q .non H
section
variable {P : Program} {w : World} {K : PySem.W.Frag} {mg : Str → Option Value} {base : Heap}
theorem sc_check_size : FnScope ["size", "folds"] ["size", "folds"] (defScope s_check_size) := ⟨rfl, rfl, rfl, by decide +kernel, rfl, by decide +kernel, by decide +kernel⟩
theorem ok_check_size (D : DefAt K mg "check_size" s_check_size) : FnAt P w K mg base 1 "check_size" ["size", "folds"] spChkS := by
  refine FnAt.mk D sc_check_size (fun _ _ _ _ _ _ us hl => by obtain ⟨_, _, rfl⟩ := len2e hl; rfl) (fun vs H Q E h => ?_) (fun f cdv A outer s H vs Q E hr h => ?_)
  · obtain ⟨p, e, rfl, _⟩ := h; rfl
  obtain ⟨p, e, rfl, h0, h1, q⟩ := h
  refine ⟨_, pss_one (ps_if (pw_or (pt_cmpM om_lt (pw 0) pe_int (nomark _)) (pw_or1 (pt_cmpM om_gt (pw 0) (pw 1) (nomark _)))).pt pss_never pss_nil), ?_⟩
  refine iteDF (Int.not_lt.mpr h0) ?_
  exact iteDF (Int.not_lt.mpr h1) q
theorem sc_square_at : FnScope ["folds", "place", "size", "cell", "width", "left", "low"] ["folds", "place", "size"] (defScope s_square_at) := ⟨rfl, rfl, rfl, by decide +kernel, rfl, by decide +kernel, by decide +kernel⟩
theorem ok_square_at (D : DefAt K mg "square_at" s_square_at) (GA : FnAt P w K mg base 3 "cell_at" ["folds", "place"] spCellAt) (GZ : FnAt P w K mg base 1 "check_size" ["size", "folds"] spChkS)
    (GS : FnAt P w K mg base 1 "side_of" ["folds"] spSide) : FnAt P w K mg base 4 "square_at" ["folds", "place", "size"] spSquare := by
  refine FnAt.mk D sc_square_at (fun _ _ _ _ _ _ us hl => by obtain ⟨_, _, _, rfl⟩ := len3e hl; rfl) (fun vs H Q E h => ?_) (fun f cdv A outer s H vs Q E hr h => ?_)
  · obtain ⟨n, k, p, rfl, _⟩ := h; rfl
  obtain ⟨n, k, p, rfl, hn, hk, h0, h1, q⟩ := h
  have hr1 := hr.mono (j := 1) (by decide)
  refine ⟨_, pss_cons (ps_set (i := 3) sc_square_at.nd rfl (Or.inl rfl) (pe_fn GA hr (by rfl) (pa_cons (pw 0) (pa_cons (pw 1) pa_nil))))
    (pss_cons (ps_expr (pe_fn GZ hr1 (by rfl) (pa_cons (pw 2) (pa_cons (pw 0) pa_nil))))
    (pss_cons (ps_set (i := 4) sc_square_at.nd rfl (Or.inl rfl) (pe_fn GS hr1 (by rfl) (pa_cons (pw 2) pa_nil)))
    (pss_cons (ps_set (i := 5) sc_square_at.nd rfl (Or.inl rfl) (pe_op om_sub (pe_ix (in_tupK K) (pw 3) pe_int (fun _ _ => rfl)) (pe_op om_mod (pe_ix (in_tupK K) (pw 3) pe_int (fun _ _ => rfl)) (pw 4))))
    (pss_cons (ps_set (i := 6) sc_square_at.nd rfl (Or.inl rfl) (pe_op om_sub (pe_ix (in_tupK K) (pw 3) pe_int (fun _ _ => rfl)) (pe_op om_mod (pe_ix (in_tupK K) (pw 3) pe_int (fun _ _ => rfl)) (pw 4))))
    (pss_one (ps_ret (pe_tup (pa_cons (pw 5) (pa_cons (pw 6) (pa_cons (pe_op om_sub (pe_op om_add (pw 5) (pw 4)) pe_int) (pa_cons (pe_op om_sub (pe_op om_add (pw 6) (pw 4)) pe_int) pa_nil))))))))))), ?_⟩
  have hp2 := p2 k
  refine sq fun N k1 => ⟨n, p, rfl, hn, h0, h1, fun c H1 d s1 e1 => k1 [some (.int n), some (.int p), some (.int k), some (.ref c), none, none, none] _ ?_⟩
  refine sq fun N k1 => ⟨k, n, rfl, by omega, by omega, k1 _ _ ?_⟩
  refine sq fun N k1 => ⟨k, rfl, by omega, k1 [some (.int n), some (.int p), some (.int k), some (.ref c), some (.int (2 ^ k)), none, none] _ ?_⟩
  refine sq fun N k1 => ⟨SqT.of e1, rfl, SqT.of e1, rfl, hp2, k1 _ _ ?_⟩
  refine sq fun N k1 => ⟨SqT.of e1, rfl, SqT.of e1, rfl, hp2, k1 _ _ ?_⟩
  exact ⟨(by show 4 ≤ sizeLine; decide), fun b hb => q b _ (s1.trans (same_new hb _))⟩
end
noncomputable def BxV (K : PySem.W.Frag) (H : Hp) (v : V) : Bx → Prop
  | none => v = .non
  | some y => ∃ a, v = .ref a ∧ SqT K H a [.int y.l, .int y.b, .int y.r, .int y.t]
theorem BxV.same {K : PySem.W.Frag} {H H' : Hp} {v : V} {x : Bx} (e : Same H H') (h : BxV K H v x) : BxV K H' v x := by
  cases x with
  | none => exact h
  | some y => obtain ⟨a, rfl, h⟩ := h; exact ⟨a, rfl, e.tup h⟩
noncomputable def spChkB (K : PySem.W.Frag) : Sp := fun vs H Q _ => ∃ (a : Addr) (x : B4) (s : Int), vs = [.ref a, .int s] ∧ SqT K H a [.int x.l, .int x.b, .int x.r, .int x.t] ∧ Box s x ∧ Q .non H
noncomputable def spChkN : Sp := fun vs H Q _ => ∃ p e : Int, vs = [.int p, .int e] ∧ 0 ≤ p ∧ p < e ∧ Q .non H
noncomputable def spCellsIn (K : PySem.W.Frag) : Sp := fun vs H Q _ => ∃ (v : V) (x : Bx) (m : Nat), vs = [v] ∧ BxV K H v x ∧ Good x (2 ^ m) ∧ m ≤ 60 ∧ Q (.int (ar x)) H
noncomputable def spPart (K : PySem.W.Frag) : Sp := fun vs H Q _ => ∃ (v : V) (x : Bx) (s q : Int), vs = [v, .int s, .int q] ∧ BxV K H v x ∧ ∀ (H' : Hp) (u : V) (y : Bx), Same H H' → BxV K H' u y → Good y s → Q u H'
section
variable {P : Program} {w : World} {K : PySem.W.Frag} {mg : Str → Option Value} {base : Heap}
theorem sc_check_box : FnScope ["box", "side"] ["box", "side"] (defScope s_check_box) := ⟨rfl, rfl, rfl, by decide +kernel, rfl, by decide +kernel, by decide +kernel⟩
theorem ok_check_box (D : DefAt K mg "check_box" s_check_box) : FnAt P w K mg base 1 "check_box" ["box", "side"] (spChkB K) := by
  refine FnAt.mk D sc_check_box (fun _ _ _ _ _ _ us hl => by obtain ⟨_, _, rfl⟩ := len2e hl; rfl) (fun vs H Q E h => ?_) (fun f cdv A outer s H vs Q E hr h => ?_)
  · obtain ⟨a, x, e, rfl, _⟩ := h; rfl
  obtain ⟨a, x, e, rfl, hS, ⟨h1, h2, h3, h4, h5, h6⟩, q⟩ := h
  refine ⟨_, pss_cons (ps_if (pw_or (pt_cmpM om_lt (pe_ix (in_tupK K) (pw 0) pe_int (fun _ _ => rfl)) pe_int (nomark _)) (pw_or (pt_cmpM om_gt (pe_ix (in_tupK K) (pw 0) pe_int (fun _ _ => rfl)) (pe_ix (in_tupK K) (pw 0) pe_int (fun _ _ => rfl)) (nomark _)) (pw_or1 (pt_cmpM om_ge (pe_ix (in_tupK K) (pw 0) pe_int (fun _ _ => rfl)) (pw 1) (nomark _))))).pt pss_never pss_nil)
    (pss_one (ps_if (pw_or (pt_cmpM om_lt (pe_ix (in_tupK K) (pw 0) pe_int (fun _ _ => rfl)) pe_int (nomark _)) (pw_or (pt_cmpM om_gt (pe_ix (in_tupK K) (pw 0) pe_int (fun _ _ => rfl)) (pe_ix (in_tupK K) (pw 0) pe_int (fun _ _ => rfl)) (nomark _)) (pw_or1 (pt_cmpM om_ge (pe_ix (in_tupK K) (pw 0) pe_int (fun _ _ => rfl)) (pw 1) (nomark _))))).pt pss_never pss_nil)), ?_⟩
  refine ⟨hS, rfl, iteDF (Int.not_lt.mpr h1) ?_⟩
  refine ⟨hS, rfl, hS, rfl, iteDF (Int.not_lt.mpr h2) ?_⟩
  refine ⟨hS, rfl, iteDF (Int.not_le.mpr h3) ?_⟩
  refine ⟨hS, rfl, iteDF (Int.not_lt.mpr h4) ?_⟩
  refine ⟨hS, rfl, hS, rfl, iteDF (Int.not_lt.mpr h5) ?_⟩
  exact ⟨hS, rfl, iteDF (Int.not_le.mpr h6) q⟩
theorem sc_cells_in : FnScope ["box"] ["box"] (defScope s_cells_in) := ⟨rfl, rfl, rfl, by decide +kernel, rfl, by decide +kernel, by decide +kernel⟩
theorem ok_cells_in (D : DefAt K mg "cells_in" s_cells_in) : FnAt P w K mg base 1 "cells_in" ["box"] (spCellsIn K) := by
  refine FnAt.mk D sc_cells_in (fun _ _ _ _ _ _ us hl => by obtain ⟨_, rfl⟩ := len1e hl; rfl) (fun vs H Q E h => ?_) (fun f cdv A outer s H vs Q E hr h => ?_)
  · obtain ⟨v, x, m, rfl, _⟩ := h; rfl
  obtain ⟨v, x, m, rfl, hv, hg, hm, q⟩ := h
  refine ⟨_, pss_cons (ps_if (pt_cmpB (pc_isN (pw 0))) (pss_one (ps_ret pe_int)) pss_nil)
    (pss_one (ps_ret (pe_op om_mul (pe_op om_add (pe_op om_sub (pe_ix (in_tupK K) (pw 0) pe_int (fun _ _ => rfl)) (pe_ix (in_tupK K) (pw 0) pe_int (fun _ _ => rfl))) pe_int) (pe_op om_add (pe_op om_sub (pe_ix (in_tupK K) (pw 0) pe_int (fun _ _ => rfl)) (pe_ix (in_tupK K) (pw 0) pe_int (fun _ _ => rfl))) pe_int)))), ?_⟩
  cases x with
  | none =>
    cases hv
    exact q
  | some x =>
    obtain ⟨a, rfl, hS⟩ := hv
    obtain ⟨h1, h2, h3, h4, h5, h6⟩ := hg x rfl
    have b := p2_60 hm
    exact ⟨hS, rfl, hS, rfl, hS, rfl, hS, rfl, .inl ⟨by omega, by omega⟩, q⟩
theorem sc_part_in : FnScope ["box", "side", "quarter", "corner", "other", "left", "low", "right", "high"] ["box", "side", "quarter"] (defScope s_part_in) := ⟨rfl, rfl, rfl, by decide +kernel, rfl, by decide +kernel, by decide +kernel⟩
theorem ok_part_in (D : DefAt K mg "part_in" s_part_in) (mn : mg "min" = none) (mx : mg "max" = none) (GO : FnAt P w K mg base 1 "out_of_quarter" ["cell", "side", "quarter"] (spOut K)) : FnAt P w K mg base 2 "part_in" ["box", "side", "quarter"] (spPart K) := by
  refine FnAt.mk D sc_part_in (fun _ _ _ _ _ _ us hl => by obtain ⟨_, _, _, rfl⟩ := len3e hl; rfl) (fun vs H Q E h => ?_) (fun f cdv A outer s H vs Q E hr h => ?_)
  · obtain ⟨v, x, s, q, rfl, _⟩ := h; rfl
  obtain ⟨v, x, sd, q, rfl, hv, kq⟩ := h
  refine ⟨_, pss_cons (ps_if (pt_cmpB (pc_isN (pw 0))) (pss_one (ps_ret pe_non)) pss_nil)
    (pss_cons (ps_set (i := 3) sc_part_in.nd rfl (Or.inl rfl) (pe_fn GO hr (by rfl) (pa_cons (pn_tup (pa_cons (pe_ix (in_tupK K) (pw 0) pe_int (fun _ _ => rfl)) (pa_cons (pe_ix (in_tupK K) (pw 0) pe_int (fun _ _ => rfl)) pa_nil))) (pa_cons (pw 1) (pa_cons (pw 2) pa_nil)))))
    (pss_cons (ps_set (i := 4) sc_part_in.nd rfl (Or.inl rfl) (pe_fn GO hr (by rfl) (pa_cons (pn_tup (pa_cons (pe_ix (in_tupK K) (pw 0) pe_int (fun _ _ => rfl)) (pa_cons (pe_ix (in_tupK K) (pw 0) pe_int (fun _ _ => rfl)) pa_nil))) (pa_cons (pw 1) (pa_cons (pw 2) pa_nil)))))
    (pss_cons (ps_set (i := 5) sc_part_in.nd rfl (Or.inl rfl) (pe_callB (call_max2 rfl) (by rfl) mx PyProof.Rows.boot_max (pa_cons pe_int (pa_cons (pe_callB (call_min2 rfl) (by rfl) mn PyProof.Rows.boot_min (pa_cons (pe_ix (in_tupK K) (pw 3) pe_int (fun _ _ => rfl)) (pa_cons (pe_ix (in_tupK K) (pw 4) pe_int (fun _ _ => rfl)) pa_nil))) pa_nil))))
    (pss_cons (ps_set (i := 6) sc_part_in.nd rfl (Or.inl rfl) (pe_callB (call_max2 rfl) (by rfl) mx PyProof.Rows.boot_max (pa_cons pe_int (pa_cons (pe_callB (call_min2 rfl) (by rfl) mn PyProof.Rows.boot_min (pa_cons (pe_ix (in_tupK K) (pw 3) pe_int (fun _ _ => rfl)) (pa_cons (pe_ix (in_tupK K) (pw 4) pe_int (fun _ _ => rfl)) pa_nil))) pa_nil))))
    (pss_cons (ps_set (i := 7) sc_part_in.nd rfl (Or.inl rfl) (pe_callB (call_min2 rfl) (by rfl) mn PyProof.Rows.boot_min (pa_cons (pe_op om_sub (pw 1) pe_int) (pa_cons (pe_callB (call_max2 rfl) (by rfl) mx PyProof.Rows.boot_max (pa_cons (pe_ix (in_tupK K) (pw 3) pe_int (fun _ _ => rfl)) (pa_cons (pe_ix (in_tupK K) (pw 4) pe_int (fun _ _ => rfl)) pa_nil))) pa_nil))))
    (pss_cons (ps_set (i := 8) sc_part_in.nd rfl (Or.inl rfl) (pe_callB (call_min2 rfl) (by rfl) mn PyProof.Rows.boot_min (pa_cons (pe_op om_sub (pw 1) pe_int) (pa_cons (pe_callB (call_max2 rfl) (by rfl) mx PyProof.Rows.boot_max (pa_cons (pe_ix (in_tupK K) (pw 3) pe_int (fun _ _ => rfl)) (pa_cons (pe_ix (in_tupK K) (pw 4) pe_int (fun _ _ => rfl)) pa_nil))) pa_nil))))
    (pss_cons (ps_if (pw_or (pt_cmpM om_gt (pw 5) (pw 7) (nomark _)) (pw_or1 (pt_cmpM om_gt (pw 6) (pw 8) (nomark _)))).pt (pss_one (ps_ret pe_non)) pss_nil)
    (pss_one (ps_ret (pn_tup (pa_cons (pw 5) (pa_cons (pw 6) (pa_cons (pw 7) (pa_cons (pw 8) pa_nil)))))))))))))), ?_⟩
  cases x with
  | none =>
    cases hv
    exact kq H .non none (Same.refl _) rfl good_none
  | some x =>
    obtain ⟨a, rfl, hS⟩ := hv
    refine sq fun N k => k [some (.ref a), some (.int sd), some (.int q), none, none, none, none, none, none] _ ?_
    clear k
    refine sq fun N k => ⟨hS, rfl, hS, rfl, z2', fun t1 G1 g1 h1 => ⟨t1, (x.l, x.b), sd, q, rfl, SqT.of h1, fun c H2 d s2 hc => k [some (.ref a), some (.int sd), some (.int q), some (.ref c), none, none, none, none, none] _ ?_⟩⟩
    clear k h1
    have s2 := g1.trans s2
    have hS := s2.tup hS
    refine sq fun N k => ⟨hS, rfl, hS, rfl, z2', fun t2 G3 g3 h3 => ⟨t2, (x.r, x.t), sd, q, rfl, SqT.of h3, fun o H4 e s4 ho => k [some (.ref a), some (.int sd), some (.int q), some (.ref c), some (.ref o), none, none, none, none] _ ?_⟩⟩
    clear k h3 hS
    have s4 := g3.trans s4
    have hC := SqT.of (K := K) (s4 _ _ hc)
    have hO := SqT.of (K := K) ho
    have s4 := s2.trans s4
    clear hc ho g1 g3 s2
    refine sq fun N k => ⟨hC, rfl, hO, rfl, _, _, rfl, _, _, rfl, k [some (.ref a), some (.int sd), some (.int q), some (.ref c), some (.ref o), some (.int (FW.mx 0 (FW.mn d.1 e.1))), none, none, none] _ ?_⟩
    clear k
    refine sq fun N k => ⟨hC, rfl, hO, rfl, _, _, rfl, _, _, rfl, k [some (.ref a), some (.int sd), some (.int q), some (.ref c), some (.ref o), some (.int (FW.mx 0 (FW.mn d.1 e.1))), some (.int (FW.mx 0 (FW.mn d.2 e.2))), none, none] _ ?_⟩
    clear k
    refine sq fun N k => ⟨hC, rfl, hO, rfl, _, _, rfl, _, _, rfl, k [some (.ref a), some (.int sd), some (.int q), some (.ref c), some (.ref o), some (.int (FW.mx 0 (FW.mn d.1 e.1))), some (.int (FW.mx 0 (FW.mn d.2 e.2))), some (.int (FW.mn (sd - 1) (FW.mx d.1 e.1))), none] _ ?_⟩
    clear k
    refine sq fun N k => ⟨hC, rfl, hO, rfl, _, _, rfl, _, _, rfl, k [some (.ref a), some (.int sd), some (.int q), some (.ref c), some (.ref o), some (.int (FW.mx 0 (FW.mn d.1 e.1))), some (.int (FW.mx 0 (FW.mn d.2 e.2))), some (.int (FW.mn (sd - 1) (FW.mx d.1 e.1))), some (.int (FW.mn (sd - 1) (FW.mx d.2 e.2)))] _ ?_⟩
    clear k hC hO
    have l0 := mx_ge 0 (FW.mn d.1 e.1)
    have b0 := mx_ge 0 (FW.mn d.2 e.2)
    have r1 := mn_le (sd - 1) (FW.mx d.1 e.1)
    have t1 := mn_le (sd - 1) (FW.mx d.2 e.2)
    generalize FW.mx 0 (FW.mn d.1 e.1) = L at l0 ⊢
    generalize FW.mx 0 (FW.mn d.2 e.2) = B at b0 ⊢
    generalize FW.mn (sd - 1) (FW.mx d.1 e.1) = R at r1 ⊢
    generalize FW.mn (sd - 1) (FW.mx d.2 e.2) = T at t1 ⊢
    refine sq fun N k => ?_
    by_cases h1 : L > R
    · exact iteDT h1 (iteT (kq _ .non none s4 rfl good_none))
    refine iteDF h1 ?_
    by_cases h2 : B > T
    · exact iteDT h2 (kq _ .non none s4 rfl good_none)
    refine iteDF h2 (k _ _ ?_)
    exact ⟨z4, fun b G g h => kq _ _ (some ⟨L, B, R, T⟩) (s4.trans g) ⟨b, rfl, SqT.of h⟩ (Box.good ⟨l0, Int.not_lt.mp h1, Int.lt_of_le_sub_one r1, b0, Int.not_lt.mp h2, Int.lt_of_le_sub_one t1⟩)⟩
end
noncomputable def spCountW (K : PySem.W.Frag) : Sp := fun vs H Q _ => ∃ (n : Nat) (a : Addr) (x : B4) (p : Int), vs = [.int n, .ref a, .int p] ∧ n ≤ 60 ∧ SqT K H a [.int x.l, .int x.b, .int x.r, .int x.t] ∧ Box (2 ^ n) x ∧ 0 ≤ p ∧ p ≤ 4 ^ n ∧
  ∀ (H' : Hp) (v : Int), Same H H' → Q (.int v) H'
inductive CInv (K : PySem.W.Frag) (n : Nat) (a : Addr) (p : Int) (H : Hp) (i : Nat) (σ : St) (H' : Hp) : Prop
  | mk {f r : Int} {v : V} {y : Bx} {u1 u2 u3 : Option V} (hin : i ≤ n) (e : σ = [some (.int n), some (.ref a), some (.int p), some (.int (2 ^ (n - i))), some (.int f), some v, some (.int r), u1, u2, u3]) (s : Same H H') (hv : BxV K H' v y) (r0 : 0 ≤ r) (r1 : r < 4 ^ (n - i)) : CInv K n a p H i σ H'
section
variable {P : Program} {w : World} {K : PySem.W.Frag} {mg : Str → Option Value} {base : Heap}
theorem sc_count_ahead : FnScope ["folds", "box", "place", "side", "found", "part", "rest", "fold", "quarter", "ahead"] ["folds", "box", "place"] (defScope s_count_ahead) := ⟨rfl, rfl, rfl, by decide +kernel, rfl, by decide +kernel, by decide +kernel⟩
theorem ok_count_ahead (D : DefAt K mg "count_ahead" s_count_ahead) (mr : mg "range" = none) (GS : FnAt P w K mg base 1 "side_of" ["folds"] spSide) (GN : FnAt P w K mg base 1 "cells_in" ["box"] (spCellsIn K))
    (GI : FnAt P w K mg base 2 "part_in" ["box", "side", "quarter"] (spPart K)) : FnAt P w K mg base 3 "count_ahead" ["folds", "box", "place"] (spCountW K) := by
  refine FnAt.mk D sc_count_ahead (fun _ _ _ _ _ _ us hl => by obtain ⟨_, _, _, rfl⟩ := len3e hl; rfl) (fun vs H Q E h => ?_) (fun f cdv A outer s H vs Q E hr h => ?_)
  · obtain ⟨n, a, x, p, rfl, _⟩ := h; rfl
  obtain ⟨n, a, x, p, rfl, hn, hS, hx, h0, h1, q⟩ := h
  have hr1 := hr.mono (j := 1) (by decide)
  refine ⟨_, pss_cons (ps_set (i := 3) sc_count_ahead.nd rfl (Or.inl rfl) (pe_fn GS hr1 (by rfl) (pa_cons (pw 0) pa_nil)))
    (pss_cons (ps_if (pt_cmpM om_eq (pw 2) (pe_op om_mul (pw 3) (pw 3)) (nomark _)) (pss_one (ps_ret (pe_fn GN hr1 (by rfl) (pa_cons (pw 1) pa_nil)))) pss_nil)
    (pss_cons (ps_set (i := 4) sc_count_ahead.nd rfl (Or.inl rfl) pe_int)
    (pss_cons (ps_set (i := 5) sc_count_ahead.nd rfl (Or.inl rfl) (pw 1))
    (pss_cons (ps_set (i := 6) sc_count_ahead.nd rfl (Or.inl rfl) (pw 2))
    (pss_cons (ps_for PassesOwn.never rfl (pi_range1 rfl mr (pa_cons (pw 0) pa_nil)) (pg_name (i := 7) sc_count_ahead.nd rfl (Or.inl rfl))
      (pss_cons (ps_set (i := 3) sc_count_ahead.nd rfl (Or.inl rfl) (pe_op om_fdiv (pw 3) pe_int))
      (pss_cons (ps_set (i := 8) sc_count_ahead.nd rfl (Or.inl rfl) (pe_op om_fdivL (pw 6) (pe_op om_mul (pw 3) (pw 3))))
      (pss_cons (ps_for PassesOwn.never rfl (pi_range1 rfl mr (pa_cons (pw 8) pa_nil)) (pg_name (i := 9) sc_count_ahead.nd rfl (Or.inl rfl))
        (pss_one (ps_set (i := 4) sc_count_ahead.nd rfl (Or.inl rfl) (pe_op om_add (pw 4) (pe_fn GN hr1 (by rfl) (pa_cons (pe_fn GI hr (by rfl) (pa_cons (pw 5) (pa_cons (pw 3) (pa_cons (pw 9) pa_nil)))) pa_nil))))))
      (pss_cons (ps_set (i := 5) sc_count_ahead.nd rfl (Or.inl rfl) (pe_fn GI hr (by rfl) (pa_cons (pw 5) (pa_cons (pw 3) (pa_cons (pw 8) pa_nil)))))
      (pss_one (ps_set (i := 6) sc_count_ahead.nd rfl (Or.inl rfl) (pe_op om_mod (pw 6) (pe_op om_mul (pw 3) (pw 3))))))))))
    (pss_one (ps_ret (pw 4)))))))), ?_⟩
  have hp2 := p2 n
  have hp60 := p2_60 hn
  refine sq fun _ k => ⟨n, rfl, hn, k [some (.int n), some (.ref a), some (.int p), some (.int (2 ^ n)), none, none, none, none, none, none] _ ?_⟩
  clear k
  refine sq fun _ k => ⟨.inl (mulb hp2 hp60), ?_⟩
  by_cases hp : p = 4 ^ n
  · subst hp
    have q' := q H (ar (some x)) (Same.refl _)
    exact iteDT (p4e n) ⟨.ref a, some x, n, rfl, ⟨a, rfl, hS⟩, hx.good, hn, q'⟩
  refine iteDF (by rw [← p4e]; exact hp) (k _ _ ?_)
  clear k
  refine sq fun _ k => k [some (.int n), some (.ref a), some (.int p), some (.int (2 ^ n)), some (.int 0), none, none, none, none, none] _ ?_
  clear k
  refine sq fun _ k => k [some (.int n), some (.ref a), some (.int p), some (.int (2 ^ n)), some (.int 0), some (.ref a), none, none, none, none] _ ?_
  clear k
  refine sq fun _ k => k [some (.int n), some (.ref a), some (.int p), some (.int (2 ^ n)), some (.int 0), some (.ref a), some (.int p), none, none, none] _ ?_
  clear k
  refine sq fun _ k => ?_
  refine ⟨(n : Int), rfl, rlo n, rhi hn, for_range (lo := 0) (n := (n : Int).toNat) (fun i σ H' => CInv K n a p H i σ H')
    (CInv.mk (y := some x) (Nat.zero_le _) rfl (Same.refl _) ⟨a, rfl, hS⟩ h0 (by show p < 4 ^ n; omega)) ?_ ?_⟩
  rotate_left
  · rintro σ H' @⟨f, r, v, y, u1, u2, u3, hin, rfl, s1, hv, r0, r1⟩
    exact k _ _ (q H' f s1)
  clear k
  rintro i σ H' hi @⟨f, r, v, y, u1, u2, u3, hin, rfl, s1, hv, r0, r1⟩
  have hi : i < n := hi
  obtain ⟨m, em, em', hmn⟩ := half_step hi
  have hi1 : i + 1 ≤ n := hi
  have hm : m ≤ 60 := Nat.le_trans hmn hn
  show tSeq _ _ _ [some (.int n), some (.ref a), some (.int p), some (.int (2 ^ (n - i))), some (.int f), some v, some (.int r), some (.int (0 + i)), u2, u3] H'
  refine gD fun D kD _ => ?_
  have kD : ∀ σ' H2, CInv K n a p H (i + 1) σ' H2 → D.nx σ' H2 := kD
  rw [em] at r1 ⊢
  refine sq fun N k => ⟨⟨by decide, by decide⟩, ?_⟩
  show N [some (.int n), some (.ref a), some (.int p), some (.int (2 ^ (m + 1) / 2)), some (.int f), some v, some (.int r), some (.int (0 + i)), u2, u3] H'
  rw [half_pow]
  refine k _ _ ?_
  clear k
  have hm60 := p2_60 hm
  have hm2 := p2 m
  have hm4 := p4 m
  have hm460 := p4_60 hm
  have hmm : 0 < (2 : Int) ^ m * 2 ^ m := by rw [← p4e]; exact hm4
  have hmb := mulb hm2 hm60
  refine sq fun N k => ⟨.inl hmb, ⟨hmm, ?_⟩, ?_⟩
  · rw [← p4e]; exact Int.lt_of_le_of_lt hm460 (by decide)
  show N [some (.int n), some (.ref a), some (.int p), some (.int (2 ^ m)), some (.int f), some v, some (.int r), some (.int (0 + i)), some (.int (r / (2 ^ m * 2 ^ m))), u3] H'
  rw [← p4e]
  refine k _ _ ?_
  clear k
  rw [p4s] at r1
  have hq : 0 ≤ r / 4 ^ m ∧ r / 4 ^ m < 4 := ⟨Int.ediv_nonneg r0 (Int.le_of_lt hm4), Int.ediv_lt_of_lt_mul hm4 r1⟩
  have em1 := Int.emod_nonneg r (Int.ne_of_gt hm4)
  have em2 := Int.emod_lt_of_pos r hm4
  generalize r / 4 ^ m = qq at hq ⊢
  refine sq fun N k => ?_
  refine ⟨qq, rfl, Int.le_trans (by decide) hq.1, Int.lt_trans hq.2 (by decide), for_range (lo := 0) (n := qq.toNat) (fun j σ H2 => ∃ (f : Int) (u : Option V), σ = [some (.int n), some (.ref a), some (.int p), some (.int (2 ^ m)), some (.int f), some v, some (.int r), some (.int (0 + i)), some (.int qq), u] ∧ Same H' H2)
    ⟨f, u3, rfl, Same.refl _⟩ ?_ ?_⟩
  · clear k kD
    rintro j σ H2 hj ⟨f', u, rfl, s2⟩
    refine ⟨v, y, 2 ^ m, 0 + (j : Int), rfl, hv.same s2, fun H3 u' y' s3 hu hg => ?_⟩
    refine ⟨u', y', m, rfl, hu, hg, hm, ?_⟩
    exact ⟨_, _, rfl, s2.trans s3⟩
  rintro σ H2 ⟨f', u, rfl, s2⟩
  refine k _ _ ?_
  clear k
  refine sq fun N k => ⟨v, y, 2 ^ m, qq, rfl, hv.same s2, fun H3 u' y' s3 hu hg => k [some (.int n), some (.ref a), some (.int p), some (.int (2 ^ m)), some (.int f'), some u', some (.int r), some (.int (0 + i)), some (.int qq), u] _ ?_⟩
  clear k
  refine ⟨.inl hmb, hmm, ?_⟩
  show D.nx [some (.int n), some (.ref a), some (.int p), some (.int (2 ^ m)), some (.int f'), some u', some (.int (r % (2 ^ m * 2 ^ m))), some (.int (0 + i)), some (.int qq), u] H3
  rw [← p4e]
  exact kD _ _ (CInv.mk (y := y') hi1 (by rw [em']) ((s1.trans s2).trans s3) hu em1 (by rw [em']; exact em2))
theorem sc_counted : FnScope ["folds", "box", "place"] ["folds", "box", "place"] (defScope s_counted) := ⟨rfl, rfl, rfl, by decide +kernel, rfl, by decide +kernel, by decide +kernel⟩
theorem ok_counted (D : DefAt K mg "counted" s_counted) (GF : FnAt P w K mg base 1 "check_folds" ["folds"] spChkF) (GB : FnAt P w K mg base 1 "check_box" ["box", "side"] (spChkB K)) (GS : FnAt P w K mg base 1 "side_of" ["folds"] spSide)
    (GP : FnAt P w K mg base 1 "check_place" ["place", "end"] spChkP) (GC : FnAt P w K mg base 2 "cells_of" ["folds"] spCells) (GA : FnAt P w K mg base 3 "count_ahead" ["folds", "box", "place"] (spCountW K)) : FnAt P w K mg base 4 "counted" ["folds", "box", "place"] (spCountW K) := by
  refine FnAt.mk D sc_counted (fun _ _ _ _ _ _ us hl => by obtain ⟨_, _, _, rfl⟩ := len3e hl; rfl) (fun vs H Q E h => ?_) (fun f cdv A outer s H vs Q E hr h => ?_)
  · obtain ⟨n, a, x, p, rfl, _⟩ := h; rfl
  obtain ⟨n, a, x, p, rfl, hn, hS, hx, h0, h1, q⟩ := h
  have hr1 := hr.mono (j := 1) (by decide)
  have hr2 := hr.mono (j := 2) (by decide)
  refine ⟨_, pss_cons (ps_expr (pe_fn GF hr1 (by rfl) (pa_cons (pw 0) pa_nil)))
    (pss_cons (ps_expr (pe_fn GB hr1 (by rfl) (pa_cons (pw 1) (pa_cons (pe_fn GS hr1 (by rfl) (pa_cons (pw 0) pa_nil)) pa_nil))))
    (pss_cons (ps_expr (pe_fn GP hr1 (by rfl) (pa_cons (pw 2) (pa_cons (pe_op om_add (pe_fn GC hr2 (by rfl) (pa_cons (pw 0) pa_nil)) pe_int) pa_nil))))
    (pss_one (ps_ret (pe_fn GA hr (by rfl) (pa_cons (pw 0) (pa_cons (pw 1) (pa_cons (pw 2) pa_nil)))))))), ?_⟩
  refine sq fun _ k => ⟨n, rfl, hn, k _ _ ?_⟩
  refine sq fun _ k => ⟨n, rfl, hn, a, x, _, rfl, hS, hx, k _ _ ?_⟩
  refine sq fun _ k => ⟨n, rfl, hn, p, _, rfl, h0, by omega, k _ _ ?_⟩
  exact ⟨n, a, x, p, rfl, hn, hS, hx, h0, h1, q⟩
end
noncomputable def spHeld (K : PySem.W.Frag) : Sp := fun vs H Q _ => ∃ (v : V) (x : Bx) (m : Nat) (i : Bool), vs = [v, .int (2 ^ m), .bl i] ∧ BxV K H v x ∧ Good x (2 ^ m) ∧ m ≤ 60 ∧ ∀ z : Int, Q (.int z) H
noncomputable def spQhW (K : PySem.W.Frag) : Sp := fun vs H Q _ => ∃ (v : V) (x : Bx) (m : Nat) (k : Int) (i : Bool), vs = [v, .int (2 ^ m), .int k, .bl i] ∧ BxV K H v x ∧ m ≤ 60 ∧
  ∀ (p : Addr) (H' : Hp) (a b : Int), Same H H' → H' p = some (.tup [.int a, .int b]) → 0 ≤ a ∧ a < 4 → Q (.ref p) H'
noncomputable def spNumbW (K : PySem.W.Frag) : Sp := fun vs H Q _ => ∃ (n : Nat) (a : Addr) (x : B4) (k : Int) (i : Bool), vs = [.int n, .ref a, .int k, .bl i] ∧ n ≤ 60 ∧ SqT K H a [.int x.l, .int x.b, .int x.r, .int x.t] ∧ Box (2 ^ n) x ∧
  ∀ (H' : Hp) (v : V), Same H H' → Q v H'
inductive PInv (K : PySem.W.Frag) (n : Nat) (a : Addr) (k : Int) (b : Bool) (H : Hp) (i : Nat) (σ : St) (H' : Hp) : Prop
  | mk {p r : Int} {v : V} {y : Bx} {u1 u2 : Option V} (hin : i ≤ n) (e : σ = [some (.int n), some (.ref a), some (.int k), some (.bl b), some (.int (2 ^ (n - i))), some (.int p), some v, some (.int r), u1, u2]) (s : Same H H') (hv : BxV K H' v y) : PInv K n a k b H i σ H'
section
variable {P : Program} {w : World} {K : PySem.W.Frag} {mg : Str → Option Value} {base : Heap}
theorem sc_cells_held : FnScope ["part", "side", "inside"] ["part", "side", "inside"] (defScope s_cells_held) := ⟨rfl, rfl, rfl, by decide +kernel, rfl, by decide +kernel, by decide +kernel⟩
theorem ok_cells_held (D : DefAt K mg "cells_held" s_cells_held) (GN : FnAt P w K mg base 1 "cells_in" ["box"] (spCellsIn K)) : FnAt P w K mg base 2 "cells_held" ["part", "side", "inside"] (spHeld K) := by
  refine FnAt.mk D sc_cells_held (fun _ _ _ _ _ _ us hl => by obtain ⟨_, _, _, rfl⟩ := len3e hl; rfl) (fun vs H Q E h => ?_) (fun f cdv A outer s H vs Q E hr h => ?_)
  · obtain ⟨v, x, m, i, rfl, _⟩ := h; rfl
  obtain ⟨v, x, m, i, rfl, hv, hg, hm, q⟩ := h
  refine ⟨_, pss_cons (ps_if (pt_valM (pw 2)) (pss_one (ps_ret (pe_fn GN hr (by rfl) (pa_cons (pw 0) pa_nil)))) pss_nil)
    (pss_one (ps_ret (pe_op om_sub (pe_op om_mul (pw 1) (pw 1)) (pe_fn GN hr (by rfl) (pa_cons (pw 0) pa_nil))))), ?_⟩
  have hp2 := p2 m
  have hp60 := p2_60 hm
  cases i with
  | true => exact ⟨v, x, m, rfl, hv, hg, hm, q _⟩
  | false => exact ⟨.inl (mulb hp2 hp60), v, x, m, rfl, hv, hg, hm, q _⟩
theorem sc_quarter_holding : FnScope ["box", "side", "number", "inside", "rest", "quarter", "held"] ["box", "side", "number", "inside"] (defScope s_quarter_holding) := ⟨rfl, rfl, rfl, by decide +kernel, rfl, by decide +kernel, by decide +kernel⟩
theorem ok_quarter_holding (D : DefAt K mg "quarter_holding" s_quarter_holding) (mr : mg "range" = none) (GH : FnAt P w K mg base 2 "cells_held" ["part", "side", "inside"] (spHeld K)) (GI : FnAt P w K mg base 2 "part_in" ["box", "side", "quarter"] (spPart K)) :
    FnAt P w K mg base 3 "quarter_holding" ["box", "side", "number", "inside"] (spQhW K) := by
  refine FnAt.mk D sc_quarter_holding (fun _ _ _ _ _ _ us hl => by obtain ⟨_, _, _, _, rfl⟩ := len4e hl; rfl) (fun vs H Q E h => ?_) (fun f cdv A outer s H vs Q E hr h => ?_)
  · obtain ⟨v, x, m, k, i, rfl, _⟩ := h; rfl
  obtain ⟨v, x, m, k, i, rfl, hv, hm, q⟩ := h
  refine ⟨_, pss_cons (ps_set (i := 4) sc_quarter_holding.nd rfl (Or.inl rfl) (pw 2))
    (pss_cons (ps_for PassesOwn.never rfl (pi_range1 rfl mr (pa_cons pe_int pa_nil)) (pg_name (i := 5) sc_quarter_holding.nd rfl (Or.inl rfl))
      (pss_cons (ps_set (i := 6) sc_quarter_holding.nd rfl (Or.inl rfl) (pe_fn GH hr (by rfl) (pa_cons (pe_fn GI hr (by rfl) (pa_cons (pw 0) (pa_cons (pw 1) (pa_cons (pw 5) pa_nil)))) (pa_cons (pw 1) (pa_cons (pw 3) pa_nil)))))
      (pss_cons (ps_if (pt_cmpM om_lt (pw 4) (pw 6) (nomark _)) (pss_one (ps_ret (pe_tup (pa_cons (pw 5) (pa_cons (pw 4) pa_nil))))) pss_nil)
      (pss_one (ps_set (i := 4) sc_quarter_holding.nd rfl (Or.inl rfl) (pe_op om_sub (pw 4) (pw 6)))))))
    (pss_one (ps_ret (pe_tup (pa_cons pe_int (pa_cons (pw 4) pa_nil)))))), ?_⟩
  have z2 : ([V.non, V.non] : List V).length ≤ sizeLine := by show 2 ≤ sizeLine; decide
  refine ?_
  refine ⟨3, rfl, by decide, by decide, for_range (lo := 0) (n := 3) (fun j σ H' => ∃ (r : Int) (u1 u2 : Option V), σ = [some v, some (.int (2 ^ m)), some (.int k), some (.bl i), some (.int r), u1, u2] ∧ Same H H')
    ⟨k, none, none, rfl, Same.refl _⟩ ?_ ?_⟩
  · rintro j σ H' hj ⟨r, u1, u2, rfl, s1⟩
    have hq : 0 ≤ (0 + (j : Int)) ∧ (0 + (j : Int)) < 4 := by rw [Int.zero_add]; exact ⟨Int.natCast_nonneg j, Int.lt_trans (Int.ofNat_lt.mpr hj) (by decide)⟩
    refine ⟨v, x, 2 ^ m, 0 + (j : Int), rfl, hv.same s1, fun H2 u y s2 hu hg => ?_⟩
    refine ⟨u, y, m, i, rfl, hu, hg, hm, fun z => ?_⟩
    refine ite2 (fun _ => ?_) (fun _ => ?_)
    · exact ⟨z2, fun p hp => q p _ _ _ ((s1.trans s2).trans (same_new hp _)) upd_same hq⟩
    · exact ⟨_, _, _, rfl, s1.trans s2⟩
  · rintro σ H' ⟨r, u1, u2, rfl, s1⟩
    exact ⟨z2, fun p hp => q p _ _ _ (s1.trans (same_new hp _)) upd_same ⟨by decide, by decide⟩⟩
theorem sc_place_numbered : FnScope ["folds", "box", "number", "inside", "side", "place", "part", "rest", "fold", "held"] ["folds", "box", "number", "inside"] (defScope s_place_numbered) := ⟨rfl, rfl, rfl, by decide +kernel, rfl, by decide +kernel, by decide +kernel⟩
theorem ok_place_numbered (D : DefAt K mg "place_numbered" s_place_numbered) (mr : mg "range" = none) (GS : FnAt P w K mg base 1 "side_of" ["folds"] spSide) (GH : FnAt P w K mg base 2 "cells_held" ["part", "side", "inside"] (spHeld K)) (GI : FnAt P w K mg base 2 "part_in" ["box", "side", "quarter"] (spPart K))
    (GQ : FnAt P w K mg base 3 "quarter_holding" ["box", "side", "number", "inside"] (spQhW K)) : FnAt P w K mg base 4 "place_numbered" ["folds", "box", "number", "inside"] (spNumbW K) := by
  refine FnAt.mk D sc_place_numbered (fun _ _ _ _ _ _ us hl => by obtain ⟨_, _, _, _, rfl⟩ := len4e hl; rfl) (fun vs H Q E h => ?_) (fun f cdv A outer s H vs Q E hr h => ?_)
  · obtain ⟨n, a, x, k, i, rfl, _⟩ := h; rfl
  obtain ⟨n, a, x, k, b, rfl, hn, hS, hx, q⟩ := h
  have hr1 := hr.mono (j := 1) (by decide)
  have hr2 := hr.mono (j := 2) (by decide)
  refine ⟨_, pss_cons (ps_set (i := 4) sc_place_numbered.nd rfl (Or.inl rfl) (pe_fn GS hr1 (by rfl) (pa_cons (pw 0) pa_nil)))
    (pss_cons (ps_if (pt_cmpM om_ge (pw 2) (pe_fn GH hr2 (by rfl) (pa_cons (pw 1) (pa_cons (pw 4) (pa_cons (pw 3) pa_nil)))) (nomark _)) (pss_one (ps_ret pe_non)) pss_nil)
    (pss_cons (ps_set (i := 5) sc_place_numbered.nd rfl (Or.inl rfl) pe_int)
    (pss_cons (ps_set (i := 6) sc_place_numbered.nd rfl (Or.inl rfl) (pw 1))
    (pss_cons (ps_set (i := 7) sc_place_numbered.nd rfl (Or.inl rfl) (pw 2))
    (pss_cons (ps_for PassesOwn.never rfl (pi_range1 rfl mr (pa_cons (pw 0) pa_nil)) (pg_name (i := 8) sc_place_numbered.nd rfl (Or.inl rfl))
      (pss_cons (ps_set (i := 4) sc_place_numbered.nd rfl (Or.inl rfl) (pe_op om_fdiv (pw 4) pe_int))
      (pss_cons (ps_set (i := 9) sc_place_numbered.nd rfl (Or.inl rfl) (pe_fn GQ hr (by rfl) (pa_cons (pw 6) (pa_cons (pw 4) (pa_cons (pw 7) (pa_cons (pw 3) pa_nil))))))
      (pss_cons (ps_set (i := 5) sc_place_numbered.nd rfl (Or.inl rfl) (pe_op om_add (pe_op om_mul pe_int (pw 5)) (pe_ix (in_tupK K) (pw 9) pe_int (fun _ _ => rfl))))
      (pss_cons (ps_set (i := 6) sc_place_numbered.nd rfl (Or.inl rfl) (pe_fn GI hr2 (by rfl) (pa_cons (pw 6) (pa_cons (pw 4) (pa_cons (pe_ix (in_tupK K) (pw 9) pe_int (fun _ _ => rfl)) pa_nil)))))
      (pss_one (ps_set (i := 7) sc_place_numbered.nd rfl (Or.inl rfl) (pe_ix (in_tupK K) (pw 9) pe_int (fun _ _ => rfl)))))))))
    (pss_one (ps_ret (pw 5)))))))), ?_⟩
  refine sq fun _ kk => ⟨n, rfl, hn, kk [some (.int n), some (.ref a), some (.int k), some (.bl b), some (.int (2 ^ n)), none, none, none, none, none] _ ?_⟩
  clear kk
  refine sq fun _ kk => ⟨.ref a, some x, n, b, rfl, ⟨a, rfl, hS⟩, hx.good, hn, fun z => ite2 (fun _ => q H _ (Same.refl _)) (fun _ => kk _ _ ?_)⟩
  clear kk
  refine sq fun _ kk => kk [some (.int n), some (.ref a), some (.int k), some (.bl b), some (.int (2 ^ n)), some (.int 0), none, none, none, none] _ ?_
  clear kk
  refine sq fun _ kk => kk [some (.int n), some (.ref a), some (.int k), some (.bl b), some (.int (2 ^ n)), some (.int 0), some (.ref a), none, none, none] _ ?_
  clear kk
  refine sq fun _ kk => kk [some (.int n), some (.ref a), some (.int k), some (.bl b), some (.int (2 ^ n)), some (.int 0), some (.ref a), some (.int k), none, none] _ ?_
  clear kk
  refine sq fun _ kk => ?_
  refine ⟨(n : Int), rfl, rlo n, rhi hn, for_range (lo := 0) (n := (n : Int).toNat) (fun i σ H' => PInv K n a k b H i σ H') (PInv.mk (y := some x) (Nat.zero_le _) rfl (Same.refl _) ⟨a, rfl, hS⟩) ?_ ?_⟩
  rotate_left
  · rintro σ H' @⟨p, r, v, y, u1, u2, hin, rfl, s1, hv⟩
    exact kk _ _ (q H' _ s1)
  clear kk
  rintro i σ H' hi @⟨p, r, v, y, u1, u2, hin, rfl, s1, hv⟩
  have hi : i < n := hi
  obtain ⟨m, em, em', hmn⟩ := half_step hi
  have hi1 : i + 1 ≤ n := hi
  have hm : m ≤ 60 := Nat.le_trans hmn hn
  show tSeq _ _ _ [some (.int n), some (.ref a), some (.int k), some (.bl b), some (.int (2 ^ (n - i))), some (.int p), some v, some (.int r), some (.int (0 + i)), u2] H'
  refine gD fun D kD _ => ?_
  have kD : ∀ σ' H2, PInv K n a k b H (i + 1) σ' H2 → D.nx σ' H2 := kD
  rw [em]
  refine sq fun N kk => ⟨⟨by decide, by decide⟩, ?_⟩
  show N [some (.int n), some (.ref a), some (.int k), some (.bl b), some (.int (2 ^ (m + 1) / 2)), some (.int p), some v, some (.int r), some (.int (0 + i)), u2] H'
  rw [half_pow]
  refine kk _ _ ?_
  clear kk
  refine sq fun _ kk => ⟨v, y, m, r, b, rfl, hv, hm, fun t H2 qa qb s2 e2 hq => kk [some (.int n), some (.ref a), some (.int k), some (.bl b), some (.int (2 ^ m)), some (.int p), some v, some (.int r), some (.int (0 + i)), some (.ref t)] _ ?_⟩
  clear kk
  refine sq fun _ kk => ⟨.inl ⟨by decide, by decide⟩, SqT.of e2, rfl, kk [some (.int n), some (.ref a), some (.int k), some (.bl b), some (.int (2 ^ m)), some (.int (4 * p + qa)), some v, some (.int r), some (.int (0 + i)), some (.ref t)] _ ?_⟩
  clear kk
  refine sq fun _ kk => ⟨SqT.of e2, rfl, v, y, 2 ^ m, qa, rfl, hv.same s2, fun H3 u y' s3 hu hg => kk [some (.int n), some (.ref a), some (.int k), some (.bl b), some (.int (2 ^ m)), some (.int (4 * p + qa)), some u, some (.int r), some (.int (0 + i)), some (.ref t)] _ ?_⟩
  clear kk
  exact ⟨SqT.of (s3 _ _ e2), rfl, kD _ _ (PInv.mk (y := y') hi1 (by rw [em']; rfl) ((s1.trans s2).trans s3) hu)⟩
end
noncomputable def spNthW (K : PySem.W.Frag) : Sp := fun vs H Q _ => ∃ (n : Nat) (a : Addr) (x : B4) (k : Int), vs = [.int n, .ref a, .int k] ∧ n ≤ 60 ∧ SqT K H a [.int x.l, .int x.b, .int x.r, .int x.t] ∧ Box (2 ^ n) x ∧ 0 ≤ k ∧ k < ar (some x) ∧
  ∀ (H' : Hp) (v : V), Same H H' → Q v H'
noncomputable def spNextW (K : PySem.W.Frag) : Sp := fun vs H Q _ => ∃ (n : Nat) (a : Addr) (x : B4) (p : Int), vs = [.int n, .ref a, .int p] ∧ n ≤ 60 ∧ SqT K H a [.int x.l, .int x.b, .int x.r, .int x.t] ∧ Box (2 ^ n) x ∧ 0 ≤ p ∧ p ≤ 4 ^ n ∧
  ∀ (H' : Hp) (v : V), Same H H' → Q v H'
section
variable {P : Program} {w : World} {K : PySem.W.Frag} {mg : Str → Option Value} {base : Heap}
theorem sc_next_in : FnScope ["folds", "box", "place", "met"] ["folds", "box", "place"] (defScope s_next_in) := ⟨rfl, rfl, rfl, by decide +kernel, rfl, by decide +kernel, by decide +kernel⟩
theorem ok_next_in (D : DefAt K mg "next_in" s_next_in) (GC : FnAt P w K mg base 4 "counted" ["folds", "box", "place"] (spCountW K)) (GN : FnAt P w K mg base 4 "place_numbered" ["folds", "box", "number", "inside"] (spNumbW K)) : FnAt P w K mg base 5 "next_in" ["folds", "box", "place"] (spNextW K) := by
  refine FnAt.mk D sc_next_in (fun _ _ _ _ _ _ us hl => by obtain ⟨_, _, _, rfl⟩ := len3e hl; rfl) (fun vs H Q E h => ?_) (fun f cdv A outer s H vs Q E hr h => ?_)
  · obtain ⟨n, a, x, k, rfl, _⟩ := h; rfl
  obtain ⟨n, a, x, p, rfl, hn, hS, hx, h0, h1, q⟩ := h
  refine ⟨_, pss_cons (ps_set (i := 3) sc_next_in.nd rfl (Or.inl rfl) (pe_fn GC hr (by rfl) (pa_cons (pw 0) (pa_cons (pw 1) (pa_cons (pw 2) pa_nil)))))
    (pss_one (ps_ret (pe_fn GN hr (by rfl) (pa_cons (pw 0) (pa_cons (pw 1) (pa_cons (pw 3) (pa_cons pe_bl pa_nil))))))), ?_⟩
  refine ⟨n, a, x, p, rfl, hn, hS, hx, h0, h1, fun H1 c s1 => ?_⟩
  exact ⟨n, a, x, _, true, rfl, hn, s1.tup hS, hx, fun H2 v s2 => q H2 v (s1.trans s2)⟩
theorem sc_next_out : FnScope ["folds", "box", "place", "met"] ["folds", "box", "place"] (defScope s_next_out) := ⟨rfl, rfl, rfl, by decide +kernel, rfl, by decide +kernel, by decide +kernel⟩
theorem ok_next_out (D : DefAt K mg "next_out" s_next_out) (GC : FnAt P w K mg base 4 "counted" ["folds", "box", "place"] (spCountW K)) (GN : FnAt P w K mg base 4 "place_numbered" ["folds", "box", "number", "inside"] (spNumbW K)) : FnAt P w K mg base 5 "next_out" ["folds", "box", "place"] (spNextW K) := by
  refine FnAt.mk D sc_next_out (fun _ _ _ _ _ _ us hl => by obtain ⟨_, _, _, rfl⟩ := len3e hl; rfl) (fun vs H Q E h => ?_) (fun f cdv A outer s H vs Q E hr h => ?_)
  · obtain ⟨n, a, x, k, rfl, _⟩ := h; rfl
  obtain ⟨n, a, x, p, rfl, hn, hS, hx, h0, h1, q⟩ := h
  refine ⟨_, pss_cons (ps_set (i := 3) sc_next_out.nd rfl (Or.inl rfl) (pe_fn GC hr (by rfl) (pa_cons (pw 0) (pa_cons (pw 1) (pa_cons (pw 2) pa_nil)))))
    (pss_one (ps_ret (pe_fn GN hr (by rfl) (pa_cons (pw 0) (pa_cons (pw 1) (pa_cons (pe_op om_sub (pw 2) (pw 3)) (pa_cons pe_bl pa_nil))))))), ?_⟩
  refine ⟨n, a, x, p, rfl, hn, hS, hx, h0, h1, fun H1 c s1 => ?_⟩
  exact ⟨n, a, x, _, false, rfl, hn, s1.tup hS, hx, fun H2 v s2 => q H2 v (s1.trans s2)⟩
end
section
variable {P : Program} {w : World} {K : PySem.W.Frag} {mg : Str → Option Value} {base : Heap}
theorem sc_check_number : FnScope ["number", "end"] ["number", "end"] (defScope s_check_number) := ⟨rfl, rfl, rfl, by decide +kernel, rfl, by decide +kernel, by decide +kernel⟩
theorem ok_check_number (D : DefAt K mg "check_number" s_check_number) : FnAt P w K mg base 1 "check_number" ["number", "end"] spChkN := by
  refine FnAt.mk D sc_check_number (fun _ _ _ _ _ _ us hl => by obtain ⟨_, _, rfl⟩ := len2e hl; rfl) (fun vs H Q E h => ?_) (fun f cdv A outer s H vs Q E hr h => ?_)
  · obtain ⟨p, e, rfl, _⟩ := h; rfl
  obtain ⟨p, e, rfl, h0, h1, q⟩ := h
  refine ⟨_, pss_one (ps_if (pw_or (pt_cmpM om_lt (pw 0) pe_int (nomark _)) (pw_or1 (pt_cmpM om_ge (pw 0) (pw 1) (nomark _)))).pt pss_never pss_nil), ?_⟩
  refine iteDF (Int.not_lt.mpr h0) ?_
  exact iteDF (Int.not_le.mpr h1) q
end
section
variable {P : Program} {w : World} {K : PySem.W.Frag} {mg : Str → Option Value} {base : Heap}
theorem sc_nth : FnScope ["folds", "box", "number"] ["folds", "box", "number"] (defScope s_nth) := ⟨rfl, rfl, rfl, by decide +kernel, rfl, by decide +kernel, by decide +kernel⟩
theorem ok_nth (D : DefAt K mg "nth" s_nth) (GF : FnAt P w K mg base 1 "check_folds" ["folds"] spChkF) (GB : FnAt P w K mg base 1 "check_box" ["box", "side"] (spChkB K)) (GS : FnAt P w K mg base 1 "side_of" ["folds"] spSide)
    (GK : FnAt P w K mg base 1 "check_number" ["number", "end"] spChkN) (GI : FnAt P w K mg base 1 "cells_in" ["box"] (spCellsIn K)) (GN : FnAt P w K mg base 4 "place_numbered" ["folds", "box", "number", "inside"] (spNumbW K)) : FnAt P w K mg base 5 "nth" ["folds", "box", "number"] (spNthW K) := by
  refine FnAt.mk D sc_nth (fun _ _ _ _ _ _ us hl => by obtain ⟨_, _, _, rfl⟩ := len3e hl; rfl) (fun vs H Q E h => ?_) (fun f cdv A outer s H vs Q E hr h => ?_)
  · obtain ⟨n, a, x, p, rfl, _⟩ := h; rfl
  obtain ⟨n, a, x, k, rfl, hn, hS, hx, h0, h1, q⟩ := h
  have hr1 := hr.mono (j := 1) (by decide)
  refine ⟨_, pss_cons (ps_expr (pe_fn GF hr1 (by rfl) (pa_cons (pw 0) pa_nil)))
    (pss_cons (ps_expr (pe_fn GB hr1 (by rfl) (pa_cons (pw 1) (pa_cons (pe_fn GS hr1 (by rfl) (pa_cons (pw 0) pa_nil)) pa_nil))))
    (pss_cons (ps_expr (pe_fn GK hr1 (by rfl) (pa_cons (pw 2) (pa_cons (pe_fn GI hr1 (by rfl) (pa_cons (pw 1) pa_nil)) pa_nil))))
    (pss_one (ps_ret (pe_fn GN hr (by rfl) (pa_cons (pw 0) (pa_cons (pw 1) (pa_cons (pw 2) (pa_cons pe_bl pa_nil))))))))), ?_⟩
  refine ⟨n, rfl, hn, ?_⟩
  refine ⟨n, rfl, hn, a, x, _, rfl, hS, hx, ?_⟩
  refine ⟨.ref a, some x, n, rfl, ⟨a, rfl, hS⟩, hx.good, hn, k, _, rfl, h0, h1, ?_⟩
  exact ⟨n, a, x, k, true, rfl, hn, hS, hx, q⟩
end
noncomputable abbrev Rf (C : Addr) (H : Hp) (E : XK) : Prop := ∀ H', Same H H' → E (.ref C) none H'
noncomputable def bdF (cF : Addr) : Sp := fun vs H _ E => ∃ n : Int, vs = [.int n] ∧ ¬ (0 ≤ n ∧ n ≤ 60) ∧ E (.ref cF) none H
noncomputable def bdP (cP : Addr) : Sp := fun vs H _ E => ∃ p e : Int, vs = [.int p, .int e] ∧ ¬ (0 ≤ p ∧ p < e) ∧ E (.ref cP) none H
noncomputable def bdB (K : PySem.W.Frag) (cB : Addr) : Sp := fun vs H _ E => ∃ (a : Addr) (x : B4) (s : Int), vs = [.ref a, .int s] ∧ SqT K H a [.int x.l, .int x.b, .int x.r, .int x.t] ∧ ¬ Box s x ∧ E (.ref cB) none H
noncomputable abbrev F1 (P : Program) (w : World) (K : PySem.W.Frag) (mg : Str → Option Value) (base : Heap) (k : Nat) (x : Str) (ps : List Str) (sp sp' : Sp) : Prop := FnAt1 P w K mg base k x ps (fun vs H Q E => sp vs H Q E ∨ sp' vs H Q E)
section
variable {P : Program} {w : World} {K : PySem.W.Frag} {mg : Str → Option Value} {base : Heap} {C : Addr}
theorem len1 : ([V.non] : List V).length ≤ sizeLine := by show 1 ≤ sizeLine; decide
theorem bd_check_folds (D : DefAt K mg "check_folds" s_check_folds) (mM : ∃ t, mg "MOST_FOLDS" = some (.int 60 t)) (O : Exc K mg "NoFloor" C) : FnAt1 P w K mg base 1 "check_folds" ["folds"] (bdF C) := by
  obtain ⟨t, mM⟩ := mM
  refine FnAt1.mk D sc_check_folds (fun _ _ _ _ _ _ us hl => by obtain ⟨_, rfl⟩ := len1e hl; rfl) (fun vs H Q E h => ?_) (fun f cdv A outer s H vs Q E hr h => ?_)
  · obtain ⟨n, rfl, _⟩ := h; rfl
  obtain ⟨n, rfl, hn, q⟩ := h
  refine ⟨_, pss_one (ps_if (pw_or (pt_cmpM om_lt (pw 0) pe_int (nomark _)) (pw_or1 (pt_cmpM om_gt (pw 0) (pe_glob (v := .int 60) (by rfl) mM ⟨_, rfl⟩) (nomark _)))).pt (pss_one (ps_raise O throw1 rfl (by rfl) (pa_cons pe_str pa_nil))) pss_nil), ?_⟩
  refine ?_
  by_cases h1 : n < 0
  · exact iteDT h1 (iteT ⟨len1, q⟩)
  · exact iteDF h1 (iteDT (Int.not_le.mp fun h => hn ⟨Int.not_lt.mp h1, h⟩) ⟨len1, q⟩)
theorem bd_check_number (D : DefAt K mg "check_number" s_check_number) (O : Exc K mg "NoNumber" C) : FnAt1 P w K mg base 1 "check_number" ["number", "end"] (bdP C) := by
  refine FnAt1.mk D sc_check_number (fun _ _ _ _ _ _ us hl => by obtain ⟨_, _, rfl⟩ := len2e hl; rfl) (fun vs H Q E h => ?_) (fun f cdv A outer s H vs Q E hr h => ?_)
  · obtain ⟨p, e, rfl, _⟩ := h; rfl
  obtain ⟨p, e, rfl, hn, q⟩ := h
  refine ⟨_, pss_one (ps_if (pw_or (pt_cmpM om_lt (pw 0) pe_int (nomark _)) (pw_or1 (pt_cmpM om_ge (pw 0) (pw 1) (nomark _)))).pt (pss_one (ps_raise O throw1 rfl (by rfl) (pa_cons pe_str pa_nil))) pss_nil), ?_⟩
  refine ?_
  by_cases h1 : p < 0
  · exact iteDT h1 (iteT ⟨len1, q⟩)
  · exact iteDF h1 (iteDT (Int.not_lt.mp fun h => hn ⟨Int.not_lt.mp h1, h⟩) ⟨len1, q⟩)
theorem bd_check_box (D : DefAt K mg "check_box" s_check_box) (O : Exc K mg "NoBox" C) : FnAt1 P w K mg base 1 "check_box" ["box", "side"] (bdB K C) := by
  refine FnAt1.mk D sc_check_box (fun _ _ _ _ _ _ us hl => by obtain ⟨_, _, rfl⟩ := len2e hl; rfl) (fun vs H Q E h => ?_) (fun f cdv A outer s H vs Q E hr h => ?_)
  · obtain ⟨a, x, e, rfl, _⟩ := h; rfl
  obtain ⟨a, x, e, rfl, hS, hn, q⟩ := h
  refine ⟨_, pss_cons (ps_if (pw_or (pt_cmpM om_lt (pe_ix (in_tupK K) (pw 0) pe_int (fun _ _ => rfl)) pe_int (nomark _)) (pw_or (pt_cmpM om_gt (pe_ix (in_tupK K) (pw 0) pe_int (fun _ _ => rfl)) (pe_ix (in_tupK K) (pw 0) pe_int (fun _ _ => rfl)) (nomark _)) (pw_or1 (pt_cmpM om_ge (pe_ix (in_tupK K) (pw 0) pe_int (fun _ _ => rfl)) (pw 1) (nomark _))))).pt (pss_one (ps_raise O throw1 rfl (by rfl) (pa_cons pe_str pa_nil))) pss_nil)
    (pss_one (ps_if (pw_or (pt_cmpM om_lt (pe_ix (in_tupK K) (pw 0) pe_int (fun _ _ => rfl)) pe_int (nomark _)) (pw_or (pt_cmpM om_gt (pe_ix (in_tupK K) (pw 0) pe_int (fun _ _ => rfl)) (pe_ix (in_tupK K) (pw 0) pe_int (fun _ _ => rfl)) (nomark _)) (pw_or1 (pt_cmpM om_ge (pe_ix (in_tupK K) (pw 0) pe_int (fun _ _ => rfl)) (pw 1) (nomark _))))).pt (pss_one (ps_raise O throw1 rfl (by rfl) (pa_cons pe_str pa_nil))) pss_nil)), ?_⟩
  refine ⟨hS, rfl, ?_⟩
  by_cases h1 : x.l < 0
  · exact iteDT h1 (iteT ⟨len1, q⟩)
  refine iteDF h1 ⟨hS, rfl, hS, rfl, ?_⟩
  by_cases h2 : x.r < x.l
  · exact iteDT h2 (iteT ⟨len1, q⟩)
  refine iteDF h2 ⟨hS, rfl, ?_⟩
  by_cases h3 : e ≤ x.r
  · exact iteDT h3 ⟨len1, q⟩
  refine iteDF h3 ⟨hS, rfl, ?_⟩
  by_cases h4 : x.b < 0
  · exact iteDT h4 (iteT ⟨len1, q⟩)
  refine iteDF h4 ⟨hS, rfl, hS, rfl, ?_⟩
  by_cases h5 : x.t < x.b
  · exact iteDT h5 (iteT ⟨len1, q⟩)
  refine iteDF h5 ⟨hS, rfl, iteDT ?_ ⟨len1, q⟩⟩
  refine Classical.byContradiction fun h6 => hn ⟨Int.not_lt.mp h1, Int.not_lt.mp h2, Int.not_le.mp h3, Int.not_lt.mp h4, Int.not_lt.mp h5, Int.not_le.mp h6⟩
end
theorem pos1 {l r : Int} (h : l ≤ r) : 0 < r - l + 1 := by omega
theorem ar_pos {s : Int} {x : B4} (h : Box s x) : 0 < ar (some x) := by
  obtain ⟨h1, h2, h3, h4, h5, h6⟩ := h
  exact Int.mul_pos (pos1 h2) (pos1 h5)
noncomputable def spStrW (K : PySem.W.Frag) (cF cB cN cT : Addr) : Sp := fun vs H Q E => ∃ (n : Int) (a : Addr) (x : B4) (m : Int), vs = [.int n, .ref a, .int m] ∧ SqT K H a [.int x.l, .int x.b, .int x.r, .int x.t] ∧
  ((¬ (0 ≤ n ∧ n ≤ 60) ∧ Rf cF H E) ∨ ∃ N : Nat, n = N ∧ N ≤ 60 ∧ ((¬ Box (2 ^ N) x ∧ Rf cB H E) ∨ Box (2 ^ N) x ∧ ((¬ (0 ≤ m ∧ m < 101) ∧ Rf cN H E) ∨ m = 0 ∧ Rf cT H E)))
section
variable {P : Program} {w : World} {K : PySem.W.Frag} {mg : Str → Option Value} {base : Heap} {cF cP cC cS cB cN cT : Addr}
theorem sc_stretches : FnScope ["folds", "box", "most", "found", "met", "first", "end"] ["folds", "box", "most"] (defScope s_stretches) := ⟨rfl, rfl, rfl, by decide +kernel, rfl, by decide +kernel, by decide +kernel⟩
theorem ok_stretches {T : Addr} {o : Obj} {t16 : Tok} {nn : Nat} (D : DefAtD K mg "stretches" s_stretches (.ref T)) (ho : K.lookup T = some o) (hs : o.data = .seq #[.int 16 t16] nn) (mlen : mg "len" = none) (mT : ∃ t, mg "MOST_STRETCHES" = some (.int 100 t)) (O : Exc K mg "TooMany" cT)
    (GF : F1 P w K mg base 1 "check_folds" ["folds"] spChkF (bdF cF)) (GB : F1 P w K mg base 1 "check_box" ["box", "side"] (spChkB K) (bdB K cB)) (GS : FnAt P w K mg base 1 "side_of" ["folds"] spSide)
    (GN : F1 P w K mg base 1 "check_number" ["number", "end"] spChkN (bdP cN)) (GI : FnAt P w K mg base 1 "cells_in" ["box"] (spCellsIn K)) : FnAt1 P w K mg base 6 "stretches" ["folds", "box", "most"] (spStrW K cF cB cN cT) := by
  obtain ⟨tT, mT⟩ := mT
  refine FnAt1.mkD D ho hs sc_stretches (fun _ _ _ _ _ _ us hl => by obtain ⟨_, _, _, rfl⟩ := len3e hl; exact ⟨_, Eq.refl _, rfl⟩) (fun vs H Q E h => ?_) (fun f cdv A outer s H vs Q E hr h => ?_)
  · obtain ⟨n, a, x, m, rfl, _⟩ := h; rfl
  obtain ⟨n, a, x, m, rfl, hS, h⟩ := h
  have hr1 := hr.mono (j := 1) (by decide)
  have hr4 := hr.mono (j := 4) (by decide)
  refine ⟨_, pss_cons (ps_expr (pe_fn1 GF pass1 hr1 (by rfl) (pa_cons (pw 0) pa_nil)))
    (pss_cons (ps_expr (pe_fn1 GB pass1 hr1 (by rfl) (pa_cons (pw 1) (pa_cons (pe_fn GS hr1 (by rfl) (pa_cons (pw 0) pa_nil)) pa_nil))))
    (pss_cons (ps_expr (pe_fn1 GN pass1 hr1 (by rfl) (pa_cons (pw 2) (pa_cons (pe_op om_add (pe_glob (v := .int 100) (by rfl) mT ⟨_, rfl⟩) pe_int) pa_nil))))
    (pss_cons (ps_set (i := 3) sc_stretches.nd rfl (Or.inl rfl) (pn_lst pa_nil))
    (pss_cons (ps_set (i := 4) sc_stretches.nd rfl (Or.inl rfl) pe_int)
    (pss_cons (ps_while PassesOwn.leaving (pt_cmpM om_lt (pw 4) (pe_fn GI hr1 (by rfl) (pa_cons (pw 1) pa_nil)) (nomark _))
      (pss_cons (ps_if (pt_cmpM om_eq (pe_callB call_len_seq (by rfl) mlen PySem.boot_len (pa_cons (pw 3) pa_nil)) (pw 2) (nomark _)) (pss_one (ps_raise O throw1 rfl (by rfl) (pa_cons pe_str pa_nil))) pss_nil)
      pss_never))
    (pss_one (ps_ret (pw 3)))))))), ?_⟩
  rcases h with ⟨hb, q⟩ | ⟨N, rfl, hn, h⟩
  · exact .inr ⟨n, rfl, hb, q H (Same.refl _)⟩
  refine sq fun _ k => .inl ⟨N, rfl, hn, k _ _ ?_⟩
  clear k
  rcases h with ⟨hb, q⟩ | ⟨hx, h⟩
  · exact ⟨N, rfl, hn, .inr ⟨a, x, _, rfl, hS, hb, q H (Same.refl _)⟩⟩
  refine sq fun _ k => ⟨N, rfl, hn, .inl ⟨a, x, _, rfl, hS, hx, k _ _ ?_⟩⟩
  clear k
  rcases h with ⟨hb, q⟩ | ⟨rfl, q2⟩
  · exact .inr ⟨m, _, rfl, hb, q H (Same.refl _)⟩
  refine sq fun _ k => .inl ⟨0, _, rfl, by decide, (by show (0 : Int) < 100 + 1; decide), k _ _ ?_⟩
  clear k
  refine sq fun _ k => ⟨(by show 0 ≤ sizeLine; decide), fun l G sH h0 => k [some (.int N), some (.ref a), some (.int 0), some (.ref l), none, none, none] _ ?_⟩
  clear k
  refine sq fun _ k => k [some (.int N), some (.ref a), some (.int 0), some (.ref l), some (.int 0), none, none] _ ?_
  clear k
  refine sq fun _ k => ⟨fun μ σ H' => σ = [some (.int N), some (.ref a), some (.int 0), some (.ref l), some (.int 0), none, none] ∧ H' = G, ⟨0, rfl, rfl⟩, ?_⟩
  clear k
  rintro μ σ H' ⟨rfl, rfl⟩
  refine ⟨.ref a, some x, N, rfl, ⟨a, rfl, sH.tup hS⟩, hx.good, hn, ?_⟩
  refine iteDT (ar_pos hx) ⟨fun _ _ => False, fun _ _ z => z.elim, ?_⟩
  exact ⟨l, _, rfl, .inl (SqL.of h0), len1, q2 _ sH⟩
end
noncomputable def bdC (K : PySem.W.Frag) (cC : Addr) : Sp := fun vs H _ E => ∃ (a : Addr) (c : Int × Int) (s : Int), vs = [.ref a, .int s] ∧ SqT K H a [.int c.1, .int c.2] ∧ ¬ On c s ∧ E (.ref cC) none H
noncomputable def bdS (cS : Addr) : Sp := fun vs H _ E => ∃ k n : Int, vs = [.int k, .int n] ∧ ¬ (0 ≤ k ∧ k ≤ n) ∧ E (.ref cS) none H
section
variable {P : Program} {w : World} {K : PySem.W.Frag} {mg : Str → Option Value} {base : Heap} {C : Addr}
theorem bd_check_place (D : DefAt K mg "check_place" s_check_place) (O : Exc K mg "NoPlace" C) : FnAt1 P w K mg base 1 "check_place" ["place", "end"] (bdP C) := by
  refine FnAt1.mk D sc_check_place (fun _ _ _ _ _ _ us hl => by obtain ⟨_, _, rfl⟩ := len2e hl; rfl) (fun vs H Q E h => ?_) (fun f cdv A outer s H vs Q E hr h => ?_)
  · obtain ⟨p, e, rfl, _⟩ := h; rfl
  obtain ⟨p, e, rfl, hn, q⟩ := h
  refine ⟨_, pss_one (ps_if (pw_or (pt_cmpM om_lt (pw 0) pe_int (nomark _)) (pw_or1 (pt_cmpM om_ge (pw 0) (pw 1) (nomark _)))).pt (pss_one (ps_raise O throw1 rfl (by rfl) (pa_cons pe_str pa_nil))) pss_nil), ?_⟩
  refine ?_
  by_cases h1 : p < 0
  · exact iteDT h1 (iteT ⟨len1, q⟩)
  · exact iteDF h1 (iteDT (Int.not_lt.mp fun h => hn ⟨Int.not_lt.mp h1, h⟩) ⟨len1, q⟩)
theorem bd_check_size (D : DefAt K mg "check_size" s_check_size) (O : Exc K mg "NoSquare" C) : FnAt1 P w K mg base 1 "check_size" ["size", "folds"] (bdS C) := by
  refine FnAt1.mk D sc_check_size (fun _ _ _ _ _ _ us hl => by obtain ⟨_, _, rfl⟩ := len2e hl; rfl) (fun vs H Q E h => ?_) (fun f cdv A outer s H vs Q E hr h => ?_)
  · obtain ⟨p, e, rfl, _⟩ := h; rfl
  obtain ⟨p, e, rfl, hn, q⟩ := h
  refine ⟨_, pss_one (ps_if (pw_or (pt_cmpM om_lt (pw 0) pe_int (nomark _)) (pw_or1 (pt_cmpM om_gt (pw 0) (pw 1) (nomark _)))).pt (pss_one (ps_raise O throw1 rfl (by rfl) (pa_cons pe_str pa_nil))) pss_nil), ?_⟩
  refine ?_
  by_cases h1 : p < 0
  · exact iteDT h1 (iteT ⟨len1, q⟩)
  · exact iteDF h1 (iteDT (Int.not_le.mp fun h => hn ⟨Int.not_lt.mp h1, h⟩) ⟨len1, q⟩)
theorem bd_check_cell (D : DefAt K mg "check_cell" s_check_cell) (mn : mg "min" = none) (mx : mg "max" = none) (O : Exc K mg "NoCell" C) : FnAt1 P w K mg base 1 "check_cell" ["cell", "side"] (bdC K C) := by
  refine FnAt1.mk D sc_check_cell (fun _ _ _ _ _ _ us hl => by obtain ⟨_, _, rfl⟩ := len2e hl; rfl) (fun vs H Q E h => ?_) (fun f cdv A outer s H vs Q E hr h => ?_)
  · obtain ⟨a, c, s, rfl, _⟩ := h; rfl
  obtain ⟨a, c, sd, rfl, hS, hn, q⟩ := h
  refine ⟨_, pss_one (ps_if (pw_or (pt_cmpM om_lt (pe_callB (call_minP rfl) (by rfl) mn PyProof.Rows.boot_min (pa_cons (pw 0) pa_nil)) pe_int (nomark _))
    (pw_or1 (pt_cmpM om_ge (pe_callB (call_maxP rfl) (by rfl) mx PyProof.Rows.boot_max (pa_cons (pw 0) pa_nil)) (pw 1) (nomark _)))).pt (pss_one (ps_raise O throw1 rfl (by rfl) (pa_cons pe_str pa_nil))) pss_nil), ?_⟩
  refine ⟨a, _, _, rfl, hS, ?_⟩
  unfold On at hn
  by_cases h1 : (if c.2 < c.1 then c.2 else c.1) < 0
  · exact iteDT h1 (iteT ⟨len1, q⟩)
  · refine iteDF h1 ⟨a, _, _, rfl, hS, iteDT ?_ ⟨len1, q⟩⟩
    split at h1 <;> split <;> omega
end
noncomputable def bdFP (cF cP : Addr) (e : Nat → Int) : Sp := fun vs H _ E => ∃ n p : Int, vs = [.int n, .int p] ∧ ((¬ (0 ≤ n ∧ n ≤ 60) ∧ Rf cF H E) ∨ ∃ m : Nat, n = m ∧ m ≤ 60 ∧ ¬ (0 ≤ p ∧ p < e m) ∧ Rf cP H E)
noncomputable def bdFC (K : PySem.W.Frag) (cF cC : Addr) : Sp := fun vs H _ E => ∃ (n : Int) (a : Addr) (c : Int × Int), vs = [.int n, .ref a] ∧ ((¬ (0 ≤ n ∧ n ≤ 60) ∧ Rf cF H E) ∨ ∃ m : Nat, n = m ∧ m ≤ 60 ∧ SqT K H a [.int c.1, .int c.2] ∧ ¬ On c (2 ^ m) ∧ Rf cC H E)
noncomputable def bdFPS (cF cP cS : Addr) : Sp := fun vs H _ E => ∃ n p k : Int, vs = [.int n, .int p, .int k] ∧ ((¬ (0 ≤ n ∧ n ≤ 60) ∧ Rf cF H E) ∨ ∃ m : Nat, n = m ∧ m ≤ 60 ∧ ((¬ (0 ≤ p ∧ p < 4 ^ m) ∧ Rf cP H E) ∨ (0 ≤ p ∧ p < 4 ^ m) ∧ ¬ (0 ≤ k ∧ k ≤ m) ∧ Rf cS H E))
noncomputable def bdFBx (K : PySem.W.Frag) (cF cB cL : Addr) (e : Nat → B4 → Int) : Sp := fun vs H _ E => ∃ (n : Int) (a : Addr) (x : B4) (p : Int), vs = [.int n, .ref a, .int p] ∧ SqT K H a [.int x.l, .int x.b, .int x.r, .int x.t] ∧
  ((¬ (0 ≤ n ∧ n ≤ 60) ∧ Rf cF H E) ∨ ∃ m : Nat, n = m ∧ m ≤ 60 ∧ ((¬ Box (2 ^ m) x ∧ Rf cB H E) ∨ Box (2 ^ m) x ∧ ¬ (0 ≤ p ∧ p < e m x) ∧ Rf cL H E))
section
variable {P : Program} {w : World} {K : PySem.W.Frag} {mg : Str → Option Value} {base : Heap} {cF cP cC cS cB cN cT : Addr}
theorem bd_cell_at (D : DefAt K mg "cell_at" s_cell_at) (GF : F1 P w K mg base 1 "check_folds" ["folds"] spChkF (bdF cF)) (GP : F1 P w K mg base 1 "check_place" ["place", "end"] spChkP (bdP cP)) (GC : FnAt P w K mg base 2 "cells_of" ["folds"] spCells) :
    FnAt1 P w K mg base 3 "cell_at" ["folds", "place"] (bdFP cF cP fun m => 4 ^ m) := by
  refine FnAt1.mk D sc_cell_at (fun _ _ _ _ _ _ us hl => by obtain ⟨_, _, rfl⟩ := len2e hl; rfl) (fun vs H Q E h => ?_) (fun f cdv A outer s H vs Q E hr h => ?_)
  · obtain ⟨n, p, rfl, _⟩ := h; rfl
  obtain ⟨n, p, rfl, h⟩ := h
  have hr1 := hr.mono (j := 1) (by decide)
  refine ⟨_, pss_cons (ps_expr (pe_fn1 GF pass1 hr1 (by rfl) (pa_cons (pw 0) pa_nil)))
    (pss_cons (ps_expr (pe_fn1 GP pass1 hr1 (by rfl) (pa_cons (pw 1) (pa_cons (pe_fn GC hr (by rfl) (pa_cons (pw 0) pa_nil)) pa_nil)))) pss_never), ?_⟩
  rcases h with ⟨hb, q⟩ | ⟨m, rfl, hm, hb, q⟩
  · exact .inr ⟨n, rfl, hb, q H (Same.refl _)⟩
  refine sq fun _ k => .inl ⟨m, rfl, hm, k _ _ ?_⟩
  exact ⟨m, rfl, hm, .inr ⟨p, _, rfl, hb, q H (Same.refl _)⟩⟩
theorem bd_way_at (D : DefAt K mg "way_at" s_way_at) (GF : F1 P w K mg base 1 "check_folds" ["folds"] spChkF (bdF cF)) (GP : F1 P w K mg base 1 "check_place" ["place", "end"] spChkP (bdP cP)) (GC : FnAt P w K mg base 2 "cells_of" ["folds"] spCells) :
    FnAt1 P w K mg base 4 "way_at" ["folds", "place"] (bdFP cF cP fun m => 4 ^ m - 1) := by
  refine FnAt1.mk D sc_way_at (fun _ _ _ _ _ _ us hl => by obtain ⟨_, _, rfl⟩ := len2e hl; rfl) (fun vs H Q E h => ?_) (fun f cdv A outer s H vs Q E hr h => ?_)
  · obtain ⟨n, p, rfl, _⟩ := h; rfl
  obtain ⟨n, p, rfl, h⟩ := h
  have hr1 := hr.mono (j := 1) (by decide)
  have hr2 := hr.mono (j := 2) (by decide)
  refine ⟨_, pss_cons (ps_expr (pe_fn1 GF pass1 hr1 (by rfl) (pa_cons (pw 0) pa_nil)))
    (pss_cons (ps_expr (pe_fn1 GP pass1 hr1 (by rfl) (pa_cons (pw 1) (pa_cons (pe_op om_sub (pe_fn GC hr2 (by rfl) (pa_cons (pw 0) pa_nil)) pe_int) pa_nil)))) pss_never), ?_⟩
  rcases h with ⟨hb, q⟩ | ⟨m, rfl, hm, hb, q⟩
  · exact .inr ⟨n, rfl, hb, q H (Same.refl _)⟩
  refine sq fun _ k => .inl ⟨m, rfl, hm, k _ _ ?_⟩
  exact ⟨m, rfl, hm, .inr ⟨p, _, rfl, hb, q H (Same.refl _)⟩⟩
theorem bd_place_of (D : DefAt K mg "place_of" s_place_of) (GF : F1 P w K mg base 1 "check_folds" ["folds"] spChkF (bdF cF)) (GS : FnAt P w K mg base 1 "side_of" ["folds"] spSide) (GC : F1 P w K mg base 1 "check_cell" ["cell", "side"] (spChkC K) (bdC K cC)) :
    FnAt1 P w K mg base 2 "place_of" ["folds", "cell"] (bdFC K cF cC) := by
  refine FnAt1.mk D sc_place_of (fun _ _ _ _ _ _ us hl => by obtain ⟨_, _, rfl⟩ := len2e hl; rfl) (fun vs H Q E h => ?_) (fun f cdv A outer s H vs Q E hr h => ?_)
  · obtain ⟨n, a, c, rfl, _⟩ := h; rfl
  obtain ⟨n, a, c, rfl, h⟩ := h
  refine ⟨_, pss_cons (ps_expr (pe_fn1 GF pass1 hr (by rfl) (pa_cons (pw 0) pa_nil)))
    (pss_cons (ps_set (i := 2) sc_place_of.nd rfl (Or.inl rfl) (pe_fn GS hr (by rfl) (pa_cons (pw 0) pa_nil)))
    (pss_cons (ps_expr (pe_fn1 GC pass1 hr (by rfl) (pa_cons (pw 1) (pa_cons (pw 2) pa_nil)))) pss_never)), ?_⟩
  rcases h with ⟨hb, q⟩ | ⟨m, rfl, hm, hS, hb, q⟩
  · exact .inr ⟨n, rfl, hb, q H (Same.refl _)⟩
  refine sq fun _ k => .inl ⟨m, rfl, hm, k _ _ ?_⟩
  refine sq fun _ k => ⟨m, rfl, hm, k [some (.int m), some (.ref a), some (.int (2 ^ m)), none, none, none, none] _ ?_⟩
  exact .inr ⟨a, c, _, rfl, hS, hb, q H (Same.refl _)⟩
theorem bd_square_at (D : DefAt K mg "square_at" s_square_at) (GA : F1 P w K mg base 3 "cell_at" ["folds", "place"] spCellAt (bdFP cF cP fun m => 4 ^ m)) (GZ : FnAt1 P w K mg base 1 "check_size" ["size", "folds"] (bdS cS)) :
    FnAt1 P w K mg base 4 "square_at" ["folds", "place", "size"] (bdFPS cF cP cS) := by
  refine FnAt1.mk D sc_square_at (fun _ _ _ _ _ _ us hl => by obtain ⟨_, _, _, rfl⟩ := len3e hl; rfl) (fun vs H Q E h => ?_) (fun f cdv A outer s H vs Q E hr h => ?_)
  · obtain ⟨n, p, k, rfl, _⟩ := h; rfl
  obtain ⟨n, p, k, rfl, h⟩ := h
  have hr1 := hr.mono (j := 1) (by decide)
  refine ⟨_, pss_cons (ps_set (i := 3) sc_square_at.nd rfl (Or.inl rfl) (pe_fn1 GA pass1 hr (by rfl) (pa_cons (pw 0) (pa_cons (pw 1) pa_nil))))
    (pss_cons (ps_expr (pe_fn1 GZ pass1 hr1 (by rfl) (pa_cons (pw 2) (pa_cons (pw 0) pa_nil)))) pss_never), ?_⟩
  rcases h with ⟨hb, q⟩ | ⟨m, rfl, hm, ⟨hb, q⟩ | ⟨hp, hb, q⟩⟩
  · exact .inr ⟨n, p, rfl, .inl ⟨hb, q⟩⟩
  · exact .inr ⟨m, p, rfl, .inr ⟨m, rfl, hm, hb, q⟩⟩
  · refine .inl ⟨m, p, rfl, hm, hp.1, hp.2, fun a H1 d s1 e1 => ?_⟩
    exact ⟨k, m, rfl, hb, q H1 s1⟩
theorem bd_counted (D : DefAt K mg "counted" s_counted) (GF : F1 P w K mg base 1 "check_folds" ["folds"] spChkF (bdF cF)) (GB : F1 P w K mg base 1 "check_box" ["box", "side"] (spChkB K) (bdB K cB)) (GS : FnAt P w K mg base 1 "side_of" ["folds"] spSide)
    (GP : F1 P w K mg base 1 "check_place" ["place", "end"] spChkP (bdP cP)) (GC : FnAt P w K mg base 2 "cells_of" ["folds"] spCells) : FnAt1 P w K mg base 4 "counted" ["folds", "box", "place"] (bdFBx K cF cB cP fun m _ => 4 ^ m + 1) := by
  refine FnAt1.mk D sc_counted (fun _ _ _ _ _ _ us hl => by obtain ⟨_, _, _, rfl⟩ := len3e hl; rfl) (fun vs H Q E h => ?_) (fun f cdv A outer s H vs Q E hr h => ?_)
  · obtain ⟨n, a, x, p, rfl, _⟩ := h; rfl
  obtain ⟨n, a, x, p, rfl, hS, h⟩ := h
  have hr1 := hr.mono (j := 1) (by decide)
  have hr2 := hr.mono (j := 2) (by decide)
  refine ⟨_, pss_cons (ps_expr (pe_fn1 GF pass1 hr1 (by rfl) (pa_cons (pw 0) pa_nil)))
    (pss_cons (ps_expr (pe_fn1 GB pass1 hr1 (by rfl) (pa_cons (pw 1) (pa_cons (pe_fn GS hr1 (by rfl) (pa_cons (pw 0) pa_nil)) pa_nil))))
    (pss_cons (ps_expr (pe_fn1 GP pass1 hr1 (by rfl) (pa_cons (pw 2) (pa_cons (pe_op om_add (pe_fn GC hr2 (by rfl) (pa_cons (pw 0) pa_nil)) pe_int) pa_nil)))) pss_never)), ?_⟩
  rcases h with ⟨hb, q⟩ | ⟨m, rfl, hm, h⟩
  · exact .inr ⟨n, rfl, hb, q H (Same.refl _)⟩
  refine sq fun _ k => .inl ⟨m, rfl, hm, k _ _ ?_⟩
  clear k
  rcases h with ⟨hb, q⟩ | ⟨hx, hb, q⟩
  · exact ⟨m, rfl, hm, .inr ⟨a, x, _, rfl, hS, hb, q H (Same.refl _)⟩⟩
  refine sq fun _ k => ⟨m, rfl, hm, .inl ⟨a, x, _, rfl, hS, hx, k _ _ ?_⟩⟩
  exact ⟨m, rfl, hm, .inr ⟨p, _, rfl, hb, q H (Same.refl _)⟩⟩
theorem bd_nth (D : DefAt K mg "nth" s_nth) (GF : F1 P w K mg base 1 "check_folds" ["folds"] spChkF (bdF cF)) (GB : F1 P w K mg base 1 "check_box" ["box", "side"] (spChkB K) (bdB K cB)) (GS : FnAt P w K mg base 1 "side_of" ["folds"] spSide)
    (GN : FnAt1 P w K mg base 1 "check_number" ["number", "end"] (bdP cN)) (GI : FnAt P w K mg base 1 "cells_in" ["box"] (spCellsIn K)) : FnAt1 P w K mg base 5 "nth" ["folds", "box", "number"] (bdFBx K cF cB cN fun _ x => ar (some x)) := by
  refine FnAt1.mk D sc_nth (fun _ _ _ _ _ _ us hl => by obtain ⟨_, _, _, rfl⟩ := len3e hl; rfl) (fun vs H Q E h => ?_) (fun f cdv A outer s H vs Q E hr h => ?_)
  · obtain ⟨n, a, x, p, rfl, _⟩ := h; rfl
  obtain ⟨n, a, x, p, rfl, hS, h⟩ := h
  have hr1 := hr.mono (j := 1) (by decide)
  refine ⟨_, pss_cons (ps_expr (pe_fn1 GF pass1 hr1 (by rfl) (pa_cons (pw 0) pa_nil)))
    (pss_cons (ps_expr (pe_fn1 GB pass1 hr1 (by rfl) (pa_cons (pw 1) (pa_cons (pe_fn GS hr1 (by rfl) (pa_cons (pw 0) pa_nil)) pa_nil))))
    (pss_cons (ps_expr (pe_fn1 GN pass1 hr1 (by rfl) (pa_cons (pw 2) (pa_cons (pe_fn GI hr1 (by rfl) (pa_cons (pw 1) pa_nil)) pa_nil)))) pss_never)), ?_⟩
  rcases h with ⟨hb, q⟩ | ⟨m, rfl, hm, h⟩
  · exact .inr ⟨n, rfl, hb, q H (Same.refl _)⟩
  refine sq fun _ k => .inl ⟨m, rfl, hm, k _ _ ?_⟩
  clear k
  rcases h with ⟨hb, q⟩ | ⟨hx, hb, q⟩
  · exact ⟨m, rfl, hm, .inr ⟨a, x, _, rfl, hS, hb, q H (Same.refl _)⟩⟩
  refine sq fun _ k => ⟨m, rfl, hm, .inl ⟨a, x, _, rfl, hS, hx, k _ _ ?_⟩⟩
  exact ⟨.ref a, some x, m, rfl, ⟨a, rfl, hS⟩, hx.good, hm, p, _, rfl, hb, q H (Same.refl _)⟩
theorem bd_next_in (D : DefAt K mg "next_in" s_next_in) (GC : FnAt1 P w K mg base 4 "counted" ["folds", "box", "place"] (bdFBx K cF cB cP fun m _ => 4 ^ m + 1)) : FnAt1 P w K mg base 5 "next_in" ["folds", "box", "place"] (bdFBx K cF cB cP fun m _ => 4 ^ m + 1) := by
  refine FnAt1.mk D sc_next_in (fun _ _ _ _ _ _ us hl => by obtain ⟨_, _, _, rfl⟩ := len3e hl; rfl) (fun vs H Q E h => ?_) (fun f cdv A outer s H vs Q E hr h => ?_)
  · obtain ⟨n, a, x, p, rfl, _⟩ := h; rfl
  obtain ⟨n, a, x, p, rfl, h⟩ := h
  exact ⟨_, pss_cons (ps_set (i := 3) sc_next_in.nd rfl (Or.inl rfl) (pe_fn1 GC pass1 hr (by rfl) (pa_cons (pw 0) (pa_cons (pw 1) (pa_cons (pw 2) pa_nil))))) pss_never, n, a, x, p, rfl, h⟩
theorem bd_next_out (D : DefAt K mg "next_out" s_next_out) (GC : FnAt1 P w K mg base 4 "counted" ["folds", "box", "place"] (bdFBx K cF cB cP fun m _ => 4 ^ m + 1)) : FnAt1 P w K mg base 5 "next_out" ["folds", "box", "place"] (bdFBx K cF cB cP fun m _ => 4 ^ m + 1) := by
  refine FnAt1.mk D sc_next_out (fun _ _ _ _ _ _ us hl => by obtain ⟨_, _, _, rfl⟩ := len3e hl; rfl) (fun vs H Q E h => ?_) (fun f cdv A outer s H vs Q E hr h => ?_)
  · obtain ⟨n, a, x, p, rfl, _⟩ := h; rfl
  obtain ⟨n, a, x, p, rfl, h⟩ := h
  exact ⟨_, pss_cons (ps_set (i := 3) sc_next_out.nd rfl (Or.inl rfl) (pe_fn1 GC pass1 hr (by rfl) (pa_cons (pw 0) (pa_cons (pw 1) (pa_cons (pw 2) pa_nil))))) pss_never, n, a, x, p, rfl, h⟩
end
end FW

namespace FW
open PySem L2
set_option maxHeartbeats 4000000
noncomputable def clsN (cF cP cC cS cB cN cT : Addr) : Nat → Addr
  | 0 => cF
  | 1 => cP
  | 2 => cC
  | 3 => cS
  | 4 => cB
  | 5 => cN
  | _ => cT
noncomputable def askP (K : PySem.W.Frag) (cF cP cC cS cB cN cT : Addr) : Nat → V → V → V → Hp → VK → XK → Prop
  | 0, f, u, _, H, Q, E => spCellAt [f, u] H Q E ∨ bdFP cF cP (fun m => 4 ^ m) [f, u] H Q E
  | 1, f, u, _, H, Q, E => spWay [f, u] H Q E ∨ bdFP cF cP (fun m => 4 ^ m - 1) [f, u] H Q E
  | 2, f, u, _, H, Q, E => spPlaceOf K [f, u] H Q E ∨ bdFC K cF cC [f, u] H Q E
  | 3, f, u, v, H, Q, E => spSquare [f, u, v] H Q E ∨ bdFPS cF cP cS [f, u, v] H Q E
  | 4, f, u, v, H, Q, E => spCountW K [f, u, v] H Q E ∨ bdFBx K cF cB cP (fun m _ => 4 ^ m + 1) [f, u, v] H Q E
  | 5, f, u, v, H, Q, E => spNthW K [f, u, v] H Q E ∨ bdFBx K cF cB cN (fun _ x => ar (some x)) [f, u, v] H Q E
  | 6, f, u, v, H, Q, E => spNextW K [f, u, v] H Q E ∨ bdFBx K cF cB cP (fun m _ => 4 ^ m + 1) [f, u, v] H Q E
  | 7, f, u, v, H, Q, E => spNextW K [f, u, v] H Q E ∨ bdFBx K cF cB cP (fun m _ => 4 ^ m + 1) [f, u, v] H Q E
  | _, f, u, v, H, Q, E => spStrW K cF cB cN cT [f, u, v] H Q E
noncomputable def spAsk (K : PySem.W.Frag) (cF cP cC cS cB cN cT : Addr) : Sp := fun vs H Q E => ∃ (j : Nat) (f u v : V), vs = [.int j, f, u, v] ∧ j ≤ 8 ∧ askP K cF cP cC cS cB cN cT j f u v H Q E
structure ClsOk (K : PySem.W.Frag) (W cF cP cC cS cB cN cT C : Addr) (i : Nat) : Prop where
  ex : PySem.W.exmOne K (.ref C) (.ref W) = some true
  at_ : ExcAttr K C
  k0 : PySem.W.kitOne K (.ref C) (.ref cF) = some (decide (0 = i))
  k1 : PySem.W.kitOne K (.ref C) (.ref cP) = some (decide (1 = i))
  k2 : PySem.W.kitOne K (.ref C) (.ref cC) = some (decide (2 = i))
  k3 : PySem.W.kitOne K (.ref C) (.ref cS) = some (decide (3 = i))
  k4 : PySem.W.kitOne K (.ref C) (.ref cB) = some (decide (4 = i))
  k5 : PySem.W.kitOne K (.ref C) (.ref cN) = some (decide (5 = i))
  k6 : PySem.W.kitOne K (.ref C) (.ref cT) = some (decide (6 = i))
  kv : PySem.W.kitOne K (.ref C) (.type "ValueError") = some true
noncomputable def bools : Option Nat → List Bool
  | none => []
  | some i => [decide (0 = i), decide (1 = i), decide (2 = i), decide (3 = i), decide (4 = i), decide (5 = i), decide (6 = i), true]
noncomputable def spCls (K : PySem.W.Frag) (cF cP cC cS cB cN cT : Addr) : Sp := fun vs H Q _ => ∃ (j : Nat) (f u v : V) (r : Option Nat), vs = [.int j, f, u, v] ∧ j ≤ 8 ∧ (∀ i, r = some i → i < 7) ∧
  (∀ (H0 : Hp) (Q' : VK) (E' : XK), Same H H0 → (r = none → ∀ x H1, Same H0 H1 → Q' x H1) → (∀ i H1, r = some i → Same H0 H1 → E' (.ref (clsN cF cP cC cS cB cN cT i)) none H1) → askP K cF cP cC cS cB cN cT j f u v H0 Q' E') ∧
  ∀ (l : Addr) (H' : Hp), Same H H' → H' l = some (.lst ((bools r).map V.bl)) → Q (.ref l) H'
theorem boot_ValueError : bootBuiltins "ValueError" = some (.type "ValueError") := by decide +kernel
section
variable {P : Program} {w : World} {K : PySem.W.Frag} {mg : Str → Option Value} {base : Heap} {W cF cP cC cS cB cN cT : Addr}
theorem sc_law_asked : FnScope ["_law_which", "_law_folds_here", "_law_first_here", "_law_last_here"] ["_law_which", "_law_folds_here", "_law_first_here", "_law_last_here"] (defScope s_law_asked) := ⟨rfl, rfl, rfl, by decide +kernel, rfl, by decide +kernel, by decide +kernel⟩
theorem ok_law_asked (D : DefAt K mg "_law_asked" s_law_asked) (GA : F1 P w K mg base 3 "cell_at" ["folds", "place"] spCellAt (bdFP cF cP fun m => 4 ^ m)) (GY : F1 P w K mg base 4 "way_at" ["folds", "place"] spWay (bdFP cF cP fun m => 4 ^ m - 1)) (GO : F1 P w K mg base 2 "place_of" ["folds", "cell"] (spPlaceOf K) (bdFC K cF cC)) (GQ : F1 P w K mg base 4 "square_at" ["folds", "place", "size"] spSquare (bdFPS cF cP cS)) (GC : F1 P w K mg base 4 "counted" ["folds", "box", "place"] (spCountW K) (bdFBx K cF cB cP fun m _ => 4 ^ m + 1)) (GN : F1 P w K mg base 5 "nth" ["folds", "box", "number"] (spNthW K) (bdFBx K cF cB cN fun _ x => ar (some x))) (GI : F1 P w K mg base 5 "next_in" ["folds", "box", "place"] (spNextW K) (bdFBx K cF cB cP fun m _ => 4 ^ m + 1)) (GU : F1 P w K mg base 5 "next_out" ["folds", "box", "place"] (spNextW K) (bdFBx K cF cB cP fun m _ => 4 ^ m + 1)) (GT : FnAt1 P w K mg base 6 "stretches" ["folds", "box", "most"] (spStrW K cF cB cN cT)) :
    FnAt1 P w K mg base 7 "_law_asked" ["_law_which", "_law_folds_here", "_law_first_here", "_law_last_here"] (spAsk K cF cP cC cS cB cN cT) := by
  refine FnAt1.mk D sc_law_asked (fun _ _ _ _ _ _ us hl => by obtain ⟨_, _, _, _, rfl⟩ := len4e hl; rfl) (fun vs H Q E h => ?_) (fun f cdv A outer s H vs Q E hr h => ?_)
  · obtain ⟨j, f, u, v, rfl, _⟩ := h; rfl
  obtain ⟨j, f, u, v, rfl, hj, h⟩ := h
  have hr2 := hr.mono (j := 2) (by decide)
  have hr3 := hr.mono (j := 3) (by decide)
  have hr4 := hr.mono (j := 4) (by decide)
  have hr5 := hr.mono (j := 5) (by decide)
  refine ⟨_, pss_cons (ps_if (pt_cmpM om_eq (pw 0) pe_int (nomark _)) (pss_one (ps_ret (pe_fn1 GA pass1 hr3 (by rfl) (pa_cons (pw 1) (pa_cons (pw 2) pa_nil))))) pss_nil)
    (pss_cons (ps_if (pt_cmpM om_eq (pw 0) pe_int (nomark _)) (pss_one (ps_ret (pe_fn1 GY pass1 hr4 (by rfl) (pa_cons (pw 1) (pa_cons (pw 2) pa_nil))))) pss_nil)
    (pss_cons (ps_if (pt_cmpM om_eq (pw 0) pe_int (nomark _)) (pss_one (ps_ret (pe_fn1 GO pass1 hr2 (by rfl) (pa_cons (pw 1) (pa_cons (pw 2) pa_nil))))) pss_nil)
    (pss_cons (ps_if (pt_cmpM om_eq (pw 0) pe_int (nomark _)) (pss_one (ps_ret (pe_fn1 GQ pass1 hr4 (by rfl) (pa_cons (pw 1) (pa_cons (pw 2) (pa_cons (pw 3) pa_nil)))))) pss_nil)
    (pss_cons (ps_if (pt_cmpM om_eq (pw 0) pe_int (nomark _)) (pss_one (ps_ret (pe_fn1 GC pass1 hr4 (by rfl) (pa_cons (pw 1) (pa_cons (pw 2) (pa_cons (pw 3) pa_nil)))))) pss_nil)
    (pss_cons (ps_if (pt_cmpM om_eq (pw 0) pe_int (nomark _)) (pss_one (ps_ret (pe_fn1 GN pass1 hr5 (by rfl) (pa_cons (pw 1) (pa_cons (pw 2) (pa_cons (pw 3) pa_nil)))))) pss_nil)
    (pss_cons (ps_if (pt_cmpM om_eq (pw 0) pe_int (nomark _)) (pss_one (ps_ret (pe_fn1 GI pass1 hr5 (by rfl) (pa_cons (pw 1) (pa_cons (pw 2) (pa_cons (pw 3) pa_nil)))))) pss_nil)
    (pss_cons (ps_if (pt_cmpM om_eq (pw 0) pe_int (nomark _)) (pss_one (ps_ret (pe_fn1 GU pass1 hr5 (by rfl) (pa_cons (pw 1) (pa_cons (pw 2) (pa_cons (pw 3) pa_nil)))))) pss_nil)
    (pss_one (ps_ret (pe_fn1 GT pass1 hr (by rfl) (pa_cons (pw 1) (pa_cons (pw 2) (pa_cons (pw 3) pa_nil))))))))))))), ?_⟩
  refine sq fun N k => ?_
  by_cases e0 : (j : Int) = 0
  · obtain rfl := nat_of (k := 0) e0
    exact h
  refine iteDF e0 (k _ _ ?_)
  clear k N
  refine sq fun N k => ?_
  by_cases e1 : (j : Int) = 1
  · obtain rfl := nat_of (k := 1) e1
    exact h
  refine iteDF e1 (k _ _ ?_)
  clear k N
  refine sq fun N k => ?_
  by_cases e2 : (j : Int) = 2
  · obtain rfl := nat_of (k := 2) e2
    exact h
  refine iteDF e2 (k _ _ ?_)
  clear k N
  refine sq fun N k => ?_
  by_cases e3 : (j : Int) = 3
  · obtain rfl := nat_of (k := 3) e3
    exact h
  refine iteDF e3 (k _ _ ?_)
  clear k N
  refine sq fun N k => ?_
  by_cases e4 : (j : Int) = 4
  · obtain rfl := nat_of (k := 4) e4
    exact h
  refine iteDF e4 (k _ _ ?_)
  clear k N
  refine sq fun N k => ?_
  by_cases e5 : (j : Int) = 5
  · obtain rfl := nat_of (k := 5) e5
    exact h
  refine iteDF e5 (k _ _ ?_)
  clear k N
  refine sq fun N k => ?_
  by_cases e6 : (j : Int) = 6
  · obtain rfl := nat_of (k := 6) e6
    exact h
  refine iteDF e6 (k _ _ ?_)
  clear k N
  refine sq fun N k => ?_
  by_cases e7 : (j : Int) = 7
  · obtain rfl := nat_of (k := 7) e7
    exact h
  refine iteDF e7 (k _ _ ?_)
  clear k N
  obtain rfl : j = 8 := by
    rcases nine hj with rfl | rfl | rfl | rfl | rfl | rfl | rfl | rfl | rfl
    · exact absurd rfl e0
    · exact absurd rfl e1
    · exact absurd rfl e2
    · exact absurd rfl e3
    · exact absurd rfl e4
    · exact absurd rfl e5
    · exact absurd rfl e6
    · exact absurd rfl e7
    · rfl
  exact h
end
end FW

namespace FW
open PySem L2
set_option maxHeartbeats 4000000
structure Cls7 (K : PySem.W.Frag) (mg : Str → Option Value) (cF cP cC cS cB cN cT : Addr) : Prop where
  f : Exc K mg "NoFloor" cF
  p : Exc K mg "NoPlace" cP
  c : Exc K mg "NoCell" cC
  s : Exc K mg "NoSquare" cS
  b : Exc K mg "NoBox" cB
  n : Exc K mg "NoNumber" cN
  t : Exc K mg "TooMany" cT
inductive NIs (K : PySem.W.Frag) (H : Hp) (Q : VK) : List V → Prop
  | mk {a C : Addr} {c : V} {cv : Value} {b : Bool} (r : RelV c cv) (h : H a = some (excO a C)) (at_ : ExcAttr K C) (k : PySem.W.kitOne K (.ref C) cv = some b) (q : Q (.bl b) H) : NIs K H Q [.ref a, c]
theorem call_isiN {X : Cx} (K : PySem.W.Frag) (h : X.K = K) : CallR X (.builtin "isinstance") (fun xs H Q => NIs K H Q xs) := by
  subst h
  intro pins s σ H xs us Q I r h
  obtain ⟨h1, h2, h3, h4, q⟩ := h
  exact call_isinstX pins s σ H _ us Q I r ⟨_, _, _, _, _, rfl, h1, h2, h3, h4, q⟩
section
variable {P : Program} {w : World} {K : PySem.W.Frag} {mg : Str → Option Value} {base : Heap} {W cF cP cC cS cB cN cT : Addr}
theorem sc_law_classes : FnScope ["_law_which", "_law_folds_here", "_law_first_here", "_law_last_here", "_law_found", "e"] ["_law_which", "_law_folds_here", "_law_first_here", "_law_last_here"] (defScope s_law_classes) := ⟨rfl, rfl, rfl, by decide +kernel, rfl, by decide +kernel, by decide +kernel⟩
theorem ok_law_classes (D : DefAt K mg "_law_classes" s_law_classes) (misi : mg "isinstance" = none) (mve : mg "ValueError" = none) (hW : mg "WalkError" = some (.ref W)) (X : Cls7 K mg cF cP cC cS cB cN cT) (O : ∀ i, i < 7 → ClsOk K W cF cP cC cS cB cN cT (clsN cF cP cC cS cB cN cT i) i)
    (GA : FnAt1 P w K mg base 7 "_law_asked" ["_law_which", "_law_folds_here", "_law_first_here", "_law_last_here"] (spAsk K cF cP cC cS cB cN cT)) :
    FnAt P w K mg base 8 "_law_classes" ["_law_which", "_law_folds_here", "_law_first_here", "_law_last_here"] (spCls K cF cP cC cS cB cN cT) := by
  refine FnAt.mk D sc_law_classes (fun _ _ _ _ _ _ us hl => by obtain ⟨_, _, _, _, rfl⟩ := len4e hl; rfl) (fun vs H Q E h => ?_) (fun f cdv A outer s H vs Q E hr h => ?_)
  · obtain ⟨j, f, u, v, r, rfl, _⟩ := h; rfl
  obtain ⟨j, f, u, v, r, rfl, hj, hr7, hask, q⟩ := h
  refine ⟨_, pss_cons (ps_set (i := 4) sc_law_classes.nd rfl (Or.inl rfl) (pn_lst pa_nil))
    (pss_cons ((ps_tryAs (i := 5) rfl rfl rfl sc_law_classes.nd rfl rfl (by rfl) hW (fun pn XQ => pss_one (ps_expr (pe_fnT GA hr (by rfl) (pa_cons (pw 0) (pa_cons (pw 1) (pa_cons (pw 2) (pa_cons (pw 3) pa_nil)))))))
      (fun a => pss_cons (ps_set (i := 4) sc_law_classes.nd rfl (Or.inl rfl) (pn_lst (pa_cons (pe_callB (call_isiN K rfl) (by rfl) misi PyProof.Rows.boot_isinstance (pa_cons (pw 5) (pa_cons (pe_glob (v := .ref cF) (by rfl) X.f.nm rfl) pa_nil))) (pa_cons (pe_callB (call_isiN K rfl) (by rfl) misi PyProof.Rows.boot_isinstance (pa_cons (pw 5) (pa_cons (pe_glob (v := .ref cP) (by rfl) X.p.nm rfl) pa_nil))) (pa_cons (pe_callB (call_isiN K rfl) (by rfl) misi PyProof.Rows.boot_isinstance (pa_cons (pw 5) (pa_cons (pe_glob (v := .ref cC) (by rfl) X.c.nm rfl) pa_nil))) (pa_cons (pe_callB (call_isiN K rfl) (by rfl) misi PyProof.Rows.boot_isinstance (pa_cons (pw 5) (pa_cons (pe_glob (v := .ref cS) (by rfl) X.s.nm rfl) pa_nil))) pa_nil))))))
        (pss_cons (ps_set (i := 4) sc_law_classes.nd rfl (Or.inl rfl) (pe_op on_cat (pw 4) (pn_lst (pa_cons (pe_callB (call_isiN K rfl) (by rfl) misi PyProof.Rows.boot_isinstance (pa_cons (pw 5) (pa_cons (pe_glob (v := .ref cB) (by rfl) X.b.nm rfl) pa_nil))) (pa_cons (pe_callB (call_isiN K rfl) (by rfl) misi PyProof.Rows.boot_isinstance (pa_cons (pw 5) (pa_cons (pe_glob (v := .ref cN) (by rfl) X.n.nm rfl) pa_nil))) (pa_cons (pe_callB (call_isiN K rfl) (by rfl) misi PyProof.Rows.boot_isinstance (pa_cons (pw 5) (pa_cons (pe_glob (v := .ref cT) (by rfl) X.t.nm rfl) pa_nil))) pa_nil))))))
        (pss_one (ps_set (i := 4) sc_law_classes.nd rfl (Or.inl rfl) (pe_op on_cat (pw 4) (pn_lst (pa_cons (pe_callB (call_isiN K rfl) (by rfl) misi PyProof.Rows.boot_isinstance (pa_cons (pw 5) (pa_cons (pe_bltn (v := .ty "ValueError") (by rfl) mve boot_ValueError rfl) pa_nil))) pa_nil)))))))))
    (pss_one (ps_ret (pw 4)))), ?_⟩
  refine sq fun N k => ⟨(by show 0 ≤ sizeLine; decide), fun l0 G g0 h0 => k [some (.int j), some f, some u, some v, some (.ref l0), none] _ ?_⟩
  clear k N
  refine sq fun N k => ?_
  have K1 : ∀ (l : Addr) (H' : Hp), Same H H' → H' l = some (.lst ((bools r).map V.bl)) → N [some (.int j), some f, some u, some v, some (.ref l), none] H' := fun l H' s' hl => k _ _ (q l H' s' hl)
  clear k
  refine ⟨fun σ' C H' => σ' = [some (.int j), some f, some u, some v, some (.ref l0), none] ∧ ∃ i, r = some i ∧ C = clsN cF cP cC cS cB cN cT i ∧ Same G H', ?_, ?_⟩
  · rintro σ' C H' e ⟨rfl, i, rfl, rfl, s'⟩ he
    have o := O i (hr7 i rfl)
    refine ⟨o.ex, ?_⟩
    have ge := same_new he (excO e (clsN cF cP cC cS cB cN cT i))
    have he1 : upd H' e (excO e (clsN cF cP cC cS cB cN cT i)) e = some (excO e (clsN cF cP cC cS cB cN cT i)) := upd_same
    generalize upd H' e (excO e (clsN cF cP cC cS cB cN cT i)) = He at he1 ge ⊢
    have s0 : Same H He := g0.trans (s'.trans ge)
    clear ge s'
    refine sq fun N k => ⟨rfl, he1, o.at_, o.k0, rfl, he1, o.at_, o.k1, rfl, he1, o.at_, o.k2, rfl, he1, o.at_, o.k3, (by show 4 ≤ sizeLine; decide), fun l1 G1 g1 h1 => k [some (.int j), some f, some u, some v, some (.ref l1), some (.ref e)] _ ?_⟩
    clear k N
    have he1 := g1 _ _ he1
    have s0 := s0.trans g1
    refine sq fun N k => ⟨rfl, he1, o.at_, o.k4, rfl, he1, o.at_, o.k5, rfl, he1, o.at_, o.k6, (by show 3 ≤ sizeLine; decide), fun l2 G2 g2 h2 => ⟨g2 _ _ h1, h2, (by show 7 ≤ sizeLine; decide), fun l3 G3 g3 h3 => k [some (.int j), some f, some u, some v, some (.ref l3), some (.ref e)] _ ?_⟩⟩
    clear k N
    have he1 := g3 _ _ (g2 _ _ he1)
    refine ⟨rfl, he1, o.at_, o.kv, (by show 1 ≤ sizeLine; decide), fun l4 G4 g4 h4 => ⟨g4 _ _ h3, h4, (by show 8 ≤ sizeLine; decide), fun l5 G5 g5 h5 => ?_⟩⟩
    exact K1 l5 _ (s0.trans (g2.trans (g3.trans (g4.trans g5)))) h5
  · refine ⟨j, f, u, v, rfl, hj, ?_⟩
    refine hask _ _ _ g0 (fun hr x H1 s1 => ?_) (fun i H1 hr s1 => ⟨_, rfl, rfl, i, hr, rfl, s1⟩)
    subst hr
    exact K1 l0 _ (g0.trans s1) (s1 _ _ h0)
end
end FW

namespace FW
open PySem L2
set_option maxHeartbeats 4000000
structure NumOk (b : Bool) (m r : Int) : Prop where
  out : b = true → (r < 0 ∨ m < r)
  inn : b = false → 0 ≤ r ∧ r ≤ m
  lo : -1000000000000000000000000000000 ≤ r
  hi : r < 0 ∨ r ≤ m + 1000000000000000000000000000000
structure BxBd (x : B4) : Prop where
  l : x.l.natAbs < 2 ^ 200
  b : x.b.natAbs < 2 ^ 200
  r : x.r.natAbs < 2 ^ 200
  t : x.t.natAbs < 2 ^ 200
inductive SpFar (Q : VK) (H : Hp) : List V → Prop
  | mk {c : Int} (q : ∀ f : Int, 0 ≤ f → f < 1000000000000000000000000000000 → Q (.int f) H) : SpFar Q H [.int c]
noncomputable def spFar : Sp := fun vs H Q _ => SpFar Q H vs
inductive SpNum (Q : VK) (H : Hp) : List V → Prop
  | mk {b : Bool} {c m : Int} (h1 : -1 ≤ m) (h2 : b = false → 0 ≤ m) (q : ∀ (r : Int) (H' : Hp), Same H H' → NumOk b m r → Q (.int r) H') : SpNum Q H [.bl b, .int c, .int m]
theorem SpNum.of {Q : VK} {H : Hp} {vs : List V} {b : Bool} {c m : Int} (e : vs = [.bl b, .int c, .int m]) (h1 : -1 ≤ m) (h2 : b = false → 0 ≤ m) (q : ∀ (r : Int) (H' : Hp), Same H H' → NumOk b m r → Q (.int r) H') : SpNum Q H vs := by
  subst e
  exact ⟨h1, h2, q⟩
noncomputable def spNum : Sp := fun vs H Q _ => SpNum Q H vs
theorem mod2 (c : Int) : c % 2 = 0 ∨ c % 2 = 1 := by omega
theorem not_on {g s : Int} (h : g < 0 ∨ s - 1 < g) (h1 : 0 ≤ g) (h2 : g < s) : False := by omega
theorem at2a {x y : V} {i : Int} (e : i = 0) : atI [x, y] i = some x := by rw [e]; rfl
theorem at2b {x y : V} {i : Int} (e : i = 1) : atI [x, y] i = some y := by rw [e]; rfl
noncomputable def spLCell : Sp := fun vs H Q _ => ∃ (b : Bool) (c d : Int) (n : Nat), vs = [.bl b, .int c, .int d, .int (2 ^ n)] ∧ n ≤ 60 ∧ ∀ (p : Addr) (H' : Hp) (e : Int × Int), Same H H' → H' p = some (.tup [.int e.1, .int e.2]) → (b = false → On e (2 ^ n)) → (b = true → ¬ On e (2 ^ n)) → Q (.ref p) H'
noncomputable def spLBox (K : PySem.W.Frag) : Sp := fun vs H Q _ => ∃ (b : Bool) (a : Addr) (c0 c1 c2 c3 c4 : Int) (n : Nat), vs = [.bl b, .ref a, .int (2 ^ n)] ∧ n ≤ 60 ∧ H a = some (.lst [.int c0, .int c1, .int c2, .int c3, .int c4]) ∧
  ∀ (p : Addr) (H' : Hp) (x : B4), Same H H' → H' p = some (.tup [.int x.l, .int x.b, .int x.r, .int x.t]) → (b = false → Box (2 ^ n) x) → (b = true → ¬ Box (2 ^ n) x) → BxBd x → Q (.ref p) H'
theorem sorted2 {u v s : Int} {ms : List Int} (p : ms.Perm [u, v]) (h : ms.Pairwise (· ≤ ·)) (hu : 0 ≤ u ∧ u ≤ s) (hv : 0 ≤ v ∧ v ≤ s) : ∃ lo hi, ms = [lo, hi] ∧ lo ≤ hi ∧ 0 ≤ lo ∧ hi ≤ s := by
  have hl := p.length_eq
  match ms, hl with
  | [a, b], _ =>
    have m1 : a ∈ [u, v] := p.mem_iff.mp (by simp)
    have m2 : b ∈ [u, v] := p.mem_iff.mp (by simp)
    have hab : a ≤ b := by
      have := (List.pairwise_cons.mp h).1 b (by simp)
      exact this
    simp only [List.mem_cons, List.not_mem_nil, or_false] at m1 m2
    refine ⟨a, b, rfl, hab, ?_, ?_⟩
    · rcases m1 with rfl | rfl <;> omega
    · rcases m2 with rfl | rfl <;> omega
section
variable {P : Program} {w : World} {K : PySem.W.Frag} {mg : Str → Option Value} {base : Heap}
theorem sc_law_far : FnScope ["_law_cell_here"] ["_law_cell_here"] (defScope s_law_far) := ⟨rfl, rfl, rfl, by decide +kernel, rfl, by decide +kernel, by decide +kernel⟩
theorem ok_law_far (D : DefAt K mg "_law_far" s_law_far) : FnAt P w K mg base 1 "_law_far" ["_law_cell_here"] spFar := by
  refine FnAt.mk D sc_law_far (fun _ _ _ _ _ _ us hl => by obtain ⟨_, rfl⟩ := len1e hl; rfl) (fun vs H Q E h => ?_) (fun f cdv A outer s H vs Q E hr h => ?_)
  · obtain ⟨_⟩ := h; rfl
  obtain @⟨c, q⟩ := h
  refine ⟨_, pss_one (ps_ret (pe_op om_mul (pe_op om_mod (pw 0) pe_int) (pe_op om_mod (pe_op om_fdiv (pw 0) pe_int) (pe_op om_pow pe_int pe_int)))), ?_⟩
  have m0 : 0 ≤ c % 2 := Int.emod_nonneg _ (by decide)
  have m1 : c % 2 < 2 := Int.emod_lt_of_pos _ (by decide)
  refine ⟨(by show (0 : Int) < 2; decide), ⟨by decide, by decide⟩, ⟨by decide, by decide, by decide⟩, (by show (0 : Int) < 10 ^ 30; decide), .inl ⟨by omega, by omega⟩, ?_⟩
  have e : (10 : Int) ^ (30 : Int).toNat = 1000000000000000000000000000000 := by decide
  dsimp only
  rw [e]
  have n0 : 0 ≤ c / 2 % 1000000000000000000000000000000 := Int.emod_nonneg _ (by decide)
  have n1 : c / 2 % 1000000000000000000000000000000 < 1000000000000000000000000000000 := Int.emod_lt_of_pos _ (by decide)
  have := mod2 c
  rcases this with e | e <;> rw [e]
  · rw [Int.zero_mul]; exact q 0 (by decide) (by decide)
  · rw [Int.one_mul]; exact q _ n0 n1
theorem sc_law_number : FnScope ["_law_bad", "_law_cell_here", "_law_most", "_law_rest"] ["_law_bad", "_law_cell_here", "_law_most"] (defScope s_law_number) := ⟨rfl, rfl, rfl, by decide +kernel, rfl, by decide +kernel, by decide +kernel⟩
theorem ok_law_number (D : DefAt K mg "_law_number" s_law_number) (GF : FnAt P w K mg base 1 "_law_far" ["_law_cell_here"] spFar) : FnAt P w K mg base 2 "_law_number" ["_law_bad", "_law_cell_here", "_law_most"] spNum := by
  refine FnAt.mk D sc_law_number (fun _ _ _ _ _ _ us hl => by obtain ⟨_, _, _, rfl⟩ := len3e hl; rfl) (fun vs H Q E h => ?_) (fun f cdv A outer s H vs Q E hr h => ?_)
  · obtain ⟨_, _, _⟩ := h; rfl
  obtain @⟨b, c, m, hm1, hm, q⟩ := h
  refine ⟨_, pss_cons (ps_set (i := 3) sc_law_number.nd rfl (Or.inl rfl) (pe_op om_fdiv (pw 1) pe_int))
    (pss_cons (ps_if (pt_valM (pw 0)) (pss_one (ps_ret (pe_ix in_list (pn_lst (pa_cons (pe_op om_sub (pe_un um_neg pe_int) (pe_fn GF hr (by rfl) (pa_cons (pw 3) pa_nil))) (pa_cons (pe_op om_add (pe_op om_add (pw 2) pe_int) (pe_fn GF hr (by rfl) (pa_cons (pw 3) pa_nil))) pa_nil))) (pe_op om_mod (pw 1) pe_int) (fun _ _ => rfl)))) pss_nil)
    (pss_one (ps_ret (pe_ix in_list (pn_lst (pa_cons (pe_op om_mod (pw 3) (pe_op om_add (pw 2) pe_int)) (pa_cons (pe_op om_sub (pw 2) (pe_op om_mod (pw 3) (pe_op om_add (pw 2) pe_int))) pa_nil))) (pe_op om_mod (pw 1) pe_int) (fun _ _ => rfl))))), ?_⟩
  have mm := mod2 c
  have h2 : (0 : Int) < 2 := by decide
  refine sq fun N k => ⟨⟨by decide, by decide⟩, k [some (.bl b), some (.int c), some (.int m), some (.int (c / 2))] _ ?_⟩
  clear k
  cases b with
  | true =>
    refine ⟨fun f1 a1 b1 => ⟨fun f2 a2 b2 => ⟨z2', fun l G s h => ⟨h2, ?_⟩⟩⟩⟩
    rcases mm with e | e
    · exact ⟨h, at2a e, q (-1 - f1) _ s ⟨fun _ => .inl (by omega), (fun z => by cases z), by omega, .inl (by omega)⟩⟩
    · exact ⟨h, at2b e, q (m + 1 + f2) _ s ⟨fun _ => by omega, (fun z => by cases z), by omega, .inr (by omega)⟩⟩
  | false =>
    have hm' := hm rfl
    have mp : 0 < m + 1 := by omega
    have n0 := Int.emod_nonneg (c / 2) (Int.ne_of_gt mp)
    have n1 := Int.emod_lt_of_pos (c / 2) mp
    refine ⟨mp, mp, z2', fun l G s h => ⟨h2, ?_⟩⟩
    rcases mm with e | e
    · exact ⟨h, at2a e, q (c / 2 % (m + 1)) _ s ⟨(fun z => by cases z), fun _ => ⟨n0, by omega⟩, by omega, .inr (by omega)⟩⟩
    · exact ⟨h, at2b e, q (m - c / 2 % (m + 1)) _ s ⟨(fun z => by cases z), fun _ => ⟨by omega, by omega⟩, by omega, .inr (by omega)⟩⟩
theorem sc_law_cell : FnScope ["_law_bad", "_law_one", "_law_two", "_law_side", "_law_x", "_law_y", "_law_far_here"] ["_law_bad", "_law_one", "_law_two", "_law_side"] (defScope s_law_cell) := ⟨rfl, rfl, rfl, by decide +kernel, rfl, by decide +kernel, by decide +kernel⟩
theorem ok_law_cell (D : DefAt K mg "_law_cell" s_law_cell) (GN : FnAt P w K mg base 2 "_law_number" ["_law_bad", "_law_cell_here", "_law_most"] spNum) : FnAt P w K mg base 3 "_law_cell" ["_law_bad", "_law_one", "_law_two", "_law_side"] spLCell := by
  refine FnAt.mk D sc_law_cell (fun _ _ _ _ _ _ us hl => by obtain ⟨_, _, _, _, rfl⟩ := len4e hl; rfl) (fun vs H Q E h => ?_) (fun f cdv A outer s H vs Q E hr h => ?_)
  · obtain ⟨b, c, d, n, rfl, _⟩ := h; rfl
  obtain ⟨b, c, d, n, rfl, hn, q⟩ := h
  refine ⟨_, pss_cons (ps_set (i := 4) sc_law_cell.nd rfl (Or.inl rfl) (pe_fn GN hr (by rfl) (pa_cons pe_bl (pa_cons (pe_op om_fdiv (pw 1) pe_int) (pa_cons (pe_op om_sub (pw 3) pe_int) pa_nil)))))
    (pss_cons (ps_set (i := 5) sc_law_cell.nd rfl (Or.inl rfl) (pe_fn GN hr (by rfl) (pa_cons pe_bl (pa_cons (pw 2) (pa_cons (pe_op om_sub (pw 3) pe_int) pa_nil)))))
    (pss_cons (ps_if (pt_not (pt_valM (pw 0))) (pss_one (ps_ret (pn_tup (pa_cons (pw 4) (pa_cons (pw 5) pa_nil))))) pss_nil)
    (pss_cons (ps_set (i := 6) sc_law_cell.nd rfl (Or.inl rfl) (pe_fn GN hr (by rfl) (pa_cons pe_bl (pa_cons (pe_op om_fdiv (pw 1) pe_int) (pa_cons (pe_op om_sub (pw 3) pe_int) pa_nil)))))
    (pss_one (ps_ret (pe_ix in_list (pn_lst (pa_cons (pn_tup (pa_cons (pw 6) (pa_cons (pw 5) pa_nil))) (pa_cons (pn_tup (pa_cons (pw 4) (pa_cons (pw 6) pa_nil))) pa_nil))) (pe_op om_mod (pw 1) pe_int) (fun _ _ => rfl))))))), ?_⟩
  have hp := p2 n
  have m0' : (0 : Int) ≤ 2 ^ n - 1 := Int.le_sub_one_of_lt hp
  have m1 : (-1 : Int) ≤ 2 ^ n - 1 := Int.le_trans (by decide) m0'
  have m0 : false = false → (0 : Int) ≤ 2 ^ n - 1 := fun _ => m0'
  refine sq fun N k => ?_
  refine ⟨⟨by decide, by decide⟩, m1, m0, fun x H1 s1 nx => k [some (.bl b), some (.int c), some (.int d), some (.int (2 ^ n)), some (.int x), none, none] _ ?_⟩
  clear k
  refine sq fun N k => ?_
  refine ⟨m1, m0, fun y H2 s2 ny => k [some (.bl b), some (.int c), some (.int d), some (.int (2 ^ n)), some (.int x), some (.int y), none] _ ?_⟩
  clear k
  have x0 := nx.inn rfl
  have y0 := ny.inn rfl
  have xs : x < 2 ^ n := Int.lt_of_le_sub_one x0.2
  have ys : y < 2 ^ n := Int.lt_of_le_sub_one y0.2
  cases b with
  | false => exact ⟨z2', fun p G s h => q p _ (x, y) (s1.trans (s2.trans s)) h (fun _ => ⟨x0.1, xs, y0.1, ys⟩) (fun z => by cases z)⟩
  | true =>
    refine sq fun N k => k [some (.bl true), some (.int c), some (.int d), some (.int (2 ^ n)), some (.int x), some (.int y), none] _ ?_
    clear k
    refine sq fun N k => ?_
    refine ⟨⟨by decide, by decide⟩, m1, (fun z => by cases z), fun g H3 s3 ng => k [some (.bl true), some (.int c), some (.int d), some (.int (2 ^ n)), some (.int x), some (.int y), some (.int g)] _ ?_⟩
    clear k
    have g0 := ng.out rfl
    refine ⟨z2', fun t1 G1 e1 w1 => ⟨z2', fun t2 G2 e2 w2 => ⟨z2', fun l G3 e3 v => ⟨(by show (0 : Int) < 2; decide), ?_⟩⟩⟩⟩
    have sa := (s1.trans (s2.trans s3)).trans (e1.trans (e2.trans e3))
    have mm := mod2 c
    rcases mm with e | e
    · exact ⟨v, at2a e, q t1 _ (g, y) sa (e3 _ _ (e2 _ _ w1)) (fun z => by cases z) (fun _ h => not_on g0 h.1 h.2.1)⟩
    · exact ⟨v, at2b e, q t2 _ (x, g) sa (e3 _ _ w2) (fun z => by cases z) (fun _ h => not_on g0 h.2.2.1 h.2.2.2)⟩
end
end FW

namespace FW
open PySem L2
set_option maxHeartbeats 4000000
section
variable {P : Program} {w : World} {K : PySem.W.Frag} {mg : Str → Option Value} {base : Heap}
theorem sc_law_box : FnScope ["_law_bad", "_law_cells", "_law_side", "_law_xs", "_law_ys", "_law_below", "_law_above", "_law_some"] ["_law_bad", "_law_cells", "_law_side"] (defScope s_law_box) := ⟨rfl, rfl, rfl, by decide +kernel, rfl, by decide +kernel, by decide +kernel⟩
theorem six {ts : List Addr} {t1 t2 t3 t4 t5 t6 : Addr} {R : Addr → Prop} (e : ts = [t1, t2, t3, t4, t5, t6]) (h1 : R t1) (h2 : R t2) (h3 : R t3) (h4 : R t4) (h5 : R t5) (h6 : R t6) (i : Nat) (b : Addr) (h : ts[i]? = some b) : R b := by
  subst e
  match i, h with
  | 0, h => cases h; exact h1
  | 1, h => cases h; exact h2
  | 2, h => cases h; exact h3
  | 3, h => cases h; exact h4
  | 4, h => cases h; exact h5
  | 5, h => cases h; exact h6
  | _ + 6, h => simp at h
noncomputable def Sm (z : Int) : Prop := z.natAbs < 2 ^ 200
theorem sm_in {z s : Int} (h0 : 0 ≤ z) (h1 : z < s) (hs : s ≤ 1152921504606846976) : Sm z := by unfold Sm; omega
theorem sm_up {z s : Int} (h0 : 0 ≤ z) (h1 : z < s) (hs : s ≤ 1152921504606846976) : Sm (z + 1) := by unfold Sm; omega
theorem sm_lo {g : Int} (h0 : 0 ≤ g) (h1 : g < 1000000000000000000000000000000) : Sm (-1 - g) := by unfold Sm; omega
theorem sm_hi {s g : Int} (hs : 0 < s) (hs1 : s ≤ 1152921504606846976) (h0 : 0 ≤ g) (h1 : g < 1000000000000000000000000000000) : Sm (s + g) := by unfold Sm; omega
theorem neg_lo {g : Int} (h0 : 0 ≤ g) : -1 - g < 0 := by omega
inductive BadAt (n : Nat) (H : Hp) (p : Addr) : Prop
  | mk {l b r t : Int} (h : H p = some (.tup [.int l, .int b, .int r, .int t])) (nb : ¬ Box (2 ^ n) ⟨l, b, r, t⟩) (s1 : Sm l) (s2 : Sm b) (s3 : Sm r) (s4 : Sm t) : BadAt n H p
theorem BadAt.to {n : Nat} {H H' : Hp} {p : Addr} (s : Same H H') (h : BadAt n H p) : BadAt n H' p := by
  obtain ⟨h, nb, s1, s2, s3, s4⟩ := h
  exact ⟨s _ _ h, nb, s1, s2, s3, s4⟩
theorem nbL {s l b r t : Int} (h : r < l) : ¬ Box s ⟨l, b, r, t⟩ := fun x => Int.not_le.mpr h x.lr
theorem nbB {s l b r t : Int} (h : t < b) : ¬ Box s ⟨l, b, r, t⟩ := fun x => Int.not_le.mpr h x.bt
theorem nbl {s l b r t : Int} (h : l < 0) : ¬ Box s ⟨l, b, r, t⟩ := fun x => Int.not_le.mpr h x.l0
theorem nbb {s l b r t : Int} (h : b < 0) : ¬ Box s ⟨l, b, r, t⟩ := fun x => Int.not_le.mpr h x.b0
theorem nbr {s l b r t : Int} (h : s ≤ r) : ¬ Box s ⟨l, b, r, t⟩ := fun x => Int.not_le.mpr x.r1 h
theorem nbt {s l b r t : Int} (h : s ≤ t) : ¬ Box s ⟨l, b, r, t⟩ := fun x => Int.not_le.mpr x.t1 h
theorem ok_law_box (D : DefAt K mg "_law_box" s_law_box) (msorted : mg "sorted" = none) (GF : FnAt P w K mg base 1 "_law_far" ["_law_cell_here"] spFar) (GN : FnAt P w K mg base 2 "_law_number" ["_law_bad", "_law_cell_here", "_law_most"] spNum) : FnAt P w K mg base 3 "_law_box" ["_law_bad", "_law_cells", "_law_side"] (spLBox K) := by
  refine FnAt.mk D sc_law_box (fun _ _ _ _ _ _ us hl => by obtain ⟨_, _, _, rfl⟩ := len3e hl; rfl) (fun vs H Q E h => ?_) (fun f cdv A outer s H vs Q E hr h => ?_)
  · obtain ⟨b, a, c0, c1, c2, c3, c4, n, rfl, _⟩ := h; rfl
  obtain ⟨b, a, c0, c1, c2, c3, c4, n, rfl, hn, hc, q⟩ := h
  have hr1 := hr.mono (j := 1) (by decide)
  refine ⟨_, pss_cons (ps_set (i := 3) sc_law_box.nd rfl (Or.inl rfl) (pe_callB call_sortedL (by rfl) msorted PyProof.Rows.boot_sorted (pa_cons (pn_lst (pa_cons (pe_fn GN hr (by rfl) (pa_cons pe_bl (pa_cons (pe_ix in_list (pw 1) pe_int (fun _ _ => rfl)) (pa_cons (pe_op om_sub (pw 2) pe_int) pa_nil)))) (pa_cons (pe_fn GN hr (by rfl) (pa_cons pe_bl (pa_cons (pe_ix in_list (pw 1) pe_int (fun _ _ => rfl)) (pa_cons (pe_op om_sub (pw 2) pe_int) pa_nil)))) pa_nil))) pa_nil)))
    (pss_cons (ps_set (i := 4) sc_law_box.nd rfl (Or.inl rfl) (pe_callB call_sortedL (by rfl) msorted PyProof.Rows.boot_sorted (pa_cons (pn_lst (pa_cons (pe_fn GN hr (by rfl) (pa_cons pe_bl (pa_cons (pe_ix in_list (pw 1) pe_int (fun _ _ => rfl)) (pa_cons (pe_op om_sub (pw 2) pe_int) pa_nil)))) (pa_cons (pe_fn GN hr (by rfl) (pa_cons pe_bl (pa_cons (pe_ix in_list (pw 1) pe_int (fun _ _ => rfl)) (pa_cons (pe_op om_sub (pw 2) pe_int) pa_nil)))) pa_nil))) pa_nil)))
    (pss_cons (ps_if (pt_not (pt_valM (pw 0))) (pss_one (ps_ret (pn_tup (pa_cons (pe_ix in_list (pw 3) pe_int (fun _ _ => rfl)) (pa_cons (pe_ix in_list (pw 4) pe_int (fun _ _ => rfl)) (pa_cons (pe_ix in_list (pw 3) pe_int (fun _ _ => rfl)) (pa_cons (pe_ix in_list (pw 4) pe_int (fun _ _ => rfl)) pa_nil))))))) pss_nil)
    (pss_cons (ps_set (i := 5) sc_law_box.nd rfl (Or.inl rfl) (pe_op om_sub (pe_un um_neg pe_int) (pe_fn GF hr1 (by rfl) (pa_cons (pe_op om_fdiv (pe_ix in_list (pw 1) pe_int (fun _ _ => rfl)) pe_int) pa_nil))))
    (pss_cons (ps_set (i := 6) sc_law_box.nd rfl (Or.inl rfl) (pe_op om_add (pw 2) (pe_fn GF hr1 (by rfl) (pa_cons (pe_op om_fdiv (pe_ix in_list (pw 1) pe_int (fun _ _ => rfl)) pe_int) pa_nil))))
    (pss_cons (ps_set (i := 7) sc_law_box.nd rfl (Or.inl rfl) (pn_lst (pa_cons (pn_tup (pa_cons (pe_op om_add (pe_ix in_list (pw 3) pe_int (fun _ _ => rfl)) pe_int) (pa_cons (pe_ix in_list (pw 4) pe_int (fun _ _ => rfl)) (pa_cons (pe_ix in_list (pw 3) pe_int (fun _ _ => rfl)) (pa_cons (pe_ix in_list (pw 4) pe_int (fun _ _ => rfl)) pa_nil))))) (pa_cons (pn_tup (pa_cons (pe_ix in_list (pw 3) pe_int (fun _ _ => rfl)) (pa_cons (pe_op om_add (pe_ix in_list (pw 4) pe_int (fun _ _ => rfl)) pe_int) (pa_cons (pe_ix in_list (pw 3) pe_int (fun _ _ => rfl)) (pa_cons (pe_ix in_list (pw 4) pe_int (fun _ _ => rfl)) pa_nil))))) pa_nil))))
    (pss_cons (ps_set (i := 7) sc_law_box.nd rfl (Or.inl rfl) (pe_op on_cat (pw 7) (pn_lst (pa_cons (pn_tup (pa_cons (pw 5) (pa_cons (pe_ix in_list (pw 4) pe_int (fun _ _ => rfl)) (pa_cons (pe_ix in_list (pw 3) pe_int (fun _ _ => rfl)) (pa_cons (pe_ix in_list (pw 4) pe_int (fun _ _ => rfl)) pa_nil))))) (pa_cons (pn_tup (pa_cons (pe_ix in_list (pw 3) pe_int (fun _ _ => rfl)) (pa_cons (pw 5) (pa_cons (pe_ix in_list (pw 3) pe_int (fun _ _ => rfl)) (pa_cons (pe_ix in_list (pw 4) pe_int (fun _ _ => rfl)) pa_nil))))) pa_nil)))))
    (pss_cons (ps_set (i := 7) sc_law_box.nd rfl (Or.inl rfl) (pe_op on_cat (pw 7) (pn_lst (pa_cons (pn_tup (pa_cons (pe_ix in_list (pw 3) pe_int (fun _ _ => rfl)) (pa_cons (pe_ix in_list (pw 4) pe_int (fun _ _ => rfl)) (pa_cons (pw 6) (pa_cons (pe_ix in_list (pw 4) pe_int (fun _ _ => rfl)) pa_nil))))) (pa_cons (pn_tup (pa_cons (pe_ix in_list (pw 3) pe_int (fun _ _ => rfl)) (pa_cons (pe_ix in_list (pw 4) pe_int (fun _ _ => rfl)) (pa_cons (pe_ix in_list (pw 3) pe_int (fun _ _ => rfl)) (pa_cons (pw 6) pa_nil))))) pa_nil)))))
    (pss_cons ((ps_if (pw_and (pt_cmpM om_eq (pe_op om_mod (pe_ix in_list (pw 1) pe_int (fun _ _ => rfl)) pe_int) pe_int (nomark _)) (pw_and (pt_cmpM om_lt (pe_ix in_list (pw 3) pe_int (fun _ _ => rfl)) (pe_ix in_list (pw 3) pe_int (fun _ _ => rfl)) (nomark _)) (pw_and1 (pt_cmpM om_lt (pe_ix in_list (pw 4) pe_int (fun _ _ => rfl)) (pe_ix in_list (pw 4) pe_int (fun _ _ => rfl)) (nomark _))))).pt
      (pss_one (ps_set (i := 7) sc_law_box.nd rfl (Or.inl rfl) (pe_op op_rep (pn_lst (pa_cons (pn_tup (pa_cons (pe_ix in_list (pw 3) pe_int (fun _ _ => rfl)) (pa_cons (pe_ix in_list (pw 4) pe_int (fun _ _ => rfl)) (pa_cons (pe_ix in_list (pw 3) pe_int (fun _ _ => rfl)) (pa_cons (pe_ix in_list (pw 4) pe_int (fun _ _ => rfl)) pa_nil))))) (pa_cons (pn_tup (pa_cons (pe_ix in_list (pw 3) pe_int (fun _ _ => rfl)) (pa_cons (pe_ix in_list (pw 4) pe_int (fun _ _ => rfl)) (pa_cons (pe_ix in_list (pw 3) pe_int (fun _ _ => rfl)) (pa_cons (pe_ix in_list (pw 4) pe_int (fun _ _ => rfl)) pa_nil))))) (pa_cons (pn_tup (pa_cons (pe_ix in_list (pw 3) pe_int (fun _ _ => rfl)) (pa_cons (pe_ix in_list (pw 4) pe_int (fun _ _ => rfl)) (pa_cons (pe_ix in_list (pw 3) pe_int (fun _ _ => rfl)) (pa_cons (pe_ix in_list (pw 4) pe_int (fun _ _ => rfl)) pa_nil))))) pa_nil)))) pe_int))) pss_nil))
    (pss_one (ps_ret (pe_ix in_list (pw 7) (pe_op om_mod (pe_op om_fdiv (pe_ix in_list (pw 1) pe_int (fun _ _ => rfl)) pe_int) pe_int) (fun _ _ => rfl)))))))))))), ?_⟩
  have hp := p2 n
  have hp60 := p2_60 hn
  have m0' : (0 : Int) ≤ 2 ^ n - 1 := Int.le_sub_one_of_lt hp
  have m1 : (-1 : Int) ≤ 2 ^ n - 1 := Int.le_trans (by decide) m0'
  have m0 : false = false → (0 : Int) ≤ 2 ^ n - 1 := fun _ => m0'
  refine sq fun N k => ?_
  refine ⟨hc, rfl, m1, m0, fun u1 H1 s1 n1 => ?_⟩
  refine ⟨s1 _ _ hc, rfl, m1, m0, fun u2 H2 s2 n2 => ?_⟩
  refine ⟨z2', fun la Ga sa ha => ⟨la, [u1, u2], rfl, SqL.of ha, (by show 2 < 64; decide), fun lx ms fx pm st => ?_⟩⟩
  obtain ⟨x0, x1, rfl, hxx, hx0, hx1⟩ := sorted2 pm st (n1.inn rfl) (n2.inn rfl)
  have sX := (s1.trans s2).trans (sa.trans (same_new fx (.lst ([x0, x1].map V.int))))
  have hX : upd Ga lx (.lst ([x0, x1].map V.int)) lx = some (.lst [.int x0, .int x1]) := upd_same
  refine k [some (.bl b), some (.ref a), some (.int (2 ^ n)), some (.ref lx), none, none, none, none] _ ?_
  clear k pm st fx ha sa s1 s2 n1 n2
  generalize upd Ga lx (.lst ([x0, x1].map V.int)) = HX at sX hX ⊢
  refine sq fun N k => ?_
  refine ⟨sX _ _ hc, rfl, m1, m0, fun u3 H3 s3 n3 => ?_⟩
  refine ⟨s3 _ _ (sX _ _ hc), rfl, m1, m0, fun u4 H4 s4 n4 => ?_⟩
  refine ⟨z2', fun lb Gb sb hb => ⟨lb, [u3, u4], rfl, SqL.of hb, (by show 2 < 64; decide), fun ly ms fy pm st => ?_⟩⟩
  obtain ⟨y0, y1, rfl, hyy, hy0, hy1⟩ := sorted2 pm st (n3.inn rfl) (n4.inn rfl)
  have sY0 := (s3.trans s4).trans (sb.trans (same_new fy (.lst ([y0, y1].map V.int))))
  have sY := sX.trans sY0
  have hX := sY0 _ _ hX
  have hY : upd Gb ly (.lst ([y0, y1].map V.int)) ly = some (.lst [.int y0, .int y1]) := upd_same
  refine k [some (.bl b), some (.ref a), some (.int (2 ^ n)), some (.ref lx), some (.ref ly), none, none, none] _ ?_
  clear k pm st fy hb sb s3 s4 n3 n4 sY0
  generalize upd Gb ly (.lst ([y0, y1].map V.int)) = HY at sY hX hY ⊢
  have hc := sY _ _ hc
  have xs : x1 < 2 ^ n := Int.lt_of_le_sub_one hx1
  have ys : y1 < 2 ^ n := Int.lt_of_le_sub_one hy1
  have mx0 : Sm x0 := sm_in hx0 (Int.lt_of_le_of_lt hxx xs) hp60
  have mx1 : Sm x1 := sm_in (Int.le_trans hx0 hxx) xs hp60
  have my0 : Sm y0 := sm_in hy0 (Int.lt_of_le_of_lt hyy ys) hp60
  have my1 : Sm y1 := sm_in (Int.le_trans hy0 hyy) ys hp60
  refine sq fun N k => ?_
  cases b with
  | false =>
    refine ⟨hX, rfl, hY, rfl, hX, rfl, hY, rfl, z4, fun p H' s' h' => ?_⟩
    exact q p _ ⟨x0, y0, x1, y1⟩ (sY.trans s') h' (fun _ => ⟨hx0, hxx, xs, hy0, hyy, ys⟩) (fun z => by cases z) ⟨mx0, my0, mx1, my1⟩
  | true =>
    refine k [some (.bl true), some (.ref a), some (.int (2 ^ n)), some (.ref lx), some (.ref ly), none, none, none] HY ?_
    clear k
    refine sq fun N k => ?_
    refine ⟨hc, rfl, ⟨by decide, by decide⟩, ⟨fun g1 ga gb => ?_⟩⟩
    refine k [some (.bl true), some (.ref a), some (.int (2 ^ n)), some (.ref lx), some (.ref ly), some (.int (-1 - g1)), none, none] HY ?_
    clear k
    refine sq fun N k => ?_
    refine ⟨hc, rfl, ⟨by decide, by decide⟩, ⟨fun g2 gc gd => ?_⟩⟩
    refine k [some (.bl true), some (.ref a), some (.int (2 ^ n)), some (.ref lx), some (.ref ly), some (.int (-1 - g1)), some (.int (2 ^ n + g2)), none] HY ?_
    clear k
    have e1 : x1 < x1 + 1 := Int.lt_succ x1
    have e2 : y1 < y1 + 1 := Int.lt_succ y1
    have e3 : -1 - g1 < 0 := neg_lo ga
    have e4 : (2 : Int) ^ n ≤ 2 ^ n + g2 := Int.le_add_of_nonneg_right gc
    have mx2 : Sm (x1 + 1) := sm_up (Int.le_trans hx0 hxx) xs hp60
    have my2 : Sm (y1 + 1) := sm_up (Int.le_trans hy0 hyy) ys hp60
    have ml : Sm (-1 - g1) := sm_lo ga gb
    have mr : Sm (2 ^ n + g2) := sm_hi hp hp60 gc gd
    refine sq fun N k => ?_
    refine ⟨hX, rfl, hY, rfl, hX, rfl, hY, rfl, z4, fun t1 G1 s1 w1 => ?_⟩
    refine ⟨s1 _ _ hX, rfl, s1 _ _ hY, rfl, s1 _ _ hX, rfl, s1 _ _ hY, rfl, z4, fun t2 G2 s2 w2 => ?_⟩
    refine ⟨z2', fun l1 G3 s3 v1 => ?_⟩
    have b1 : BadAt n G1 t1 := ⟨w1, nbL e1, mx2, my0, mx1, my1⟩
    have b1 := b1.to (s2.trans s3)
    have b2 : BadAt n G2 t2 := ⟨w2, nbB e2, mx0, my2, mx1, my1⟩
    have b2 := b2.to s3
    have E := s1.trans (s2.trans s3)
    refine k [some (.bl true), some (.ref a), some (.int (2 ^ n)), some (.ref lx), some (.ref ly), some (.int (-1 - g1)), some (.int (2 ^ n + g2)), some (.ref l1)] G3 ?_
    clear k w1 w2 s1 s2 s3
    have hX := E _ _ hX
    have hY := E _ _ hY
    have hc := E _ _ hc
    have sY := sY.trans E
    clear E
    refine sq fun N k => ?_
    refine ⟨hY, rfl, hX, rfl, hY, rfl, z4, fun t3 G4 s4 w3 => ?_⟩
    refine ⟨s4 _ _ hX, rfl, s4 _ _ hX, rfl, s4 _ _ hY, rfl, z4, fun t4 G5 s5 w4 => ?_⟩
    refine ⟨z2', fun l2 G6 s6 v2 => ⟨(s4.trans (s5.trans s6)) _ _ v1, v2, (by show 4 ≤ sizeLine; decide), fun l3 G7 s7 v3 => ?_⟩⟩
    have b3 : BadAt n G4 t3 := ⟨w3, nbl e3, ml, my0, mx1, my1⟩
    have b3 := b3.to (s5.trans (s6.trans s7))
    have b4 : BadAt n G5 t4 := ⟨w4, nbb e3, mx0, ml, mx1, my1⟩
    have b4 := b4.to (s6.trans s7)
    have E := s4.trans (s5.trans (s6.trans s7))
    refine k [some (.bl true), some (.ref a), some (.int (2 ^ n)), some (.ref lx), some (.ref ly), some (.int (-1 - g1)), some (.int (2 ^ n + g2)), some (.ref l3)] G7 ?_
    clear k w3 w4 s4 s5 s6 s7 v1 v2
    have b1 := b1.to E
    have b2 := b2.to E
    have hX := E _ _ hX
    have hY := E _ _ hY
    have hc := E _ _ hc
    have sY := sY.trans E
    clear E
    refine sq fun N k => ?_
    refine ⟨hX, rfl, hY, rfl, hY, rfl, z4, fun t5 G8 s8 w5 => ?_⟩
    refine ⟨s8 _ _ hX, rfl, s8 _ _ hY, rfl, s8 _ _ hX, rfl, z4, fun t6 G9 s9 w6 => ?_⟩
    refine ⟨z2', fun l4 Ga sa v4 => ⟨(s8.trans (s9.trans sa)) _ _ v3, v4, (by show 6 ≤ sizeLine; decide), fun l5 Gb sb v5 => ?_⟩⟩
    have b5 : BadAt n G8 t5 := ⟨w5, nbr e4, mx0, my0, mr, my1⟩
    have b5 := b5.to (s9.trans (sa.trans sb))
    have b6 : BadAt n G9 t6 := ⟨w6, nbt e4, mx0, my0, mx1, mr⟩
    have b6 := b6.to (sa.trans sb)
    have E := s8.trans (s9.trans (sa.trans sb))
    refine k [some (.bl true), some (.ref a), some (.int (2 ^ n)), some (.ref lx), some (.ref ly), some (.int (-1 - g1)), some (.int (2 ^ n + g2)), some (.ref l5)] Gb ?_
    clear k w5 w6 s8 s9 sa sb v3 v4
    have bs := six (R := BadAt n Gb) (ts := [t1, t2, t3, t4, t5, t6]) rfl (b1.to E) (b2.to E) (b3.to E) (b4.to E) b5 b6
    have hX := E _ _ hX
    have hY := E _ _ hY
    have hc := E _ _ hc
    have sY := sY.trans E
    clear E b1 b2 b3 b4 b5 b6
    refine sq fun N k => ?_
    have K : ∀ (l : Addr) (ts : List Addr) (H' : Hp), Same Gb H' → H' l = some (.lst (ts.map V.ref)) → ts.length = 6 → (∀ (i : Nat) (b : Addr), ts[i]? = some b → BadAt n H' b) → N [some (.bl true), some (.ref a), some (.int (2 ^ n)), some (.ref lx), some (.ref ly), some (.int (-1 - g1)), some (.int (2 ^ n + g2)), some (.ref l)] H' := by
      intro l ts H' s' hl hlen hts
      refine k _ _ ?_
      have a1 := Int.emod_nonneg (c4 / 4) (show (6 : Int) ≠ 0 by decide)
      have a2 := Int.emod_lt_of_pos (c4 / 4) (show (0 : Int) < 6 by decide)
      obtain ⟨j, ej⟩ := Int.eq_ofNat_of_zero_le a1
      have hj : j < ts.length := by rw [hlen]; rw [ej] at a2; exact Int.ofNat_lt.mp a2
      obtain ⟨h, nb, q1, q2, q3, q4⟩ := hts j _ (List.getElem?_eq_getElem hj)
      refine ⟨s' _ _ hc, rfl, ⟨by decide, by decide⟩, (by show (0 : Int) < 6; decide), hl, ?_, q _ _ ⟨_, _, _, _⟩ (sY.trans s') h (fun z => by cases z) (fun _ => nb) ⟨q1, q2, q3, q4⟩⟩
      rw [ej]
      exact atI_nat (by rw [List.getElem?_map, List.getElem?_eq_getElem hj]; rfl)
    clear k
    refine ⟨hc, rfl, (by show (0 : Int) < 4; decide), ?_⟩
    by_cases h3 : c4 % 4 = 3
    rotate_left
    · exact iteDF h3 (iteF (K l5 [t1, t2, t3, t4, t5, t6] Gb (Same.refl _) v5 rfl bs))
    refine iteDT h3 ⟨hX, rfl, hX, rfl, ?_⟩
    by_cases hlx : x0 < x1
    rotate_left
    · exact iteDF hlx (iteF (K l5 [t1, t2, t3, t4, t5, t6] Gb (Same.refl _) v5 rfl bs))
    refine iteDT hlx ⟨hY, rfl, hY, rfl, ?_⟩
    by_cases hly : y0 < y1
    rotate_left
    · exact iteDF hly (K l5 [t1, t2, t3, t4, t5, t6] Gb (Same.refl _) v5 rfl bs)
    refine iteDT hly ?_
    clear bs v5
    refine ⟨hX, rfl, hY, rfl, hX, rfl, hY, rfl, z4, fun t7 Gc s1 w1 => ?_⟩
    refine ⟨s1 _ _ hX, rfl, s1 _ _ hY, rfl, s1 _ _ hX, rfl, s1 _ _ hY, rfl, z4, fun t8 Gd s2 w2 => ?_⟩
    have hX := s2 _ _ (s1 _ _ hX)
    have hY := s2 _ _ (s1 _ _ hY)
    refine ⟨hX, rfl, hY, rfl, hX, rfl, hY, rfl, z4, fun t9 Ge s3 w3 => ?_⟩
    refine ⟨(by show 3 ≤ sizeLine; decide), fun l6 Gf s4 v6 => ?_⟩
    refine ⟨l6, 2, _, rfl, rfl, v6, by decide, by decide, (by show 6 ≤ sizeLine; decide), fun l7 fl7 => ?_⟩
    have s5 := same_new fl7 (.lst [.ref t7, .ref t8, .ref t9, .ref t7, .ref t8, .ref t9])
    have k3 := s3.trans (s4.trans s5)
    have k2 := s2.trans k3
    have b7 : BadAt n Gc t7 := ⟨w1, nbL hlx, mx1, my1, mx0, my0⟩
    have b7 := b7.to k2
    have b8 : BadAt n Gd t8 := ⟨w2, nbL hlx, mx1, my0, mx0, my1⟩
    have b8 := b8.to k3
    have b9 : BadAt n Ge t9 := ⟨w3, nbB hly, mx0, my1, mx1, my0⟩
    have b9 := b9.to (s4.trans s5)
    exact K l7 [t7, t8, t9, t7, t8, t9] _ (s1.trans k2) upd_same rfl (six rfl b7 b8 b9 b7 b8 b9)
end
end FW

namespace FW
open PySem L2
set_option maxHeartbeats 4000000
noncomputable def FirstOk (K : PySem.W.Frag) (H : Hp) (b : Bool) (n : Nat) (v : V) (p : Int) (c : Int × Int) (x : B4) : Nat → Prop
  | 0 => v = .int p ∧ (b = false → 0 ≤ p ∧ p < 4 ^ n) ∧ (b = true → ¬ (0 ≤ p ∧ p < 4 ^ n))
  | 1 => v = .int p ∧ (b = false → 0 ≤ p ∧ p < 4 ^ n - 1) ∧ (b = true → ¬ (0 ≤ p ∧ p < 4 ^ n - 1))
  | 2 => ∃ a : Addr, v = .ref a ∧ SqT K H a [.int c.1, .int c.2] ∧ (b = false → On c (2 ^ n)) ∧ (b = true → ¬ On c (2 ^ n))
  | 3 => v = .int p ∧ (b = false → 0 ≤ p ∧ p < 4 ^ n) ∧ (b = true → ¬ (0 ≤ p ∧ p < 4 ^ n))
  | _ + 4 => ∃ a : Addr, v = .ref a ∧ SqT K H a [.int x.l, .int x.b, .int x.r, .int x.t] ∧ (b = false → Box (2 ^ n) x) ∧ (b = true → ¬ Box (2 ^ n) x) ∧ BxBd x
theorem FirstOk.same {K : PySem.W.Frag} {H H' : Hp} {b : Bool} {n : Nat} {v : V} {p : Int} {c : Int × Int} {x : B4} (s : Same H H') : ∀ {j : Nat}, FirstOk K H b n v p c x j → FirstOk K H' b n v p c x j
  | 0, h => h
  | 1, h => h
  | 2, ⟨a, e, h, r⟩ => ⟨a, e, s.tup h, r⟩
  | 3, h => h
  | _ + 4, ⟨a, e, h, r⟩ => ⟨a, e, s.tup h, r⟩
noncomputable def spFirst (K : PySem.W.Frag) : Sp := fun vs H Q _ => ∃ (j : Nat) (b : Bool) (c d : Int) (n : Nat), vs = [.int j, .bl b, .int c, .int d, .int n] ∧ n ≤ 60 ∧ (j = 1 → n = 0 → b = true) ∧
  ∀ (v : V) (H' : Hp) (p : Int) (e : Int × Int) (x : B4), Same H H' → FirstOk K H' b n v p e x j → Q v H'
structure LastOk (j : Nat) (b : Bool) (n : Nat) (x : B4) (r : Int) : Prop where
  l3 : j = 3 → (b = false → 0 ≤ r ∧ r ≤ n) ∧ (b = true → ¬ (0 ≤ r ∧ r ≤ n))
  l5 : j = 5 → Box (2 ^ n) x → (b = false → 0 ≤ r ∧ r < ar (some x)) ∧ (b = true → ¬ (0 ≤ r ∧ r < ar (some x)))
  l8 : j = 8 → (b = false → r = 0) ∧ (b = true → ¬ (0 ≤ r ∧ r < 101))
  l4 : j = 4 ∨ j = 6 ∨ j = 7 → (b = false → 0 ≤ r ∧ r < 4 ^ n + 1) ∧ (b = true → ¬ (0 ≤ r ∧ r < 4 ^ n + 1))
noncomputable def spLast (K : PySem.W.Frag) : Sp := fun vs H Q _ => ∃ (j : Nat) (b b' : Bool) (c : Int) (u : V) (n : Nat) (p : Int) (e : Int × Int) (x : B4), vs = [.int j, .bl b, .int c, u, .int n] ∧ n ≤ 60 ∧ FirstOk K H b' n u p e x j ∧ ∀ (r : Int) (H' : Hp), Same H H' → LastOk j b n x r → Q (.int r) H'
noncomputable def dueI (j : Nat) (b0 b1 b2 : Bool) : Int := if b0 = true then 0 else if b1 = true then [1, 1, 2, 1, 4, 4, 4, 4, 4].getD j 0 else if (b2 && decide (2 < j)) = true then [1, 1, 1, 3, 1, 5, 1, 1, 5].getD j 0 else if j = 8 then 6 else -1
noncomputable def spDue (K : PySem.W.Frag) : Sp := fun vs H Q _ => ∃ (j : Nat) (a : Addr) (b0 b1 b2 : Bool), vs = [.int j, .ref a] ∧ j ≤ 8 ∧ H a = some (.lst [.bl b0, .bl b1, .bl b2]) ∧ ∀ H', Same H H' → Q (.int (dueI j b0 b1 b2)) H'
theorem num0 {s : Int} (h : 0 < s) : -1 ≤ s - 1 - 0 ∧ 0 ≤ s - 1 - 0 := by omega
theorem num1 {s : Int} (h : 0 < s) : -1 ≤ s - 1 - 1 := by omega
theorem num4 {s : Int} (h : 0 < s) : 0 ≤ 4 * s - 1 - 1 := by omega
theorem inn0 {s r : Int} (h : 0 ≤ r ∧ r ≤ s - 1 - 0) : 0 ≤ r ∧ r < s := by omega
theorem rout0 {s r : Int} (h : r < 0 ∨ s - 1 - 0 < r) : ¬ (0 ≤ r ∧ r < s) := by omega
theorem inn1 {s r : Int} (h : 0 ≤ r ∧ r ≤ s - 1 - 1) : 0 ≤ r ∧ r < s - 1 := by omega
theorem rout1 {s r : Int} (h : r < 0 ∨ s - 1 - 1 < r) : ¬ (0 ≤ r ∧ r < s - 1) := by omega
section
variable {P : Program} {w : World} {K : PySem.W.Frag} {mg : Str → Option Value} {base : Heap}
theorem sc_law_first : FnScope ["_law_which", "_law_bad", "_law_one", "_law_two", "_law_folds_here", "_law_side"] ["_law_which", "_law_bad", "_law_one", "_law_two", "_law_folds_here"] (defScope s_law_first) := ⟨rfl, rfl, rfl, by decide +kernel, rfl, by decide +kernel, by decide +kernel⟩
theorem ok_law_first (D : DefAt K mg "_law_first" s_law_first) (mint : mg "int" = none) (GC : FnAt P w K mg base 3 "_law_cell" ["_law_bad", "_law_one", "_law_two", "_law_side"] spLCell) (GB : FnAt P w K mg base 3 "_law_box" ["_law_bad", "_law_cells", "_law_side"] (spLBox K))
    (GN : FnAt P w K mg base 2 "_law_number" ["_law_bad", "_law_cell_here", "_law_most"] spNum) : FnAt P w K mg base 4 "_law_first" ["_law_which", "_law_bad", "_law_one", "_law_two", "_law_folds_here"] (spFirst K) := by
  refine FnAt.mk D sc_law_first (fun _ _ _ _ _ _ us hl => by obtain ⟨_, _, _, _, _, rfl⟩ := len5e hl; rfl) (fun vs H Q E h => ?_) (fun f cdv A outer s H vs Q E hr h => ?_)
  · obtain ⟨j, b, c, d, n, rfl, _⟩ := h; rfl
  obtain ⟨j, b, c, d, n, rfl, hn, h1, q⟩ := h
  have hr2 := hr.mono (j := 2) (by decide)
  refine ⟨_, pss_cons (ps_set (i := 5) sc_law_first.nd rfl (Or.inl rfl) (pe_op om_shl pe_int (pw 4)))
    (pss_cons (ps_if (pt_cmpM om_eq (pw 0) pe_int (nomark _)) (pss_one (ps_ret (pe_fn GC hr (by rfl) (pa_cons (pw 1) (pa_cons (pw 2) (pa_cons (pw 3) (pa_cons (pw 5) pa_nil))))))) pss_nil)
    (pss_cons (ps_if (pt_cmpM om_gt (pw 0) pe_int (nomark _)) (pss_one (ps_ret (pe_fn GB hr (by rfl) (pa_cons (pw 1) (pa_cons (pn_lst (pa_cons (pw 2) (pa_cons (pw 3) (pa_cons (pe_op om_fdiv (pw 2) pe_int) (pa_cons (pe_op om_fdiv (pw 3) pe_int) (pa_cons (pe_op om_fdiv (pw 2) pe_int) pa_nil)))))) (pa_cons (pw 5) pa_nil)))))) pss_nil)
    (pss_one (ps_ret (pe_fn GN hr2 (by rfl) (pa_cons (pw 1) (pa_cons (pw 2) (pa_cons (pe_op om_sub (pe_op om_sub (pe_op om_mul (pw 5) (pw 5)) pe_int) (pe_callTy call_int1 (by rfl) mint PyProof.Rows.boot_int (pa_cons (pe_cmpR om_eq (pw 0) pe_int (nomark _)) pa_nil))) pa_nil)))))))), ?_⟩
  have hp2 := p2 n
  have hp4 := p4 n
  have hp60 := p2_60 hn
  refine sq fun N k => ⟨⟨by omega, by omega, by decide⟩, ?_⟩
  show N [some (.int j), some (.bl b), some (.int c), some (.int d), some (.int n), some (.int (1 * 2 ^ (n : Int).toNat))] H
  rw [shl1]
  refine k _ _ ?_
  clear k
  refine sq fun N k => ?_
  by_cases hj2 : (j : Int) = 2
  · obtain rfl := nat_of (k := 2) hj2
    exact ⟨b, c, d, n, rfl, hn, fun p H' e s' he h1 h2 => q _ _ 0 e ⟨0, 0, 0, 0⟩ s' ⟨p, rfl, SqT.of he, h1, h2⟩⟩
  refine iteDF hj2 (k _ _ ?_)
  clear k
  refine sq fun N k => ?_
  by_cases hj3 : (3 : Int) < j
  · obtain ⟨i, rfl⟩ : ∃ i, j = i + 4 := ⟨j - 4, by omega⟩
    refine iteDT hj3 ⟨⟨by decide, by decide⟩, ⟨by decide, by decide⟩, ⟨by decide, by decide⟩, (by show 5 ≤ sizeLine; decide), fun l G s h => ?_⟩
    exact ⟨b, l, _, _, _, _, _, n, rfl, hn, h, fun p H' x s' he h1 h2 h3 => q _ _ 0 (0, 0) x (s.trans s') ⟨p, rfl, SqT.of he, h1, h2, h3⟩⟩
  refine iteDF hj3 (k _ _ ?_)
  clear k
  refine ⟨.inl (mulb hp2 hp60), .inr ⟨_, rfl, ?_⟩⟩
  rcases (by omega : j = 0 ∨ j = 1 ∨ j = 3) with rfl | rfl | rfl
  · exact SpNum.of (b := b) (c := c) (m := 4 ^ n - 1 - 0) (by dsimp only; rw [← p4e]; rfl) (num0 hp4).1 (fun _ => (num0 hp4).2) fun r H' s' o => q _ _ r (0, 0) ⟨0, 0, 0, 0⟩ s' ⟨rfl, fun hb => inn0 (o.inn hb), fun hb => rout0 (o.out hb)⟩
  · refine SpNum.of (b := b) (c := c) (m := 4 ^ n - 1 - 1) (by dsimp only; rw [← p4e]; rfl) (num1 hp4) (fun hb => ?_) fun r H' s' o => q _ _ r (0, 0) ⟨0, 0, 0, 0⟩ s' ⟨rfl, fun hb => inn1 (o.inn hb), fun hb => rout1 (o.out hb)⟩
    cases n with
    | zero => rw [h1 rfl rfl] at hb; cases hb
    | succ n => rw [p4s]; exact num4 (p4 n)
  · exact SpNum.of (b := b) (c := c) (m := 4 ^ n - 1 - 0) (by dsimp only; rw [← p4e]; rfl) (num0 hp4).1 (fun _ => (num0 hp4).2) fun r H' s' o => q _ _ r (0, 0) ⟨0, 0, 0, 0⟩ s' ⟨rfl, fun hb => inn0 (o.inn hb), fun hb => rout0 (o.out hb)⟩
end
end FW

namespace FW
open PySem L2
set_option maxHeartbeats 4000000
section
variable {P : Program} {w : World} {K : PySem.W.Frag} {mg : Str → Option Value} {base : Heap}
theorem sc_law_due : FnScope ["_law_which", "_law_bad"] ["_law_which", "_law_bad"] (defScope s_law_due) := ⟨rfl, rfl, rfl, by decide +kernel, rfl, by decide +kernel, by decide +kernel⟩
theorem ok_law_due (D : DefAt K mg "_law_due" s_law_due) : FnAt P w K mg base 1 "_law_due" ["_law_which", "_law_bad"] (spDue K) := by
  refine FnAt.mk D sc_law_due (fun _ _ _ _ _ _ us hl => by obtain ⟨_, _, rfl⟩ := len2e hl; rfl) (fun vs H Q E h => ?_) (fun f cdv A outer s H vs Q E hr h => ?_)
  · obtain ⟨j, a, b0, b1, b2, rfl, _⟩ := h; rfl
  obtain ⟨j, a, b0, b1, b2, rfl, hj, ha, q⟩ := h
  refine ⟨_, pss_cons (ps_if (pt_valM (pe_ix in_list (pw 1) pe_int (fun _ _ => rfl))) (pss_one (ps_ret pe_int)) pss_nil)
    (pss_cons (ps_if (pt_valM (pe_ix in_list (pw 1) pe_int (fun _ _ => rfl))) (pss_one (ps_ret (pe_ix in_list (pn_lst (pa_cons pe_int (pa_cons pe_int (pa_cons pe_int (pa_cons pe_int (pa_cons pe_int (pa_cons pe_int (pa_cons pe_int (pa_cons pe_int (pa_cons pe_int pa_nil)))))))))) (pw 0) (fun _ _ => rfl)))) pss_nil)
    (pss_cons (ps_if (pw_and (pt_valM (pe_ix in_list (pw 1) pe_int (fun _ _ => rfl))) (pw_and1 (pt_cmpM om_gt (pw 0) pe_int (nomark _)))).pt (pss_one (ps_ret (pe_ix in_list (pn_lst (pa_cons pe_int (pa_cons pe_int (pa_cons pe_int (pa_cons pe_int (pa_cons pe_int (pa_cons pe_int (pa_cons pe_int (pa_cons pe_int (pa_cons pe_int pa_nil)))))))))) (pw 0) (fun _ _ => rfl)))) pss_nil)
    (pss_cons (ps_if (pt_cmpM om_eq (pw 0) pe_int (nomark _)) (pss_one (ps_ret pe_int)) pss_nil)
    (pss_one (ps_ret (pe_un um_neg pe_int)))))), ?_⟩
  unfold dueI at q
  refine sq fun N k => ⟨ha, rfl, ?_⟩
  cases b0 with
  | true => exact q H (Same.refl _)
  | false =>
  refine k _ _ ?_
  clear k
  refine sq fun N k => ⟨ha, rfl, ?_⟩
  cases b1 with
  | true =>
    refine ⟨(by show 9 ≤ sizeLine; decide), fun l G s h => ⟨h, atI_nat (v := .int ([1, 1, 2, 1, 4, 4, 4, 4, 4].getD j 0)) ?_, q _ s⟩⟩
    rcases nine hj with rfl | rfl | rfl | rfl | rfl | rfl | rfl | rfl | rfl <;> rfl
  | false =>
  refine k _ _ ?_
  clear k
  refine sq fun N k => ⟨ha, rfl, ?_⟩
  have last : Q (.int (if j = 8 then 6 else -1)) H → N [some (.int j), some (.ref a)] H := fun h => by
    refine k _ _ (sq fun N k => ?_)
    by_cases h8 : (j : Int) = 8
    · rw [if_pos (by omega)] at h
      exact iteDT h8 h
    · rw [if_neg (by omega)] at h
      exact iteDF h8 (k _ _ h)
  clear k
  cases b2 with
  | true =>
    by_cases h2 : (2 : Int) < j
    · have e : (true && decide (2 < j)) = true := by rw [decide_eq_true (by omega)]; rfl
      refine iteDT h2 ⟨(by show 9 ≤ sizeLine; decide), fun l G s h => ⟨h, atI_nat (v := .int ([1, 1, 1, 3, 1, 5, 1, 1, 5].getD j 0)) ?_, ?_⟩⟩
      · rcases nine hj with rfl | rfl | rfl | rfl | rfl | rfl | rfl | rfl | rfl <;> rfl
      · have q' := q _ s
        rw [if_neg Bool.false_ne_true, if_neg Bool.false_ne_true, if_pos e] at q'
        exact q'
    · have e : ¬ (true && decide (2 < j)) = true := by rw [decide_eq_false (by omega)]; decide
      have q' := q H (Same.refl _)
      rw [if_neg Bool.false_ne_true, if_neg Bool.false_ne_true, if_neg e] at q'
      exact iteDF h2 (last q')
  | false =>
    have q' := q H (Same.refl _)
    rw [if_neg Bool.false_ne_true, if_neg Bool.false_ne_true, if_neg (show ¬ (false && decide (2 < j)) = true by simp)] at q'
    exact last q'
end
end FW

namespace FW
open PySem L2
set_option maxHeartbeats 4000000
theorem nrng {r m : Int} (h : r < 0 ∨ m < r) : ¬ (0 ≤ r ∧ r ≤ m) := by omega
theorem nrng1 {r m : Int} (h : r < 0 ∨ m < r) : ¬ (0 ≤ r ∧ r < m + 1) := by omega
theorem nab {r l : Int} (h1 : r.natAbs < 2 ^ 200) (h2 : l.natAbs < 2 ^ 200) : (r - l + 1).natAbs < 2 ^ 1000 := by
  have : (r - l + 1).natAbs < 2 ^ 202 := by omega
  exact Nat.lt_of_lt_of_le this (Nat.pow_le_pow_right (by decide) (by decide))
section
variable {P : Program} {w : World} {K : PySem.W.Frag} {mg : Str → Option Value} {base : Heap}
theorem sc_law_last : FnScope ["_law_which", "_law_bad", "_law_cell_here", "_law_first_here", "_law_folds_here", "_law_many"] ["_law_which", "_law_bad", "_law_cell_here", "_law_first_here", "_law_folds_here"] (defScope s_law_last) := ⟨rfl, rfl, rfl, by decide +kernel, rfl, by decide +kernel, by decide +kernel⟩
theorem ok_law_last (D : DefAt K mg "_law_last" s_law_last) (mint : mg "int" = none) (GN : FnAt P w K mg base 2 "_law_number" ["_law_bad", "_law_cell_here", "_law_most"] spNum) : FnAt P w K mg base 3 "_law_last" ["_law_which", "_law_bad", "_law_cell_here", "_law_first_here", "_law_folds_here"] (spLast K) := by
  refine FnAt.mk D sc_law_last (fun _ _ _ _ _ _ us hl => by obtain ⟨_, _, _, _, _, rfl⟩ := len5e hl; rfl) (fun vs H Q E h => ?_) (fun f cdv A outer s H vs Q E hr h => ?_)
  · obtain ⟨j, b, b', c, u, n, p, e, x, rfl, _⟩ := h; rfl
  obtain ⟨j, b, b', c, u, n, p, e, x, rfl, hn, fo, q⟩ := h
  refine ⟨_, pss_cons (ps_set (i := 5) sc_law_last.nd rfl (Or.inl rfl) (pe_op om_shl pe_int (pe_op om_mul pe_int (pw 4))))
    (pss_cons (ps_if (pt_cmpM om_eq (pw 0) pe_int (nomark _)) (pss_one (ps_ret (pe_fn GN hr (by rfl) (pa_cons (pw 1) (pa_cons (pw 2) (pa_cons (pw 4) pa_nil)))))) pss_nil)
    (pss_cons ((ps_if (pw_and (pt_cmpM om_eq (pw 0) pe_int (nomark _)) (pw_and (pt_cmpM om_le (pe_ix (in_tupK K) (pw 3) pe_int (fun _ _ => rfl)) (pe_ix (in_tupK K) (pw 3) pe_int (fun _ _ => rfl)) (nomark _)) (pw_and1 (pt_cmpM om_le (pe_ix (in_tupK K) (pw 3) pe_int (fun _ _ => rfl)) (pe_ix (in_tupK K) (pw 3) pe_int (fun _ _ => rfl)) (nomark _))))).pt
      (pss_one (ps_ret (pe_fn GN hr (by rfl) (pa_cons (pw 1) (pa_cons (pw 2) (pa_cons (pe_op om_sub (pe_op om_mulB (pe_op om_add (pe_op om_sub (pe_ix (in_tupK K) (pw 3) pe_int (fun _ _ => rfl)) (pe_ix (in_tupK K) (pw 3) pe_int (fun _ _ => rfl))) pe_int) (pe_op om_add (pe_op om_sub (pe_ix (in_tupK K) (pw 3) pe_int (fun _ _ => rfl)) (pe_ix (in_tupK K) (pw 3) pe_int (fun _ _ => rfl))) pe_int)) pe_int) pa_nil)))))) pss_nil))
    (pss_cons (ps_if (pt_cmpM om_eq (pw 0) pe_int (nomark _)) (pss_one (ps_ret (pe_ix in_list (pn_lst (pa_cons pe_int (pa_cons (pe_fn GN hr (by rfl) (pa_cons pe_bl (pa_cons (pw 2) (pa_cons pe_int pa_nil)))) pa_nil))) (pe_callTy call_int1 (by rfl) mint PyProof.Rows.boot_int (pa_cons (pw 1) pa_nil)) (fun _ _ => rfl)))) pss_nil)
    (pss_one (ps_ret (pe_fn GN hr (by rfl) (pa_cons (pw 1) (pa_cons (pw 2) (pa_cons (pw 5) pa_nil))))))))), ?_⟩
  have hp4 := p4 n
  refine sq fun N k => ⟨.inl ⟨by decide, by decide⟩, ⟨by omega, by omega, by decide⟩, ?_⟩
  show N [some (.int j), some (.bl b), some (.int c), some u, some (.int n), some (.int (1 * 2 ^ (2 * (n : Int)).toNat))] H
  rw [shl2]
  refine k _ _ ?_
  clear k
  refine sq fun N k => ?_
  by_cases hj3 : (j : Int) = 3
  · obtain rfl := nat_of (k := 3) hj3
    exact ⟨Int.le_trans (by decide) (Int.natCast_nonneg n), fun _ => Int.natCast_nonneg n, fun r H' s' o => q _ _ s' ⟨fun _ => ⟨o.inn, fun hb => nrng (o.out hb)⟩, (fun h => nomatch h), (fun h => nomatch h), fun h => absurd h (by decide)⟩⟩
  refine iteDF hj3 (k _ _ ?_)
  clear k
  refine sq fun N k => ?_
  have K : (j = 5 → ¬ Box (2 ^ n) x) → N [some (.int j), some (.bl b), some (.int c), some u, some (.int n), some (.int (4 ^ n))] H := by
    intro h5
    refine k _ _ ?_
    refine sq fun N k => ?_
    by_cases hj8 : (j : Int) = 8
    · obtain rfl := nat_of (k := 8) hj8
      refine ⟨by decide, (fun z => by cases z), fun r H1 s1 o => ⟨z2', fun l G s h => .inr ⟨b, rfl, ?_⟩⟩⟩
      have o1 := o.out rfl
      cases b with
      | false => exact ⟨h, rfl, q 0 _ (s1.trans s) ⟨(fun h => nomatch h), (fun h => nomatch h), fun _ => ⟨fun _ => rfl, fun z => by cases z⟩, fun h => absurd h (by decide)⟩⟩
      | true => exact ⟨h, rfl, q r _ (s1.trans s) ⟨(fun h => nomatch h), (fun h => nomatch h), fun _ => ⟨(fun z => by cases z), fun _ => nrng1 (m := 100) o1⟩, fun h => absurd h (by decide)⟩⟩
    refine iteDF hj8 (k _ _ ?_)
    exact ⟨Int.le_trans (by decide) (Int.le_of_lt hp4), fun _ => Int.le_of_lt hp4, fun r H1 s1 o => q _ _ s1 ⟨fun h => absurd h (no_of (k := 3) hj3), fun h hx => absurd hx (h5 h), fun h => absurd h (no_of (k := 8) hj8),
      fun _ => ⟨fun hb => ⟨(o.inn hb).1, Int.lt_add_one_of_le (o.inn hb).2⟩, fun hb => nrng1 (o.out hb)⟩⟩⟩
  clear k
  by_cases hj5 : (j : Int) = 5
  rotate_left
  · exact iteDF hj5 (iteF (K fun h => absurd h (no_of (k := 5) hj5)))
  obtain rfl := nat_of (k := 5) hj5
  obtain ⟨a, rfl, hS, g1, g2, bd⟩ := fo
  refine ⟨hS, rfl, hS, rfl, ?_⟩
  by_cases hlr : x.l ≤ x.r
  rotate_left
  · exact iteDF hlr (iteF (K fun _ h => hlr h.lr))
  refine iteDT hlr ⟨hS, rfl, hS, rfl, ?_⟩
  by_cases hbt : x.b ≤ x.t
  rotate_left
  · exact iteDF hbt (K fun _ h => hbt h.bt)
  clear K
  have a0 : 0 < (x.r - x.l + 1) * (x.t - x.b + 1) := Int.mul_pos (pos1 hlr) (pos1 hbt)
  refine iteDT hbt ⟨hS, rfl, hS, rfl, hS, rfl, hS, rfl, mulok (nab bd.r bd.l) (nab bd.t bd.b), ?_⟩
  refine SpNum.of (b := b) (c := c) (m := (x.r - x.l + 1) * (x.t - x.b + 1) - 1) rfl (Int.le_trans (by decide) (Int.le_sub_one_of_lt a0)) (fun _ => Int.le_sub_one_of_lt a0) fun r H' s' o => q _ _ s' ⟨(fun h => nomatch h), fun _ _ => ?_, (fun h => nomatch h), fun h => absurd h (by decide)⟩
  have ea : ar (some x) = (x.r - x.l + 1) * (x.t - x.b + 1) := rfl
  rw [ea]
  exact ⟨fun hb => ⟨(o.inn hb).1, Int.lt_of_le_sub_one (o.inn hb).2⟩, fun hb h => not_on (o.out hb) h.1 h.2⟩
end
end FW

namespace FW
open PySem L2
set_option maxHeartbeats 4000000
noncomputable def dueR (j : Nat) (b0 b1 b2 : Bool) : Option Nat := if b0 = true then some 0 else if b1 = true then some ([1, 1, 2, 1, 4, 4, 4, 4, 4].getD j 0) else if (b2 && decide (2 < j)) = true then some ([1, 1, 1, 3, 1, 5, 1, 1, 5].getD j 0) else if j = 8 then some 6 else none
theorem due9a : ∀ j : Nat, j < 9 → [1, 1, 2, 1, 4, 4, 4, 4, 4].getD j 0 < 7 ∧ ([1, 1, 2, 1, 4, 4, 4, 4, 4] : List Int).getD j 0 = (([1, 1, 2, 1, 4, 4, 4, 4, 4].getD j 0 : Nat) : Int) := by decide
theorem due9b : ∀ j : Nat, j < 9 → [1, 1, 1, 3, 1, 5, 1, 1, 5].getD j 0 < 7 ∧ ([1, 1, 1, 3, 1, 5, 1, 1, 5] : List Int).getD j 0 = (([1, 1, 1, 3, 1, 5, 1, 1, 5].getD j 0 : Nat) : Int) := by decide
theorem due_eq {j : Nat} (h : j ≤ 8) (b0 b1 b2 : Bool) : (dueR j b0 b1 b2 = none ∧ dueI j b0 b1 b2 = -1) ∨ ∃ k : Nat, k < 7 ∧ dueR j b0 b1 b2 = some k ∧ dueI j b0 b1 b2 = k := by
  have h := Nat.lt_succ_of_le h
  unfold dueR dueI
  cases b0 with
  | true => exact .inr ⟨0, by decide, rfl, rfl⟩
  | false =>
  cases b1 with
  | true => exact .inr ⟨_, (due9a j h).1, rfl, (due9a j h).2⟩
  | false =>
  rw [if_neg Bool.false_ne_true, if_neg Bool.false_ne_true, if_neg Bool.false_ne_true, if_neg Bool.false_ne_true]
  by_cases h2 : (b2 && decide (2 < j)) = true
  · rw [if_pos h2, if_pos h2]
    exact .inr ⟨_, (due9b j h).1, rfl, (due9b j h).2⟩
  rw [if_neg h2, if_neg h2]
  by_cases h8 : j = 8
  · rw [if_pos h8, if_pos h8]
    exact .inr ⟨6, by decide, rfl, rfl⟩
  · rw [if_neg h8, if_neg h8]
    exact .inl ⟨rfl, rfl⟩
theorem ask_ok {K : PySem.W.Frag} {cF cP cC cS cB cN cT : Addr} {j n : Nat} {b0 b1 b2 : Bool} {u : V} {h r p : Int} {c : Int × Int} {x : B4} {H : Hp} {Q : VK} {E : XK} (hj : j ≤ 8) (hn : n ≤ 60) (h0 : b0 = false → h = n) (h1 : b0 = true → ¬ (0 ≤ h ∧ h ≤ 60))
    (fo : FirstOk K H b1 n u p c x j) (lo : LastOk j b2 n x r) (hQ : dueR j b0 b1 b2 = none → ∀ v H1, Same H H1 → Q v H1) (hE : ∀ i H1, dueR j b0 b1 b2 = some i → Same H H1 → E (.ref (clsN cF cP cC cS cB cN cT i)) none H1) :
    askP K cF cP cC cS cB cN cT j (.int h) u (.int r) H Q E := by
  rcases nine hj with rfl | rfl | rfl | rfl | rfl | rfl | rfl | rfl | rfl
  · obtain ⟨rfl, g0, g1⟩ := fo
    cases b0 with
    | true => exact .inr ⟨h, p, rfl, .inl ⟨h1 rfl, fun H' s => hE 0 H' rfl s⟩⟩
    | false =>
    obtain rfl := h0 rfl
    cases b1 with
    | true => exact .inr ⟨n, p, rfl, .inr ⟨n, rfl, hn, g1 rfl, fun H' s => hE 1 H' rfl s⟩⟩
    | false => exact .inl ⟨n, p, rfl, hn, (g0 rfl).1, (g0 rfl).2, fun a H' d s e => hQ (by cases b2 <;> rfl) _ _ s⟩
  · obtain ⟨rfl, g0, g1⟩ := fo
    cases b0 with
    | true => exact .inr ⟨h, p, rfl, .inl ⟨h1 rfl, fun H' s => hE 0 H' rfl s⟩⟩
    | false =>
    obtain rfl := h0 rfl
    cases b1 with
    | true => exact .inr ⟨n, p, rfl, .inr ⟨n, rfl, hn, g1 rfl, fun H' s => hE 1 H' rfl s⟩⟩
    | false => exact .inl ⟨n, p, rfl, hn, (g0 rfl).1, Int.add_lt_of_lt_sub_right (g0 rfl).2, fun x H' s => hQ (by cases b2 <;> rfl) _ _ s⟩
  · obtain ⟨a, rfl, hS, g0, g1⟩ := fo
    cases b0 with
    | true => exact .inr ⟨h, a, c, rfl, .inl ⟨h1 rfl, fun H' s => hE 0 H' rfl s⟩⟩
    | false =>
    obtain rfl := h0 rfl
    cases b1 with
    | true => exact .inr ⟨n, a, c, rfl, .inr ⟨n, rfl, hn, hS, g1 rfl, fun H' s => hE 2 H' rfl s⟩⟩
    | false => exact .inl ⟨n, a, c, rfl, hn, hS, g0 rfl, fun r H' s => hQ (by cases b2 <;> rfl) _ _ s⟩
  · obtain ⟨rfl, g0, g1⟩ := fo
    cases b0 with
    | true => exact .inr ⟨h, p, r, rfl, .inl ⟨h1 rfl, fun H' s => hE 0 H' rfl s⟩⟩
    | false =>
    obtain rfl := h0 rfl
    cases b1 with
    | true => exact .inr ⟨n, p, r, rfl, .inr ⟨n, rfl, hn, .inl ⟨g1 rfl, fun H' s => hE 1 H' rfl s⟩⟩⟩
    | false =>
    cases b2 with
    | true => exact .inr ⟨n, p, r, rfl, .inr ⟨n, rfl, hn, .inr ⟨g0 rfl, (lo.l3 rfl).2 rfl, fun H' s => hE 3 H' rfl s⟩⟩⟩
    | false =>
      have l := (lo.l3 rfl).1 rfl
      obtain ⟨k, rfl⟩ := Int.eq_ofNat_of_zero_le l.1
      exact .inl ⟨n, k, p, rfl, hn, Int.ofNat_le.mp l.2, (g0 rfl).1, (g0 rfl).2, fun a H' s => hQ rfl _ _ s⟩
  · obtain ⟨a, rfl, hS, g0, g1, _⟩ := fo
    cases b0 with
    | true => exact .inr ⟨h, a, x, r, rfl, hS, .inl ⟨h1 rfl, fun H' s => hE 0 H' rfl s⟩⟩
    | false =>
    obtain rfl := h0 rfl
    cases b1 with
    | true => exact .inr ⟨n, a, x, r, rfl, hS, .inr ⟨n, rfl, hn, .inl ⟨g1 rfl, fun H' s => hE 4 H' rfl s⟩⟩⟩
    | false =>
    cases b2 with
    | true => exact .inr ⟨n, a, x, r, rfl, hS, .inr ⟨n, rfl, hn, .inr ⟨g0 rfl, (lo.l4 (.inl rfl)).2 rfl, fun H' s => hE 1 H' rfl s⟩⟩⟩
    | false => 
      have l := (lo.l4 (.inl rfl)).1 rfl
      exact .inl ⟨n, a, x, r, rfl, hn, hS, g0 rfl, l.1, Int.le_of_lt_add_one l.2, fun H' v s => hQ rfl _ _ s⟩
  · obtain ⟨a, rfl, hS, g0, g1, _⟩ := fo
    cases b0 with
    | true => exact .inr ⟨h, a, x, r, rfl, hS, .inl ⟨h1 rfl, fun H' s => hE 0 H' rfl s⟩⟩
    | false =>
    obtain rfl := h0 rfl
    cases b1 with
    | true => exact .inr ⟨n, a, x, r, rfl, hS, .inr ⟨n, rfl, hn, .inl ⟨g1 rfl, fun H' s => hE 4 H' rfl s⟩⟩⟩
    | false =>
    cases b2 with
    | true => exact .inr ⟨n, a, x, r, rfl, hS, .inr ⟨n, rfl, hn, .inr ⟨g0 rfl, (lo.l5 rfl (g0 rfl)).2 rfl, fun H' s => hE 5 H' rfl s⟩⟩⟩
    | false => 
      have l := (lo.l5 rfl (g0 rfl)).1 rfl
      exact .inl ⟨n, a, x, r, rfl, hn, hS, g0 rfl, l.1, l.2, fun H' v s => hQ rfl _ _ s⟩
  · obtain ⟨a, rfl, hS, g0, g1, _⟩ := fo
    cases b0 with
    | true => exact .inr ⟨h, a, x, r, rfl, hS, .inl ⟨h1 rfl, fun H' s => hE 0 H' rfl s⟩⟩
    | false =>
    obtain rfl := h0 rfl
    cases b1 with
    | true => exact .inr ⟨n, a, x, r, rfl, hS, .inr ⟨n, rfl, hn, .inl ⟨g1 rfl, fun H' s => hE 4 H' rfl s⟩⟩⟩
    | false =>
    cases b2 with
    | true => exact .inr ⟨n, a, x, r, rfl, hS, .inr ⟨n, rfl, hn, .inr ⟨g0 rfl, (lo.l4 (.inr (.inl rfl))).2 rfl, fun H' s => hE 1 H' rfl s⟩⟩⟩
    | false => 
      have l := (lo.l4 (.inr (.inl rfl))).1 rfl
      exact .inl ⟨n, a, x, r, rfl, hn, hS, g0 rfl, l.1, Int.le_of_lt_add_one l.2, fun H' v s => hQ rfl _ _ s⟩
  · obtain ⟨a, rfl, hS, g0, g1, _⟩ := fo
    cases b0 with
    | true => exact .inr ⟨h, a, x, r, rfl, hS, .inl ⟨h1 rfl, fun H' s => hE 0 H' rfl s⟩⟩
    | false =>
    obtain rfl := h0 rfl
    cases b1 with
    | true => exact .inr ⟨n, a, x, r, rfl, hS, .inr ⟨n, rfl, hn, .inl ⟨g1 rfl, fun H' s => hE 4 H' rfl s⟩⟩⟩
    | false =>
    cases b2 with
    | true => exact .inr ⟨n, a, x, r, rfl, hS, .inr ⟨n, rfl, hn, .inr ⟨g0 rfl, (lo.l4 (.inr (.inr rfl))).2 rfl, fun H' s => hE 1 H' rfl s⟩⟩⟩
    | false => 
      have l := (lo.l4 (.inr (.inr rfl))).1 rfl
      exact .inl ⟨n, a, x, r, rfl, hn, hS, g0 rfl, l.1, Int.le_of_lt_add_one l.2, fun H' v s => hQ rfl _ _ s⟩
  · obtain ⟨a, rfl, hS, g0, g1, _⟩ := fo
    cases b0 with
    | true => exact ⟨h, a, x, r, rfl, hS, .inl ⟨h1 rfl, fun H' s => hE 0 H' rfl s⟩⟩
    | false =>
    obtain rfl := h0 rfl
    cases b1 with
    | true => exact ⟨n, a, x, r, rfl, hS, .inr ⟨n, rfl, hn, .inl ⟨g1 rfl, fun H' s => hE 4 H' rfl s⟩⟩⟩
    | false =>
    cases b2 with
    | true => exact ⟨n, a, x, r, rfl, hS, .inr ⟨n, rfl, hn, .inr ⟨g0 rfl, .inl ⟨(lo.l8 rfl).2 rfl, fun H' s => hE 5 H' rfl s⟩⟩⟩⟩
    | false =>
      exact ⟨n, a, x, r, rfl, hS, .inr ⟨n, rfl, hn, .inr ⟨g0 rfl, .inr ⟨(lo.l8 rfl).1 rfl, fun H' s => hE 6 H' rfl s⟩⟩⟩⟩
noncomputable def spLaw (K : PySem.W.Frag) : Sp := fun vs H Q _ => ∃ (a : Addr) (ns : List Int), vs = [.ref a] ∧ SqL K H a (ns.map V.int) ∧ (∀ n ∈ ns, Builtin.Int.intBits n ≤ 2 ^ 20) ∧ ∀ H', Q (.bl true) H'
theorem bools_eq (k : Nat) : (((List.range 7).map fun t : Nat => decide (0 + (t : Int) = (k : Int))) ++ [true]) = bools (some k) := by
  have e : ∀ t : Nat, decide (0 + (t : Int) = (k : Int)) = decide (t = k) := fun t => by
    rw [Bool.eq_iff_iff]
    simp only [decide_eq_true_eq]
    omega
  simp only [e]
  rfl
section
variable {P : Program} {w : World} {K : PySem.W.Frag} {mg : Str → Option Value} {base : Heap} {cF cP cC cS cB cN cT : Addr}
theorem sc_law : FnScope ["_law_script", "_law_folds_here", "_law_which", "_law_cell_here", "_law_one", "_law_two", "_law_bad", "_law_first_here", "_law_last_here", "_law_handed", "_law_due_here", "_law_told"] ["_law_script"] (defScope s_law) := ⟨rfl, rfl, rfl, by decide +kernel, rfl, by decide +kernel, by decide +kernel⟩
inductive LInv (a : Addr) (n : Nat) (H : Hp) (σ : St) (H' : Hp) : Prop
  | mk {u2 u3 u4 u5 u6 u7 u8 u9 u10 u11 : Option V} (e : σ = [some (.ref a), some (.int n), u2, u3, u4, u5, u6, u7, u8, u9, u10, u11]) (s : Same H H') : LInv a n H σ H'
theorem op_neLK {X : Cx} (K : PySem.W.Frag) (hu : X.A.units < cLine) (h : autoParam (X.K = K) L2.aR._auto_1) : OpR X (compareOp .NotEq) (rNeL K) := h ▸ op_neL hu
theorem ok_law {f : Addr} {fd : FuncData} (F : Fun K "law" "law" s_law f fd) (mr : mg "range" = none) (GR : FnAt P w K mg base 1 "_law_cell_at" ["_law_script", "_law_k"] (spCell K)) (GF : FnAt P w K mg base 1 "_law_folds" ["_law_cell_here"] spFolds)
    (GA : FnAt P w K mg base 4 "_law_first" ["_law_which", "_law_bad", "_law_one", "_law_two", "_law_folds_here"] (spFirst K)) (GL : FnAt P w K mg base 3 "_law_last" ["_law_which", "_law_bad", "_law_cell_here", "_law_first_here", "_law_folds_here"] (spLast K))
    (GN : FnAt P w K mg base 2 "_law_number" ["_law_bad", "_law_cell_here", "_law_most"] spNum) (GD : FnAt P w K mg base 1 "_law_due" ["_law_which", "_law_bad"] (spDue K))
    (GC : FnAt P w K mg base 8 "_law_classes" ["_law_which", "_law_folds_here", "_law_first_here", "_law_last_here"] (spCls K cF cP cC cS cB cN cT)) : FnOk P w K mg base CX0 9 f fd ["_law_script"] (spLaw K) := by
  refine F.ok sc_law (fun vs H Q E h => ?_) (fun cdv A outer s H vs Q E hr h => ?_)
  · obtain ⟨a, ns, rfl, _⟩ := h; rfl
  obtain ⟨a, ns, rfl, hS, hb, q⟩ := h
  have hr1 := hr.mono (j := 1) (by decide)
  have hr2 := hr.mono (j := 2) (by decide)
  have hr3 := hr.mono (j := 3) (by decide)
  have hr4 := hr.mono (j := 4) (by decide)
  refine ⟨_, pss_cons (ps_set (i := 1) sc_law.nd rfl (Or.inl rfl) (pe_fn GF hr1 (by rfl) (pa_cons (pe_fn GR hr1 (by rfl) (pa_cons (pw 0) (pa_cons pe_int pa_nil))) pa_nil)))
    (pss_cons (ps_for PassesOwn.never rfl (pi_range1 rfl mr (pa_cons pe_int pa_nil)) (pg_name (i := 2) sc_law.nd rfl (Or.inl rfl))
      (pss_cons (ps_set (i := 3) sc_law.nd rfl (Or.inl rfl) (pe_fn GR hr1 (by rfl) (pa_cons (pw 0) (pa_cons (pe_op om_add pe_int (pw 2)) pa_nil))))
      (pss_cons (ps_set (i := 4) sc_law.nd rfl (Or.inl rfl) (pe_fn GR hr1 (by rfl) (pa_cons (pw 0) (pa_cons (pe_op om_add pe_int (pe_op om_mul pe_int (pw 2))) pa_nil))))
      (pss_cons (ps_set (i := 5) sc_law.nd rfl (Or.inl rfl) (pe_fn GR hr1 (by rfl) (pa_cons (pw 0) (pa_cons (pe_op om_add pe_int (pe_op om_mul pe_int (pw 2))) pa_nil))))
      (pss_cons (ps_set (i := 6) sc_law.nd rfl (Or.inl rfl) (pn_lst (pa_cons (pe_cmpR om_eq (pe_op om_mod (pw 3) pe_int) pe_int (nomark _)) (pa_cons (pe_mid (pe_or (pe_cmpR om_eq (pe_op om_mod (pe_op om_fdiv (pw 3) pe_int) pe_int) pe_int (nomark _)) (pe_one (pe_and (pe_cmpR om_eq (pw 2) pe_int (nomark _)) (pe_one (pe_cmpR om_eq (pw 1) pe_int (nomark _)))))))
        (pa_cons (pe_cmpR om_eq (pe_op om_mod (pe_op om_fdiv (pw 3) pe_int) pe_int) pe_int (nomark _)) pa_nil)))))
      (pss_cons (ps_set (i := 7) sc_law.nd rfl (Or.inl rfl) (pe_fn GA hr4 (by rfl) (pa_cons (pw 2) (pa_cons (pe_ix in_list (pw 6) pe_int (fun _ _ => rfl)) (pa_cons (pw 4) (pa_cons (pw 5) (pa_cons (pw 1) pa_nil)))))))
      (pss_cons (ps_set (i := 8) sc_law.nd rfl (Or.inl rfl) (pe_fn GL hr3 (by rfl) (pa_cons (pw 2) (pa_cons (pe_ix in_list (pw 6) pe_int (fun _ _ => rfl)) (pa_cons (pe_op om_fdiv (pw 5) pe_int) (pa_cons (pw 7) (pa_cons (pw 1) pa_nil)))))))
      (pss_cons (ps_set (i := 9) sc_law.nd rfl (Or.inl rfl) (pw 1))
      (pss_cons ((ps_if (pt_valM (pe_ix in_list (pw 6) pe_int (fun _ _ => rfl))) (pss_one (ps_set (i := 9) sc_law.nd rfl (Or.inl rfl) (pe_fn GN hr2 (by rfl) (pa_cons pe_bl (pa_cons (pe_op om_fdiv (pw 3) pe_int) (pa_cons pe_int pa_nil)))))) pss_nil))
      (pss_cons (ps_set (i := 10) sc_law.nd rfl (Or.inr rfl) (pe_fn GD hr1 (by rfl) (pa_cons (pw 2) (pa_cons (pw 6) pa_nil))))
      (pss_cons (ps_set (i := 11) sc_law.nd rfl (Or.inl rfl) (pe_fn GC hr (by rfl) (pa_cons (pw 2) (pa_cons (pw 9) (pa_cons (pw 7) (pa_cons (pw 8) pa_nil))))))
      (pss_cons ((ps_if (pw_and (pt_cmpM om_eq (pw 10) (pe_un um_neg pe_int) (nomark _)) (pw_and1 (pt_cmpM (op_neLK K hr.units0) (pw 11) (pn_lst pa_nil) (nomark _)))).pt (pss_one (ps_ret pe_bl)) pss_nil))
      (pss_one (ps_if (pw_and (pt_cmpM om_ge (pw 10) pe_int (nomark _)) (pw_and1 (pt_cmpM (op_neLK K hr.units0) (pw 11) (pe_op on_cat (pe_comp (x := "_law_k") (fr := ["_law_due_here"]) (js := [10]) rfl
          ⟨rfl, (fun p hp => by simp only [List.mem_cons, List.not_mem_nil, or_false] at hp; subst hp; rfl), by decide +kernel, rfl, by decide +kernel, rfl, (fun y hy e => by simp only [List.mem_cons, List.not_mem_nil, or_false] at hy; rcases hy with rfl | rfl | rfl <;> first | exact ⟨_, rfl⟩ | cases e),
            (fun k y e => by
              rcases k with _ | k
              · cases e; exact ⟨10, rfl, rfl, rfl, rfl, by decide⟩
              · simp at e), rfl, by decide +kernel⟩ (pi_range1 (by rfl) mr (pa_cons pe_int pa_nil)) (fun s₀ H₀ ex => pe_cmpR om_eq (pw 0) (pw 1) (nomark _))) (pn_lst (pa_cons pe_bl pa_nil))) (nomark _)))).pt (pss_one (ps_ret pe_bl)) pss_nil))))))))))))))
    (pss_one (ps_ret pe_bl))), ?_⟩
  refine sq fun N k => ⟨a, ns, 0, rfl, hS, _, rfl, fun n hn => k [some (.ref a), some (.int n), none, none, none, none, none, none, none, none, none, none] _ ?_⟩
  clear k N
  refine sq fun N k => ?_
  refine ⟨9, rfl, by decide, by decide, for_range (lo := 0) (n := 9) (fun _ σ H' => LInv a n H σ H') ⟨rfl, Same.refl _⟩ ?_ ?_⟩
  rotate_left
  · rintro σ H' ⟨rfl, s1⟩
    exact k _ _ (q H')
  clear k
  rintro i σ H1 hi @⟨u2, u3, u4, u5, u6, u7, u8, u9, u10, u11, rfl, s1⟩
  rw [Int.zero_add]
  have hS1 := s1.seq hS
  have hi8 : i ≤ 8 := Nat.le_of_lt_succ hi
  show tSeq _ _ _ [some (.ref a), some (.int n), some (.int i), u3, u4, u5, u6, u7, u8, u9, u10, u11] H1
  refine gD fun D kD _ => ?_
  refine sq fun N k => ⟨a, ns, 1 + i, rfl, hS1, k [some (.ref a), some (.int n), some (.int i), some (.int (ns.getD (1 + i) 0)), u4, u5, u6, u7, u8, u9, u10, u11] _ ?_⟩
  clear k
  generalize ns.getD (1 + i) 0 = c
  refine sq fun N k => ⟨.inl ⟨by decide, by decide⟩, a, ns, 10 + 2 * i, rfl, hS1, k [some (.ref a), some (.int n), some (.int i), some (.int c), some (.int (ns.getD (10 + 2 * i) 0)), u5, u6, u7, u8, u9, u10, u11] _ ?_⟩
  clear k
  generalize ns.getD (10 + 2 * i) 0 = on
  refine sq fun N k => ⟨.inl ⟨by decide, by decide⟩, a, ns, 11 + 2 * i, rfl, hS1, k [some (.ref a), some (.int n), some (.int i), some (.int c), some (.int on), some (.int (ns.getD (11 + 2 * i) 0)), u6, u7, u8, u9, u10, u11] _ ?_⟩
  clear k
  generalize ns.getD (11 + 2 * i) 0 = tw
  refine sq fun N k => ⟨(by show (0 : Int) < 4; decide), fun v H' => ∃ b1 : Bool, v = .bl b1 ∧ H' = H1 ∧ (i = 1 → n = 0 → b1 = true), ?_, ?_⟩
  · clear k
    refine ⟨⟨by decide, by decide⟩, (by show (0 : Int) < 3; decide), _, rfl, ite2 (fun _ => ⟨true, rfl, rfl, fun _ _ => rfl⟩) (fun _ => ⟨_, rfl, ?_⟩)⟩
    by_cases h1 : (i : Int) = 1
    · exact iteDT h1 ⟨_, rfl, rfl, fun _ h0 => by rw [h0]; rfl⟩
    · exact iteDF h1 ⟨false, rfl, rfl, fun h => absurd h (no_of (k := 1) h1)⟩
  rintro v H1' ⟨b1, rfl, rfl, hb1⟩
  refine ⟨⟨by decide, by decide⟩, (by show (0 : Int) < 3; decide), (by show 3 ≤ sizeLine; decide), fun lb H2 g0 hlb => k [some (.ref a), some (.int n), some (.int i), some (.int c), some (.int on), some (.int tw), some (.ref lb), u7, u8, u9, u10, u11] _ ?_⟩
  clear k
  have hlb : H2 lb = some (.lst [.bl (decide (c % 4 = 1)), .bl b1, .bl (decide (c / 12 % 3 = 1))]) := hlb
  generalize decide (c % 4 = 1) = b0 at hlb
  generalize decide (c / 12 % 3 = 1) = b2 at hlb
  have s1 := s1.trans g0
  refine sq fun N k => ⟨hlb, rfl, i, b1, on, tw, n, rfl, hn, hb1, fun u H3 p e x s3 fo => k [some (.ref a), some (.int n), some (.int i), some (.int c), some (.int on), some (.int tw), some (.ref lb), some u, u8, u9, u10, u11] _ ?_⟩
  clear k
  have hlb := s3 _ _ hlb
  have s1 := s1.trans s3
  refine sq fun N k => ⟨hlb, rfl, ⟨by decide, by decide⟩, i, b2, b1, _, u, n, p, e, x, rfl, hn, fo, fun r H4 s4 lo => k [some (.ref a), some (.int n), some (.int i), some (.int c), some (.int on), some (.int tw), some (.ref lb), some u, some (.int r), u9, u10, u11] _ ?_⟩
  clear k
  have hlb := s4 _ _ hlb
  have s1 := s1.trans s4
  have fo := fo.same s4
  clear s3 s4 g0 hb1
  refine sq fun N k => k [some (.ref a), some (.int n), some (.int i), some (.int c), some (.int on), some (.int tw), some (.ref lb), some u, some (.int r), some (.int n), u10, u11] _ ?_
  clear k
  refine sq fun N k => ?_
  have K8 : ∀ (h : Int) (H5 : Hp), Same H4 H5 → (b0 = false → h = n) → (b0 = true → ¬ (0 ≤ h ∧ h ≤ 60)) → N [some (.ref a), some (.int n), some (.int i), some (.int c), some (.int on), some (.int tw), some (.ref lb), some u, some (.int r), some (.int h), u10, u11] H5 := by
    intro h H5 s5 hh0 hh1
    refine k _ _ ?_
    clear k
    have hlb := s5 _ _ hlb
    have s1 := s1.trans s5
    have fo := fo.same s5
    clear s5
    refine sq fun N k => ⟨i, lb, b0, b1, b2, rfl, hi8, hlb, fun H6 s6 => k [some (.ref a), some (.int n), some (.int i), some (.int c), some (.int on), some (.int tw), some (.ref lb), some u, some (.int r), some (.int h), some (.int (dueI i b0 b1 b2)), u11] _ ?_⟩
    clear k hlb
    refine sq fun N k => ⟨i, .int h, u, .int r, dueR i b0 b1 b2, rfl, hi8, fun m hm => ?_, fun H0 Q' E' s0 hQ hE => ask_ok hi8 hn hh0 hh1 (fo.same (s6.trans s0)) lo hQ hE, fun l H7 s7 hl => k [some (.ref a), some (.int n), some (.int i), some (.int c), some (.int on), some (.int tw), some (.ref lb), some u, some (.int r), some (.int h), some (.int (dueI i b0 b1 b2)), some (.ref l)] _ ?_⟩
    · rcases due_eq hi8 b0 b1 b2 with ⟨e1, _⟩ | ⟨k', h7, e1, _⟩
      · rw [e1] at hm; cases hm
      · rw [e1] at hm; cases hm; exact h7
    clear k
    have sA := s1.trans (s6.trans s7)
    clear s6 s7 s1 fo lo hh0 hh1
    rcases due_eq hi8 b0 b1 b2 with ⟨e1, e2⟩ | ⟨m, h7, e1, e2⟩
    · rw [e1] at hl
      rw [e2]
      refine sq fun N k => ⟨(by show 0 ≤ sizeLine; decide), fun l0 G0 t0 hl0 => ⟨l, l0, [], [], rfl, rfl, SqL.of (t0 _ _ hl), SqL.of hl0, k _ _ ?_⟩⟩
      exact kD _ _ ⟨rfl, sA.trans t0⟩
    · rw [e1] at hl
      rw [e2]
      refine sq fun N k => k _ _ ?_
      clear k
      refine ⟨7, rfl, by decide, by decide, fun Dd fD => ⟨7, fun t H' => t ≤ 7 ∧ Same H7 H' ∧ H' Dd = some (.lst (((List.range t).map fun t : Nat => decide (0 + (t : Int) = (m : Int))).map V.bl)), ⟨Nat.zero_le _, same_new fD _, upd_same⟩, ?_⟩⟩
      rintro t H9 ⟨hm, s9, hD⟩
      by_cases hm7 : t < 7
      · right
        refine ⟨hm7, hm7, ?_⟩
        rintro v Ha ⟨rfl, rfl⟩
        refine ⟨_, hD, ?_, hm7, fun c o e => ?_, ?_⟩
        · rw [List.length_map, List.length_map, List.length_range]; exact small1000 (by omega)
        · rw [upd_ne (ne_of_none e fD)]; exact s9 c o e
        · rw [upd_same, List.range_succ, List.map_append, List.map_append]; rfl
      left
      obtain rfl := Nat.le_antisymm hm (Nat.le_of_not_lt hm7)
      refine ⟨Nat.le_refl _, (by show 1 ≤ sizeLine; decide), fun l2 G2 g2 v2 => ⟨g2 _ _ hD, v2, (by show 8 ≤ sizeLine; decide), fun l3 G3 g3 v3 => ?_⟩⟩
      have e3 : (((List.range 7).map fun t : Nat => decide (0 + (t : Int) = (m : Int))).map V.bl) ++ [.bl true] = (bools (some m)).map V.bl := by
        rw [← bools_eq, List.map_append]; rfl
      have v3 : G3 l3 = some (.lst ((((List.range 7).map fun t : Nat => decide (0 + (t : Int) = (m : Int))).map V.bl) ++ [.bl true])) := v3
      rw [e3] at v3
      have sB := s9.trans (g2.trans g3)
      refine ⟨l, l3, bools (some m), bools (some m), rfl, rfl, SqL.of (sB _ _ hl), SqL.of v3, iteNS rfl ?_⟩
      exact kD _ _ ⟨rfl, sA.trans sB⟩
  clear k
  refine ⟨hlb, rfl, ?_⟩
  cases b0 with
  | false => exact (K8 n _ (Same.refl _) (fun _ => rfl) (fun z => by cases z))
  | true =>
    refine ⟨⟨by decide, by decide⟩, by decide, (fun z => by cases z), fun h H5 s5 o => ?_⟩
    exact K8 h _ s5 (fun z => by cases z) (fun _ => nrng (o.out rfl))
end
end FW

namespace FW
open PySem L2
set_option maxHeartbeats 4000000
theorem cls_all {K : PySem.W.Frag} {h : Heap} {mg : Str → Option Value} {W cF cP cC cS cB cN cT : Addr} (X : K.In h) (G : h.Ns mainGlobals mg) (wn : PySem.W.nsIn K mainGlobals "WalkError" = some (some (.ref W)))
    (fn : PySem.W.nsIn K mainGlobals "NoFloor" = some (some (.ref cF))) (fe : PySem.W.excIn K cF [.type "ValueError", .type "Exception", .type "BaseException", .type "object"] "ValueError.__new__" = true)
    (pn : PySem.W.nsIn K mainGlobals "NoPlace" = some (some (.ref cP))) (pe : PySem.W.excIn K cP [.type "ValueError", .type "Exception", .type "BaseException", .type "object"] "ValueError.__new__" = true)
    (cn : PySem.W.nsIn K mainGlobals "NoCell" = some (some (.ref cC))) (ce : PySem.W.excIn K cC [.type "ValueError", .type "Exception", .type "BaseException", .type "object"] "ValueError.__new__" = true)
    (sn : PySem.W.nsIn K mainGlobals "NoSquare" = some (some (.ref cS))) (se : PySem.W.excIn K cS [.type "ValueError", .type "Exception", .type "BaseException", .type "object"] "ValueError.__new__" = true)
    (bn : PySem.W.nsIn K mainGlobals "NoBox" = some (some (.ref cB))) (be : PySem.W.excIn K cB [.type "ValueError", .type "Exception", .type "BaseException", .type "object"] "ValueError.__new__" = true)
    (nn : PySem.W.nsIn K mainGlobals "NoNumber" = some (some (.ref cN))) (ne : PySem.W.excIn K cN [.type "ValueError", .type "Exception", .type "BaseException", .type "object"] "ValueError.__new__" = true)
    (tn : PySem.W.nsIn K mainGlobals "TooMany" = some (some (.ref cT))) (te : PySem.W.excIn K cT [.type "ValueError", .type "Exception", .type "BaseException", .type "object"] "ValueError.__new__" = true)
    (o0 : ClsOk K W cF cP cC cS cB cN cT cF 0)
    (o1 : ClsOk K W cF cP cC cS cB cN cT cP 1)
    (o2 : ClsOk K W cF cP cC cS cB cN cT cC 2)
    (o3 : ClsOk K W cF cP cC cS cB cN cT cS 3)
    (o4 : ClsOk K W cF cP cC cS cB cN cT cB 4)
    (o5 : ClsOk K W cF cP cC cS cB cN cT cN 5)
    (o6 : ClsOk K W cF cP cC cS cB cN cT cT 6)
    : ∃ W cF cP cC cS cB cN cT : Addr, mg "WalkError" = some (.ref W) ∧ Cls7 K mg cF cP cC cS cB cN cT ∧ ∀ i, i < 7 → ClsOk K W cF cP cC cS cB cN cT (clsN cF cP cC cS cB cN cT i) i := by
  refine ⟨W, cF, cP, cC, cS, cB, cN, cT, PySem.W.mg_of X G wn, ⟨⟨PySem.W.mg_of X G fn, fe⟩, ⟨PySem.W.mg_of X G pn, pe⟩, ⟨PySem.W.mg_of X G cn, ce⟩, ⟨PySem.W.mg_of X G sn, se⟩, ⟨PySem.W.mg_of X G bn, be⟩, ⟨PySem.W.mg_of X G nn, ne⟩, ⟨PySem.W.mg_of X G tn, te⟩⟩, fun i hi => ?_⟩
  rcases (by omega : i = 0 ∨ i = 1 ∨ i = 2 ∨ i = 3 ∨ i = 4 ∨ i = 5 ∨ i = 6) with rfl | rfl | rfl | rfl | rfl | rfl | rfl
  · exact o0
  · exact o1
  · exact o2
  · exact o3
  · exact o4
  · exact o5
  · exact o6
end FW

open PySem PySem.W PyProof.Rows L2
set_option maxRecDepth 100000 in
set_option maxHeartbeats 0 in
theorem PySem.Challenge.cw_foldwalk_k08_refused_holds : PySem.Challenge.rw_foldwalk_k08_refused.Holds := by
  w_on; o_law; k_head; (case hw => w_witness2)
  k_fill
  refine L2.walk_ofB (l := PySem.Challenge.rw_foldwalk_k08_refused) (k := 9) (x := "_law_script") (sp := FW.spLaw) rfl rfl ⟨rfl, by decide, by decide⟩ (fun w h Y => PySem.W.kIn_of Y) ?F (fun K H a ns hl hb hO hS => ⟨a, ns, rfl, hS, hb, fun _ => rfl⟩)
  case F =>
    intro w mg h KX G
    have m_range : mg "range" = none := PySem.W.mg_none_of KX G (by k_is)
    have m_isinstance : mg "isinstance" = none := PySem.W.mg_none_of KX G (by k_is)
    have m_int : mg "int" = none := PySem.W.mg_none_of KX G (by k_is)
    have m_len : mg "len" = none := PySem.W.mg_none_of KX G (by k_is)
    have m_min : mg "min" = none := PySem.W.mg_none_of KX G (by k_is)
    have m_max : mg "max" = none := PySem.W.mg_none_of KX G (by k_is)
    have m_sorted : mg "sorted" = none := PySem.W.mg_none_of KX G (by k_is)
    have m_ValueError : mg "ValueError" = none := PySem.W.mg_none_of KX G (by k_is)
    have mM : ∃ t, mg "MOST_FOLDS" = some (.int 60 t) := by
      have e : ∃ v, mg "MOST_FOLDS" = some v ∧ ∃ t, v = Value.int 60 t := by
        refine' ⟨_, PySem.W.mg_of KX G ?a, ?b⟩
        (case a => k_is)
        (case b => exact ⟨_, rfl⟩)
      obtain ⟨v, e, t, rfl⟩ := e
      exact ⟨t, e⟩
    have XA : ∃ W cF cP cC cS cB cN cT : Addr, mg "WalkError" = some (.ref W) ∧ FW.Cls7 (KOf KX) mg cF cP cC cS cB cN cT ∧ ∀ i, i < 7 → FW.ClsOk (KOf KX) W cF cP cC cS cB cN cT (FW.clsN cF cP cC cS cB cN cT i) i := by
      dsimp only [KOf]
      refine' FW.cls_all KX G ?wn ?fn ?fe ?pn ?pe ?cn ?ce ?sn ?se ?bn ?be ?nn ?ne ?tn ?te ⟨?x0, ⟨?ga0, ?gh0, ?cl0, ?gt0, ?tk0, ?mo0, ?mb0, L2.isSome_of ?cd0⟩, ?k0_0, ?k0_1, ?k0_2, ?k0_3, ?k0_4, ?k0_5, ?k0_6, ?k0_7⟩ ⟨?x1, ⟨?ga1, ?gh1, ?cl1, ?gt1, ?tk1, ?mo1, ?mb1, L2.isSome_of ?cd1⟩, ?k1_0, ?k1_1, ?k1_2, ?k1_3, ?k1_4, ?k1_5, ?k1_6, ?k1_7⟩ ⟨?x2, ⟨?ga2, ?gh2, ?cl2, ?gt2, ?tk2, ?mo2, ?mb2, L2.isSome_of ?cd2⟩, ?k2_0, ?k2_1, ?k2_2, ?k2_3, ?k2_4, ?k2_5, ?k2_6, ?k2_7⟩ ⟨?x3, ⟨?ga3, ?gh3, ?cl3, ?gt3, ?tk3, ?mo3, ?mb3, L2.isSome_of ?cd3⟩, ?k3_0, ?k3_1, ?k3_2, ?k3_3, ?k3_4, ?k3_5, ?k3_6, ?k3_7⟩ ⟨?x4, ⟨?ga4, ?gh4, ?cl4, ?gt4, ?tk4, ?mo4, ?mb4, L2.isSome_of ?cd4⟩, ?k4_0, ?k4_1, ?k4_2, ?k4_3, ?k4_4, ?k4_5, ?k4_6, ?k4_7⟩ ⟨?x5, ⟨?ga5, ?gh5, ?cl5, ?gt5, ?tk5, ?mo5, ?mb5, L2.isSome_of ?cd5⟩, ?k5_0, ?k5_1, ?k5_2, ?k5_3, ?k5_4, ?k5_5, ?k5_6, ?k5_7⟩ ⟨?x6, ⟨?ga6, ?gh6, ?cl6, ?gt6, ?tk6, ?mo6, ?mb6, L2.isSome_of ?cd6⟩, ?k6_0, ?k6_1, ?k6_2, ?k6_3, ?k6_4, ?k6_5, ?k6_6, ?k6_7⟩
      (case wn => k_is)
      (case fn => k_is)
      (case pn => k_is)
      (case cn => k_is)
      (case sn => k_is)
      (case bn => k_is)
      (case nn => k_is)
      (case tn => k_is)
      (case fe => k_exc)
      (case pe => k_exc)
      (case ce => k_exc)
      (case se => k_exc)
      (case be => k_exc)
      (case ne => k_exc)
      (case te => k_exc)
      (case x0 => kts_exm)
      (case ga0 => k_is)
      (case gh0 => k_is)
      (case cl0 => k_is)
      (case gt0 => k_is)
      (case tk0 => k_is)
      (case mo0 => k_is)
      (case mb0 => k_is)
      (case cd0 => k_is)
      (case k0_0 => kit_is)
      (case k0_1 => kit_is)
      (case k0_2 => kit_is)
      (case k0_3 => kit_is)
      (case k0_4 => kit_is)
      (case k0_5 => kit_is)
      (case k0_6 => kit_is)
      (case k0_7 => kit_is)
      (case x1 => kts_exm)
      (case ga1 => k_is)
      (case gh1 => k_is)
      (case cl1 => k_is)
      (case gt1 => k_is)
      (case tk1 => k_is)
      (case mo1 => k_is)
      (case mb1 => k_is)
      (case cd1 => k_is)
      (case k1_0 => kit_is)
      (case k1_1 => kit_is)
      (case k1_2 => kit_is)
      (case k1_3 => kit_is)
      (case k1_4 => kit_is)
      (case k1_5 => kit_is)
      (case k1_6 => kit_is)
      (case k1_7 => kit_is)
      (case x2 => kts_exm)
      (case ga2 => k_is)
      (case gh2 => k_is)
      (case cl2 => k_is)
      (case gt2 => k_is)
      (case tk2 => k_is)
      (case mo2 => k_is)
      (case mb2 => k_is)
      (case cd2 => k_is)
      (case k2_0 => kit_is)
      (case k2_1 => kit_is)
      (case k2_2 => kit_is)
      (case k2_3 => kit_is)
      (case k2_4 => kit_is)
      (case k2_5 => kit_is)
      (case k2_6 => kit_is)
      (case k2_7 => kit_is)
      (case x3 => kts_exm)
      (case ga3 => k_is)
      (case gh3 => k_is)
      (case cl3 => k_is)
      (case gt3 => k_is)
      (case tk3 => k_is)
      (case mo3 => k_is)
      (case mb3 => k_is)
      (case cd3 => k_is)
      (case k3_0 => kit_is)
      (case k3_1 => kit_is)
      (case k3_2 => kit_is)
      (case k3_3 => kit_is)
      (case k3_4 => kit_is)
      (case k3_5 => kit_is)
      (case k3_6 => kit_is)
      (case k3_7 => kit_is)
      (case x4 => kts_exm)
      (case ga4 => k_is)
      (case gh4 => k_is)
      (case cl4 => k_is)
      (case gt4 => k_is)
      (case tk4 => k_is)
      (case mo4 => k_is)
      (case mb4 => k_is)
      (case cd4 => k_is)
      (case k4_0 => kit_is)
      (case k4_1 => kit_is)
      (case k4_2 => kit_is)
      (case k4_3 => kit_is)
      (case k4_4 => kit_is)
      (case k4_5 => kit_is)
      (case k4_6 => kit_is)
      (case k4_7 => kit_is)
      (case x5 => kts_exm)
      (case ga5 => k_is)
      (case gh5 => k_is)
      (case cl5 => k_is)
      (case gt5 => k_is)
      (case tk5 => k_is)
      (case mo5 => k_is)
      (case mb5 => k_is)
      (case cd5 => k_is)
      (case k5_0 => kit_is)
      (case k5_1 => kit_is)
      (case k5_2 => kit_is)
      (case k5_3 => kit_is)
      (case k5_4 => kit_is)
      (case k5_5 => kit_is)
      (case k5_6 => kit_is)
      (case k5_7 => kit_is)
      (case x6 => kts_exm)
      (case ga6 => k_is)
      (case gh6 => k_is)
      (case cl6 => k_is)
      (case gt6 => k_is)
      (case tk6 => k_is)
      (case mo6 => k_is)
      (case mb6 => k_is)
      (case cd6 => k_is)
      (case k6_0 => kit_is)
      (case k6_1 => kit_is)
      (case k6_2 => kit_is)
      (case k6_3 => kit_is)
      (case k6_4 => kit_is)
      (case k6_5 => kit_is)
      (case k6_6 => kit_is)
      (case k6_7 => kit_is)
    obtain ⟨cW, cF, cP, cC, cS, cB, cN, cT, hW, X7, O7⟩ := XA
    have mT : ∃ t, mg "MOST_STRETCHES" = some (.int 100 t) := by
      have e : ∃ v, mg "MOST_STRETCHES" = some v ∧ ∃ t, v = Value.int 100 t := by
        refine' ⟨_, PySem.W.mg_of KX G ?a, ?b⟩
        (case a => k_is)
        (case b => exact ⟨_, rfl⟩)
      obtain ⟨v, e, t, rfl⟩ := e
      exact ⟨t, e⟩
    have D_st : ∃ T o t n, DefAtD (KOf KX) mg "stretches" FW.s_stretches (.ref T) ∧ (KOf KX).lookup T = some o ∧ o.data = .seq #[.int 16 t] n := by
      dsimp only [KOf]; refine' DefAtD.ofInt KX G ?a ?l ?c ?k ?o ?s; (case a => k_is); (case l => k_is); (case c => k_is); (case k => k_is); (case o => k_is); (case s => rfl)
    obtain ⟨T, o, t16, nn, D_st, ho, hs⟩ := D_st
    have D_side_of : DefAt (KOf KX) mg "side_of" FW.s_side_of := by
      dsimp only [KOf]; refine' DefAt.of KX G ?a ?l ?c ?k; (case a => k_is); (case l => k_is); (case c => k_is); (case k => k_is)
    have D_cells_of : DefAt (KOf KX) mg "cells_of" FW.s_cells_of := by
      dsimp only [KOf]; refine' DefAt.of KX G ?a ?l ?c ?k; (case a => k_is); (case l => k_is); (case c => k_is); (case k => k_is)
    have D_check_folds : DefAt (KOf KX) mg "check_folds" FW.s_check_folds := by
      dsimp only [KOf]; refine' DefAt.of KX G ?a ?l ?c ?k; (case a => k_is); (case l => k_is); (case c => k_is); (case k => k_is)
    have D_check_place : DefAt (KOf KX) mg "check_place" FW.s_check_place := by
      dsimp only [KOf]; refine' DefAt.of KX G ?a ?l ?c ?k; (case a => k_is); (case l => k_is); (case c => k_is); (case k => k_is)
    have D_check_cell : DefAt (KOf KX) mg "check_cell" FW.s_check_cell := by
      dsimp only [KOf]; refine' DefAt.of KX G ?a ?l ?c ?k; (case a => k_is); (case l => k_is); (case c => k_is); (case k => k_is)
    have D_into_quarter : DefAt (KOf KX) mg "into_quarter" FW.s_into_quarter := by
      dsimp only [KOf]; refine' DefAt.of KX G ?a ?l ?c ?k; (case a => k_is); (case l => k_is); (case c => k_is); (case k => k_is)
    have D_out_of_quarter : DefAt (KOf KX) mg "out_of_quarter" FW.s_out_of_quarter := by
      dsimp only [KOf]; refine' DefAt.of KX G ?a ?l ?c ?k; (case a => k_is); (case l => k_is); (case c => k_is); (case k => k_is)
    have D_quarter_of : DefAt (KOf KX) mg "quarter_of" FW.s_quarter_of := by
      dsimp only [KOf]; refine' DefAt.of KX G ?a ?l ?c ?k; (case a => k_is); (case l => k_is); (case c => k_is); (case k => k_is)
    have D_cell_at : DefAt (KOf KX) mg "cell_at" FW.s_cell_at := by
      dsimp only [KOf]; refine' DefAt.of KX G ?a ?l ?c ?k; (case a => k_is); (case l => k_is); (case c => k_is); (case k => k_is)
    have D_place_of : DefAt (KOf KX) mg "place_of" FW.s_place_of := by
      dsimp only [KOf]; refine' DefAt.of KX G ?a ?l ?c ?k; (case a => k_is); (case l => k_is); (case c => k_is); (case k => k_is)
    have D_way_between : DefAt (KOf KX) mg "way_between" FW.s_way_between := by
      dsimp only [KOf]; refine' DefAt.of KX G ?a ?l ?c ?k; (case a => k_is); (case l => k_is); (case c => k_is); (case k => k_is)
    have D_way_at : DefAt (KOf KX) mg "way_at" FW.s_way_at := by
      dsimp only [KOf]; refine' DefAt.of KX G ?a ?l ?c ?k; (case a => k_is); (case l => k_is); (case c => k_is); (case k => k_is)
    have D_check_box : DefAt (KOf KX) mg "check_box" FW.s_check_box := by
      dsimp only [KOf]; refine' DefAt.of KX G ?a ?l ?c ?k; (case a => k_is); (case l => k_is); (case c => k_is); (case k => k_is)
    have D_check_number : DefAt (KOf KX) mg "check_number" FW.s_check_number := by
      dsimp only [KOf]; refine' DefAt.of KX G ?a ?l ?c ?k; (case a => k_is); (case l => k_is); (case c => k_is); (case k => k_is)
    have D_cells_in : DefAt (KOf KX) mg "cells_in" FW.s_cells_in := by
      dsimp only [KOf]; refine' DefAt.of KX G ?a ?l ?c ?k; (case a => k_is); (case l => k_is); (case c => k_is); (case k => k_is)
    have D_part_in : DefAt (KOf KX) mg "part_in" FW.s_part_in := by
      dsimp only [KOf]; refine' DefAt.of KX G ?a ?l ?c ?k; (case a => k_is); (case l => k_is); (case c => k_is); (case k => k_is)
    have D_count_ahead : DefAt (KOf KX) mg "count_ahead" FW.s_count_ahead := by
      dsimp only [KOf]; refine' DefAt.of KX G ?a ?l ?c ?k; (case a => k_is); (case l => k_is); (case c => k_is); (case k => k_is)
    have D_cells_held : DefAt (KOf KX) mg "cells_held" FW.s_cells_held := by
      dsimp only [KOf]; refine' DefAt.of KX G ?a ?l ?c ?k; (case a => k_is); (case l => k_is); (case c => k_is); (case k => k_is)
    have D_quarter_holding : DefAt (KOf KX) mg "quarter_holding" FW.s_quarter_holding := by
      dsimp only [KOf]; refine' DefAt.of KX G ?a ?l ?c ?k; (case a => k_is); (case l => k_is); (case c => k_is); (case k => k_is)
    have D_place_numbered : DefAt (KOf KX) mg "place_numbered" FW.s_place_numbered := by
      dsimp only [KOf]; refine' DefAt.of KX G ?a ?l ?c ?k; (case a => k_is); (case l => k_is); (case c => k_is); (case k => k_is)
    have D_counted : DefAt (KOf KX) mg "counted" FW.s_counted := by
      dsimp only [KOf]; refine' DefAt.of KX G ?a ?l ?c ?k; (case a => k_is); (case l => k_is); (case c => k_is); (case k => k_is)
    have D_nth : DefAt (KOf KX) mg "nth" FW.s_nth := by
      dsimp only [KOf]; refine' DefAt.of KX G ?a ?l ?c ?k; (case a => k_is); (case l => k_is); (case c => k_is); (case k => k_is)
    have D_next_in : DefAt (KOf KX) mg "next_in" FW.s_next_in := by
      dsimp only [KOf]; refine' DefAt.of KX G ?a ?l ?c ?k; (case a => k_is); (case l => k_is); (case c => k_is); (case k => k_is)
    have D_next_out : DefAt (KOf KX) mg "next_out" FW.s_next_out := by
      dsimp only [KOf]; refine' DefAt.of KX G ?a ?l ?c ?k; (case a => k_is); (case l => k_is); (case c => k_is); (case k => k_is)
    have D_end_of_stretch : DefAt (KOf KX) mg "end_of_stretch" FW.s_end_of_stretch := by
      dsimp only [KOf]; refine' DefAt.of KX G ?a ?l ?c ?k; (case a => k_is); (case l => k_is); (case c => k_is); (case k => k_is)
    have D_check_size : DefAt (KOf KX) mg "check_size" FW.s_check_size := by
      dsimp only [KOf]; refine' DefAt.of KX G ?a ?l ?c ?k; (case a => k_is); (case l => k_is); (case c => k_is); (case k => k_is)
    have D_square_at : DefAt (KOf KX) mg "square_at" FW.s_square_at := by
      dsimp only [KOf]; refine' DefAt.of KX G ?a ?l ?c ?k; (case a => k_is); (case l => k_is); (case c => k_is); (case k => k_is)
    have D_law_cell_at : DefAt (KOf KX) mg "_law_cell_at" FW.s_law_cell_at := by
      dsimp only [KOf]; refine' DefAt.of KX G ?a ?l ?c ?k; (case a => k_is); (case l => k_is); (case c => k_is); (case k => k_is)
    have D_law_folds : DefAt (KOf KX) mg "_law_folds" FW.s_law_folds := by
      dsimp only [KOf]; refine' DefAt.of KX G ?a ?l ?c ?k; (case a => k_is); (case l => k_is); (case c => k_is); (case k => k_is)
    have D_law_far : DefAt (KOf KX) mg "_law_far" FW.s_law_far := by
      dsimp only [KOf]; refine' DefAt.of KX G ?a ?l ?c ?k; (case a => k_is); (case l => k_is); (case c => k_is); (case k => k_is)
    have D_law_number : DefAt (KOf KX) mg "_law_number" FW.s_law_number := by
      dsimp only [KOf]; refine' DefAt.of KX G ?a ?l ?c ?k; (case a => k_is); (case l => k_is); (case c => k_is); (case k => k_is)
    have D_law_cell : DefAt (KOf KX) mg "_law_cell" FW.s_law_cell := by
      dsimp only [KOf]; refine' DefAt.of KX G ?a ?l ?c ?k; (case a => k_is); (case l => k_is); (case c => k_is); (case k => k_is)
    have D_law_box : DefAt (KOf KX) mg "_law_box" FW.s_law_box := by
      dsimp only [KOf]; refine' DefAt.of KX G ?a ?l ?c ?k; (case a => k_is); (case l => k_is); (case c => k_is); (case k => k_is)
    have D_law_asked : DefAt (KOf KX) mg "_law_asked" FW.s_law_asked := by
      dsimp only [KOf]; refine' DefAt.of KX G ?a ?l ?c ?k; (case a => k_is); (case l => k_is); (case c => k_is); (case k => k_is)
    have D_law_classes : DefAt (KOf KX) mg "_law_classes" FW.s_law_classes := by
      dsimp only [KOf]; refine' DefAt.of KX G ?a ?l ?c ?k; (case a => k_is); (case l => k_is); (case c => k_is); (case k => k_is)
    have D_law_first : DefAt (KOf KX) mg "_law_first" FW.s_law_first := by
      dsimp only [KOf]; refine' DefAt.of KX G ?a ?l ?c ?k; (case a => k_is); (case l => k_is); (case c => k_is); (case k => k_is)
    have D_law_last : DefAt (KOf KX) mg "_law_last" FW.s_law_last := by
      dsimp only [KOf]; refine' DefAt.of KX G ?a ?l ?c ?k; (case a => k_is); (case l => k_is); (case c => k_is); (case k => k_is)
    have D_law_due : DefAt (KOf KX) mg "_law_due" FW.s_law_due := by
      dsimp only [KOf]; refine' DefAt.of KX G ?a ?l ?c ?k; (case a => k_is); (case l => k_is); (case c => k_is); (case k => k_is)
    have D_law : DefAt (KOf KX) mg "law" FW.s_law := by
      dsimp only [KOf]; refine' DefAt.of KX G ?a ?l ?c ?k; (case a => k_is); (case l => k_is); (case c => k_is); (case k => k_is)
    obtain ⟨f, fd, F, m⟩ := D_law
    refine ⟨f, fd, m, F.bind1 fun _ _ _ _ _ _ _ => rfl, fun base _ _ => ?_⟩
    have GS := FW.ok_side_of (P := PySem.Challenge.rw_foldwalk_k08_refused.prog) (w := w) (base := base) D_side_of m_range
    have GF := FW.ok_check_folds (P := PySem.Challenge.rw_foldwalk_k08_refused.prog) (w := w) (base := base) D_check_folds mM
    have GP := FW.ok_check_place (P := PySem.Challenge.rw_foldwalk_k08_refused.prog) (w := w) (base := base) D_check_place
    have GC := FW.ok_cells_of D_cells_of GS
    have GA := FW.ok_cell_at D_cell_at m_range GF GP GC (FW.ok_into_quarter D_into_quarter)
    have GU := FW.ok_out_of_quarter (P := PySem.Challenge.rw_foldwalk_k08_refused.prog) (w := w) (base := base) D_out_of_quarter
    have GXB := FW.ok_check_box (P := PySem.Challenge.rw_foldwalk_k08_refused.prog) (w := w) (base := base) D_check_box
    have GXC := FW.ok_cells_in (P := PySem.Challenge.rw_foldwalk_k08_refused.prog) (w := w) (base := base) D_cells_in
    have GXP := FW.ok_part_in D_part_in m_min m_max GU
    have GXA := FW.ok_count_ahead D_count_ahead m_range GS GXC GXP
    have GXK := FW.ok_counted D_counted GF GXB GS GP GC GXA
    have GXH := FW.ok_cells_held D_cells_held GXC
    have GXQ := FW.ok_quarter_holding D_quarter_holding m_range GXH GXP
    have GXN := FW.ok_place_numbered D_place_numbered m_range GS GXH GXP GXQ
    have GCN := FW.ok_check_number (P := PySem.Challenge.rw_foldwalk_k08_refused.prog) (w := w) (base := base) D_check_number
    have GCC := FW.ok_check_cell (P := PySem.Challenge.rw_foldwalk_k08_refused.prog) (w := w) (base := base) D_check_cell m_min m_max
    have GO := FW.ok_place_of D_place_of m_range GF GS GCC (FW.ok_quarter_of D_quarter_of) GU
    have GY := FW.ok_way_at D_way_at GF GP GC GA (FW.ok_way_between D_way_between)
    have GQ := FW.ok_square_at D_square_at GA (FW.ok_check_size D_check_size) GS
    have GNT := FW.ok_nth D_nth GF GXB GS GCN GXC GXN
    have GNI := FW.ok_next_in D_next_in GXK GXN
    have GNO := FW.ok_next_out D_next_out GXK GXN
    have GF1 := (GF.to1 fun _ _ _ _ _ h => h).or (FW.bd_check_folds D_check_folds mM X7.f)
    have GP1 := (GP.to1 fun _ _ _ _ _ h => h).or (FW.bd_check_place D_check_place X7.p)
    have GC1 := (GCC.to1 fun _ _ _ _ _ h => h).or (FW.bd_check_cell D_check_cell m_min m_max X7.c)
    have GB1 := (GXB.to1 fun _ _ _ _ _ h => h).or (FW.bd_check_box D_check_box X7.b)
    have GN1 := (GCN.to1 fun _ _ _ _ _ h => h).or (FW.bd_check_number D_check_number X7.n)
    have A1 := (GA.to1 fun _ _ _ _ _ h => h).or (FW.bd_cell_at D_cell_at GF1 GP1 GC)
    have Y1 := (GY.to1 fun _ _ _ _ _ h => h).or (FW.bd_way_at D_way_at GF1 GP1 GC)
    have O1 := (GO.to1 fun _ _ _ _ _ h => h).or (FW.bd_place_of D_place_of GF1 GS GC1)
    have Q1 := (GQ.to1 fun _ _ _ _ _ h => h).or (FW.bd_square_at D_square_at A1 (FW.bd_check_size D_check_size X7.s))
    have KB := FW.bd_counted D_counted GF1 GB1 GS GP1 GC
    have K1 := (GXK.to1 fun _ _ _ _ _ h => h).or KB
    have N1 := (GNT.to1 fun _ _ _ _ _ h => h).or (FW.bd_nth D_nth GF1 GB1 GS (FW.bd_check_number D_check_number X7.n) GXC)
    have I1 := (GNI.to1 fun _ _ _ _ _ h => h).or (FW.bd_next_in D_next_in KB)
    have U1 := (GNO.to1 fun _ _ _ _ _ h => h).or (FW.bd_next_out D_next_out KB)
    have GST := FW.ok_stretches D_st ho hs m_len mT X7.t GF1 GB1 GS GN1 GXC
    have ASK := FW.ok_law_asked D_law_asked A1 Y1 O1 Q1 K1 N1 I1 U1 GST
    have CLS := FW.ok_law_classes D_law_classes m_isinstance m_ValueError hW X7 O7 ASK
    have FAR := FW.ok_law_far (P := PySem.Challenge.rw_foldwalk_k08_refused.prog) (w := w) (base := base) D_law_far
    have NUM := FW.ok_law_number D_law_number FAR
    have FST := FW.ok_law_first D_law_first m_int (FW.ok_law_cell D_law_cell NUM) (FW.ok_law_box D_law_box m_sorted FAR NUM) NUM
    exact FW.ok_law F m_range (FW.ok_law_cell_at D_law_cell_at m_len) (FW.ok_law_folds D_law_folds) FST (FW.ok_law_last D_law_last m_int NUM) NUM (FW.ok_law_due D_law_due) CLS
#print axioms PySem.Challenge.cw_foldwalk_k08_refused_holds

