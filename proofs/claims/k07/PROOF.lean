import PyProof.Rows.All
import Wide.All
import OpenK.AllK
import Wide.FinOn
import Lean
import PyProof.EqAt
import PyProof.EqKinds
import PyProof.TupleCall
import PySem.Challenge.RW_leastterms_k07_whole_greatest_terms
set_option Elab.async false
set_option linter.all false
set_option maxRecDepth 100000
-- CHANGE: your row's module here, as the last of these rows
/-! THE HAND LAYER, for ints, bools, texts, own classes, LISTS and tuples (index, slices, in, append, pop ..), calls, loops. Paste it whole ahead of your own text; what your proof does not reach may be deleted. -/
namespace L2
open PySem PySem.Spec PyProof.Rows

/-- a key: an int or a str -/
abbrev Key := Sum Int Str
def keyIs : Key → Value → Bool
  | .inl k, v => Value.isInt k v
  | .inr x, v => Value.isStrOf x v
def keyH (w : World) : Key → Int
  | .inl k => hashInt k
  | .inr x => hashStr w x
theorem keyIs_shape : ∀ {k : Key} {v : Value}, keyIs k v = true → (∃ i t, k = Sum.inl i ∧ v = Value.int i t) ∨ (∃ x t, k = Sum.inr x ∧ v = Value.str x t)
  | .inl i, v, h => by
    obtain ⟨t, e⟩ := Value.isInt_shape (k := i) (v := v) h
    exact .inl ⟨i, t, rfl, e⟩
  | .inr x, v, h => by
    obtain ⟨t, e⟩ := Value.isStrOf_shape (x := x) (v := v) h
    exact .inr ⟨x, t, rfl, e⟩
theorem key_ll (a b : Int) : decide ((Sum.inl a : Key) = Sum.inl b) = (a == b) := by
  by_cases e : a = b
  · subst e; simp
  · have h : ¬ (Sum.inl a : Key) = Sum.inl b := fun q => e (Sum.inl.inj q)
    rw [decide_eq_false h]
    exact (beq_eq_false_iff_ne.mpr e).symm
theorem key_rr (a b : Str) : decide ((Sum.inr a : Key) = Sum.inr b) = decide (a = b) := by
  by_cases e : a = b
  · subst e; simp
  · have h : ¬ (Sum.inr a : Key) = Sum.inr b := fun q => e (Sum.inr.inj q)
    rw [decide_eq_false h, decide_eq_false e]
theorem key_lr (a : Int) (b : Str) : decide ((Sum.inl a : Key) = Sum.inr b) = false := decide_eq_false (fun q => nomatch q)
theorem key_rl (a : Str) (b : Int) : decide ((Sum.inr a : Key) = Sum.inl b) = false := decide_eq_false (fun q => nomatch q)

def mixKind (prog : Program) (w : World) : PySem.KeyKind prog w Key where
  is := keyIs
  hash := keyH w
  inj := fun v a b ha hb => by
    rcases keyIs_shape ha with ⟨i, t, rfl, rfl⟩ | ⟨x, t, rfl, rfl⟩
    · rcases keyIs_shape hb with ⟨j, u, rfl, e⟩ | ⟨y, u, rfl, e⟩
      · injection e with e1 _; rw [e1]
      · exact nomatch e
    · rcases keyIs_shape hb with ⟨j, u, rfl, e⟩ | ⟨y, u, rfl, e⟩
      · exact nomatch e
      · injection e with e1 _; rw [e1]
  byValue := fun k v h => by
    rcases keyIs_shape h with ⟨i, t, rfl, rfl⟩ | ⟨x, t, rfl, rfl⟩ <;> rfl
  pyHash := fun hv h => by
    rcases keyIs_shape hv with ⟨i, t, rfl, rfl⟩ | ⟨x, t, rfl, rfl⟩
    · exact wpAny_pyHash_int h
    · exact wpAny_pyHash_str h
  eqBool := fun hu hv h => by
    rcases keyIs_shape hu with ⟨i, t, rfl, rfl⟩ | ⟨x, t, rfl, rfl⟩
    · rcases keyIs_shape hv with ⟨j, u, rfl, rfl⟩ | ⟨y, u, rfl, rfl⟩
      · rw [key_ll] at h; exact wpAny_eqBool_int h
      · rw [key_lr] at h; exact SeqAt.EqAt.int_str i t y u _ _ _ _ h
    · rcases keyIs_shape hv with ⟨j, u, rfl, rfl⟩ | ⟨y, u, rfl, rfl⟩
      · rw [key_rl] at h; exact SeqAt.EqAt.str_int x t j u _ _ _ _ h
      · rw [key_rr] at h; exact wpAny_eqBool_str h
  «strs» := fun k x t v h => by
    rcases keyIs_shape h with ⟨i, u, rfl, e⟩ | ⟨y, u, rfl, e⟩
    · exact nomatch e
    · injection e with e1 _
      subst e1
      cases v <;> rfl

end L2

namespace L2
open PySem PySem.Spec PyProof.Rows

/-- a value, without the heap -/
inductive V where
  | non | bl (b : Bool) | int (i : Int) | str (x : Str) | byt (b : Array UInt8) | flt (b : UInt64) | ref (a : Addr) | ty (n : String)
  deriving DecidableEq

def RelV : V → Value → Prop
  | .non, u => u = Value.none
  | .bl b, u => u = Value.bool b
  | .int i, u => ∃ t, u = Value.int i t
  | .str x, u => ∃ t, u = Value.str x t
  | .byt b, u => ∃ t, u = Value.bytes b t
  | .flt b, u => ∃ t, u = Value.float b t
  | .ref a, u => u = Value.ref a
  | .ty n, u => u = Value.type n

abbrev Vals : List V → List Value → Prop := Paired RelV
theorem Vals.length {xs : List V} {us : List Value} (r : Vals xs us) : xs.length = us.length := Paired.length r
theorem Vals.get : ∀ {xs : List V} {us : List Value} {i : Nat} {x : V}, Vals xs us → xs[i]? = some x → ∃ u, us[i]? = some u ∧ RelV x u
  | _, _, _, _, .nil, e => by simp at e
  | _, _, 0, _, .cons r _, e => by simp at e; subst e; exact ⟨_, rfl, r⟩
  | _, _, i + 1, x, .cons _ t, e => by
    obtain ⟨u, h1, h2⟩ := Vals.get (i := i) (x := x) t (by simpa using e)
    exact ⟨u, by simpa using h1, h2⟩
theorem Vals.set {x : V} {u : Value} (r : RelV x u) : ∀ {xs : List V} {us : List Value} (i : Nat), Vals xs us → Vals (xs.set i x) (us.set i u)
  | _, _, _, .nil => .nil
  | _, _, 0, .cons _ t => .cons r t
  | _, _, i + 1, .cons q t => .cons q (Vals.set r i t)
theorem Vals.append : ∀ {xs ys : List V} {us ws : List Value}, Vals xs us → Vals ys ws → Vals (xs ++ ys) (us ++ ws)
  | _, _, _, _, .nil, s => s
  | _, _, _, _, .cons r t, s => .cons r (Vals.append t s)
theorem Vals.take : ∀ {xs : List V} {us : List Value} (n : Nat), Vals xs us → Vals (xs.take n) (us.take n)
  | _, _, 0, _ => .nil
  | _, _, _ + 1, .nil => .nil
  | _, _, n + 1, .cons r t => .cons r (Vals.take n t)
theorem Vals.drop : ∀ {xs : List V} {us : List Value} (n : Nat), Vals xs us → Vals (xs.drop n) (us.drop n)
  | _, _, 0, r => r
  | _, _, _ + 1, .nil => .nil
  | _, _, n + 1, .cons _ t => Vals.drop n t
def RelO : Option V → Option Value → Prop
  | some v, some u => RelV v u
  | none, none => True
  | _, _ => False
def KV {κ : Type} : List (κ × V) → List (κ × Value) → Prop := Paired fun (p : κ × V) (q : κ × Value) => p.1 = q.1 ∧ RelV p.2 q.2

/-- a key of a dict (00_mix): an int or a text -/
def kV : Key → V
  | .inl i => .int i
  | .inr x => .str x

/-- what stands at a tracked address -/
inductive HO where
  /-- a list -/
  | lst (xs : List V)
  /-- a tuple (never changes) -/
  | tup (xs : List V)
  /-- a dict whose keys are ints and texts; one whose keys are tuples of ints and texts (the empty one is both) -/
  | dK (kvs : List (Key × V)) | dT (kvs : List (List Key × V))
  /-- a set of ints: its members, its size -/
  | set (S : Int → Bool) (n : Nat)
  /-- an instance of the class at C, its dict at dx, its attributes -/
  | ins (C dx : Addr) (fs : List (Str × V))
  /-- the dict of the instance at x -/
  | own (x : Addr)
  /-- the dict of an exception -/
  | xd (fs : List (Str × V))
  /-- a bound method, f of x -/
  | met (f x : Addr)
  /-- a range object lo, lo + 1, .. below hi -/
  | rng (lo hi : Int)
  /-- a thing that is known to the object (the script; a dict while a loop walks it): read, never written while it is so -/
  | frz (o : Obj) (u : HO)
  /-- a code object's table -/
  | tbl (ps : Array Value)
  /-- any other thing, by what is true of its one object (a def of one's own: SetO a S n := HO.ext fun h => ..) -/
  | ext (φ : Heap → Prop)

abbrev Hp := Addr → Option HO
def upd (H : Hp) (a : Addr) (o : HO) : Hp := fun b => if b = a then some o else H b
theorem upd_same {H : Hp} {a : Addr} {o : HO} : upd H a o a = some o := by unfold upd; rw [if_pos rfl]
theorem upd_ne {H : Hp} {a b : Addr} {o : HO} (h : b ≠ a) : upd H a o b = H b := by unfold upd; rw [if_neg h]
theorem ne_of_none {H : Hp} {a b : Addr} {o : HO} (h : H a = some o) (h' : H b = none) : a ≠ b := by
  intro e; subst e; rw [h] at h'; cases h'

section
variable (P : Program) (w : World)
def ObjOk (H : Hp) (h : Heap) (a : Addr) : HO → Prop
  | .lst xs => xs.length ≤ sizeLine ∧ ∃ (its : List Value) (n : Nat), Vals xs its ∧ h.get? a = some { cls := .type "list", data := .seq its.toArray n }
  | .tup xs => xs.length ≤ sizeLine ∧ ∃ its : List Value, Vals xs its ∧ IsTup h a its.toArray
  | .dK kvs => kvs.length ≤ sizeLine ∧ (a == sysModules) = false ∧ ∃ vs, KV kvs vs ∧ h.DictOf (mixKind P w) a vs
  | .dT kvs => kvs.length ≤ sizeLine ∧ (a == sysModules) = false ∧ ∃ xs : List (List Key × Addr × Value),
      Paired (fun (p : List Key × V) (q : List Key × Addr × Value) => p.1 = q.1 ∧ H q.2.1 = some (.tup (p.1.map kV)) ∧ RelV p.2 q.2.2) kvs xs ∧
      ∃ o es ep, h.get? a = some o ∧ o.ExactDict ∧ o.data = .dict es ep ∧ es.toList = xs.map (entryOfKey (tupleKind (mixKind P w))) ∧ (xs.map (·.1)).Nodup
  | .set S n => h.SetOf (intKind P w) a S n
  | .ins C dx fs => H dx = some (.own a) ∧ fs.length ≤ 1000 ∧ dx ≠ a ∧ h.get? a = some (PySem.W.instObj C dx) ∧
      ∃ mA, h.Ns1 dx mA ∧ (∀ f, RelO (fs.lookup f) (mA f)) ∧ PySem.Within mA (fs.map (·.1))
  | .own _ => ∃ o, h.get? a = some o
  | .xd fs => ∃ mA, h.Ns1 a mA ∧ ∀ f, RelO (fs.lookup f) (mA f)
  | .rng lo hi => ∃ t u v, h.get? a = some { cls := .type "range", data := .fields #[.int lo t, .int hi u, .int 1 v] }
  | .frz o u => h.get? a = some o ∧ ObjOk H h a u
  | .tbl ps => h.get? a = some { cls := .none, data := .fields ps }
  | .met f x => h.get? a = some (PySem.W.methodObj (.ref f) (.ref x))
  | .ext φ => φ h ∧ (∃ o, h.get? a = some o) ∧ ∀ h1 h2 : Heap, φ h1 → (∀ o, h1.get? a = some o → h2.get? a = some o) → φ h2
/-- the abstract heap is held -/
def HOk (H : Hp) (h : Heap) : Prop := ∀ a o, H a = some o → ObjOk P w H h a o
end

section
variable {P : Program} {w : World} {H H' : Hp} {h h' : Heap} {a : Addr} {o : HO}
theorem ObjOk.lt (x : ObjOk P w H h a o) : a < h.objs.size := by
  cases o with
  | lst xs => obtain ⟨_, _, _, _, e⟩ := x; exact Heap.lt_size e
  | tup xs => obtain ⟨_, _, _, p⟩ := x; exact p.lt
  | dK kvs => obtain ⟨_, _, _, _, o, _, _, e, _⟩ := x; exact Heap.lt_size e
  | dT kvs => obtain ⟨_, _, _, _, o, _, _, e, _⟩ := x; exact Heap.lt_size e
  | set S n => obtain ⟨o, _, _, _, e, _⟩ := x; exact Heap.lt_size e
  | ins C dx fs => obtain ⟨_, _, _, e, _⟩ := x; exact Heap.lt_size e
  | own y => obtain ⟨_, e⟩ := x; exact Heap.lt_size e
  | xd fs => obtain ⟨_, ⟨_, _, _, e, _⟩, _⟩ := x; exact Heap.lt_size e
  | rng lo hi => obtain ⟨_, _, _, e⟩ := x; exact Heap.lt_size e
  | frz ob u => obtain ⟨e, _⟩ := x; exact Heap.lt_size e
  | tbl ps => exact Heap.lt_size (show h.get? a = some _ from x)
  | met f y => exact Heap.lt_size (show h.get? a = some _ from x)
  | ext φ => obtain ⟨_, ⟨_, e⟩, _⟩ := x; exact Heap.lt_size e
theorem Paired.mapP {α β : Type} {F G : α → β → Prop} : ∀ {l₁ : List α} {l₂ : List β}, Paired F l₁ l₂ → (∀ a b, F a b → G a b) → Paired G l₁ l₂
  | _, _, .nil, _ => .nil
  | _, _, .cons r t, f => .cons (f _ _ r) (Paired.mapP t f)
/-- what an object's description leans on: its own object, its own dict, the tuples -/
theorem ObjOk.stay (x : ObjOk P w H h a o) (k : ∀ b u, (b = a ∨ H b = some (.own a)) → h.get? b = some u → h'.get? b = some u)
    (ho : ∀ b, H b = some (.own a) → H' b = some (.own a)) (ht : ∀ b xs, H b = some (.tup xs) → H' b = some (.tup xs)) : ObjOk P w H' h' a o := by
  induction o with
  | lst xs => obtain ⟨z, its, n, r, e⟩ := x; exact ⟨z, its, n, r, k _ _ (.inl rfl) e⟩
  | tup xs => obtain ⟨z, its, r, ob, e, c⟩ := x; exact ⟨z, its, r, ob, k _ _ (.inl rfl) e, c⟩
  | dK kvs => obtain ⟨z, y, vs, r, ob, es, ep, e, c⟩ := x; exact ⟨z, y, vs, r, ob, es, ep, k _ _ (.inl rfl) e, c⟩
  | dT kvs =>
    obtain ⟨z, y, xs, r, ob, es, ep, e, c⟩ := x
    exact ⟨z, y, xs, Paired.mapP r fun p q z => ⟨z.1, ht _ _ z.2.1, z.2.2⟩, ob, es, ep, k _ _ (.inl rfl) e, c⟩
  | set S n => obtain ⟨ob, es, ep, t, e, c⟩ := x; exact ⟨ob, es, ep, t, k _ _ (.inl rfl) e, c⟩
  | ins C dx fs =>
    obtain ⟨d, z, ne, e, mA, ⟨od, es, ep, e2, c⟩, r⟩ := x
    exact ⟨ho _ d, z, ne, k _ _ (.inl rfl) e, mA, ⟨od, es, ep, k _ _ (.inr d) e2, c⟩, r⟩
  | own y => obtain ⟨ob, e⟩ := x; exact ⟨ob, k _ _ (.inl rfl) e⟩
  | xd fs => obtain ⟨mA, ⟨od, es, ep, e, c⟩, r⟩ := x; exact ⟨mA, ⟨od, es, ep, k _ _ (.inl rfl) e, c⟩, r⟩
  | rng lo hi => obtain ⟨t, u, v, e⟩ := x; exact ⟨t, u, v, k _ _ (.inl rfl) e⟩
  | frz ob u ih => obtain ⟨e, q⟩ := x; exact ⟨k _ _ (.inl rfl) e, ih q⟩
  | tbl ps =>
    have e : h.get? a = some { cls := .none, data := .fields ps } := x
    show h'.get? a = some { cls := .none, data := .fields ps }
    exact k a _ (.inl rfl) e
  | met f y =>
    have e : h.get? a = some (PySem.W.methodObj (.ref f) (.ref y)) := x
    show h'.get? a = some (PySem.W.methodObj (.ref f) (.ref y))
    exact k a _ (.inl rfl) e
  | ext φ => obtain ⟨p, ⟨o, e⟩, st⟩ := x; exact ⟨st _ _ p fun o q => k _ _ (.inl rfl) q, ⟨o, k _ _ (.inl rfl) e⟩, st⟩
theorem HOk.lt (x : HOk P w H h) (e : H a = some o) : a < h.objs.size := (x a o e).lt
theorem HOk.fresh (x : HOk P w H h) (e : h.objs.size ≤ a) : H a = none := by
  cases q : H a with
  | none => rfl
  | some u => exact absurd (Nat.lt_of_lt_of_le (x.lt q) e) (Nat.lt_irrefl _)
/-- every object of the heap is kept -/
theorem HOk.kept (x : HOk P w H h) (k : ∀ b u, h.get? b = some u → h'.get? b = some u) : HOk P w H h' := fun a o e =>
  (x a o e).stay (fun b u _ q => k b u q) (fun _ q => q) fun _ _ q => q
/-- a new object is laid and tracked -/
theorem HOk.laid (x : HOk P w H h) (k : ∀ b u, h.get? b = some u → h'.get? b = some u) (hp : h.objs.size ≤ a) (new : ObjOk P w (upd H a o) h' a o) : HOk P w (upd H a o) h' := fun b u e => by
  have hn := x.fresh hp
  by_cases hb : b = a
  · subst hb; rw [upd_same] at e; cases e; exact new
  · rw [upd_ne hb] at e
    exact (x b u e).stay (fun c v _ q => k c v q) (fun c q => by rw [upd_ne (ne_of_none q hn)]; exact q) fun c xs q => by rw [upd_ne (ne_of_none q hn)]; exact q
end

/-- what may be read as u: it is u, or a known u -/
def Rd (H : Hp) (a : Addr) (u : HO) : Prop := H a = some u ∨ ∃ o, H a = some (.frz o u)
theorem Rd.of {H : Hp} {a : Addr} {u : HO} (h : H a = some u) : Rd H a u := .inl h
theorem Rd.ok {P : Program} {w : World} {H : Hp} {h : Heap} {a : Addr} {u : HO} (r : Rd H a u) (x : HOk P w H h) : ObjOk P w H h a u := by
  rcases r with r | ⟨o, r⟩
  · exact x a u r
  · obtain ⟨_, q⟩ := x a _ r
    exact q
/-- what may be written -/
def Mut : Option HO → Prop
  | some (.lst _) => True
  | some (.dK _) => True
  | some (.dT _) => True
  | some (.set _ _) => True
  | some (.ins _ _ _) => True
  | some (.ext _) => True
  | _ => False
section
variable {P : Program} {w : World} {H : Hp} {h h' : Heap} {x e : Addr} {o' : HO}
/-- the object at e is changed: x itself, or the dict of the instance x -/
theorem HOk.write (ok : HOk P w H h) (mu : Mut (H x)) (he : e = x ∨ H e = some (.own x)) (k : ∀ b u, b ≠ e → h.get? b = some u → h'.get? b = some u) (heo : ∃ u, h'.get? e = some u)
    (new : ObjOk P w (upd H x o') h' x o') : HOk P w (upd H x o') h' := fun b u q => by
  have nown : ∀ c y, H c = some (.own y) → c ≠ x := fun c y r z => by subst z; rw [r] at mu; exact mu
  have ntup : ∀ c xs, H c = some (.tup xs) → c ≠ x := fun c xs r z => by subst z; rw [r] at mu; exact mu
  by_cases hb : b = x
  · subst hb; rw [upd_same] at q; cases q; exact new
  · rw [upd_ne hb] at q
    by_cases hbe : b = e
    · have q' : H b = some (.own x) := by
        rcases he with z | z
        · exact absurd (hbe.trans z) hb
        · rw [hbe]; exact z
      rw [q] at q'; cases q'
      obtain ⟨v, hv⟩ := heo
      exact ⟨v, by rw [hbe]; exact hv⟩
    · refine (ok b u q).stay (fun c v hc r => k c v ?_ r) (fun c r => by rw [upd_ne (nown c b r)]; exact r) fun c xs r => by rw [upd_ne (ntup c xs r)]; exact r
      rcases hc with rfl | hc
      · exact hbe
      · rintro rfl
        rcases he with z | z
        · exact nown c b hc z
        · rw [hc] at z; cases z; exact hb rfl
end

/-! ### kept unless tracked; of the frames at fs (the callers') the slots may change (an exception that passes writes there); of the records at ex (iterators) nothing is said -/
structure Un (fs ex : List Addr) (H H' : Hp) (h h' : Heap) : Prop where
  keep : ∀ b o, h.get? b = some o → H b = none → b ∉ fs → b ∉ ex → h'.get? b = some o
  slot : ∀ b o, h.get? b = some o → H b = none → b ∈ fs → b ∉ ex → ∃ sl, h'.get? b = some { o with slots := sl }
  free : ∀ b o, h.get? b = some o → H b = none → b ∉ ex → H' b = none
  there : ∀ b o, h.get? b = some o → b ∉ ex → ∃ o', h'.get? b = some o'
  tups : ∀ b xs, H b = some (.tup xs) → H' b = some (.tup xs)
  frzs : ∀ b o u, H b = some (.frz o u) → H' b = some (.frz o u)
  tbls : ∀ b ps, H b = some (.tbl ps) → ∃ more, H' b = some (.tbl (ps ++ more))
section
variable {fs fs' ex ex' : List Addr} {H H1 H2 : Hp} {h h1 h2 h' : Heap} {a x e : Addr} {o : HO}
theorem Un.any (u : Un fs ex H H1 h h1) {b : Addr} {ob : Obj} (q : h.get? b = some ob) (n : H b = none) (hx : b ∉ ex) : ∃ sl, h1.get? b = some { ob with slots := sl } := by
  by_cases hb : b ∈ fs
  · exact u.slot b ob q n hb hx
  · exact ⟨ob.slots, u.keep b ob q n hb hx⟩
theorem Un.trans (a : Un fs ex H H1 h h1) (b : Un fs ex H1 H2 h1 h2) : Un fs ex H H2 h h2 where
  keep := fun c ob q n hc hx => b.keep c ob (a.keep c ob q n hc hx) (a.free c ob q n hx) hc hx
  slot := fun c ob q n hc hx => by
    obtain ⟨sl, e1⟩ := a.slot c ob q n hc hx
    obtain ⟨sl', e2⟩ := b.slot c _ e1 (a.free c ob q n hx) hc hx
    exact ⟨sl', e2⟩
  free := fun c ob q n hx => by
    obtain ⟨o', e1⟩ := a.there c ob q hx
    exact b.free c o' e1 (a.free c ob q n hx) hx
  there := fun c ob q hx => by
    obtain ⟨o', e1⟩ := a.there c ob q hx
    exact b.there c o' e1 hx
  tups := fun c xs q => b.tups c xs (a.tups c xs q)
  frzs := fun c ob xs q => b.frzs c ob xs (a.frzs c ob xs q)
  tbls := fun c ps q => by
    obtain ⟨m1, e1⟩ := a.tbls c ps q
    obtain ⟨m2, e2⟩ := b.tbls c _ e1
    exact ⟨m1 ++ m2, by rw [e2, Array.append_assoc]⟩
theorem Un.kept (k : ∀ b u, h.get? b = some u → h'.get? b = some u) : Un fs ex H H h h' :=
  ⟨fun b ob q _ _ _ => k b ob q, fun b ob q _ _ _ => ⟨ob.slots, k b ob q⟩, fun _ _ _ n _ => n, fun b ob q _ => ⟨ob, k b ob q⟩, fun _ _ q => q, fun _ _ _ q => q, fun _ ps q => ⟨#[], by rw [q]; simp⟩⟩
theorem Un.refl : Un fs ex H H h h := Un.kept fun _ _ q => q
theorem Un.laid (k : ∀ b u, h.get? b = some u → h'.get? b = some u) (hp : h.objs.size ≤ a) (hn : H a = none) : Un fs ex H (upd H a o) h h' where
  keep := fun b u q _ _ _ => k b u q
  slot := fun b u q _ _ _ => ⟨u.slots, k b u q⟩
  free := fun b u q n _ => by rw [upd_ne (Nat.ne_of_lt (Nat.lt_of_lt_of_le (Heap.lt_size q) hp))]; exact n
  there := fun b u q _ => ⟨u, k b u q⟩
  tups := fun b xs q => by rw [upd_ne (ne_of_none q hn)]; exact q
  frzs := fun b u xs q => by rw [upd_ne (ne_of_none q hn)]; exact q
  tbls := fun b ps q => ⟨#[], by rw [upd_ne (ne_of_none q hn), q]; simp⟩
theorem Un.write (mu : Mut (H x)) (he : e = x ∨ H e = some (.own x)) (k : ∀ b u, b ≠ e → h.get? b = some u → h'.get? b = some u) (heo : ∃ u, h'.get? e = some u) : Un fs ex H (upd H x o) h h' := by
  have hx : ∀ b, H b = none → b ≠ x := fun b n z => by subst z; rw [n] at mu; exact mu
  have hb : ∀ b, H b = none → b ≠ e := fun b n z => by
    subst z
    rcases he with r | r
    · exact hx b n r
    · rw [n] at r; cases r
  have hm : ∀ b u, H b = some u → ¬ Mut (some u) → b ≠ x := fun b u q nm z => by subst z; rw [q] at mu; exact nm mu
  refine ⟨fun b u q n _ _ => k b u (hb b n) q, fun b u q n _ _ => ⟨u.slots, k b u (hb b n) q⟩, fun b u q n _ => by rw [upd_ne (hx b n)]; exact n, fun b u q _ => ?_,
    fun b xs q => by rw [upd_ne (hm b _ q fun z => z)]; exact q, fun b u xs q => by rw [upd_ne (hm b _ q fun z => z)]; exact q, fun b ps q => ⟨#[], by rw [upd_ne (hm b _ q fun z => z), q]; simp⟩⟩
  by_cases hbe : b = e
  · subst hbe; exact heo
  · exact ⟨u, k b u hbe q⟩
end

/-! ### the heap without what is tracked -/
def trk (h : Heap) (H : Hp) : List Addr := (List.range h.objs.size).filter fun a => (H a).isSome
def hidT (h : Heap) (H : Hp) : Heap := PySem.W.hideAll h (trk h H)
theorem hidT_size (h : Heap) (H : Hp) : (hidT h H).objs.size = h.objs.size := PySem.W.hideAll_size _ _
theorem hidT_get {h : Heap} {H : Hp} {b : Addr} {o : Obj} (e : h.get? b = some o) (n : H b = none) : (hidT h H).get? b = some o :=
  PySem.W.hideAll_get _ e fun hm => by
    have q : (H b).isSome = true := (List.mem_filter.mp hm).2
    rw [n] at q; simp at q
theorem of_hidT {h : Heap} {H : Hp} {b : Addr} {o : Obj} (e : (hidT h H).get? b = some o) : h.get? b = some o ∧ H b = none := by
  have e' : h.get? b = some o := PySem.W.of_hideAll (trk h H) e
  refine ⟨e', ?_⟩
  cases q : H b with
  | none => rfl
  | some x =>
    have hm : b ∈ trk h H := List.mem_filter.mpr ⟨List.mem_range.mpr (Heap.lt_size e'), by simp [q]⟩
    have z : (hidT h H).get? b = none := PySem.W.hideAll_none (trk h H) hm
    rw [z] at e; cases e

/-! ### OpenK's ledger, filled with every new object but one -/
def allNews (g h : Heap) (L : Addr) : List (Addr × Obj) := (List.range h.objs.size).filterMap fun a => if a = L ∨ (g.get? a).isSome = true then none else (h.get? a).map fun o => (a, o)
def rest (g h : Heap) (L d : Addr) : List (Addr × Obj) := (allNews g h L).filter fun p => decide (p.1 ≠ d)
end L2

namespace L2
open PySem PySem.Spec PyProof.Rows

/-- the module's facts, over the base: the heap at the law's entry without what is tracked there -/
structure Mod (K : PySem.W.Frag) (mg : Str → Option Value) (base : Heap) : Prop where
  kin : K.In base
  glob : base.Ns mainGlobals mg
  blt : ∃ mb, base.Ns builtinsNs mb ∧ ∀ x : Str, x ≠ "__name__" → mb x = bootBuiltins x
  nolimit : base.NoLimit

/-- the context: a def's body (or a comprehension's block) running. base: fixed through the whole law; s₀, H₀: the entry; outer: the frames whose slots others may change (a def's callers); stack: all frames that run;
   ex: iterators that were made ahead of the entry and are walked here (a comprehension's); fn: the names whose cells were made at the entry (a def: all; a comprehension's block: its own); calm: not within an except suite; pn: pins that every state bears; xe: what is wanted of an exception that leaves the code -/
structure Cx where
  prog : Program
  w : World
  K : PySem.W.Frag
  mg : Str → Option Value
  base : Heap
  A : Around
  N : List Str
  s₀ : Shared
  H₀ : Hp
  env : Env
  outer : List Env
  stack : List Env
  ex : List Addr
  fn : Str → Bool
  calm : Bool
  pn : List (Addr × Obj)
  xe : Value → Shared → Prop
/-- the callers' frames -/
def frs (l : List Env) : List Addr := l.filterMap (·.frame)
abbrev Cx.fs (X : Cx) : List Addr := frs X.outer

def Vis (sc : Scope) (x : Str) : Prop := sc.names.lookup x = some .local ∨ sc.names.lookup x = some .cell ∨ sc.names.lookup x = some .free
def Loc (sc : Scope) (x : Str) : Prop := sc.names.lookup x = some .local ∨ sc.names.lookup x = some .cell
def Look (env : Env) (h : Heap) (m : Str → Option Value) (x : Str) (u : Value) : Prop :=
  (env.kindOf x = some .local ∧ m x = some u) ∨ ((env.kindOf x = some .cell ∨ env.kindOf x = some .free) ∧ ∃ c, env.cells.lookup x = some c ∧ h.IsCell c (some u))

structure Cx.Ok (X : Cx) : Prop where
  mod : Mod X.K X.mg X.base
  kind : X.env.scope.kind = .function
  glob : X.env.globals = mainGlobals
  blt : X.env.builtins = builtinsNs
  above : X.s₀.heap.objs.size ≤ X.env.locals
  inj : ∀ x y c, X.env.cells.lookup x = some c → X.env.cells.lookup y = some c → x = y
  has : ∀ x, (X.env.kindOf x = some .cell ∨ X.env.kindOf x = some .free) → ∃ c, X.env.cells.lookup x = some c
  cab : ∀ x c, X.fn x = true → X.env.cells.lookup x = some c → X.s₀.heap.objs.size ≤ c
  hd : X.calm = true → X.A.handled = none
  frames : X.A.frames = some X.stack
  stk : X.stack = X.outer ∨ (X.stack = X.env :: X.outer ∧ X.env.frame = some X.env.locals)
  exf : ∀ b ∈ X.ex, b ≠ X.env.locals ∧ ∀ x c, X.env.cells.lookup x = some c → c ≠ b
  bs : ∀ b o, X.base.get? b = some o → X.s₀.heap.get? b = some o ∧ X.H₀ b = none
  bsz : X.base.objs.size ≤ X.s₀.heap.objs.size
  noex : ∀ b o, X.base.get? b = some o → b ∉ X.ex
  exfs : ∀ b ∈ X.ex, b ∉ X.fs
  funs : X.s₀.heap.FunFrames X.base X.outer
  frf : ∀ b ∈ X.fs, X.H₀ b = none

structure Inv (X : Cx) (pins : List (Addr × Obj)) (σ : List (Option V)) (H : Hp) (s : Shared) : Prop where
  ok : X.Ok
  os : s.os = X.s₀.os
  bare : AllBare s.gens
  base : Un X.fs X.ex X.H₀ H X.s₀.heap s.heap
  loc : ∃ m, s.heap.Ns X.env.locals m ∧ ∀ (i : Nat) (x : Str) (v : V), X.N[i]? = some x → σ[i]? = some (some v) → Vis X.env.scope x → ∃ u, RelV v u ∧ Look X.env s.heap m x u
  cell : ∀ x c, X.env.cells.lookup x = some c → ∃ v, s.heap.IsCell c v
  free : H X.env.locals = none
  freeC : ∀ x c, X.env.cells.lookup x = some c → H c = none
  pin : ∀ p ∈ X.pn ++ pins, s.heap.get? p.1 = some p.2 ∧ H p.1 = none ∧ p.1 ≠ X.env.locals ∧ p.1 ∉ X.fs ∧ ∀ v, p.2.data ≠ .cell v
  hok : HOk X.prog X.w H s.heap
  len : σ.length = X.N.length

section
variable {X : Cx} {pins : List (Addr × Obj)} {σ : List (Option V)} {H H' : Hp} {s : Shared} {h' : Heap}

theorem Cx.Ok.nofr (ok : X.Ok) {b : Addr} {o : Obj} (e : X.base.get? b = some o) : b ∉ X.fs := fun hb => by
  have := (ok.funs.mem hb).1
  rw [e] at this; cases this
theorem Inv.bs (I : Inv X pins σ H s) : ∀ b o, X.base.get? b = some o → s.heap.get? b = some o ∧ H b = none := fun b o e =>
  ⟨I.base.keep b o (I.ok.bs b o e).1 (I.ok.bs b o e).2 (I.ok.nofr e) (I.ok.noex b o e), I.base.free b o (I.ok.bs b o e).1 (I.ok.bs b o e).2 (I.ok.noex b o e)⟩
theorem Inv.bk (I : Inv X pins σ H s) : ∀ b o, X.base.get? b = some o → s.heap.get? b = some o := fun b o e => (I.bs b o e).1
theorem Inv.mod (I : Inv X pins σ H s) : Mod X.K X.mg X.base := I.ok.mod
theorem Inv.kIn (I : Inv X pins σ H s) : X.K.In s.heap := I.ok.mod.kin.keeps I.bk
theorem Inv.lt (I : Inv X pins σ H s) : X.env.locals < s.heap.objs.size := let ⟨_, hn, _⟩ := I.loc; hn.lt
theorem Inv.sz (I : Inv X pins σ H s) : X.s₀.heap.objs.size ≤ s.heap.objs.size := Nat.le_trans I.ok.above (Nat.le_of_lt I.lt)
theorem Inv.nofs (I : Inv X pins σ H s) {a : Addr} (h : s.heap.objs.size ≤ a) : a ∉ X.fs := fun hb => by
  obtain ⟨_, o, ho, _⟩ := I.ok.funs.mem hb
  exact absurd (Nat.lt_of_lt_of_le (Heap.lt_size ho) (Nat.le_trans I.sz h)) (Nat.lt_irrefl _)
theorem Inv.cne (I : Inv X pins σ H s) : ∀ x c, X.env.cells.lookup x = some c → c ≠ X.env.locals := fun x c e z => by
  obtain ⟨v, o, ho, hd⟩ := I.cell x c e
  obtain ⟨m, ⟨o', es, ep, ho', hd', _⟩, _⟩ := I.loc
  rw [z, ho'] at ho; cases ho; rw [hd'] at hd; cases hd
theorem Inv.funs (I : Inv X pins σ H s) : s.heap.FunFrames X.base X.outer := by
  have all : ∀ (l : List Env), (∀ b ∈ frs l, b ∈ X.fs) → X.s₀.heap.FunFrames X.base l → s.heap.FunFrames X.base l := by
    intro l
    induction l with
    | nil => intro _ _; trivial
    | cons env r ih =>
      intro hs hl
      obtain ⟨hk, ⟨L, o, hf, hn, ho, hd⟩, hr⟩ := hl
      have hL : L ∈ X.fs := hs L (by unfold frs; rw [List.filterMap_cons, hf]; exact List.mem_cons_self)
      obtain ⟨sl, e⟩ := I.base.slot L o ho (I.ok.frf L hL) hL fun z => I.ok.exfs L z hL
      exact ⟨hk, ⟨L, _, hf, hn, e, hd⟩, ih (fun b hb => hs b (by unfold frs; rw [List.filterMap_cons, hf]; exact List.mem_cons_of_mem _ hb)) hr⟩
  exact all X.outer (fun _ hb => hb) I.ok.funs

/-- the frames that run, for a call -/
theorem Inv.stack (I : Inv X pins σ H s) : s.heap.FunFrames X.base X.stack := by
  rcases I.ok.stk with e | ⟨e, hf⟩
  · rw [e]; exact I.funs
  · rw [e]
    obtain ⟨m, hn, _⟩ := I.loc
    refine .cons (by rw [I.ok.kind]; decide) hf hn ?_ I.funs
    exact Heap.get?_none_of_le (Nat.le_trans I.ok.bsz I.ok.above)
theorem Inv.stkSub (I : Inv X pins σ H s) : ∀ b ∈ frs X.stack, b ∈ X.env.locals :: X.fs := fun b hb => by
  rcases I.ok.stk with e | ⟨e, hf⟩
  · rw [e] at hb; exact List.mem_cons_of_mem _ hb
  · rw [e] at hb
    unfold frs at hb
    rw [List.filterMap_cons, hf] at hb
    exact hb
theorem Inv.stkFree (I : Inv X pins σ H s) : ∀ b ∈ frs X.stack, H b = none := fun b hb => by
  rcases List.mem_cons.mp (I.stkSub b hb) with e | hb
  · rw [e]; exact I.free
  · obtain ⟨_, o, ho, _⟩ := I.ok.funs.mem hb
    exact I.base.free b o ho (I.ok.frf b hb) fun z => I.ok.exfs b z hb

/-- THE STEP: the untracked objects but the frame and the records at ch are kept (the callers' frames up to slots), the frame's map is kept, the new abstract heap is held -/
theorem Inv.step {g' : Array GenState} {t' : Nat} {d' : Drawn} {ch : List Addr} (I : Inv X pins σ H s)
    (hch : ∀ b ∈ ch, (b ∈ X.ex ∨ X.s₀.heap.objs.size ≤ b) ∧ b ≠ X.env.locals ∧ (∀ x c, X.env.cells.lookup x = some c → c ≠ b) ∧ ∀ p ∈ X.pn ++ pins, p.1 ≠ b)
    (keep : ∀ b o, b ≠ X.env.locals → b ∉ X.fs → b ∉ ch → s.heap.get? b = some o → H b = none → h'.get? b = some o)
    (slot : ∀ b o, b ≠ X.env.locals → b ∈ X.fs → b ∉ ch → s.heap.get? b = some o → H b = none → ∃ sl, h'.get? b = some { o with slots := sl }) (free : ∀ b o, b ∉ ch → s.heap.get? b = some o → H b = none → H' b = none)
    (there : ∀ b o, b ∉ ch → s.heap.get? b = some o → ∃ o', h'.get? b = some o')
    (tups : ∀ b xs, H b = some (.tup xs) → H' b = some (.tup xs)) (frzs : ∀ b o u, H b = some (.frz o u) → H' b = some (.frz o u)) (tbls : ∀ b ps, H b = some (.tbl ps) → ∃ more, H' b = some (.tbl (ps ++ more)))
    (ns : ∀ m, s.heap.Ns X.env.locals m → h'.Ns X.env.locals m) (hok : HOk X.prog X.w H' h') (hg : AllBare g') :
    Inv X pins σ H' { s with heap := h', gens := g', drawn := d', toks := t' } := by
  have neL : ∀ b o, X.s₀.heap.get? b = some o → b ≠ X.env.locals := fun b o e => Nat.ne_of_lt (Nat.lt_of_lt_of_le (Heap.lt_size e) I.ok.above)
  have neC : ∀ b o, X.s₀.heap.get? b = some o → b ∉ X.ex → b ∉ ch := fun b o e hx hb => by
    rcases (hch b hb).1 with z | z
    · exact hx z
    · exact absurd (Nat.lt_of_lt_of_le (Heap.lt_size e) z) (Nat.lt_irrefl _)
  have cellK : ∀ x c, X.env.cells.lookup x = some c → ∀ v, s.heap.IsCell c v → h'.IsCell c v := fun x c e v ⟨o, ho, hd⟩ => by
    have nch : c ∉ ch := fun z => (hch c z).2.2.1 x c e rfl
    by_cases hc : c ∈ X.fs
    · obtain ⟨sl, q⟩ := slot c o (I.cne x c e) hc nch ho (I.freeC x c e)
      exact ⟨_, q, hd⟩
    · exact ⟨o, keep c o (I.cne x c e) hc nch ho (I.freeC x c e), hd⟩
  refine ⟨I.ok, I.os, hg, ⟨fun b o e n hb hx => ?_, fun b o e n hb hx => ?_, fun b o e n hx => ?_, fun b o e hx => ?_, fun b xs e => tups b xs (I.base.tups b xs e), fun b o xs e => frzs b o xs (I.base.frzs b o xs e), fun b ps e => ?_⟩, ?_, fun x c e => ?_, ?_, fun x c e => ?_, fun p hp => ?_, hok, I.len⟩
  · exact keep b o (neL b o e) hb (neC b o e hx) (I.base.keep b o e n hb hx) (I.base.free b o e n hx)
  · obtain ⟨sl, e1⟩ := I.base.slot b o e n hb hx
    obtain ⟨sl', e2⟩ := slot b _ (neL b o e) hb (neC b o e hx) e1 (I.base.free b o e n hx)
    exact ⟨sl', e2⟩
  · obtain ⟨o', e1⟩ := I.base.there b o e hx
    exact free b o' (neC b o e hx) e1 (I.base.free b o e n hx)
  · obtain ⟨o', e1⟩ := I.base.there b o e hx
    exact there b o' (neC b o e hx) e1
  · obtain ⟨m1, e1⟩ := I.base.tbls b ps e
    obtain ⟨m2, e2⟩ := tbls b _ e1
    exact ⟨m1 ++ m2, by rw [e2, Array.append_assoc]⟩
  · obtain ⟨m, hn, hl⟩ := I.loc
    refine ⟨m, ns m hn, fun i x v e1 e2 e3 => ?_⟩
    obtain ⟨u, r, l⟩ := hl i x v e1 e2 e3
    refine ⟨u, r, ?_⟩
    rcases l with l | ⟨k, c, e, z⟩
    · exact .inl l
    · exact .inr ⟨k, c, e, cellK x c e _ z⟩
  · obtain ⟨v, z⟩ := I.cell x c e
    exact ⟨v, cellK x c e v z⟩
  · obtain ⟨m, ⟨o, _, _, ho, _⟩, _⟩ := I.loc
    exact free _ o (fun z => (hch _ z).2.1 rfl) ho I.free
  · obtain ⟨v, o, ho, hd⟩ := I.cell x c e
    exact free c o (fun z => (hch c z).2.2.1 x c e rfl) ho (I.freeC x c e)
  · obtain ⟨e, n, ne, nf, d⟩ := I.pin p hp
    have nch : p.1 ∉ ch := fun z => (hch p.1 z).2.2.2 p hp rfl
    exact ⟨keep p.1 p.2 ne nf nch e n, free p.1 p.2 nch e n, ne, nf, d⟩
/-- .. where the frame's own object is kept too -/
theorem Inv.un {t' : Nat} (I : Inv X pins σ H s) (u : Un X.fs [] H H' s.heap h') (hok : HOk X.prog X.w H' h') : Inv X pins σ H' { s with heap := h', toks := t' } := by
  obtain ⟨m, ⟨o, es, ep, ho, r⟩, _⟩ := id I.loc
  obtain ⟨sl, hL⟩ := u.any ho I.free (by simp)
  exact I.step (g' := s.gens) (d' := s.drawn) (ch := []) (fun _ z => nomatch z) (fun b o _ hb _ e n => u.keep b o e n hb (by simp)) (fun b o _ hb _ e n => u.slot b o e n hb (by simp)) (fun b o _ e n => u.free b o e n (by simp)) (fun b o _ e => u.there b o e (by simp)) u.tups u.frzs u.tbls (fun m' hm => by
    obtain ⟨o', es', ep', ho', r'⟩ := hm
    rw [ho] at ho'; cases ho'
    exact ⟨_, es', ep', hL, r'⟩) hok I.bare
/-- behind a call (or a comprehension's block): the slots of this frame may have changed too, the records at ch may have turned -/
theorem Inv.call {g' : Array GenState} {t' : Nat} {d' : Drawn} {ch : List Addr} (I : Inv X pins σ H s) (u : Un (frs X.stack) ch H H' s.heap h') (hok : HOk X.prog X.w H' h') (hg : AllBare g')
    (hch : ∀ b ∈ ch, (b ∈ X.ex ∨ X.s₀.heap.objs.size ≤ b) ∧ b ≠ X.env.locals ∧ (∀ x c, X.env.cells.lookup x = some c → c ≠ b) ∧ ∀ p ∈ X.pn ++ pins, p.1 ≠ b) :
    Inv X pins σ H' { s with heap := h', gens := g', drawn := d', toks := t' } := by
  obtain ⟨m, ⟨o, es, ep, ho, r⟩, _⟩ := id I.loc
  obtain ⟨sl, hL⟩ := u.any ho I.free fun z => (hch _ z).2.1 rfl
  exact I.step (ch := ch) hch (fun b o hL hb hc e n => u.keep b o e n (fun z => (List.mem_cons.mp (I.stkSub b z)).elim hL hb) hc) (fun b o _ _ hc e n => u.any e n hc) (fun b o hc e n => u.free b o e n hc) (fun b o hc e => u.there b o e hc) u.tups u.frzs u.tbls (fun m' hm => by
    obtain ⟨o', es', ep', ho', r'⟩ := hm
    rw [ho] at ho'; cases ho'
    exact ⟨_, es', ep', hL, r'⟩) hok hg
/-- an untracked record of ours (an iterator) has turned -/
theorem Inv.turned {t' : Nat} {it : Addr} (I : Inv X pins σ H s) (k : ∀ b o, b ≠ it → s.heap.get? b = some o → h'.get? b = some o) (hn : H it = none) (hL : it ≠ X.env.locals)
    (h1 : it ∈ X.ex ∨ X.s₀.heap.objs.size ≤ it) (h2 : ∀ x c, X.env.cells.lookup x = some c → c ≠ it) (h3 : ∀ p ∈ X.pn ++ pins, p.1 ≠ it) : Inv X pins σ H { s with heap := h', toks := t' } := by
  have nit : ∀ b u, H b = some u → b ≠ it := fun b u e z => by rw [z, hn] at e; cases e
  refine I.step (g' := s.gens) (d' := s.drawn) (ch := [it]) (fun b hb => ?_) (fun b o _ _ hc e _ => k b o (fun z => hc (by simp [z])) e) (fun b o _ _ hc e _ => ⟨o.slots, k b o (fun z => hc (by simp [z])) e⟩) (fun _ _ _ _ n => n)
    (fun b o hc e => ⟨o, k b o (fun z => hc (by simp [z])) e⟩) (fun _ _ e => e) (fun _ _ _ e => e) (fun b ps e => ⟨#[], by rw [e]; simp⟩) (fun m hm => ?_) (fun b u e => ?_) I.bare
  · have e : b = it := by simpa using hb
    subst e
    exact ⟨h1, hL, h2, h3⟩
  · obtain ⟨o, es, ep, ho, r⟩ := hm
    exact ⟨o, es, ep, k _ o (Ne.symm hL) ho, r⟩
  · refine (I.hok b u e).stay (fun c v hc q => k c v ?_ q) (fun _ q => q) fun _ _ q => q
    rcases hc with z | z
    · rw [z]; exact nit b u e
    · exact nit c _ z
theorem Inv.tok (I : Inv X pins σ H s) (t : Nat) : Inv X pins σ H { s with toks := t } := I.un (h' := s.heap) (t' := t) Un.refl I.hok
/-- all objects kept -/
theorem Inv.kept {t' : Nat} (I : Inv X pins σ H s) (k : ∀ b u, s.heap.get? b = some u → h'.get? b = some u) : Inv X pins σ H { s with heap := h', toks := t' } := I.un (Un.kept k) (I.hok.kept k)
/-- a new object laid and tracked -/
theorem Inv.laid {a : Addr} {o : HO} {t' : Nat} (I : Inv X pins σ H s) (k : ∀ b u, s.heap.get? b = some u → h'.get? b = some u) (hp : s.heap.objs.size ≤ a) (new : ObjOk X.prog X.w (upd H a o) h' a o) :
    Inv X pins σ (upd H a o) { s with heap := h', toks := t' } := I.un (Un.laid k hp (I.hok.fresh hp)) (I.hok.laid k hp new)
/-- an object written -/
theorem Inv.write {x e : Addr} {o : HO} {t' : Nat} (I : Inv X pins σ H s) (mu : Mut (H x)) (he : e = x ∨ H e = some (.own x)) (k : ∀ b u, b ≠ e → s.heap.get? b = some u → h'.get? b = some u) (heo : ∃ u, h'.get? e = some u)
    (new : ObjOk X.prog X.w (upd H x o) h' x o) : Inv X pins σ (upd H x o) { s with heap := h', toks := t' } := I.un (Un.write mu he k heo) (I.hok.write mu he k heo new)
theorem Inv.pins_of {pins' : List (Addr × Obj)} (I : Inv X pins σ H s) (h : ∀ p ∈ pins', s.heap.get? p.1 = some p.2 ∧ H p.1 = none ∧ p.1 ≠ X.env.locals ∧ p.1 ∉ X.fs ∧ ∀ v, p.2.data ≠ .cell v) : Inv X pins' σ H s :=
  ⟨I.ok, I.os, I.bare, I.base, I.loc, I.cell, I.free, I.freeC, fun p hp => (List.mem_append.mp hp).elim (fun z => I.pin p (List.mem_append_left _ z)) (h p), I.hok, I.len⟩

theorem nodup_ix {N : List Str} (hN : N.Nodup) {i j : Nat} {x : Str} (a : N[i]? = some x) (b : N[j]? = some x) : i = j := by
  obtain ⟨h1, e1⟩ := List.getElem?_eq_some_iff.mp a
  obtain ⟨h2, e2⟩ := List.getElem?_eq_some_iff.mp b
  exact (List.getElem_inj hN).mp (e1.trans e2.symm)

/-- a name is stored; what changed -/
theorem store_ok2 {M : Model} {A : Around} {E : Value → Shared → Prop} {i : Nat} {x : Str} {v : V} {u : Value} {Q : Unit → Shared → Prop} (I : Inv X pins σ H s) (hN : X.N.Nodup) (hi : X.N[i]? = some x) (hx : Loc X.env.scope x) (r : RelV v u)
    (h : ∀ s', Inv X pins (σ.set i (some v)) H s' → (∃ a, Heap.SameBut a s.heap s'.heap ∧ (a = X.env.locals ∨ X.env.cells.lookup x = some a)) → Q () s') (hf : X.fn x = true ∨ X.env.scope.names.lookup x = some .local := by first | exact .inl rfl | exact .inr rfl | assumption) : wpAny M A (storeName X.env x u) Q E s := by
  obtain ⟨m, hn, hl⟩ := id I.loc
  have hcls : (X.env.scope.kind == .class || (X.env.scope.kind == .module && X.env.locals != X.env.globals)) = false := by rw [I.ok.kind]; rfl
  have hiσ : i < σ.length := by rw [I.len]; exact (List.getElem?_eq_some_iff.mp hi).1
  have cne := I.cne
  have tracked : ∀ {a : Addr} {h' : Heap}, (∃ o, s.heap.get? a = some o ∧ H a = none) → Heap.SameBut a s.heap h' → HOk X.prog X.w H h' := fun {a h'} ha hs b ob e => by
    obtain ⟨_, _, hfree⟩ := ha
    refine (I.hok b ob e).stay (fun c w' hc q => (hs.2 c ?_).trans q) (fun _ q => q) fun _ _ q => q
    rintro rfl
    rcases hc with rfl | hc
    · rw [hfree] at e; cases e
    · rw [hfree] at hc; cases hc
  rcases hx with hk | hk
  · refine wpAny_storeName_local hk hn (fun h' hn' hs => ?_) hcls
    obtain ⟨oL, _, _, hoL, _⟩ := id hn
    refine h _ ⟨I.ok, I.os, I.bare, ⟨fun b o e n hb hx => ?_, fun b o e n hb hx => ?_, I.base.free, fun b o e hx => ?_, I.base.tups, I.base.frzs, I.base.tbls⟩, ⟨_, hn', fun j y v' e1 e2 e3 => ?_⟩, fun y c e => ?_, I.free, I.freeC, fun p hp => ?_, tracked ⟨oL, hoL, I.free⟩ hs, by simpa using I.len⟩ ⟨_, hs, .inl rfl⟩
    · exact (hs.2 b (Nat.ne_of_lt (Nat.lt_of_lt_of_le (Heap.lt_size e) I.ok.above))).trans (I.base.keep b o e n hb hx)
    · obtain ⟨sl, e1⟩ := I.base.slot b o e n hb hx
      exact ⟨sl, (hs.2 b (Nat.ne_of_lt (Nat.lt_of_lt_of_le (Heap.lt_size e) I.ok.above))).trans e1⟩
    · obtain ⟨o', e1⟩ := I.base.there b o e hx
      exact ⟨o', (hs.2 b (Nat.ne_of_lt (Nat.lt_of_lt_of_le (Heap.lt_size e) I.ok.above))).trans e1⟩
    · by_cases hj : j = i
      · subst hj
        rw [hi] at e1; cases e1
        rw [List.getElem?_set_self hiσ] at e2
        cases e2
        exact ⟨u, r, .inl ⟨hk, by simp⟩⟩
      · rw [List.getElem?_set_ne (Ne.symm hj)] at e2
        obtain ⟨u', r', q⟩ := hl j y v' e1 e2 e3
        refine ⟨u', r', ?_⟩
        rcases q with ⟨k, e⟩ | ⟨k, c, e, z⟩
        · refine .inl ⟨k, ?_⟩
          have : y ≠ x := fun e => hj (nodup_ix hN e1 (e ▸ hi))
          simp [this, e]
        · exact .inr ⟨k, c, e, z.sameBut hs (cne y c e)⟩
    · obtain ⟨w', z⟩ := I.cell y c e
      exact ⟨w', z.sameBut hs (cne y c e)⟩
    · obtain ⟨e, n, ne, nf, d⟩ := I.pin p hp
      exact ⟨(hs.2 p.1 ne).trans e, n, ne, nf, d⟩
  · have hfn : X.fn x = true := by
      rcases hf with z | z
      · exact z
      · rw [z] at hk; cases hk
    obtain ⟨c, hc⟩ := I.ok.has x (.inl hk)
    obtain ⟨w', z⟩ := I.cell x c hc
    refine wpAny_storeName_cell I.ok.kind hk hc z (fun h' hc' hs => ?_)
    obtain ⟨oc, hoc, hocd⟩ := id z
    refine h { s with heap := h' } ⟨I.ok, I.os, I.bare, ⟨fun b o e n hb hx => ?_, fun b o e n hb hx => ?_, I.base.free, fun b o e hx => ?_, I.base.tups, I.base.frzs, I.base.tbls⟩, ⟨m, hn.sameBut hs (Ne.symm (cne x c hc)), fun j y v' e1 e2 e3 => ?_⟩, fun y c' e => ?_, I.free, I.freeC, fun p hp => ?_, tracked ⟨oc, hoc, I.freeC x c hc⟩ hs, by simpa using I.len⟩ ⟨c, hs, .inr hc⟩
    · exact (hs.2 b (Nat.ne_of_lt (Nat.lt_of_lt_of_le (Heap.lt_size e) (I.ok.cab x c hfn hc)))).trans (I.base.keep b o e n hb hx)
    · obtain ⟨sl, e1⟩ := I.base.slot b o e n hb hx
      exact ⟨sl, (hs.2 b (Nat.ne_of_lt (Nat.lt_of_lt_of_le (Heap.lt_size e) (I.ok.cab x c hfn hc)))).trans e1⟩
    · obtain ⟨o', e1⟩ := I.base.there b o e hx
      exact ⟨o', (hs.2 b (Nat.ne_of_lt (Nat.lt_of_lt_of_le (Heap.lt_size e) (I.ok.cab x c hfn hc)))).trans e1⟩
    · by_cases hj : j = i
      · subst hj
        rw [hi] at e1; cases e1
        rw [List.getElem?_set_self hiσ] at e2
        cases e2
        exact ⟨u, r, .inr ⟨.inl hk, c, hc, hc'⟩⟩
      · rw [List.getElem?_set_ne (Ne.symm hj)] at e2
        obtain ⟨u', r', q⟩ := hl j y v' e1 e2 e3
        refine ⟨u', r', ?_⟩
        rcases q with q | ⟨k, c', e, z'⟩
        · exact .inl q
        · refine .inr ⟨k, c', e, z'.sameBut hs ?_⟩
          rintro rfl
          exact hj (nodup_ix hN e1 (I.ok.inj _ _ _ e hc ▸ hi))
    · by_cases hcc : c' = c
      · subst hcc; exact ⟨_, hc'⟩
      · obtain ⟨w2, z2⟩ := I.cell y c' e
        exact ⟨w2, z2.sameBut hs hcc⟩
    · obtain ⟨e, n, ne, nf, d⟩ := I.pin p hp
      refine ⟨(hs.2 p.1 ?_).trans e, n, ne, nf, d⟩
      intro q
      rw [q, hoc] at e
      have q' : oc = p.2 := Option.some.inj e
      exact d w' (by rw [← q']; exact hocd)
theorem store_ok {M : Model} {A : Around} {E : Value → Shared → Prop} {i : Nat} {x : Str} {v : V} {u : Value} {Q : Unit → Shared → Prop} (I : Inv X pins σ H s) (hN : X.N.Nodup) (hi : X.N[i]? = some x) (hx : Loc X.env.scope x) (r : RelV v u)
    (h : ∀ s', Inv X pins (σ.set i (some v)) H s' → Q () s') (hf : X.fn x = true ∨ X.env.scope.names.lookup x = some .local := by first | exact .inl rfl | exact .inr rfl | assumption) : wpAny M A (storeName X.env x u) Q E s :=
  store_ok2 I hN hi hx r (fun s' I' _ => h s' I') hf
/-- behind a call or a block, the state as it is -/
theorem Inv.call' {s' : Shared} {ch : List Addr} (I : Inv X pins σ H s) (ho : s'.os = s.os) (u : Un (frs X.stack) ch H H' s.heap s'.heap) (hok : HOk X.prog X.w H' s'.heap) (hg : AllBare s'.gens)
    (hch : ∀ b ∈ ch, (b ∈ X.ex ∨ X.s₀.heap.objs.size ≤ b) ∧ b ≠ X.env.locals ∧ (∀ x c, X.env.cells.lookup x = some c → c ≠ b) ∧ ∀ p ∈ X.pn ++ pins, p.1 ≠ b) : Inv X pins σ H' s' := by
  obtain ⟨h', g', d', t', o'⟩ := s'
  have e : o' = s.os := ho
  subst e
  exact I.call (g' := g') (t' := t') (d' := d') u hok hg hch
end

/-! ### the judgements -/
/-- an exception: its class, its own dict's address (where it has one), the abstract heap behind it -/
abbrev XK := Value → Option Addr → Hp → Prop
abbrev St := List (Option V)
abbrev VK := V → Hp → Prop
/-- an expression's reading; a test's; an argument list's -/
abbrev TE := St → Hp → VK → Prop
abbrev TT := St → Hp → (Bool → Hp → Prop) → Prop
abbrev TA := St → Hp → (List V → Hp → Prop) → Prop
/-- what is wanted behind a statement -/
structure Ends where
  nx : St → Hp → Prop
  rt : VK
  bk : St → Hp → Prop := fun _ _ => False
  ct : St → Hp → Prop := fun _ _ => False
abbrev TS := Ends → St → Hp → Prop

def EP (X : Cx) (pins : List (Addr × Obj)) (σ : St) (Q : VK) (u : Value) (s' : Shared) : Prop := ∃ v H', Inv X pins σ H' s' ∧ RelV v u ∧ Q v H'
def TP (X : Cx) (pins : List (Addr × Obj)) (σ : St) (Q : Bool → Hp → Prop) (b : Bool) (s' : Shared) : Prop := ∃ H', Inv X pins σ H' s' ∧ Q b H'
def AP (X : Cx) (pins : List (Addr × Obj)) (σ : St) (Q : List V → Hp → Prop) (us : List Value) (s' : Shared) : Prop := ∃ vs H', Inv X pins σ H' s' ∧ Vals vs us ∧ Q vs H'
def SP (X : Cx) (pins : List (Addr × Obj)) (D : Ends) (f : Flow) (s' : Shared) : Prop :=
  match f with
  | .next => ∃ σ' H', Inv X pins σ' H' s' ∧ D.nx σ' H'
  | .brk => ∃ σ' H', Inv X pins σ' H' s' ∧ D.bk σ' H'
  | .cont => ∃ σ' H', Inv X pins σ' H' s' ∧ D.ct σ' H'
  | .ret u => ∃ v σ' H', Inv X pins σ' H' s' ∧ RelV v u ∧ D.rt v H'

def PE (X : Cx) (e : Expr) (t : TE) : Prop :=
  ∀ (pins : List (Addr × Obj)) (s : Shared) (σ : St) (H : Hp) (Q : VK), Inv X pins σ H s → t σ H Q → wpAny (model X.prog X.w) X.A (eval e X.env) (EP X pins σ Q) X.xe s
def PT (X : Cx) (e : Expr) (t : TT) : Prop :=
  ∀ (pins : List (Addr × Obj)) (s : Shared) (σ : St) (H : Hp) (Q : Bool → Hp → Prop), Inv X pins σ H s → t σ H Q → wpAny (model X.prog X.w) X.A (isTrue e X.env (eval e X.env)) (TP X pins σ Q) X.xe s
/-- a test whatever its 'whole' is (and, or) -/
def PW (X : Cx) (e : Expr) (t : TT) : Prop :=
  ∀ (whole : Sem Value) (pins : List (Addr × Obj)) (s : Shared) (σ : St) (H : Hp) (Q : Bool → Hp → Prop), Inv X pins σ H s → t σ H Q → wpAny (model X.prog X.w) X.A (isTrue e X.env whole) (TP X pins σ Q) X.xe s
theorem PW.pt {X : Cx} {e : Expr} {t : TT} (h : PW X e t) : PT X e t := h _
/-- an argument list (no star), from the left -/
def PA (X : Cx) (es : List Expr) (t : TA) : Prop :=
  ∀ (pos : Pos) (pins : List (Addr × Obj)) (s : Shared) (σ : St) (H : Hp) (Q : List V → Hp → Prop), Inv X pins σ H s → t σ H Q → wpAny (model X.prog X.w) X.A (spliced (backTo pos (starEach es X.env))) (AP X pins σ Q) X.xe s
def PS (X : Cx) (st : Stmt) (t : TS) : Prop :=
  ∀ (pins : List (Addr × Obj)) (s : Shared) (σ : St) (H : Hp) (D : Ends), Inv X pins σ H s → t D σ H → wpAny (model X.prog X.w) X.A (exec st X.env) (SP X pins D) X.xe s
def PSs (X : Cx) (st : List Stmt) (t : TS) : Prop :=
  ∀ (pins : List (Addr × Obj)) (s : Shared) (σ : St) (H : Hp) (D : Ends), Inv X pins σ H s → t D σ H → wpAny (model X.prog X.w) X.A (execs st X.env) (SP X pins D) X.xe s
/-- weaken the end -/
theorem thn {α : Type} {t : Sem α} {Q Q' : α → Shared → Prop} {M : Model} {A : Around} {E : Value → Shared → Prop} {s : Shared} (h : wpAny M A t Q E s) (hQ : ∀ a s, Q a s → Q' a s) : wpAny M A t Q' E s := wpAny_mono h hQ fun _ _ x => x
end L2

namespace L2
open PySem PySem.Spec PyProof.Rows
section
variable {X : Cx}

/-- two expressions in a row -/
theorem bin {a b : Expr} {ta tb : TE} (ha : PE X a ta) (hb : PE X b tb) {pins : List (Addr × Obj)} {s : Shared} {σ : St} {H : Hp} {R : V → V → Hp → Prop} (I : Inv X pins σ H s) (h : ta σ H fun x H1 => tb σ H1 fun y H2 => R x y H2)
    {α : Type} {Q : α → Shared → Prop} {f : Value → Value → Sem α}
    (hf : ∀ v u s2 x y H2, Inv X pins σ H2 s2 → RelV x v → RelV y u → R x y H2 → wpAny (model X.prog X.w) X.A (f v u) Q X.xe s2) :
    wpAny (model X.prog X.w) X.A (eval a X.env) (fun v s₁ => wpAny (model X.prog X.w) X.A (eval b X.env) (fun u s₂ => wpAny (model X.prog X.w) X.A (f v u) Q X.xe s₂) X.xe s₁) X.xe s := by
  refine thn (ha pins s σ H _ I h) fun v s1 ⟨x, H1, I1, r1, q1⟩ => ?_
  refine thn (hb pins s1 σ H1 _ I1 q1) fun u s2 ⟨y, H2, I2, r2, q2⟩ => ?_
  exact hf v u s2 x y H2 I2 r1 r2 q2

/-! ### names and constants -/
def tVar (i : Nat) : TE := fun σ H Q => ∃ v, σ[i]? = some (some v) ∧ Q v H
def tC (v : V) : TE := fun _ H Q => Q v H
theorem pe_var {i : Nat} {x : Str} {pos : Pos} (hN : X.N[i]? = some x) (hv : Vis X.env.scope x) (hd : (x == ("__debug__" : Str)) = false := by decide) (hcd : (x == ("__classdict__" : Str)) = false := by decide) : PE X (.Name x pos) (tVar i) := by
  intro pins s σ H Q I h
  obtain ⟨v, e, h⟩ := h
  obtain ⟨m, hn, hl⟩ := I.loc
  obtain ⟨u, r, l⟩ := hl i x v hN e hv
  have fin : EP X pins σ Q u s := ⟨v, H, I, r, h⟩
  rcases l with ⟨hk, hm⟩ | ⟨hk, c, hc, hcell⟩
  · exact wpAny_Name (wpAny_loadName_local I.ok.kind hk hn hm fin) hd
  · rcases hk with hk | hk
    · exact wpAny_Name (wpAny_loadName_cell I.ok.kind hk hc hcell fin) hd
    · exact wpAny_Name (wpAny_loadName_free I.ok.kind hk hc hcell fin hcd) hd
theorem pe_int {i j pos} : PE X (.Constant (.int i) j pos) (tC (.int i)) := fun _ _ _ H _ I h => wpAny_Constant_int ⟨.int i, H, I.tok _, ⟨_, rfl⟩, h⟩
theorem pe_bl {b j pos} : PE X (.Constant (.bool b) j pos) (tC (.bl b)) := fun _ _ _ H _ I h => Constant_bool ⟨.bl b, H, I, rfl, h⟩
theorem pe_non {j pos} : PE X (.Constant .none j pos) (tC .non) := fun _ _ _ H _ I h => Constant_none ⟨.non, H, I, rfl, h⟩
theorem pe_str {x j pos} : PE X (.Constant (.str x) j pos) (tC (.str x)) := fun _ _ _ H _ I h => Calls.Constant_str ⟨.str x, H, I.tok _, ⟨_, rfl⟩, h⟩

/-- a global name of the def -/
def Gl (X : Cx) (x : Str) : Prop := X.env.kindOf x = some .globalImplicit
theorem ld_glob {E : Value → Shared → Prop} {pins : List (Addr × Obj)} {s : Shared} {σ : St} {H : Hp} {x : Str} {u : Value} {pos : Pos} {Q : Value → Shared → Prop} (I : Inv X pins σ H s) (hg : Gl X x) (hm : X.mg x = some u) (h : Q u s)
    (hd : (x == ("__debug__" : Str)) = false := by decide) : wpAny (model X.prog X.w) X.A (eval (.Name x pos) X.env) Q E s :=
  Calls.Name_function_global I.ok.kind hg (Calls.loadGlobal_global (by rw [I.ok.glob]; exact I.mod.glob.keeps I.bk) hm h) hd
theorem ld_blt {E : Value → Shared → Prop} {pins : List (Addr × Obj)} {s : Shared} {σ : St} {H : Hp} {x : Str} {u : Value} {pos : Pos} {Q : Value → Shared → Prop} (I : Inv X pins σ H s) (hg : Gl X x) (hm : X.mg x = none) (hv : bootBuiltins x = some u) (h : Q u s)
    (hn : x ≠ "__name__" := by decide) (hd : (x == ("__debug__" : Str)) = false := by decide) : wpAny (model X.prog X.w) X.A (eval (.Name x pos) X.env) Q E s := by
  obtain ⟨mb, h1, h2⟩ := I.mod.blt
  exact Calls.Name_function_global I.ok.kind hg (Calls.loadGlobal_builtin (by rw [I.ok.glob]; exact I.mod.glob.keeps I.bk) hm (by rw [I.ok.blt]; exact h1.keeps I.bk) ((h2 x hn).trans hv) h) hd
/-- a module's constant, a class, a function, as a value -/
theorem pe_glob {x : Str} {v : V} {u : Value} {pos : Pos} (hg : Gl X x) (hm : X.mg x = some u) (r : RelV v u) (hd : (x == ("__debug__" : Str)) = false := by decide) : PE X (.Name x pos) (tC v) :=
  fun _ _ _ H _ I h => ld_glob I hg hm ⟨v, H, I, r, h⟩ hd
theorem pe_bltn {x : Str} {v : V} {u : Value} {pos : Pos} (hg : Gl X x) (hm : X.mg x = none) (hv : bootBuiltins x = some u) (r : RelV v u) (hn : x ≠ "__name__" := by decide) (hd : (x == ("__debug__" : Str)) = false := by decide) : PE X (.Name x pos) (tC v) :=
  fun _ _ _ H _ I h => ld_blt I hg hm hv ⟨v, H, I, r, h⟩ hn hd

/-! ### arithmetic -/
variable {a b : Expr} {ta tb : TE} {pos : Pos}
/-! ### comparisons -/
def PC (X : Cx) (op : CmpOp) (a b : Expr) (t : TE) : Prop :=
  ∀ (pins : List (Addr × Obj)) (s : Shared) (σ : St) (H : Hp) (Q : VK), Inv X pins σ H s → t σ H Q →
    wpAny (model X.prog X.w) X.A (eval a X.env) (fun v s₁ => wpAny (model X.prog X.w) X.A (eval b X.env) (fun u s₂ => wpAny (model X.prog X.w) X.A (compareOp op v u) (EP X pins σ Q) X.xe s₂) X.xe s₁) X.xe s
theorem nobehind (b : Expr) {op : CmpOp} (h : op ≠ .In) (h2 : op ≠ .NotIn) : behindInMarks op b = false := by
  have e1 : (op == CmpOp.In) = false := by cases op <;> first | rfl | exact absurd rfl h
  have e2 : (op == CmpOp.NotIn) = false := by cases op <;> first | rfl | exact absurd rfl h2
  cases b <;> simp [behindInMarks, e1, e2]
/-- a comparison as a value, as a test -/
def tB (t : TE) : TT := fun σ H Q => t σ H fun x H1 => ∃ c, x = .bl c ∧ Q c H1
theorem pt_cmp {op : CmpOp} {t : TE} (h : PC X op a b t) (h1 : behindInMarks op b = false := by first | exact nobehind _ (by decide) (by decide) | rfl) : PT X (.Compare a [op] [b] pos) (tB t) := by
  intro pins s σ H Q I hw
  refine wpAny_isTrue_Compare1 (thn (h pins s σ H _ I hw) fun v s1 h1 => thn h1 fun u s2 h2 => thn h2 fun c s3 ⟨x, H1, I1, r1, q1⟩ => ?_) h1
  obtain ⟨d, rfl, q⟩ := q1
  cases r1
  exact wpAny_truthy_bool ⟨H1, I1, q⟩
/-! ### and, or, not -/
variable {tA tB' : TT} {rest : List Expr}
def tAnd (t u : TT) : TT := fun σ H Q => t σ H fun c H1 => if c = true then u σ H1 Q else Q false H1
def tOr (t u : TT) : TT := fun σ H Q => t σ H fun c H1 => if c = true then Q true H1 else u σ H1 Q
def tNot (t : TT) : TT := fun σ H Q => t σ H fun c H1 => Q (!c) H1
theorem pw_and1 (ha : PT X a tA) : PW X (.BoolOp .And [a] pos) tA := by
  intro wh pins s σ H Q I h
  refine isTrue_and (thn (ha pins s σ H Q I h) fun c s1 e => ?_)
  cases c with
  | true => exact isTrue_and_nil e
  | false => exact e
theorem pw_or1 (ha : PT X a tA) : PW X (.BoolOp .Or [a] pos) tA := by
  intro wh pins s σ H Q I h
  refine isTrue_or (thn (ha pins s σ H Q I h) fun c s1 e => ?_)
  cases c with
  | false => exact isTrue_or_nil e
  | true => exact e
theorem pw_and (ha : PT X a tA) (hb : PW X (.BoolOp .And (b :: rest) pos) tB') : PW X (.BoolOp .And (a :: b :: rest) pos) (tAnd tA tB') := by
  intro wh pins s σ H Q I h
  refine isTrue_and (thn (ha pins s σ H _ I h) fun c s1 ⟨H1, I1, q1⟩ => ?_)
  cases c with
  | true => exact hb wh pins s1 σ H1 Q I1 q1
  | false => exact ⟨H1, I1, q1⟩
theorem pw_or (ha : PT X a tA) (hb : PW X (.BoolOp .Or (b :: rest) pos) tB') : PW X (.BoolOp .Or (a :: b :: rest) pos) (tOr tA tB') := by
  intro wh pins s σ H Q I h
  refine isTrue_or (thn (ha pins s σ H _ I h) fun c s1 ⟨H1, I1, q1⟩ => ?_)
  cases c with
  | true => exact ⟨H1, I1, q1⟩
  | false => exact hb wh pins s1 σ H1 Q I1 q1
theorem pt_not (ha : PT X a tA) : PT X (.UnaryOp .Not a pos) (tNot tA) := by
  intro pins s σ H Q I h
  exact isTrue_not (ha pins s σ H (fun c H1 => Q (!c) H1) I h)
/-- .. as values (bools) -/
def tAndV (ta tb : TE) : TE := fun σ H Q => ta σ H fun x H1 => ∃ c, x = .bl c ∧ if c = true then tb σ H1 Q else Q (.bl false) H1
def tOrV (ta tb : TE) : TE := fun σ H Q => ta σ H fun x H1 => ∃ c, x = .bl c ∧ if c = true then Q (.bl true) H1 else tb σ H1 Q
def tNotV (ta : TE) : TE := fun σ H Q => ta σ H fun x H1 => ∃ c, x = .bl c ∧ Q (.bl (!c)) H1
theorem pe_one {op} {t : TE} (h : PE X a t) : PE X (.BoolOp op [a] pos) t := fun pins s σ H Q I hw => BoolOp_one (h pins s σ H Q I hw)
theorem pe_and (ha : PE X a ta) (hb : PE X (.BoolOp .And (b :: rest) pos) tb) : PE X (.BoolOp .And (a :: b :: rest) pos) (tAndV ta tb) := by
  intro pins s σ H Q I h
  refine BoolOp_and (thn (ha pins s σ H _ I h) fun v s1 ⟨x, H1, I1, r1, q1⟩ => ?_)
  obtain ⟨c, rfl, q1⟩ := q1
  cases r1
  refine wpAny_truthy_bool ?_
  cases c with
  | true => exact hb pins s1 σ H1 Q I1 q1
  | false => exact ⟨.bl false, H1, I1, rfl, q1⟩
theorem pe_or (ha : PE X a ta) (hb : PE X (.BoolOp .Or (b :: rest) pos) tb) : PE X (.BoolOp .Or (a :: b :: rest) pos) (tOrV ta tb) := by
  intro pins s σ H Q I h
  refine BoolOp_or (thn (ha pins s σ H _ I h) fun v s1 ⟨x, H1, I1, r1, q1⟩ => ?_)
  obtain ⟨c, rfl, q1⟩ := q1
  cases r1
  refine wpAny_truthy_bool ?_
  cases c with
  | false => exact hb pins s1 σ H1 Q I1 q1
  | true => exact ⟨.bl true, H1, I1, rfl, q1⟩
theorem pe_not (ha : PE X a ta) : PE X (.UnaryOp .Not a pos) (tNotV ta) := by
  intro pins s σ H Q I h
  refine UnaryOp_ (thn (ha pins s σ H _ I h) fun v s1 ⟨x, H1, I1, r1, q1⟩ => ?_)
  obtain ⟨c, rfl, q1⟩ := q1
  cases r1
  exact not_of (wpAny_truthy_bool ⟨.bl (!c), H1, I1, rfl, q1⟩)
end
end L2

namespace L2
open PySem PySem.Spec PyProof.Rows

/-! ### a list, a tuple that is read: tracked, frozen, or an object of the module -/
def SqL (K : PySem.W.Frag) (H : Hp) (a : Addr) (xs : List V) : Prop :=
  Rd H a (.lst xs) ∨
    ∃ (o : Obj) (its : Array Value) (n : Nat), K.lookup a = some o ∧ o.cls = .type "list" ∧ o.dict = none ∧ o.data = .seq its n ∧ its.size ≤ sizeLine ∧ Vals xs its.toList
def SqT (K : PySem.W.Frag) (H : Hp) (a : Addr) (xs : List V) : Prop :=
  Rd H a (.tup xs) ∨
    ∃ (o : Obj) (its : Array Value) (n : Nat), K.lookup a = some o ∧ o.cls = .type "tuple" ∧ o.data = .seq its n ∧ its.size ≤ sizeLine ∧ Vals xs its.toList
def absV : Value → Option V
  | .none => some .non
  | .bool b => some (.bl b)
  | .int i _ => some (.int i)
  | .str x _ => some (.str x)
  | .bytes b _ => some (.byt b)
  | .float b _ => some (.flt b)
  | .ref a => some (.ref a)
  | .type n => some (.ty n)
  | _ => none
theorem RelV.abs {x : V} {u : Value} (r : RelV x u) : absV u = some x := by
  cases x with
  | non => cases r; rfl
  | bl _ => cases r; rfl
  | int _ => obtain ⟨t, rfl⟩ := r; rfl
  | str _ => obtain ⟨t, rfl⟩ := r; rfl
  | byt _ => obtain ⟨t, rfl⟩ := r; rfl
  | flt _ => obtain ⟨t, rfl⟩ := r; rfl
  | ref _ => cases r; rfl
  | ty _ => cases r; rfl
theorem RelV.inj {x y : V} {u : Value} (r : RelV x u) (q : RelV y u) : x = y := Option.some.inj (r.abs.symm.trans q.abs)
theorem Vals.inj : ∀ {xs ys : List V} {us : List Value}, Vals xs us → Vals ys us → xs = ys
  | _, _, _, .nil, .nil => rfl
  | _, _, _, .cons r t, .cons r' t' => by rw [r.inj r', Vals.inj t t']
section
variable {X : Cx} {pins : List (Addr × Obj)} {σ : St} {H : Hp} {s : Shared} {a : Addr} {xs ys : List V}
theorem SqL.of {K : PySem.W.Frag} (h : H a = some (.lst xs)) : SqL K H a xs := .inl (.inl h)
theorem SqT.of {K : PySem.W.Frag} (h : H a = some (.tup xs)) : SqT K H a xs := .inl (.inl h)
theorem Inv.list (I : Inv X pins σ H s) (h : SqL X.K H a xs) : ∃ its : List Value, Vals xs its ∧ PlainL s.heap a its.toArray ∧ xs.length ≤ sizeLine := by
  rcases h with h | ⟨o, its, n, hk, hc, hd, hs, hz, r⟩
  · obtain ⟨z, its, n, r, e⟩ := h.ok I.hok
    exact ⟨its, r, ⟨_, n, e, rfl, rfl, rfl⟩, z⟩
  · refine ⟨its.toList, r, ⟨o, n, I.kIn a o hk, hc, hd, by simpa using hs⟩, ?_⟩
    have e := r.length
    simp only [Array.length_toList] at e
    omega
theorem Inv.tuple (I : Inv X pins σ H s) (h : SqT X.K H a xs) : ∃ its : List Value, Vals xs its ∧ IsTup s.heap a its.toArray ∧ xs.length ≤ sizeLine := by
  rcases h with h | ⟨o, its, n, hk, hc, hs, hz, r⟩
  · obtain ⟨z, its, r, p⟩ := h.ok I.hok
    exact ⟨its, r, p, z⟩
  · refine ⟨its.toList, r, ⟨o, I.kIn a o hk, hc, n, by simpa using hs⟩, ?_⟩
    have e := r.length
    simp only [Array.length_toList] at e
    omega
theorem Inv.list_inj (I : Inv X pins σ H s) (h : SqL X.K H a xs) (h' : SqL X.K H a ys) : xs = ys := by
  obtain ⟨its, r, ⟨o, n, e, _, _, d⟩, _⟩ := I.list h
  obtain ⟨its', r', ⟨o', n', e', _, _, d'⟩, _⟩ := I.list h'
  rw [e] at e'; cases e'
  rw [d] at d'
  injection d' with d1 _
  have : its = its' := by simpa using congrArg Array.toList d1
  subst this
  exact r.inj r'
theorem Inv.tuple_inj (I : Inv X pins σ H s) (h : SqT X.K H a xs) (h' : SqT X.K H a ys) : xs = ys := by
  obtain ⟨its, r, ⟨o, e, _, n, d⟩, _⟩ := I.tuple h
  obtain ⟨its', r', ⟨o', e', _, n', d'⟩, _⟩ := I.tuple h'
  rw [e] at e'; cases e'
  rw [d] at d'
  injection d' with d1 _
  have : its = its' := by simpa using congrArg Array.toList d1
  subst this
  exact r.inj r'
end

/-! ### another wish about exceptions -/
abbrev Cx.wish (X : Cx) (E : Value → Shared → Prop) : Cx := { X with xe := E }
/-- no exception leaves -/
abbrev Cx.nox (X : Cx) : Cx := X.wish fun _ _ => False
theorem Cx.Ok.wish {X : Cx} (ok : X.Ok) (E : Value → Shared → Prop) : (X.wish E).Ok :=
  ⟨ok.mod, ok.kind, ok.glob, ok.blt, ok.above, ok.inj, ok.has, ok.cab, ok.hd, ok.frames, ok.stk, ok.exf, ok.bs, ok.bsz, ok.noex, ok.exfs, ok.funs, ok.frf⟩
theorem Cx.Ok.unwish {X : Cx} {E : Value → Shared → Prop} (ok : (X.wish E).Ok) : X.Ok :=
  ⟨ok.mod, ok.kind, ok.glob, ok.blt, ok.above, ok.inj, ok.has, ok.cab, ok.hd, ok.frames, ok.stk, ok.exf, ok.bs, ok.bsz, ok.noex, ok.exfs, ok.funs, ok.frf⟩
section
variable {X : Cx} {pins : List (Addr × Obj)} {σ : St} {H : Hp} {s : Shared} {E : Value → Shared → Prop}
theorem Inv.wish (I : Inv X pins σ H s) (E : Value → Shared → Prop) : Inv (X.wish E) pins σ H s := ⟨I.ok.wish E, I.os, I.bare, I.base, I.loc, I.cell, I.free, I.freeC, I.pin, I.hok, I.len⟩
theorem Inv.unwish (I : Inv (X.wish E) pins σ H s) : Inv X pins σ H s := ⟨I.ok.unwish, I.os, I.bare, I.base, I.loc, I.cell, I.free, I.freeC, I.pin, I.hok, I.len⟩
theorem SP.unwish {D : Ends} {f : Flow} {s' : Shared} (h : SP (X.wish E) pins D f s') : SP X pins D f s' := by
  cases f with
  | next => obtain ⟨σ', H', I, q⟩ := h; exact ⟨σ', H', I.unwish, q⟩
  | brk => obtain ⟨σ', H', I, q⟩ := h; exact ⟨σ', H', I.unwish, q⟩
  | cont => obtain ⟨σ', H', I, q⟩ := h; exact ⟨σ', H', I.unwish, q⟩
  | ret u => obtain ⟨v, σ', H', I, r, q⟩ := h; exact ⟨v, σ', H', I.unwish, r, q⟩
theorem PSs.nox {st : List Stmt} {t : TS} (h : PSs X.nox st t) : PSs X st t := fun pins s σ H D I hw =>
  wpAny_mono (h pins s σ H D (I.wish _) hw) (fun _ _ q => q.unwish) fun _ _ z => False.elim z
end

/-! ### blocks and small statements -/
section
variable {X : Cx} {st : Stmt} {rest : List Stmt} {t u : TS} {e : Expr} {te : TE} {pos : Pos}
def tNext : TS := fun D σ H => D.nx σ H
def tSeq (t u : TS) : TS := fun D σ H => t { D with nx := u D } σ H
theorem pss_nil : PSs X [] tNext := fun _ _ σ H _ I h => wpAny_execs_nil ⟨σ, H, I, h⟩
theorem pss_cons (h1 : PS X st t) (h2 : PSs X rest u) : PSs X (st :: rest) (tSeq t u) := by
  intro pins s σ H D I h
  refine wpAny_execs_cons (thn (h1 pins s σ H { D with nx := u D } I h) fun f s1 q => ?_)
  cases f with
  | next =>
    obtain ⟨σ', H', I', q⟩ := q
    exact h2 pins s1 σ' H' D I' q
  | ret v => exact q
  | brk => exact q
  | cont => exact q
theorem pss_one (h1 : PS X st t) : PSs X [st] t := by
  intro pins s σ H D I h
  refine wpAny_execs_cons (thn (h1 pins s σ H D I h) fun f s1 q => ?_)
  cases f with
  | next => exact wpAny_execs_nil q
  | ret v => exact q
  | brk => exact q
  | cont => exact q
/-- in a def's body nothing is shown -/
theorem Inv.quiet {pins : List (Addr × Obj)} {σ : St} {H : Hp} {s : Shared} (I : Inv X pins σ H s) : interactive X.env = false := by simp [interactive, I.ok.kind]
/-- an expression whose value is dropped -/
def tDrop (te : TE) : TS := fun D σ H => te σ H fun _ H1 => D.nx σ H1
theorem ps_expr (he : PE X e te) (hs : swapsWith e none pos.line X.env = pure false := by rfl) : PS X (.Expr e pos) (tDrop te) := by
  intro pins s σ H D I h
  exact wpAny_Expr_any (thn (he pins s σ H _ I h) fun v s1 ⟨x, H1, I1, r1, q1⟩ => ⟨σ, H1, I1, q1⟩) I.quiet hs
def tRet (te : TE) : TS := fun D σ H => te σ H D.rt
theorem ps_ret (he : PE X e te) : PS X (.Return (some e) pos) (tRet te) := by
  intro pins s σ H D I h
  exact wpAny_Return_some (thn (he pins s σ H _ I h) fun v s1 ⟨x, H1, I1, r1, q1⟩ => ⟨x, σ, H1, I1, r1, q1⟩)
def tIfS (c : TT) (t u : TS) : TS := fun D σ H => c σ H fun b H1 => if b = true then t D σ H1 else u D σ H1
theorem ps_if {c : Expr} {a b : List Stmt} {tc : TT} (hc : PT X c tc) (ha : PSs X a t) (hb : PSs X b u) : PS X (.If c a b pos) (tIfS tc t u) := by
  intro pins s σ H D I h
  refine wpAny_If (thn (hc pins s σ H _ I h) fun d s1 ⟨H1, I1, q1⟩ => ?_)
  cases d with
  | true => exact ha pins s1 σ H1 D I1 q1
  | false => exact hb pins s1 σ H1 D I1 q1
/-- code that the proof never comes to -/
def tNever : TS := fun _ _ _ => False
theorem pss_never {sts : List Stmt} : PSs X sts tNever := fun _ _ _ _ _ _ h => h.elim
end

/-! ### targets -/
abbrev TG := V → St → Hp → (St → Hp → Prop) → Prop
abbrev TGs := List V → St → Hp → (St → Hp → Prop) → Prop
def PG (X : Cx) (target : Expr) (t : TG) : Prop :=
  ∀ (pins : List (Addr × Obj)) (s : Shared) (σ : St) (H : Hp) (v : V) (u : Value) (Q : St → Hp → Prop), Inv X pins σ H s → RelV v u → t v σ H Q →
    wpAny (model X.prog X.w) X.A (assign target X.env u) (fun _ s' => ∃ σ' H', Inv X pins σ' H' s' ∧ Q σ' H') X.xe s
/-- several targets, one after another -/
def PGs (X : Cx) (ts : List Expr) (t : TGs) : Prop :=
  ∀ (pins : List (Addr × Obj)) (s : Shared) (σ : St) (H : Hp) (vs : List V) (us : List Value) (Q : St → Hp → Prop), Inv X pins σ H s → Vals vs us → t vs σ H Q →
    wpAny (model X.prog X.w) X.A (assignInOrder ((assignEach ts X.env).map (·.2)) us) (fun _ s' => ∃ σ' H', Inv X pins σ' H' s' ∧ Q σ' H') X.xe s
/-- o[i] = v, by values -/
abbrev TSet := V → V → V → Hp → (Hp → Prop) → Prop
def PSet (X : Cx) (t : TSet) : Prop :=
  ∀ (pins : List (Addr × Obj)) (s : Shared) (σ : St) (H : Hp) (o i v : V) (ov iv u : Value) (Q : Hp → Prop), Inv X pins σ H s → RelV o ov → RelV i iv → RelV v u → t o i v H Q →
    wpAny (model X.prog X.w) X.A (setItem ov iv u) (fun _ s' => ∃ H', Inv X pins σ H' s' ∧ Q H') X.xe s
section
variable {X : Cx} {pos : Pos}
def gName (i : Nat) : TG := fun v σ H Q => Q (σ.set i (some v)) H
theorem pg_name {i : Nat} {x : Str} (hN : X.N.Nodup) (hi : X.N[i]? = some x) (hx : Loc X.env.scope x) (hf : X.fn x = true ∨ X.env.scope.names.lookup x = some .local := by first | exact .inl rfl | exact .inr rfl | assumption) : PG X (.Name x pos) (gName i) := by
  intro pins s σ H v u Q I r h
  exact wpAny_assign_Name (store_ok I hN hi hx r (fun s' I' => ⟨_, H, I', h⟩) hf)
def gNil : TGs := fun vs σ H Q => vs = [] ∧ Q σ H
def gCons (t : TG) (u : TGs) : TGs := fun vs σ H Q => ∃ v r, vs = v :: r ∧ t v σ H fun σ' H' => u r σ' H' Q
theorem pgs_nil : PGs X [] gNil := by
  intro pins s σ H vs us Q I r h
  obtain ⟨e, h⟩ := h
  subst e
  cases r
  exact assignInOrder_nil ⟨σ, H, I, h⟩
theorem pgs_cons {e : Expr} {es : List Expr} {t : TG} {u : TGs} (h1 : PG X e t) (h2 : PGs X es u)
    (hs : (assignEach (e :: es) X.env).map (·.2) = assign e X.env :: (assignEach es X.env).map (·.2) := by rfl) : PGs X (e :: es) (gCons t u) := by
  intro pins s σ H vs us Q I r h
  obtain ⟨v, vr, e1, h⟩ := h
  subst e1
  cases r with
  | cons r rr =>
    rw [hs]
    refine assignInOrder_cons (thn (h1 pins s σ H _ _ _ I r h) fun _ s1 ⟨σ1, H1, I1, q1⟩ => ?_)
    exact h2 pins s1 σ1 H1 _ _ Q I1 rr q1
/-- (a, b, ..) = a tuple of that length -/
def gTup (K : PySem.W.Frag) (n : Nat) (t : TGs) : TG := fun v σ H Q => ∃ a xs, v = .ref a ∧ SqT K H a xs ∧ xs.length = n ∧ t xs σ H Q
theorem pg_tup {es : List Expr} {k : Nat} {t : TGs} {n : Nat} (hc : X.calm = true) (h : PGs X es t)
    (hn : (assignEach es X.env).length = n := by rfl) (hst : (assignEach es X.env).findIdx? (·.1) = none := by rfl) : PG X (.Tuple es k pos) (gTup X.K n t) := by
  intro pins s σ H v u Q I r hw
  obtain ⟨a, xs, e1, hq, hl, hw⟩ := hw
  subst e1
  cases r
  obtain ⟨its, rv, ht, hz⟩ := I.tuple hq
  refine assign_Tuple_tuple (I.ok.hd hc) ht (by simp [hn, ← hl, rv.length]) hst fun h' hx => ?_
  have I1 : Inv X pins σ H { s with heap := h' } := I.kept (t' := s.toks) fun b o e => hx b o (Nat.ne_of_lt (Heap.lt_size e)) e
  exact h pins _ σ H xs _ Q I1 (by simpa using rv) hw
/-- o[i] = .. -/
def gSub (to ti : TE) (t : TSet) : TG := fun v σ H Q => to σ H fun o H1 => ti σ H1 fun i H2 => t o i v H2 fun H3 => Q σ H3
theorem pg_sub {o i : Expr} {to ti : TE} {t : TSet} (ho : PE X o to) (hi : PE X i ti) (hs : PSet X t)
    (ha : ∀ v, assign (.Subscript o i pos) X.env v = (do
      let ov ← holding [v] (eval o X.env)
      let iv ← holding [v, ov] (eval i X.env)
      standAt pos
      holding [v, ov, iv] (setItem ov iv v)
      release [v, ov, iv] []) := by intro _; rfl) : PG X (.Subscript o i pos) (gSub to ti t) := by
  intro pins s σ H v u Q I r h
  rw [ha]
  refine wpAny_bind (wpAny_holding (thn (ho pins s σ H _ I h) fun ov s1 ⟨x, H1, I1, r1, q1⟩ => ?_))
  refine wpAny_bind (wpAny_holding (thn (hi pins s1 σ H1 _ I1 q1) fun iv s2 ⟨y, H2, I2, r2, q2⟩ => ?_))
  refine wpAny_bind (wpAny_standAt (wpAny_bind (wpAny_holding (thn (hs pins s2 σ H2 x y v ov iv u _ I2 r1 r2 r q2) fun _ s3 ⟨H3, I3, q3⟩ => ?_))))
  exact wpAny_release ⟨σ, H3, I3, q3⟩
/-- target = value -/
def tAsg (te : TE) (g : TG) : TS := fun D σ H => te σ H fun x H1 => g x σ H1 D.nx
theorem ps_asg {tg e : Expr} {te : TE} {g : TG} (he : PE X e te) (hg : PG X tg g) (hs : swapsWithSole [tg] e pos.line X.env = pure false := by rfl) (hw : swappedStores [tg] e X.env = pure none := by rfl)
    (h1 : (assignEach [tg] X.env).map (·.2) = [assign tg X.env] := by rfl) : PS X (.Assign [tg] e pos) (tAsg te g) := by
  intro pins s σ H D I h
  refine wpAny_Assign_stores (thn (he pins s σ H _ I h) fun v s1 ⟨x, H1, I1, r1, q1⟩ => ?_) hs hw
  rw [h1]
  exact thn (hg pins s1 σ H1 x v _ I1 r1 q1) fun _ s2 q => q
/-- name = value -/
theorem ps_set {i : Nat} {x : Str} {e : Expr} {te : TE} {pos' : Pos} (hN : X.N.Nodup) (hi : X.N[i]? = some x) (hx : Loc X.env.scope x) (he : PE X e te) (hs : swapsWith e (some (.Name x pos')) pos.line X.env = pure false := by rfl) (hf : X.fn x = true ∨ X.env.scope.names.lookup x = some .local := by first | exact .inl rfl | exact .inr rfl | assumption) :
    PS X (.Assign [.Name x pos'] e pos) (tAsg te (gName i)) := by
  intro pins s σ H D I h
  refine wpAny_Assign_Name (thn (he pins s σ H _ I h) fun v s1 ⟨y, H1, I1, r1, q1⟩ => ?_) hs
  exact store_ok I1 hN hi hx r1 (fun s2 I2 => ⟨_, H1, I2, q1⟩) hf
/-- a, b = x, y with plain local names: stored from the right; the pair itself is not tracked (the opening rows as in PyProof/Rows/TupAssign.lean:23) -/
def tPar (i j : Nat) (ta : TA) : TS := fun D σ H => ta σ H fun vs H1 => ∃ v w, vs = [v, w] ∧ D.nx ((σ.set i (some v)).set j (some w)) H1
theorem ps_par {i j : Nat} {x y : Str} {a b : Expr} {ta : TA} {px py pt : Pos} {kt k2 pt2} (hc : X.calm = true) (hN : X.N.Nodup) (hi : X.N[i]? = some x) (hj : X.N[j]? = some y) (hij : i ≠ j)
    (hx : X.env.scope.names.lookup x = some .local) (hy : X.env.scope.names.lookup y = some .local) (ha : PA X [a, b] ta)
    (hw : swappedStores [.Tuple [.Name x px, .Name y py] kt pt] (.Tuple [a, b] k2 pt2) X.env = pure (some [x, y]))
    (hs : swapsWithSole [.Tuple [.Name x px, .Name y py] kt pt] (.Tuple [a, b] k2 pt2) pos.line X.env = pure false := by rfl) :
    PS X (.Assign [.Tuple [.Name x px, .Name y py] kt pt] (.Tuple [a, b] k2 pt2) pos) (tPar i j ta) := by
  intro pins s σ H D I h
  rw [exec_Assign_arm]
  refine wpAny_bind (wpAny_standAt ?_)
  rw [hs]
  refine wpAny_bind (wpAny_pure ?_)
  rw [if_neg (by decide)]
  refine wpAny_bind (Tuple_ (thn (ha _ pins s σ H _ I h) fun us s1 ⟨vs, H1, I1, r1, q1⟩ => ?_))
  obtain ⟨v, w, e1, q1⟩ := q1
  subst e1
  obtain ⟨u1, u2, rfl, rv, rw'⟩ : ∃ u1 u2, us = [u1, u2] ∧ RelV v u1 ∧ RelV w u2 := by
    cases r1 with
    | cons p q =>
      cases q with
      | cons p' q' =>
        cases q'
        exact ⟨_, _, rfl, p, p'⟩
  refine wpAny_newObj_type ?_ (by show 2 ≤ sizeLine; decide)
  have I2 : Inv X pins σ H1 { s1 with heap := s1.heap.push { cls := .type "tuple", data := .seq [u1, u2].toArray } } := I1.kept (t' := s1.toks) fun b o e => Heap.get?_push_of_some _ e
  rw [hw]
  refine wpAny_bind (wpAny_pure ?_)
  show wpAny (model X.prog X.w) X.A (do rule "assign.swapped-stores"; let items ← unpackItems (.ref s1.heap.objs.size) 2 none; assignInOrder [fun v => bindName X.env y v, fun v => bindName X.env x v] items.reverse; pure Flow.next) _ _ _
  refine wpAny_bind (wpAny_rule (wpAny_bind (unpackItems_tuple (items := #[u1, u2]) (I.ok.hd hc) (IsTup.new s1.heap _) fun h' hx' => ?_)))
  have I3 := I2.kept (h' := h') (t' := s1.toks) fun b o e => hx' b o (Nat.ne_of_lt (Heap.lt_size e)) e
  show wpAny _ _ (assignInOrder [fun v => bindName X.env y v, fun v => bindName X.env x v] [u2, u1] >>= fun _ => pure Flow.next) _ _ _
  refine wpAny_bind (assignInOrder_cons (wpAny_bindName (store_ok I3 hN hj (.inl hy) rw' (fun s2 I4 => ?_) (.inr hy))))
  refine assignInOrder_cons (wpAny_bindName (store_ok I4 hN hi (.inl hx) rv (fun s3 I5 => assignInOrder_nil (wpAny_pure ?_)) (.inr hx)))
  rw [List.set_comm _ _ (Ne.symm hij)] at I5
  exact ⟨_, H1, I5, q1⟩
end

/-! ### while -/
section
variable {X : Cx} {pos : Pos}
end

/-! ### what a loop or a comprehension walks -/
/-- at turn i: it yields x (the heap may grow), or it stops -/
structure It where
  go : Nat → Hp → Prop
  yld : Nat → Hp → V → Hp → Prop
  stop : Nat → Hp → Prop
/-- the iterator's own objects may turn: they are not the frame's, not pinned, younger than the entry (or a comprehension's own) -/
def FpOk (X : Cx) (pins : List (Addr × Obj)) (H : Hp) (b : Addr) : Prop :=
  H b = none ∧ b ≠ X.env.locals ∧ b ∉ X.fs ∧ (b ∈ X.ex ∨ X.s₀.heap.objs.size ≤ b) ∧ (∀ x c, X.env.cells.lookup x = some c → c ≠ b) ∧ ∀ p ∈ X.pn ++ pins, p.1 ≠ b
theorem Inv.fpOk {X : Cx} {pins : List (Addr × Obj)} {σ : St} {H H' : Hp} {s : Shared} {b : Addr} (I : Inv X pins σ H s) (hb : s.heap.objs.size ≤ b) (hn : H' b = none) : FpOk X pins H' b := by
  refine ⟨hn, Nat.ne_of_gt (Nat.lt_of_lt_of_le I.lt hb), I.nofs hb, .inr (Nat.le_trans I.sz hb), fun x c e z => ?_, fun p hp z => ?_⟩
  · obtain ⟨v, q⟩ := I.cell x c e
    exact absurd (Nat.lt_of_lt_of_le q.lt (by rw [z]; exact hb)) (Nat.lt_irrefl _)
  · exact absurd (Nat.lt_of_lt_of_le (Heap.lt_size (I.pin p hp).1) (by rw [z]; exact hb)) (Nat.lt_irrefl _)
structure Turn (P : Program) (w : World) (K : PySem.W.Frag) (tg : Expr) (J : It) (fp : List Addr) (it : Addr) (tn : Nat → Heap → Prop) : Prop where
  mem : it ∈ fp
  obj : ∀ i h, tn i h → ∀ b ∈ fp, ∃ o, h.get? b = some o ∧ ∀ v, o.data ≠ .cell v
  keep : ∀ i h h', tn i h → (∀ b ∈ fp, ∀ o, h.get? b = some o → h'.get? b = some o) → tn i h'
  item : ∀ (X : Cx), X.prog = P → X.w = w → X.K = K → X.calm = true → ∀ (i : Nat) (pins : List (Addr × Obj)) (s : Shared) (σ : St) (H : Hp) (E : Value → Shared → Prop), Inv X pins σ H s → (∀ b ∈ fp, FpOk X pins H b) → tn i s.heap → J.go i H →
    wpAny (model P w) X.A (pyNext (.ref it)) (fun r s1 => ∃ u, r = some u ∧
      wpAny (model P w) X.A (letOwnedTupleGo tg (.ref it) u) (fun _ s2 => ∃ x H', Inv X pins σ H' s2 ∧ RelV x u ∧ J.yld i H x H' ∧ tn (i + 1) s2.heap ∧ ∀ b ∈ fp, H' b = none) E s1) E s
  done : ∀ (X : Cx), X.prog = P → X.w = w → X.K = K → X.calm = true → ∀ (i : Nat) (pins : List (Addr × Obj)) (s : Shared) (σ : St) (H : Hp) (E : Value → Shared → Prop), Inv X pins σ H s → (∀ b ∈ fp, FpOk X pins H b) → tn i s.heap → J.stop i H →
    wpAny (model P w) X.A (pyNext (.ref it)) (fun r s1 => r = none ∧ Inv X pins σ H s1) E s
  self : ∀ (A : Around) (i : Nat) (s : Shared) (Q : Value → Shared → Prop) (E : Value → Shared → Prop), tn i s.heap → Q (.ref it) s → wpAny (model P w) A (pyIter (.ref it)) Q E s
abbrev TI := St → Hp → (It → Hp → Prop) → Prop
/-- an iterator has come -/
def PIE (X : Cx) (pins : List (Addr × Obj)) (σ : St) (tg : Expr) (R : It → Hp → Prop) (itv : Value) (s2 : Shared) : Prop :=
  ∃ (it : Addr) (fp : List Addr) (tn : Nat → Heap → Prop) (J : It) (H' : Hp), itv = .ref it ∧ Inv X pins σ H' s2 ∧ Turn X.prog X.w X.K tg J fp it tn ∧ tn 0 s2.heap ∧ (∀ b ∈ fp, FpOk X pins H' b) ∧ R J H'
def PI (X : Cx) (tg iter : Expr) (wi : TI) : Prop :=
  ∀ (pins : List (Addr × Obj)) (s : Shared) (σ : St) (H : Hp) (R : It → Hp → Prop), Inv X pins σ H s → wi σ H R →
    wpAny (model X.prog X.w) X.A (eval iter X.env) (fun v s1 => wpAny (model X.prog X.w) X.A (pyIter v) (PIE X pins σ tg R) X.xe s1) X.xe s

/-- the step ahead of the store is nothing for an iterator that keeps no tuple -/
theorem go_of {M : Model} {A : Around} {E : Value → Shared → Prop} {s : Shared} {tg : Expr} {it : Addr} {u : Value} {o : Obj} {n : String} {vs : Array Value} {Q : Unit → Shared → Prop} (ho : s.heap.get? it = some o) (hc : o.cls = .type n) (hd : o.data = .fields vs)
    (hn : ["enumerate", "zip", "dict_itemiterator", "dict_reverseitemiterator", "odict_iterator", "itertools.zip_longest", "itertools.pairwise"].contains n = false) (hQ : Q () s) : wpAny M A (letOwnedTupleGo tg (.ref it) u) Q E s := by
  unfold letOwnedTupleGo
  cases tg <;> first
    | exact wpAny_pure hQ
    | (cases u <;> first
        | exact wpAny_pure hQ
        | (refine wpAny_bind (wpAny_load ho ?_)
           rw [hc, hd]
           show wpAny M A (if (["enumerate", "zip", "dict_itemiterator", "dict_reverseitemiterator", "odict_iterator", "itertools.zip_longest", "itertools.pairwise"].contains n && vs[0]? == some (rawInt _)) = true then _ else _) Q E s
           rw [if_neg (by intro h; rw [hn, Bool.false_and] at h; cases h)]
           exact wpAny_pure hQ))

/-- the list at a, as it stands at each turn (a loop may append to it) -/
def Itl (K : PySem.W.Frag) (a : Addr) : It :=
  ⟨fun i H => ∃ xs x, SqL K H a xs ∧ xs[i]? = some x, fun i H x H' => H' = H ∧ ∀ xs, SqL K H a xs → xs[i]? = some x, fun i H => ∃ xs, SqL K H a xs ∧ xs.length ≤ i⟩
def Itt (K : PySem.W.Frag) (a : Addr) : It :=
  ⟨fun i H => ∃ xs x, SqT K H a xs ∧ xs[i]? = some x, fun i H x H' => H' = H ∧ ∀ xs, SqT K H a xs → xs[i]? = some x, fun i H => ∃ xs, SqT K H a xs ∧ xs.length ≤ i⟩
/-- lo, lo + 1, .. (n of them) -/
def Itr (lo : Int) (n : Nat) : It := ⟨fun i _ => i < n, fun i H x H' => H' = H ∧ x = .int (lo + i), fun i _ => n ≤ i⟩
theorem turn_list {P : Program} {w : World} {K : PySem.W.Frag} {tg : Expr} (a it : Addr) : Turn P w K tg (Itl K a) [it] it (fun i h => h.IsListIter it a i) where
  mem := by simp
  obj := fun i h st b hb => by
    have e : b = it := by simpa using hb
    subst e
    obtain ⟨o, e, c, d⟩ := st
    exact ⟨o, e, fun v z => by rw [d] at z; cases z⟩
  keep := fun i h h' st k => st.at fun o e => k it (by simp) o e
  item := by
    intro X hP hw hK hc i pins s σ H E I hf st hg
    subst hP hw hK
    obtain ⟨xs, x, hq, hx⟩ := hg
    obtain ⟨its, rv, p, hz⟩ := I.list hq
    obtain ⟨u, hu, ru⟩ := rv.get hx
    obtain ⟨f0, f1, f2, f3, f4, f5⟩ := hf it (by simp)
    refine wpAny_pyNext_list_item st p.isList (x := u) (by simpa using hu) fun h' st' sb => ?_
    have I1 : Inv X pins σ H { s with heap := h' } := I.turned (t' := s.toks) (fun b o hb e => (sb.2 b hb).trans e) f0 f1 f3 f4 f5
    obtain ⟨o, e, c, d⟩ := id st'
    exact ⟨u, rfl, go_of (s := { s with heap := h' }) e c d (by decide) ⟨x, H, I1, ru, ⟨rfl, fun ys hy => by rw [I.list_inj hy hq]; exact hx⟩, st', fun b hb => (hf b hb).1⟩⟩
  done := by
    intro X hP hw hK hc i pins s σ H E I hf st hg
    subst hP hw hK
    obtain ⟨xs, hq, hx⟩ := hg
    obtain ⟨its, rv, p, hz⟩ := I.list hq
    obtain ⟨f0, f1, f2, f3, f4, f5⟩ := hf it (by simp)
    have hl := rv.length
    exact wpAny_pyNext_list_end (I.ok.hd hc) st p.isList (by simp; omega) fun h' eb => ⟨rfl, I.turned (t' := s.toks) (fun b o hb e => eb b o hb e) f0 f1 f3 f4 f5⟩
  self := fun _ _ _ _ _ st h => wpAny_pyIter_listiter st h
theorem turn_tuple {P : Program} {w : World} {K : PySem.W.Frag} {tg : Expr} (a it : Addr) : Turn P w K tg (Itt K a) [it] it (fun i h => h.IsTupleIter it a i) where
  mem := by simp
  obj := fun i h st b hb => by
    have e : b = it := by simpa using hb
    subst e
    obtain ⟨o, e, c, d⟩ := st
    exact ⟨o, e, fun v z => by rw [d] at z; cases z⟩
  keep := fun i h h' st k => st.at fun o e => k it (by simp) o e
  item := by
    intro X hP hw hK hc i pins s σ H E I hf st hg
    subst hP hw hK
    obtain ⟨xs, x, hq, hx⟩ := hg
    obtain ⟨its, rv, p, hz⟩ := I.tuple hq
    obtain ⟨u, hu, ru⟩ := rv.get hx
    obtain ⟨f0, f1, f2, f3, f4, f5⟩ := hf it (by simp)
    refine wpAny_pyNext_tuple_item st (show s.heap.IsTuple a its.toArray from p) (x := u) (by simpa using hu) fun h' st' sb => ?_
    have I1 : Inv X pins σ H { s with heap := h' } := I.turned (t' := s.toks) (fun b o hb e => (sb.2 b hb).trans e) f0 f1 f3 f4 f5
    obtain ⟨o, e, c, d⟩ := id st'
    exact ⟨u, rfl, go_of (s := { s with heap := h' }) e c d (by decide) ⟨x, H, I1, ru, ⟨rfl, fun ys hy => by rw [I.tuple_inj hy hq]; exact hx⟩, st', fun b hb => (hf b hb).1⟩⟩
  done := by
    intro X hP hw hK hc i pins s σ H E I hf st hg
    subst hP hw hK
    obtain ⟨xs, hq, hx⟩ := hg
    obtain ⟨its, rv, p, hz⟩ := I.tuple hq
    obtain ⟨f0, f1, f2, f3, f4, f5⟩ := hf it (by simp)
    have hl := rv.length
    exact wpAny_pyNext_tuple_end (I.ok.hd hc) st (show s.heap.IsTuple a its.toArray from p) (by simp; omega) fun h' eb => ⟨rfl, I.turned (t' := s.toks) (fun b o hb e => eb b o hb e) f0 f1 f3 f4 f5⟩
  self := fun _ _ _ _ _ st h => wpAny_pyIter_tupleiter st h
theorem turn_range {P : Program} {w : World} {K : PySem.W.Frag} {tg : Expr} (it : Addr) (lo : Int) (n : Nat) : Turn P w K tg (Itr lo n) [it] it (fun i h => IsRangeIter h it (lo + (i : Nat) * 1) ((n : Int) - (i : Nat)) 1) where
  mem := by simp
  obj := fun i h st b hb => by
    have e : b = it := by simpa using hb
    subst e
    exact ⟨_, st, fun v z => by
      have z' : Data.fields _ = Data.cell v := z
      cases z'⟩
  keep := fun i h h' st k => k it (by simp) _ st
  item := by
    intro X hP hw hK hc i pins s σ H E I hf st hg
    subst hP hw hK
    obtain ⟨f0, f1, f2, f3, f4, f5⟩ := hf it (by simp)
    have W := Walks.range (prog := X.prog) (w := X.w) (I.ok.hd hc) it lo 1 n
    refine W.item i s _ _ hg st fun v h' tk hv st' kk => ?_
    obtain ⟨t, rfl⟩ := hv
    have I1 : Inv X pins σ H { s with heap := h', toks := tk } := I.turned (fun b o hb e => kk b o (by simpa using hb) e) f0 f1 f3 f4 f5
    refine ⟨_, rfl, go_of (s := { s with heap := h', toks := tk }) (n := "range_iterator") st' rfl rfl (by decide) ⟨.int (lo + i), H, I1, ⟨t, ?_⟩, ⟨rfl, rfl⟩, st', fun b hb => (hf b hb).1⟩⟩
    rw [Int.mul_one]
  done := by
    intro X hP hw hK hc i pins s σ H E I hf st hg
    subst hP hw hK
    obtain ⟨f0, f1, f2, f3, f4, f5⟩ := hf it (by simp)
    exact wpAny_pyNext_range_end (I.ok.hd hc) st (by have : n ≤ i := hg; omega) fun h' eb => ⟨rfl, I.turned (t' := s.toks) (fun b o hb e => eb b o hb e) f0 f1 f3 f4 f5⟩
  self := fun _ _ _ _ _ st h => wpAny_pyIter_rangeiter st h
end L2

namespace L2
open PySem PySem.Spec PyProof.Rows
section
variable {X : Cx} {tg : Expr}
/-- a range object just made, walked -/
theorem range_it {pins : List (Addr × Obj)} {σ : St} {H : Hp} {s : Shared} {R : It → Hp → Prop} {E : Value → Shared → Prop} {lo hi : Int} {t u v : Tok} {tk : Nat} (I : Inv X pins σ H s) (h1 : -(2 ^ 62) ≤ lo) (h2 : lo < 2 ^ 62) (h3 : -(2 ^ 62) ≤ hi) (h4 : hi < 2 ^ 62)
    (q : R (Itr lo (hi - lo).toNat) H) : wpAny (model X.prog X.w) X.A (pyIter (.ref s.heap.objs.size)) (PIE X pins σ tg R) E { s with heap := s.heap.push { cls := .type "range", data := .fields #[.int lo t, .int hi u, .int 1 v] }, toks := tk } := by
  refine wpAny_pyIter_range (IsRange.new ..) (small_one h1 h2 h3 h4) ?_
  have I1 : Inv X pins σ H { s with heap := s.heap.push { cls := .type "range", data := .fields #[.int lo t, .int hi u, .int 1 v] }, toks := tk } := I.kept fun b o e => Heap.get?_push_of_some _ e
  refine ⟨(s.heap.push { cls := .type "range", data := .fields #[.int lo t, .int hi u, .int 1 v] }).objs.size, [(s.heap.push { cls := .type "range", data := .fields #[.int lo t, .int hi u, .int 1 v] }).objs.size], _, _, H, rfl,
    I1.kept (t' := tk) fun b o e => Heap.get?_push_of_some _ e, turn_range _ lo (hi - lo).toNat, ?_, fun b hb => ?_, q⟩
  · have e1 : lo + ((0 : Nat) : Int) * 1 = lo := by simp
    have e2 : (((hi - lo).toNat : Nat) : Int) - ((0 : Nat) : Int) = Builtin.Range.rangeSize lo hi 1 := by rw [rangeSize_one]; split <;> omega
    show IsRangeIter _ _ (lo + ((0 : Nat) : Int) * 1) ((((hi - lo).toNat : Nat) : Int) - ((0 : Nat) : Int)) 1
    rw [e1, e2]
    exact Heap.get?_push_size _ rfl
  · have e : b = (s.heap.push { cls := .type "range", data := .fields #[.int lo t, .int hi u, .int 1 v] }).objs.size := by simpa using hb
    subst e
    exact I1.fpOk (Nat.le_refl _) (I1.hok.fresh (Nat.le_refl _))
def iRng1 (ta : TA) : TI := fun σ H R => ta σ H fun vs H1 => ∃ j : Int, vs = [.int j] ∧ -(2 ^ 62) ≤ j ∧ j < 2 ^ 62 ∧ R (Itr 0 j.toNat) H1
theorem pi_range1 {a : Expr} {ta : TA} {p pos : Pos} (hg : Gl X "range") (hm : X.mg "range" = none) (ha : PA X [a] ta) (hs : starEach [a] X.env = [(false, eval a X.env)] := by rfl) : PI X tg (.Call (.Name "range" p) [a] [] pos) (iRng1 ta) := by
  intro pins s σ H R I h
  refine Call_ (ld_blt I hg hm boot_range (PyProof.Rows.callWith_type1 (thn (ha pos pins s σ H _ I h) fun us s1 ⟨vs, H1, I1, r1, q1⟩ => ?_) hs rfl))
  obtain ⟨j, e, q1, q2, q⟩ := q1
  subst e
  cases r1 with
  | cons r rr =>
    cases rr
    obtain ⟨t, rfl⟩ := r
    exact call_range_1 (range_it I1 (by omega) (by omega) q1 q2 (by simpa using q))
/-! ### for -/
/-- W: the invariant by the turn and a measure; N: what the body is to reach -/
def tFor (wi : TI) (g : TG) (tb : TS) : TS := fun D σ H => wi σ H fun J H1 => ∃ W : Nat → Nat → St → Hp → Prop, (∃ m, W 0 m σ H1) ∧ ∀ i m σ H, W i m σ H →
  (J.stop i H ∧ D.nx σ H) ∨ (J.go i H ∧ ∃ N : St → Hp → Prop, (∀ σ' H', N σ' H' → ∃ m', m' < m ∧ W (i + 1) m' σ' H') ∧ ∀ x H', J.yld i H x H' → g x σ H' fun σ2 H2 => tb { D with nx := N, ct := N, bk := D.nx } σ2 H2)
/-- the records at fp as they stand -/
def pinsAt (fp : List Addr) (h : Heap) : List (Addr × Obj) := fp.filterMap fun b => (h.get? b).map fun o => (b, o)
theorem mem_pinsAt {fp : List Addr} {h : Heap} {b : Addr} {o : Obj} (hb : b ∈ fp) (e : h.get? b = some o) : (b, o) ∈ pinsAt fp h := List.mem_filterMap.mpr ⟨b, hb, by rw [e]; rfl⟩
theorem of_pinsAt {fp : List Addr} {h : Heap} {p : Addr × Obj} (hp : p ∈ pinsAt fp h) : p.1 ∈ fp ∧ h.get? p.1 = some p.2 := by
  obtain ⟨b, hb, e⟩ := List.mem_filterMap.mp hp
  cases q : h.get? b with
  | none => rw [q] at e; cases e
  | some o =>
    rw [q] at e
    have e' : (b, o) = p := Option.some.inj e
    subst e'
    exact ⟨hb, q⟩
theorem Inv.pinned {pins : List (Addr × Obj)} {σ : St} {H : Hp} {s : Shared} {fp : List Addr} (I : Inv X pins σ H s) (hf : ∀ b ∈ fp, FpOk X pins H b) (ho : ∀ b ∈ fp, ∃ o, s.heap.get? b = some o ∧ ∀ v, o.data ≠ .cell v) : Inv X (pins ++ pinsAt fp s.heap) σ H s :=
  I.pins_of fun p hp => (List.mem_append.mp hp).elim (fun z => I.pin p (List.mem_append_right _ z)) fun z => by
    obtain ⟨hb, e⟩ := of_pinsAt z
    obtain ⟨f0, f1, f2, _⟩ := hf p.1 hb
    obtain ⟨o, e', d⟩ := ho p.1 hb
    rw [e] at e'; cases e'
    exact ⟨e, f0, f1, f2, d⟩
theorem Inv.unpinned {pins pl : List (Addr × Obj)} {σ : St} {H : Hp} {s : Shared} (I : Inv X (pins ++ pl) σ H s) : Inv X pins σ H s := I.pins_of fun p hp => I.pin p (List.mem_append_right _ (List.mem_append_left _ hp))
theorem ps_for {iter : Expr} {body : List Stmt} {wi : TI} {g : TG} {tb : TS} {pos : Pos} (hp : PassesOwn (model X.prog X.w) X.A X.env X.xe) (hc : X.calm = true) (hi : PI X tg iter wi) (hg : PG X tg g) (hb : PSs X body tb)
    (hs : ∀ x, foldedSetIterable iter X.env x = pure x := by intro _; rfl) : PS X (.For tg iter body [] pos) (tFor wi g tb) := by
  intro pins s σ H D I h
  refine wpAny_For (thn (hi pins s σ H _ I h) fun v s1 h1 => thn h1 fun itv s2 h2 => ?_) hs
  obtain ⟨it, fp, tn, J, H2, e, I2, T, st2, f2, W, ⟨m0, w0⟩, turn⟩ := h2
  subst e
  -- what stays true of the iterator's objects through the loop
  have stat : ∀ {H' : Hp}, (∀ b ∈ fp, H' b = none) → ∀ b ∈ fp, FpOk X pins H' b := fun hn b hb => ⟨hn b hb, (f2 b hb).2⟩
  refine codeAny_forLoop_any (fun n s' => ∃ i σ' H', Inv X pins σ' H' s' ∧ tn i s'.heap ∧ (∀ b ∈ fp, H' b = none) ∧ W i n σ' H') ?_ m0 ⟨0, σ, H2, I2, st2, fun b hb => (f2 b hb).1, w0⟩
  rintro n s3 ⟨i, σ3, H3, I3, st3, fr3, w3⟩
  rcases turn i n σ3 H3 w3 with ⟨stop, qn⟩ | ⟨go, N, hN, step⟩
  · refine wpAny_passesOwn hp (thn (T.done X rfl rfl rfl hc i pins s3 σ3 H3 X.xe I3 (stat fr3) st3 stop) fun r s4 ⟨hr, I4⟩ => ?_)
    subst hr
    exact wpAny_execs_nil ⟨σ3, H3, I4, qn⟩
  · refine wpAny_passesOwn hp (thn (T.item X rfl rfl rfl hc i pins s3 σ3 H3 X.xe I3 (stat fr3) st3 go) fun r s4 ⟨u, hr, h4⟩ => ?_)
    subst hr
    refine wpAny_passesOwn hp (thn h4 fun _ s5 ⟨x, H5, I5, r5, y5, st5, fr5⟩ => ?_)
    have I5' := I5.pinned (stat fr5) (T.obj _ _ st5)
    refine wpAny_passesOwn hp (thn (hg _ s5 σ3 H5 x u _ I5' r5 (step x H5 y5)) fun _ s6 ⟨σ6, H6, I6, q6⟩ => ?_)
    refine wpAny_passesOwn hp (thn (hb _ s6 σ6 H6 _ I6 q6) fun f s7 q7 => ?_)
    have again : ∀ {σ7 : St} {H7 : Hp}, Inv X (pins ++ pinsAt fp s5.heap) σ7 H7 s7 → N σ7 H7 → ∃ m, m < n ∧ ∃ i σ' H', Inv X pins σ' H' s7 ∧ tn i s7.heap ∧ (∀ b ∈ fp, H' b = none) ∧ W i m σ' H' := fun {σ7 H7} I7 n7 => by
      obtain ⟨m', hm, w7⟩ := hN σ7 H7 n7
      refine ⟨m', hm, i + 1, σ7, H7, I7.unpinned, T.keep _ _ _ st5 fun b hb o e => (I7.pin (b, o) (List.mem_append_right _ (List.mem_append_right _ (mem_pinsAt hb e)))).1, fun b hb => ?_, w7⟩
      obtain ⟨o, e, d⟩ := T.obj _ _ st5 b hb
      exact (I7.pin (b, o) (List.mem_append_right _ (List.mem_append_right _ (mem_pinsAt hb e)))).2.1
    cases f with
    | next => obtain ⟨σ7, H7, I7, n7⟩ := q7; exact again I7 n7
    | cont => obtain ⟨σ7, H7, I7, n7⟩ := q7; exact again I7 n7
    | brk => obtain ⟨σ7, H7, I7, q7⟩ := q7; exact ⟨σ7, H7, I7.unpinned, q7⟩
    | ret v => obtain ⟨x7, σ7, H7, I7, r7, q7⟩ := q7; exact ⟨x7, σ7, H7, I7.unpinned, r7, q7⟩
end

/-! ### the forms one uses -/
end L2

namespace L2
open PySem PySem.Spec PyProof.Rows

abbrev R2 := V → V → Hp → VK → Prop
/-- a two-place operation on values: f is binaryOp op, inplaceOp op or compareOp op -/
def OpR (X : Cx) (f : Value → Value → Sem Value) (r : R2) : Prop :=
  ∀ (pins : List (Addr × Obj)) (s : Shared) (σ : St) (H : Hp) (x y : V) (v u : Value) (Q : VK), Inv X pins σ H s → RelV x v → RelV y u → r x y H Q →
    wpAny (model X.prog X.w) X.A (f v u) (EP X pins σ Q) X.xe s
/-- a call of a value that is known (a builtin, a type) with values -/
def CallR (X : Cx) (f : Value) (r : List V → Hp → VK → Prop) : Prop :=
  ∀ (pins : List (Addr × Obj)) (s : Shared) (σ : St) (H : Hp) (xs : List V) (us : List Value) (Q : VK), Inv X pins σ H s → Vals xs us → r xs H Q →
    wpAny (model X.prog X.w) X.A (call f us) (EP X pins σ Q) X.xe s
/-- a value's truth -/
def TruR (X : Cx) (r : V → Hp → (Bool → Hp → Prop) → Prop) : Prop :=
  ∀ (pins : List (Addr × Obj)) (s : Shared) (σ : St) (H : Hp) (x : V) (v : Value) (Q : Bool → Hp → Prop), Inv X pins σ H s → RelV x v → r x H Q →
    wpAny (model X.prog X.w) X.A (truthy v) (TP X pins σ Q) X.xe s

def tOp (r : R2) (ta tb : TE) : TE := fun σ H Q => ta σ H fun x H1 => tb σ H1 fun y H2 => r x y H2 Q
/-- ints in, under C, and a value out -/
def rI (C : Int → Int → Prop) (g : Int → Int → V) : R2 := fun x y H Q => ∃ i j, x = .int i ∧ y = .int j ∧ C i j ∧ Q (g i j) H
def rI0 (g : Int → Int → V) : R2 := fun x y H Q => ∃ i j, x = .int i ∧ y = .int j ∧ Q (g i j) H
section
variable {X : Cx} {a b c : Expr} {ta tb tc : TE} {pos : Pos}

theorem binT (ha : PE X a ta) (hb : PE X b tb) {pins : List (Addr × Obj)} {s : Shared} {σ : St} {H : Hp} {R : V → V → Hp → Prop} (I : Inv X pins σ H s)
    (h : ta σ H fun x H1 => tb σ H1 fun y H2 => R x y H2) {Q : Value → Shared → Prop} {f : Value → Value → Sem Value}
    (hf : ∀ v u s2 x y H2, Inv X pins σ H2 s2 → RelV x v → RelV y u → R x y H2 → wpAny (model X.prog X.w) X.A (f v u) Q X.xe s2) :
    wpAny (model X.prog X.w) X.A (eval a X.env) (fun v s₁ => wpAny (model X.prog X.w) X.A (eval b X.env) (fun u s₂ => wpAny (model X.prog X.w) X.A (f v u) Q X.xe s₂) X.xe s₁) X.xe s := by
  refine thn (ha pins s σ H _ I h) fun v s1 ⟨x, H1, I1, r1, q1⟩ => ?_
  refine thn (hb pins s1 σ H1 _ I1 q1) fun u s2 ⟨y, H2, I2, r2, q2⟩ => ?_
  exact hf v u s2 x y H2 I2 r1 r2 q2

theorem pe_op {op : Operator} {r : R2} (ho : OpR X (binaryOp op) r) (ha : PE X a ta) (hb : PE X b tb) : PE X (.BinOp a op b pos) (tOp r ta tb) := by
  intro pins s σ H Q I h
  exact wpAny_BinOp (binT ha hb I h fun v u s2 x y H2 I2 rx ry q => ho pins s2 σ H2 x y v u Q I2 rx ry q)
/-! ### ints -/
theorem opI {f : Value → Value → Sem Value} {C : Int → Int → Prop} {g : Int → Int → Int}
    (rule : ∀ (i j : Int) (t u : Tok) (s : Shared) (Q : Value → Shared → Prop) (E : Value → Shared → Prop), C i j → Q (.int (g i j) s.toks) { s with toks := s.toks + 1 } → wpAny (model X.prog X.w) X.A (f (.int i t) (.int j u)) Q E s) :
    OpR X f (rI C fun i j => .int (g i j)) := by
  intro pins s σ H x y v u Q I rx ry h
  obtain ⟨i, j, rfl, rfl, hc, q⟩ := h
  obtain ⟨t, rfl⟩ := rx
  obtain ⟨t', rfl⟩ := ry
  exact rule i j t t' s _ _ hc ⟨.int (g i j), H, I.tok _, ⟨_, rfl⟩, q⟩
theorem opI0 {f : Value → Value → Sem Value} {g : Int → Int → Int}
    (rule : ∀ (i j : Int) (t u : Tok) (s : Shared) (Q : Value → Shared → Prop) (E : Value → Shared → Prop), Q (.int (g i j) s.toks) { s with toks := s.toks + 1 } → wpAny (model X.prog X.w) X.A (f (.int i t) (.int j u)) Q E s) :
    OpR X f (rI0 fun i j => .int (g i j)) := by
  intro pins s σ H x y v u Q I rx ry h
  obtain ⟨i, j, rfl, rfl, q⟩ := h
  obtain ⟨t, rfl⟩ := rx
  obtain ⟨t', rfl⟩ := ry
  exact rule i j t t' s _ _ ⟨.int (g i j), H, I.tok _, ⟨_, rfl⟩, q⟩
theorem opB0 {f : Value → Value → Sem Value} {g : Int → Int → Bool}
    (rule : ∀ (i j : Int) (t u : Tok) (s : Shared) (Q : Value → Shared → Prop) (E : Value → Shared → Prop), Q (.bool (g i j)) s → wpAny (model X.prog X.w) X.A (f (.int i t) (.int j u)) Q E s) :
    OpR X f (rI0 fun i j => .bl (g i j)) := by
  intro pins s σ H x y v u Q I rx ry h
  obtain ⟨i, j, rfl, rfl, q⟩ := h
  obtain ⟨t, rfl⟩ := rx
  obtain ⟨t', rfl⟩ := ry
  exact rule i j t t' s _ _ ⟨.bl (g i j), H, I, rfl, q⟩

def CDiv (i j : Int) : Prop := 0 < j ∧ j < 1073741824
def CPow (i j : Int) : Prop := 0 ≤ j ∧ j ≤ 1000000 ∧ i.natAbs < 2 ^ 64
def CMul (i j : Int) : Prop := (-(2 ^ 64) < i ∧ i < 2 ^ 64) ∨ (-(2 ^ 64) < j ∧ j < 2 ^ 64)
theorem CMul.ok {i j : Int} (h : CMul i j) : IntMulOk i j := by
  rcases h with ⟨h1, h2⟩ | ⟨h1, h2⟩
  · exact .of_left (intBits_le_64 h1 h2)
  · exact .of_right (intBits_le_64 h1 h2)
theorem op_add : OpR X (binaryOp .Add) (rI0 fun i j => .int (i + j)) := opI0 fun _ _ _ _ _ _ _ q => add_int q
theorem op_sub : OpR X (binaryOp .Sub) (rI0 fun i j => .int (i - j)) := opI0 fun _ _ _ _ _ _ _ q => sub_int q
theorem op_mul : OpR X (binaryOp .Mult) (rI CMul fun i j => .int (i * j)) := opI fun _ _ _ _ _ _ _ hc q => mul_int q hc.ok
/-- // by a positive divisor -/
theorem op_fdiv : OpR X (binaryOp .FloorDiv) (rI CDiv fun i j => .int (i / j)) := opI fun i j _ _ _ _ _ hc q => by
  have h1 : (0 : Int) < j := hc.1
  have h2 : j < 1073741824 := hc.2
  exact floordiv_int (by omega) (by rw [Int.fdiv_eq_ediv_of_nonneg i (by omega)]; exact q) (.inl (PyProof.noPylong_small (by omega)))
/-- % by a positive divisor of any size -/
theorem op_mod : OpR X (binaryOp .Mod) (rI (fun _ j => 0 < j) fun i j => .int (i % j)) := opI fun i j _ _ _ _ _ hc q => by
  have h1 : (0 : Int) < j := hc
  exact mod_int' (by omega) (by rw [Int.fmod_eq_emod_of_nonneg i (by omega)]; exact q)
theorem op_pow : OpR X (binaryOp .Pow) (rI CPow fun i j => .int (i ^ j.toNat)) := opI fun _ _ _ _ _ _ _ hc q => pow_int_small hc.1 hc.2.1 hc.2.2 q
theorem op_shl : OpR X (binaryOp .LShift) (rI CPow fun i j => .int (i * 2 ^ j.toNat)) := opI fun _ _ _ _ _ _ _ hc q => lshift_int_small hc.1 hc.2.1 hc.2.2 q
/-! ### bools among ints: n += (a < b) -/
end

/-! ### comparisons -/
section
variable {X : Cx} {a b c : Expr} {ta tb tc : TE} {pos : Pos}
theorem fin_bl {pins : List (Addr × Obj)} {σ : St} {H : Hp} {s : Shared} {Q : VK} {k k' : Bool} (I : Inv X pins σ H s) (q : Q (.bl k) H) (e : k = k') : EP X pins σ Q (.bool k') s := by
  subst e
  exact ⟨.bl k, H, I, rfl, q⟩
theorem op_lt : OpR X (compareOp .Lt) (rI0 fun i j => .bl (decide (i < j))) := opB0 fun _ _ _ _ _ _ _ q => lt_int q
theorem op_le : OpR X (compareOp .LtE) (rI0 fun i j => .bl (decide (i ≤ j))) := opB0 fun _ _ _ _ _ _ _ q => le_int q
theorem op_ge : OpR X (compareOp .GtE) (rI0 fun i j => .bl (decide (j ≤ i))) := opB0 fun _ _ _ _ _ _ _ q => ge_int q
theorem op_lt_str : OpR X (compareOp .Lt) (fun x y H Q => ∃ i j, x = .str i ∧ y = .str j ∧ Q (.bl (decide (i.cps.toList < j.cps.toList))) H) := by
  intro pins s σ H x y v u Q I rx ry h
  obtain ⟨i, j, rfl, rfl, q⟩ := h
  obtain ⟨t, rfl⟩ := rx
  obtain ⟨t', rfl⟩ := ry
  exact lt_str (fin_bl I q rfl)
/-- the one string within the other -/
theorem op_in_str : OpR X (compareOp .In) (fun x y H Q => ∃ i j, x = .str i ∧ y = .str j ∧ Q (.bl (!(Builtin.Str.occurrences j i 0 j.length 1).isEmpty)) H) := by
  intro pins s σ H x y v u Q I rx ry h
  obtain ⟨i, j, rfl, rfl, q⟩ := h
  obtain ⟨t, rfl⟩ := rx
  obtain ⟨t', rfl⟩ := ry
  exact in_str (fin_bl I q rfl)

/-- is None, is not None: the right side a value none -/
theorem op_isN : OpR X (compareOp .Is) (fun x y H Q => y = .non ∧ Q (.bl (decide (x = .non))) H) := by
  intro pins s σ H x y v u Q I rx ry h
  obtain ⟨rfl, q⟩ := h
  cases ry
  refine is_none_gen (fin_bl I q ?_)
  cases x <;> first
    | (cases rx; rfl)
    | (obtain ⟨t, rfl⟩ := rx; rfl)
theorem op_notin_str : OpR X (compareOp .NotIn) (fun x y H Q => ∃ i j, x = .str i ∧ y = .str j ∧ Q (.bl (!(!(Builtin.Str.occurrences j i 0 j.length 1).isEmpty))) H) := by
  intro pins s σ H x y v u Q I rx ry h
  obtain ⟨i, j, rfl, rfl, q⟩ := h
  obtain ⟨t, rfl⟩ := rx
  obtain ⟨t', rfl⟩ := ry
  exact notIn_str (fin_bl I q rfl)
/-- two rules for one operation: by cases -/
theorem OpR.or {f : Value → Value → Sem Value} {r r' : R2} (h : OpR X f r) (h' : OpR X f r') : OpR X f (fun x y H Q => r x y H Q ∨ r' x y H Q) := by
  intro pins s σ H x y v u Q I rx ry q
  rcases q with q | q
  · exact h pins s σ H x y v u Q I rx ry q
  · exact h' pins s σ H x y v u Q I rx ry q

theorem nomark (b : Expr) {op : CmpOp} (h : op ≠ .In := by decide) (h2 : op ≠ .NotIn := by decide) : behindInMarks op b = false := by
  have e1 : (op == CmpOp.In) = false := by cases op <;> first | rfl | exact absurd rfl h
  have e2 : (op == CmpOp.NotIn) = false := by cases op <;> first | rfl | exact absurd rfl h2
  cases b <;> simp [behindInMarks, e1, e2]
/-- a comparison as a value; hm: nomark b, or (for in, not in) by with_unfolding_all rfl -/
theorem pe_cmpR {op : CmpOp} {r : R2} (ho : OpR X (compareOp op) r) (ha : PE X a ta) (hb : PE X b tb) (hm : behindInMarks op b = false) : PE X (.Compare a [op] [b] pos) (tOp r ta tb) := by
  intro pins s σ H Q I h
  exact wpAny_Compare1 (binT ha hb I h fun v u s2 x y H2 I2 rx ry q => ho pins s2 σ H2 x y v u Q I2 rx ry q) hm
/-- a reading of a value as a test -/
def tTest (t : TE) : TT := fun σ H Q => t σ H fun x H' => ∃ k, x = .bl k ∧ Q k H'
theorem pt_cmpR {op : CmpOp} {r : R2} (ho : OpR X (compareOp op) r) (ha : PE X a ta) (hb : PE X b tb) (hm : behindInMarks op b = false) : PT X (.Compare a [op] [b] pos) (tTest (tOp r ta tb)) := by
  intro pins s σ H Q I h
  refine wpAny_isTrue_Compare1 (thn (ha pins s σ H _ I h) fun v s1 ⟨x, H1, I1, r1, q1⟩ => thn (hb pins s1 σ H1 _ I1 q1) fun u s2 ⟨y, H2, I2, r2, q2⟩ =>
    thn (ho pins s2 σ H2 x y v u _ I2 r1 r2 q2) fun c s3 ⟨z, H3, I3, r3, k, e, q3⟩ => ?_) hm
  subst e
  cases r3
  exact wpAny_truthy_bool ⟨H3, I3, q3⟩
/-- a op1 b op2 c -/
def tChain (r r' : R2) (ta tb tc : TE) : TE := fun σ H Q => ta σ H fun x H1 => tb σ H1 fun y H2 => r x y H2 fun z H3 => ∃ k, z = .bl k ∧
  (if k = true then tc σ H3 fun w' H4 => r' y w' H4 Q else Q (.bl false) H3)
theorem pe_chain {op op' : CmpOp} {r r' : R2} (ho : OpR X (compareOp op) r) (ho' : OpR X (compareOp op') r') (ha : PE X a ta) (hb : PE X b tb) (hc : PE X c tc)
    (hm : lastMarks [op, op'] [b, c] = false := by with_unfolding_all rfl) : PE X (.Compare a [op, op'] [b, c] pos) (tChain r r' ta tb tc) := by
  intro pins s σ H Q I h
  refine Compare_chain (thn (ha pins s σ H _ I h) fun v s1 ⟨x, H1, I1, r1, q1⟩ => chain_link (thn (hb pins s1 σ H1 _ I1 q1) fun u s2 ⟨y, H2, I2, r2, q2⟩ =>
    thn (ho pins s2 σ H2 x y v u _ I2 r1 r2 q2) fun d s3 ⟨z, H3, I3, r3, k, e, q3⟩ => ?_)) hm
  subst e
  cases r3
  refine wpAny_truthy_bool ?_
  cases k with
  | false => exact ite_ff ⟨.bl false, H3, I3, rfl, q3⟩
  | true => exact ite_tt (chain_last (thn (hc pins s3 σ H3 _ I3 q3) fun w' s4 ⟨z', H4, I4, r4, q4⟩ => ho' pins s4 σ H4 y z' u w' Q I4 r2 r4 q4))
/-! ### truth -/
/-- a value's truth by the abstract heap -/
def TruV (K : PySem.W.Frag) (x : V) (H : Hp) (k : Bool) : Prop :=
  match x with
  | .non => k = false
  | .bl b => k = b
  | .int i => k = (i != 0)
  | .str y => y.length ≤ sizeLine ∧ k = ((y.length : Int) != 0)
  | .byt y => y.size ≤ sizeLine ∧ k = ((y.size : Int) != 0)
  | .ref p => (∃ xs, SqL K H p xs ∧ k = !xs.isEmpty) ∨ (∃ xs, SqT K H p xs ∧ k = !xs.isEmpty) ∨ ∃ kvs, H p = some (.dK kvs) ∧ k = !kvs.isEmpty
  | _ => False
theorem isEmpty_kv {κ : Type} {kvs : List (κ × V)} {vs : List (κ × Value)} (r : KV kvs vs) : (!vs.isEmpty) = !kvs.isEmpty := by
  cases r <;> rfl
theorem isEmpty_of {xs : List V} {its : List Value} (r : Vals xs its) : (!its.toArray.isEmpty) = !xs.isEmpty := by
  cases r <;> simp
theorem line63 : (sizeLine : Nat) < 2 ^ 63 := by rw [sizeLine_eq]; decide
theorem tru_ok : TruR X (fun x H Q => ∃ k, TruV X.K x H k ∧ Q k H) := by
  intro pins s σ H x v Q I rx h
  obtain ⟨k, e, q⟩ := h
  have hl := line63
  have hs : sizeLine = 16777216 := sizeLine_eq
  cases x with
  | non =>
    cases rx
    have e' : k = false := e
    subst e'
    exact truthy_none ⟨H, I, q⟩
  | bl b =>
    cases rx
    have e' : k = b := e
    subst e'
    exact wpAny_truthy_bool ⟨H, I, q⟩
  | int i =>
    obtain ⟨t, rfl⟩ := rx
    have e' : k = (i != 0) := e
    subst e'
    exact PySem.P.truthy_int ⟨H, I, q⟩
  | str y =>
    obtain ⟨t, rfl⟩ := rx
    obtain ⟨hy, e'⟩ : y.length ≤ sizeLine ∧ k = ((y.length : Int) != 0) := e
    subst e'
    exact PySem.P.truthy_str (by omega) ⟨H, I.tok _, q⟩
  | byt y =>
    obtain ⟨t, rfl⟩ := rx
    obtain ⟨hy, e'⟩ : y.size ≤ sizeLine ∧ k = ((y.size : Int) != 0) := e
    subst e'
    exact PySem.W.truthy_bytes (by omega) ⟨H, I.tok _, q⟩
  | ref p =>
    cases rx
    have e' : (∃ xs, SqL X.K H p xs ∧ k = !xs.isEmpty) ∨ (∃ xs, SqT X.K H p xs ∧ k = !xs.isEmpty) ∨ ∃ kvs, H p = some (.dK kvs) ∧ k = !kvs.isEmpty := e
    rcases e' with ⟨xs, hx, e'⟩ | ⟨xs, hx, e'⟩ | ⟨kvs, hx, e'⟩
    · subst e'
      obtain ⟨its, r, pl, hz⟩ := I.list hx
      have hlen := r.length
      exact wpAny_truthy_list pl.isList (by simp only [List.size_toArray]; omega) ⟨H, I.tok _, by rw [isEmpty_of r]; exact q⟩
    · subst e'
      obtain ⟨its, r, pl, hz⟩ := I.tuple hx
      have hlen := r.length
      exact truthy_tuple pl (by simp only [List.size_toArray]; omega) ⟨H, I.tok _, by rw [isEmpty_of r]; exact q⟩
    · subst e'
      obtain ⟨hz, hS, vs, r, m⟩ : kvs.length ≤ sizeLine ∧ (p == sysModules) = false ∧ ∃ vs, KV kvs vs ∧ s.heap.DictOf (mixKind X.prog X.w) p vs := I.hok p _ hx
      have hlen : kvs.length = vs.length := Paired.length r
      exact wpAny_truthy_dict hS m (by omega) ⟨H, I.tok _, by rw [isEmpty_kv r]; exact q⟩
  | _ => exact (show False from e).elim
/-- any expression whose test is its value's truth (a name, a call, a subscript, a field ..: he by fun _ => rfl) -/
theorem pt_truth (ha : PE X a ta) (he : ∀ whole, isTrue a X.env whole = (do let v ← whole; standAt a.pos; holding [v] (truthy v))) :
    PT X a (fun σ H Q => ta σ H fun x H' => ∃ k, TruV X.K x H' k ∧ Q k H') := by
  intro pins s σ H Q I h
  exact isTrue_plain (thn (ha pins s σ H _ I h) fun v s1 ⟨x, H1, I1, r1, q1⟩ => tru_ok pins s1 σ H1 x v Q I1 r1 q1) (he _)

/-! ### strs and bytes -/
theorem op_add_str : OpR X (binaryOp .Add) (fun x y H Q => ∃ i j, x = .str i ∧ y = .str j ∧ i.length + j.length ≤ sizeLine ∧ Q (.str (i ++ j)) H) := by
  intro pins s σ H x y v u Q I rx ry h
  obtain ⟨i, j, rfl, rfl, hz, q⟩ := h
  obtain ⟨t, rfl⟩ := rx
  obtain ⟨t', rfl⟩ := ry
  exact add_str (fun t' tk => ⟨.str (i ++ j), H, I.tok _, ⟨_, rfl⟩, q⟩) hz
/-! ### scalar builtins, by CallR -/
theorem vals1 {x : V} {us : List Value} (r : Vals [x] us) : ∃ u, us = [u] ∧ RelV x u := by
  cases r with
  | cons r1 r2 => cases r2; exact ⟨_, rfl, r1⟩
theorem vals2 {x y : V} {us : List Value} (r : Vals [x, y] us) : ∃ u w', us = [u, w'] ∧ RelV x u ∧ RelV y w' := by
  cases r with
  | cons r1 r2 =>
    cases r2 with
    | cons r3 r4 => cases r4; exact ⟨_, _, rfl, r1, r3⟩
theorem call_max2 (hc : X.calm = true) : CallR X (.builtin "max") (fun xs H Q => ∃ i j, xs = [.int i, .int j] ∧ Q (.int (if j > i then j else i)) H) := by
  intro pins s σ H xs us Q I r h
  obtain ⟨i, j, rfl, q⟩ := h
  obtain ⟨u, w', rfl, ⟨t, rfl⟩, ⟨t', rfl⟩⟩ := vals2 r
  refine max_two_ints (I.ok.hd hc) fun h' tk k => ⟨_, H, I.kept k, ?_, q⟩
  by_cases hj : j > i
  · rw [if_pos hj, if_pos hj]; exact ⟨_, rfl⟩
  · rw [if_neg hj, if_neg hj]; exact ⟨_, rfl⟩
theorem call_min2 (hc : X.calm = true) : CallR X (.builtin "min") (fun xs H Q => ∃ i j, xs = [.int i, .int j] ∧ Q (.int (if j < i then j else i)) H) := by
  intro pins s σ H xs us Q I r h
  obtain ⟨i, j, rfl, q⟩ := h
  obtain ⟨u, w', rfl, ⟨t, rfl⟩, ⟨t', rfl⟩⟩ := vals2 r
  refine min_two_ints (I.ok.hd hc) fun h' tk k => ⟨_, H, I.kept k, ?_, q⟩
  by_cases hj : j < i
  · rw [if_pos hj, if_pos hj]; exact ⟨_, rfl⟩
  · rw [if_neg hj, if_neg hj]; exact ⟨_, rfl⟩
theorem call_int1 : CallR X (.type "int") (fun xs H Q => (∃ i, xs = [.int i] ∧ Q (.int i) H) ∨ ∃ k, xs = [.bl k] ∧ Q (.int (if k then 1 else 0)) H) := by
  intro pins s σ H xs us Q I r h
  rcases h with ⟨i, rfl, q⟩ | ⟨k, rfl, q⟩
  · obtain ⟨u, rfl, t, rfl⟩ := vals1 r
    exact call_int_int ⟨.int i, H, I, ⟨_, rfl⟩, q⟩
  · obtain ⟨u, rfl, r1⟩ := vals1 r
    cases r1
    exact call_int_bool ⟨.int (if k then 1 else 0), H, I.tok _, ⟨_, rfl⟩, q⟩
theorem call_str_int : CallR X (.type "str") (fun xs H Q => ∃ i, xs = [.int i] ∧ i.natAbs.log2 < 1920 ∧ Q (.str (toString i)) H) := by
  intro pins s σ H xs us Q I r h
  obtain ⟨i, rfl, hz, q⟩ := h
  obtain ⟨u, rfl, t, rfl⟩ := vals1 r
  exact PySem.P.str_of_int hz ⟨.str _, H, I.tok _, ⟨_, rfl⟩, q⟩
/-- len of a str, a bytes, a list, a tuple -/
def LenV (K : PySem.W.Frag) (x : V) (H : Hp) (n : Nat) : Prop :=
  match x with
  | .str y => y.length ≤ sizeLine ∧ n = y.length
  | .byt y => y.size ≤ sizeLine ∧ n = y.size
  | .ref p => (∃ xs, SqL K H p xs ∧ n = xs.length) ∨ ∃ xs, SqT K H p xs ∧ n = xs.length
  | _ => False
theorem call_len : CallR X (.builtin "len") (fun xs H Q => ∃ x n, xs = [x] ∧ LenV X.K x H n ∧ Q (.int n) H) := by
  intro pins s σ H xs us Q I r h
  obtain ⟨x, n, rfl, e, q⟩ := h
  obtain ⟨u, rfl, rx⟩ := vals1 r
  have hl := line63
  have hs : sizeLine = 16777216 := sizeLine_eq
  cases x with
  | str y =>
    obtain ⟨t, rfl⟩ := rx
    obtain ⟨hy, e'⟩ : y.length ≤ sizeLine ∧ n = y.length := e
    subst e'
    exact len_str (by omega) ⟨.int _, H, I.tok _, ⟨_, rfl⟩, q⟩
  | byt y =>
    obtain ⟨t, rfl⟩ := rx
    obtain ⟨hy, e'⟩ : y.size ≤ sizeLine ∧ n = y.size := e
    subst e'
    exact PySem.W.len_bytes (by omega) ⟨.int _, H, I.tok _, ⟨_, rfl⟩, q⟩
  | ref p =>
    cases rx
    have e' : (∃ xs, SqL X.K H p xs ∧ n = xs.length) ∨ ∃ xs, SqT X.K H p xs ∧ n = xs.length := e
    rcases e' with ⟨xs, hx, e'⟩ | ⟨xs, hx, e'⟩
    · subst e'
      obtain ⟨its, r', pl, hz⟩ := I.list hx
      have hlen := r'.length
      exact Calls.call_len_list pl.isList (by simp only [List.size_toArray]; omega) ⟨.int xs.length, H, I.tok _, ⟨_, by simp only [List.size_toArray]; rw [hlen]⟩, q⟩
    · subst e'
      obtain ⟨its, r', pl, hz⟩ := I.tuple hx
      have hlen := r'.length
      exact len_tuple pl (by simp only [List.size_toArray]; omega) ⟨.int xs.length, H, I.tok _, ⟨_, by simp only [List.size_toArray]; rw [hlen]⟩, q⟩
  | _ => exact (show False from e).elim
end
end L2

namespace L2
open PySem PySem.Spec PyProof.Rows

/-! ### an instance, its attributes a map -/
structure ObjM (h : Heap) (x dx C : Addr) (mA : Str → Option Value) : Prop where
  obj : h.get? x = some (PySem.W.instObj C dx)
  ns : h.Ns1 dx mA
  ne : dx ≠ x

section
variable {prog : Program} {w : World} {A : Around} {E : Value → Shared → Prop} {s : Shared} {K : PySem.W.Frag} {x dx C f : Addr} {mA : Str → Option Value} {name : Str} {v : Value}

end

/-! ### the attributes as a list of pairs -/
section
variable {P : Program} {w : World} {H H' : Hp} {h h' : Heap} {a C dx : Addr} {fs fs' : List (Str × V)}
end

/-! ### what of the text a class must have -/
structure Cls (K : PySem.W.Frag) (C : Addr) : Prop where
  pg : PySem.W.plainGet K C Str.empty = true
  hd : PySem.W.hasDictIn K C = true
  po : PySem.W.plainOver K C = true
  sa : PySem.W.findIn K (.ref C) "__setattr__" = some (some (.builtin "object.__setattr__"))
theorem Cls.get {K : PySem.W.Frag} {C : Addr} (c : Cls K C) (f : Str) : PySem.W.plainGet K C f = true := c.pg
/-- a constant of the class -/
structure Con (K : PySem.W.Frag) (C : Addr) (f : Str) (v : V) (u : Value) : Prop where
  at_ : PySem.W.findIn K (.ref C) f = some (some u)
  rel : RelV v u
  get : PySem.W.specialIn K u "__get__" = some none
  cp : PySem.W.copiedNames.contains f = false
/-- a method: a plain def of the class or of one above it -/
structure Meth (K : PySem.W.Frag) (C : Addr) (m : Str) (f : Addr) : Prop where
  at_ : PySem.W.findIn K (.ref C) m = some (some (.ref f))
  fn : PySem.W.isFn K (.ref f) = true
  kp : PySem.W.keepIn K (.ref f) = true

section
variable {X : Cx} {pins : List (Addr × Obj)} {σ : St} {H : Hp} {s : Shared} {a C dx : Addr} {fs : List (Str × V)} {f : Str} {v : V} {A : Around} {E : Value → Shared → Prop}

end

/-! ### readings and rules -/
section
variable {X : Cx} {o e value : Expr} {f : Str} {pos pos' tpos : Pos} {ta tv : TE}
end

/-! ### isinstance -/
section
variable {X : Cx} {pins : List (Addr × Obj)} {σ : St} {H : Hp} {s : Shared} {A : Around} {E : Value → Shared → Prop} {Q : Value → Shared → Prop} {c : Value} {b : Bool}
/-- the type of a value, as the fragment's deciders take it; for an instance its class -/
inductive TyOf (K : PySem.W.Frag) (H : Hp) : V → Value → Prop where
  | non : TyOf K H .non (.type "NoneType")
  | bl (x : Bool) : TyOf K H (.bl x) (.type "bool")
  | int (i : Int) : TyOf K H (.int i) (.type "int")
  | str (x : Str) : TyOf K H (.str x) (.type "str")
  | flt (x : UInt64) : TyOf K H (.flt x) (.type "float")
  | lst {a : Addr} {xs : List V} (e : H a = some (.lst xs)) : TyOf K H (.ref a) (.type "list")
  | frz {a : Addr} {o : Obj} {xs : List V} (e : H a = some (.frz o (.lst xs))) : TyOf K H (.ref a) (.type "list")
  | tup {a : Addr} {xs : List V} (e : H a = some (.tup xs)) : TyOf K H (.ref a) (.type "tuple")
  | dK {a : Addr} {kvs : List (Key × V)} (e : H a = some (.dK kvs)) : TyOf K H (.ref a) (.type "dict")
  | dT {a : Addr} {kvs : List (List Key × V)} (e : H a = some (.dT kvs)) : TyOf K H (.ref a) (.type "dict")
  | ins {a C dx : Addr} {fs : List (Str × V)} (e : H a = some (.ins C dx fs)) (cl : Cls K C) (ha : PySem.W.findIn K (.ref C) "__class__" = some (some (.builtin "object.__class__")))
      (hn : PySem.W.specialIn K (.builtin "object.__class__") "__get__" = some (some (.builtin "getset_descriptor.__get__"))) (htk : PySem.W.takesIn K (.builtin "object.__class__") = some true)
      (hm : PySem.W.mroIn K C (.type "object") = some true) : TyOf K H (.ref a) (.ref C)
end
end L2

namespace L2
open PySem PySem.Spec PyProof.Rows

/-! ### room -/
structure Room (k : Nat) (A : Around) : Prop where
  hd : A.handled = none
  dp : A.depth + 3 * k + 5 < recursionLimit
  un : A.units + 16 * k + 200 < cLine
theorem Room.mono {j k : Nat} {A : Around} (r : Room k A) (h : j ≤ k) : Room j A := ⟨r.hd, by have := r.dp; omega, by have := r.un; omega⟩
theorem Room.deeper {k : Nat} {A : Around} (r : Room (k + 1) A) (env : Env) : Room k (A.deeper env) :=
  ⟨r.hd, by have := r.dp; show A.depth + 1 + 3 * k + 5 < _; omega, by have := r.un; show A.units + 3 + 16 * k + 200 < _; omega⟩
theorem Room.depth {k : Nat} {A : Around} (r : Room k A) : A.depth < recursionLimit := by have := r.dp; omega
theorem Room.units {k : Nat} {A : Around} (r : Room k A) : A.units + 64 < cLine := by have := r.un; omega
/-! ### argument lists and displays -/
def tNil : TA := fun _ H Q => Q [] H
def tCons (ta : TE) (tr : TA) : TA := fun σ H Q => ta σ H fun x H1 => tr σ H1 fun xs H2 => Q (x :: xs) H2
section
variable {X : Cx} {e : Expr} {es : List Expr} {te : TE} {t : TA} {pos : Pos}
theorem pa_nil : PA X [] tNil := fun _ _ _ _ H Q I h => Calls.spliced_nil ⟨[], H, I, .nil, h⟩
theorem pa_cons (ha : PE X e te) (hr : PA X es t) (hs : starEach (e :: es) X.env = (false, eval e X.env) :: starEach es X.env := by rfl) : PA X (e :: es) (tCons te t) := by
  intro pos pins s σ H Q I h
  rw [hs]
  show wpAny _ _ (spliced ((false, eval e X.env) :: backTo pos (starEach es X.env))) _ _ s
  refine Calls.spliced_cons (thn (ha pins s σ H _ I h) fun u s1 ⟨x, H1, I1, r1, q1⟩ => ?_)
  exact thn (hr pos pins s1 σ H1 _ I1 q1) fun us s2 ⟨xs, H2, I2, r2, q2⟩ => ⟨x :: xs, H2, I2, .cons r1 r2, q2⟩

/-- a tuple, a list of written items -/
def tTup (t : TA) : TE := fun σ H Q => t σ H fun xs H1 => xs.length ≤ sizeLine ∧ ∀ p, H1 p = none → Q (.ref p) (upd H1 p (.tup xs))
def tLst (t : TA) : TE := fun σ H Q => t σ H fun xs H1 => xs.length ≤ sizeLine ∧ ∀ p, H1 p = none → Q (.ref p) (upd H1 p (.lst xs))
theorem pe_tup {x1} (h : PA X es t) : PE X (.Tuple es x1 pos) (tTup t) := by
  intro pins s σ H Q I hq
  refine wpAny_Tuple_spliced (thn (h pos pins s σ H _ I hq) fun us s1 ⟨xs, H1, I1, r, z, q⟩ => ⟨by rw [← r.length]; exact z, ?_⟩)
  have hf : H1 s1.heap.objs.size = none := I1.hok.fresh (Nat.le_refl _)
  refine ⟨.ref s1.heap.objs.size, upd H1 s1.heap.objs.size (.tup xs), I1.laid (t' := s1.toks) (fun b u e => Heap.get?_push_of_some _ e) (Nat.le_refl _) ?_, rfl, q _ hf⟩
  exact ⟨z, us, r, ⟨_, Heap.get?_push_size _ rfl, rfl, _, rfl⟩⟩
theorem pe_lst (h : PA X es t) : PE X (.List es pos) (tLst t) := by
  intro pins s σ H Q I hq
  refine wpAny_List_spliced (thn (h pos pins s σ H _ I hq) fun us s1 ⟨xs, H1, I1, r, z, q⟩ => ⟨by rw [← r.length]; exact z, ?_⟩)
  have hf : H1 s1.heap.objs.size = none := I1.hok.fresh (Nat.le_refl _)
  refine ⟨.ref s1.heap.objs.size, upd H1 s1.heap.objs.size (.lst xs), I1.laid (t' := s1.toks) (fun b u e => Heap.get?_push_of_some _ e) (Nat.le_refl _) ?_, rfl, q _ hf⟩
  exact ⟨z, us, 0, r, Heap.get?_push_size _ rfl⟩
end

/-! ### what a def promises -/
/-- a def's promise: the bound arguments in the parameters' order, the heap, the wanted end, the wanted exception -/
abbrev Sp := List V → Hp → VK → XK → Prop
/-- how an exception lies behind a call (file 08 gives it): the callers' frames, abstract heap and state ahead of the call, the wish, the exception, the state -/
abbrev CXT := List Env → Hp → Shared → XK → Value → Shared → Prop

/-- the state at a call -/
structure Env0 (P : Program) (w : World) (K : PySem.W.Frag) (mg : Str → Option Value) (base : Heap) (A : Around) (outer : List Env) (s : Shared) (H : Hp) : Prop where
  frames : A.frames = some outer
  mod : Mod K mg base
  bs : ∀ b o, base.get? b = some o → s.heap.get? b = some o ∧ H b = none
  bsz : base.objs.size ≤ s.heap.objs.size
  funs : s.heap.FunFrames base outer
  frf : ∀ b ∈ frs outer, H b = none
  hok : HOk P w H s.heap
  bare : AllBare s.gens
/-- a call's end -/
def CE (outer : List Env) (P : Program) (w : World) (H : Hp) (s : Shared) (Q : VK) (u : Value) (s' : Shared) : Prop :=
  ∃ v H', s'.os = s.os ∧ AllBare s'.gens ∧ Un (frs outer) [] H H' s.heap s'.heap ∧ HOk P w H' s'.heap ∧ RelV v u ∧ Q v H'
def CR (CX : CXT) (outer : List Env) (P : Program) (w : World) (H : Hp) (s : Shared) (Q : VK) (E : XK) (r : Result) (s' : Shared) : Prop :=
  match r with
  | .ok (.ret u) => CE outer P w H s Q u s'
  | .ok _ => False
  | .error e => CX outer H s E e s'
structure FnOk (P : Program) (w : World) (K : PySem.W.Frag) (mg : Str → Option Value) (base : Heap) (CX : CXT) (k : Nat) (f : Addr) (fd : FuncData) (ps : List Str) (sp : Sp) : Prop where
  len : ∀ vs H Q E, sp vs H Q E → vs.length = ps.length
  run : ∀ (A : Around) (outer : List Env) (s : Shared) (H : Hp) (args : Args) (us : List Value) (vs : List V) (Q : VK) (E : XK), Room k A → Env0 P w K mg base A outer s H → BindsTo s fd args (ps.zip us) → Vals vs us → sp vs H Q E →
    codeAny (model P w) A (.call (.ref f) args) (CR CX outer P w H s Q E) s
theorem FnOk.mono {P : Program} {w : World} {K : PySem.W.Frag} {mg : Str → Option Value} {base : Heap} {CX : CXT} {j k : Nat} {f : Addr} {fd : FuncData} {ps : List Str} {sp : Sp} (F : FnOk P w K mg base CX j f fd ps sp) (h : j ≤ k) :
    FnOk P w K mg base CX k f fd ps sp := ⟨F.len, fun A outer s H args us vs Q E hr => F.run A outer s H args us vs Q E (hr.mono h)⟩
/-- a weaker promise -/
theorem FnOk.imp {P : Program} {w : World} {K : PySem.W.Frag} {mg : Str → Option Value} {base : Heap} {CX : CXT} {k : Nat} {f : Addr} {fd : FuncData} {ps : List Str} {sp sp' : Sp} (F : FnOk P w K mg base CX k f fd ps sp)
    (h : ∀ vs H Q E, sp' vs H Q E → sp vs H Q E) : FnOk P w K mg base CX k f fd ps sp' :=
  ⟨fun vs H Q E q => F.len vs H Q E (h _ _ _ _ q), fun A outer s H args us vs Q E hr he hb hv hs => F.run A outer s H args us vs Q E hr he hb hv (h _ _ _ _ hs)⟩

section
variable {X : Cx} {pins : List (Addr × Obj)} {σ : St} {H : Hp} {s s' : Shared}
/-- from a body: what a callee wants -/
theorem Inv.env0 (I : Inv X pins σ H s) : Env0 X.prog X.w X.K X.mg X.base X.A X.stack s H :=
  ⟨I.ok.frames, I.ok.mod, I.bs, Nat.le_trans I.ok.bsz I.sz, I.stack, I.stkFree, I.hok, I.bare⟩
/-- behind a call -/
theorem Inv.after {Q : VK} {u : Value} (I : Inv X pins σ H s) (h : CE X.stack X.prog X.w H s Q u s') : EP X pins σ Q u s' := by
  obtain ⟨v, H', os, bare, un, hok, r, q⟩ := h
  obtain ⟨hh, g, d, t, os'⟩ := s'
  obtain rfl : os' = s.os := os
  exact ⟨v, H', I.call (h' := hh) (g' := g) (d' := d) (t' := t) (ch := []) un hok bare (fun b z => absurd z (by simp)), r, q⟩
end

/-! ### calls -/
/-- f(..): the written arguments, then the defaults dvs; E: what is wanted of an exception -/
def tCall (sp : Sp) (dvs : List V) (E : XK) (t : TA) : TE := fun σ H Q => t σ H fun vs H1 => sp (vs ++ dvs) H1 Q E
/-- how the parameters are bound: us the positional arguments, kw the keywords' values by name, ds the defaults that fill up -/
def Binds (K : PySem.W.Frag) (fd : FuncData) (ps : List Str) (ds : List Value) : Prop :=
  ∀ (s : Shared) (us : List Value), K.In s.heap → (us ++ ds).length = ps.length → BindsTo s fd ⟨us, []⟩ (ps.zip (us ++ ds))
/-- every parameter is given -/
theorem Binds.all {K : PySem.W.Frag} {fd : FuncData} {ps : List Str} (h : ∀ us : List Value, us.length = ps.length → bindArgs fd ⟨us, []⟩ = pure (ps.zip us)) : Binds K fd ps [] := fun s us _ hl => by
  rw [List.append_nil] at hl ⊢
  exact .of_eq (h us hl)

/-- an exception of a callee reaches what this body wants of exceptions -/
def Passes (CX : CXT) (X : Cx) (E : XK) : Prop := ∀ (pins : List (Addr × Obj)) (σ : St) (H : Hp) (s : Shared) (e : Value) (s' : Shared), Inv X pins σ H s → CX X.stack H s E e s' → X.xe e s'

section
variable {X : Cx} {CX : CXT} {k : Nat} {f C : Addr} {fd : FuncData} {ps : List Str} {sp : Sp} {dvs : List V} {ds : List Value} {E : XK} {x m : Str} {p pos apos : Pos} {e o : Expr} {es : List Expr} {ta : TE} {t : TA}

/-- the callee runs -/
theorem run_fn {pins : List (Addr × Obj)} {σ : St} {H : Hp} {s : Shared} {Q : VK} {us : List Value} {vs : List V} (F : FnOk X.prog X.w X.K X.mg X.base CX k f fd ps sp) (hr : Room k X.A) (hb : Binds X.K fd ps ds) (hd : Vals dvs ds) (hx : Passes CX X E)
    (I : Inv X pins σ H s) (r : Vals vs us) (h : sp (vs ++ dvs) H Q E) : wpAny (model X.prog X.w) X.A (call (.ref f) us) (EP X pins σ Q) X.xe s := by
  have r2 : Vals (vs ++ dvs) (us ++ ds) := r.append hd
  have hl : (us ++ ds).length = ps.length := by rw [← r2.length]; exact F.len _ _ _ _ h
  refine wpAny_call (codeAny_mono (F.run X.A X.stack s H ⟨us, []⟩ (us ++ ds) (vs ++ dvs) Q E hr I.env0 (hb s us I.kIn hl) r2 h) fun r s' hq => ?_)
  cases r with
  | error e => exact hx pins σ H s e s' I hq
  | ok fl =>
    cases fl with
    | ret u => exact I.after hq
    | next => exact False.elim hq
    | brk => exact False.elim hq
    | cont => exact False.elim hq

theorem pe_call (F : FnOk X.prog X.w X.K X.mg X.base CX k f fd ps sp) (hr : Room k X.A) (hg : Gl X x) (hm : X.mg x = some (.ref f)) (hk : PySem.W.keepIn X.K (.ref f) = true) (hb : Binds X.K fd ps ds) (hd : Vals dvs ds) (hx : Passes CX X E)
    (ha : PA X (e :: es) t) (hdb : (x == ("__debug__" : Str)) = false := by decide) (he : starEach (e :: es) X.env = (false, eval e X.env) :: starEach es X.env := by rfl) (hpl : (backTo pos (starEach es X.env)).any (·.1) = false := by rfl) :
    PE X (.Call (.Name x p) (e :: es) [] pos) (tCall sp dvs E t) := by
  intro pins s σ H Q I h
  refine wpAny_Call_Name_kw (ld_glob I hg hm ?_ hdb)
  refine PySem.W.callWith_K (h₀ := X.base) I.ok.mod.kin hk (thn (ha pos pins s σ H _ I h) fun us s1 ⟨vs, H1, I1, r, q⟩ => ⟨I1.kIn, ?_⟩) he hpl
  exact run_fn F hr hb hd hx I1 r q
/-- what a class must have to be made -/
structure Mk (K : PySem.W.Frag) (C f : Addr) : Prop where
  makes : PySem.W.makesIn K C = true
  init : PySem.W.findIn K (.ref C) "__init__" = some (some (.ref f))
  fn : PySem.W.isFn K (.ref f) = true
  kp : PySem.W.keepIn K (.ref C) = true

end

/-! ### keywords -/
section
variable {X : Cx} {CX : CXT} {k : Nat} {f C : Addr} {fd : FuncData} {ps ks : List Str} {sp : Sp} {E : XK} {x m : Str} {p pos apos kpos : Pos} {e o : Expr} {es : List Expr} {kws : List Keyword} {te ta : TE} {t tk : TA} {nm : Option Str}
/-- how a call with keywords binds: g puts the positional values us and the keywords' values ws (names ks) in the parameters' order, defaults among them -/
structure KBinds (K : PySem.W.Frag) (fd : FuncData) (ps ks : List Str) (g : List Value → List Value → List Value) (gV : List V → List V → List V) : Prop where
  to : ∀ (s : Shared) (us ws : List Value), K.In s.heap → (g us ws).length = ps.length → BindsTo s fd ⟨us, ks.zip ws⟩ (ps.zip (g us ws))
  rel : ∀ {vs : List V} {us : List Value} {zs : List V} {ws : List Value}, Vals vs us → Vals zs ws → Vals (gV vs zs) (g us ws)
variable {g : List Value → List Value → List Value} {gV : List V → List V → List V}
end

/-! ### a def's body keeps its promise -/
/-- names: the parameters first -/
structure FnScope (N P : List Str) (sc : Scope) : Prop where
  kind : sc.kind = .function
  co : sc.isCoroutine = false
  gen : sc.isGenerator = false
  nd : N.Nodup
  pre : N.take P.length = P
  par : ∀ x ∈ P, sc.names.lookup x = some .local ∨ sc.names.lookup x = some .cell
  nofree : ∀ y ∈ sc.names, y.2 ≠ .free

theorem bindL_out {kindOf : Str → Option NameKind} {x : Str} : ∀ {binds : List (Str × Value)} {m : Str → Option Value}, (∀ v, (x, v) ∉ binds) → bindL kindOf binds m x = m x
  | [], _, _ => rfl
  | (n, v) :: r, m, h => by
    unfold bindL
    rw [bindL_out fun w hw => h w (List.mem_cons_of_mem _ hw)]
    split
    · have : x ≠ n := by rintro rfl; exact h v List.mem_cons_self
      simp [this]
    · rfl
theorem bindC_out {kindOf : Str → Option NameKind} {x : Str} : ∀ {binds : List (Str × Value)} {m : Str → Option Value}, (∀ v, (x, v) ∉ binds) → bindC kindOf binds m x = m x
  | [], _, _ => rfl
  | (n, v) :: r, m, h => by
    unfold bindC
    rw [bindC_out fun w hw => h w (List.mem_cons_of_mem _ hw)]
    split
    · rfl
    · have : x ≠ n := by rintro rfl; exact h v List.mem_cons_self
      simp [this]
theorem bindL_get {kindOf : Str → Option NameKind} {x : Str} {v : Value} : ∀ {P : List Str} {vs : List Value} {i : Nat} {m : Str → Option Value}, P.Nodup → P[i]? = some x → vs[i]? = some v → kindOf x = some .local →
    bindL kindOf (P.zip vs) m x = some v
  | [], _, _, _, _, h, _, _ => by simp at h
  | _ :: _, [], _, _, _, _, h, _ => by simp at h
  | p :: P, w :: vs, 0, m, nd, h1, h2, hk => by
    simp at h1 h2; subst h1; subst h2
    show bindL kindOf ((p, w) :: P.zip vs) m p = _
    unfold bindL
    rw [bindL_out fun v hv => (List.nodup_cons.mp nd).1 (List.of_mem_zip hv).1, if_pos hk]
    simp
  | p :: P, w :: vs, i + 1, m, nd, h1, h2, hk => by
    show bindL kindOf ((p, w) :: P.zip vs) m x = _
    unfold bindL
    exact bindL_get (i := i) (List.nodup_cons.mp nd).2 (by simpa using h1) (by simpa using h2) hk
theorem bindC_get {kindOf : Str → Option NameKind} {x : Str} {v : Value} : ∀ {P : List Str} {vs : List Value} {i : Nat} {m : Str → Option Value}, P.Nodup → P[i]? = some x → vs[i]? = some v → kindOf x ≠ some .local →
    bindC kindOf (P.zip vs) m x = some v
  | [], _, _, _, _, h, _, _ => by simp at h
  | _ :: _, [], _, _, _, _, h, _ => by simp at h
  | p :: P, w :: vs, 0, m, nd, h1, h2, hk => by
    simp at h1 h2; subst h1; subst h2
    show bindC kindOf ((p, w) :: P.zip vs) m p = _
    unfold bindC
    rw [bindC_out fun v hv => (List.nodup_cons.mp nd).1 (List.of_mem_zip hv).1, if_neg hk]
    simp
  | p :: P, w :: vs, i + 1, m, nd, h1, h2, hk => by
    show bindC kindOf ((p, w) :: P.zip vs) m x = _
    unfold bindC
    exact bindC_get (i := i) (List.nodup_cons.mp nd).2 (by simpa using h1) (by simpa using h2) hk

/-- the names' values at the entry -/
def start (N : List Str) (vs : List V) : St := vs.map some ++ List.replicate (N.length - vs.length) none

/-- the context of a def's body, at its entry; an exception leaves the frame, then lies as CX says -/
def cxOf (CX : CXT) (P : Program) (w : World) (K : PySem.W.Frag) (mg : Str → Option Value) (base : Heap) (N : List Str) (qual : Str) (scope : Scope) (f : Addr) (cd : Value) (A : Around) (outer : List Env) (s : Shared) (H : Hp) (E : XK) : Cx where
  prog := P
  w := w
  K := K
  mg := mg
  base := base
  A := A.deeper (envOfC qual scope s.heap.objs.size f cd)
  N := N
  s₀ := s
  H₀ := H
  env := envOfC qual scope s.heap.objs.size f cd
  outer := outer
  stack := envOfC qual scope s.heap.objs.size f cd :: outer
  ex := []
  calm := true
  fn := fun _ => true
  pn := []
  xe := fun e s' => wpAny (model P w) (A.deeper (envOfC qual scope s.heap.objs.size f cd)) (leaving (envOfC qual scope s.heap.objs.size f cd) e) (fun _ s'' => CX outer H s E e s'') (fun e' s'' => CX outer H s E e' s'') s'

theorem cell_has {sc : Scope} {n : Nat} {x : Str} (h : sc.names.lookup x = some .cell) : ∃ c, (cellsFrom n sc.names []).lookup x = some c := by
  have q := PySem.W.cellsFrom_some sc.names n [] (.inl h)
  exact Option.isSome_iff_exists.mp q

theorem inv_start {CX : CXT} {P : Program} {w : World} {K : PySem.W.Frag} {mg : Str → Option Value} {base : Heap} {N ps : List Str} {qual : Str} {scope : Scope} {f : Addr} {cd : Value} {A : Around} {outer : List Env} {s s1 : Shared} {H : Hp} {E : XK} {us : List Value} {vs : List V}
    (S : FnScope N ps scope) (hd : A.handled = none) (e0 : Env0 P w K mg base A outer s H) (hl : vs.length = ps.length) (r : Vals vs us)
    (x : InCallC s s.heap.objs.size (bindL (envOfC qual scope s.heap.objs.size f cd).kindOf (ps.zip us) fun _ => none) (cellsFrom (s.heap.objs.size + 1) scope.names []) (bindC (envOfC qual scope s.heap.objs.size f cd).kindOf (ps.zip us) fun _ => none) s1) :
    Inv (cxOf CX P w K mg base N qual scope f cd A outer s H E) [] (start N vs) H s1 := by
  have hpl : ps.length ≤ N.length := by have := congrArg List.length S.pre; rw [List.length_take] at this; omega
  obtain ⟨h1, tk, rfl, hk⟩ := x.done
  have noA : ∀ b : Addr, b ∉ (cxOf CX P w K mg base N qual scope f cd A outer s H E).ex := fun b z => absurd (show b ∈ ([] : List Addr) from z) (by simp)
  refine ⟨⟨e0.mod, S.kind, rfl, rfl, Nat.le_refl _, fun y z c h1 h2 => ?_, fun y hy => ?_, fun y c _ h => ?_, fun _ => hd, Around.frames_deeper e0.frames, .inr ⟨rfl, rfl⟩, fun b z => absurd z (noA b), e0.bs, e0.bsz, fun b _ _ => noA b, fun b z => absurd z (noA b), e0.funs, e0.frf⟩,
    rfl, e0.bare, Un.kept hk, ⟨_, x.toInCall.ns, fun i y v h1 h2 h3 => ?_⟩, fun y c h => ⟨_, x.cell y c h⟩, e0.hok.fresh (Nat.le_refl _), fun y c h => ?_, fun p hp => absurd (show p ∈ ([] : List (Addr × Obj)) from hp) (by simp), e0.hok.kept hk, ?_⟩
  · exact name_of_addr x.apart (PySem.mem_of_lookup h1) (PySem.mem_of_lookup h2)
  · have hy : scope.names.lookup y = some .cell ∨ scope.names.lookup y = some .free := hy
    rcases hy with hy | hy
    · exact cell_has hy
    · exact absurd rfl (S.nofree _ (PySem.mem_of_lookup hy))
  · exact Nat.le_of_lt (x.above y c (PySem.mem_of_lookup h))
  · have hi : i < vs.length := by
      unfold start at h2
      by_cases hi : i < vs.length
      · exact hi
      · rw [List.getElem?_append_right (by simpa using hi)] at h2
        rw [List.getElem?_replicate] at h2
        split at h2 <;> cases h2
    have ha : vs[i]? = some v := by
      unfold start at h2
      rw [List.getElem?_append_left (by simpa using hi), List.getElem?_map] at h2
      cases e : vs[i]? with
      | none => rw [e] at h2; cases h2
      | some a => rw [e] at h2; cases h2; rfl
    obtain ⟨u, hu, rv⟩ := r.get ha
    have hp : ps[i]? = some y := by
      rw [← S.pre, List.getElem?_take_of_lt (by omega)]; exact h1
    have ndP : ps.Nodup := by rw [← S.pre]; exact S.nd.sublist (List.take_sublist _ _)
    refine ⟨u, rv, ?_⟩
    rcases S.par y (List.mem_of_getElem? hp) with k | k
    · exact .inl ⟨k, bindL_get ndP hp hu k⟩
    · obtain ⟨c, e⟩ := cell_has (n := s.heap.objs.size + 1) k
      refine .inr ⟨.inl k, c, e, ?_⟩
      have q := x.cell y c e
      rw [bindC_get ndP hp hu (by show scope.names.lookup y ≠ _; rw [k]; decide)] at q
      exact q
  · exact e0.hok.fresh (Nat.le_of_lt (x.above y c (PySem.mem_of_lookup h)))
  · unfold start
    show _ = N.length
    rw [List.length_append, List.length_map, List.length_replicate]
    omega

/-- THE RULE: a def (or a method) of the text, by its body. The body's reading t is chosen for each entry; it is run at the parameters' values -/
theorem fn_of {CX : CXT} {P : Program} {w : World} {K : PySem.W.Frag} {mg : Str → Option Value} {base : Heap} {k : Nat} {f : Addr} {name qual : Str} {params : Arguments} {body : List Stmt} {scope : Scope} {dV kV doc pm cdv ct oc : Value} {an od : Option Addr}
    {osl : Array (Option Value)} {N ps : List Str} {sp : Sp} (lk : K.lookup f = some ⟨oc, od, .func (PySem.W.fnOf name qual params body scope dV kV doc pm an cdv ct), osl⟩) (hcd : PySem.W.codeIn K cdv qual = true) (S : FnScope N ps scope)
    (len : ∀ vs H Q E, sp vs H Q E → vs.length = ps.length)
    (hbody : ∀ (A : Around) (outer : List Env) (s : Shared) (H : Hp) (vs : List V) (Q : VK) (E : XK), Room k (A.deeper (envOfC qual scope s.heap.objs.size f cdv)) → sp vs H Q E →
      ∃ t, PSs (cxOf CX P w K mg base N qual scope f cdv A outer s H E) body t ∧ t { nx := fun _ H' => Q .non H', rt := Q } (start N vs) H) :
    FnOk P w K mg base CX (k + 1) f (PySem.W.fnOf name qual params body scope dV kV doc pm an cdv ct) ps sp := by
  refine ⟨len, fun A outer s H args us vs Q E hr e0 hb r hsp => ?_⟩
  have hl := len _ _ _ _ hsp
  have KX : K.In s.heap := e0.mod.kin.keeps fun b o e => (e0.bs b o e).1
  have lim : s.heap.NoLimit := e0.mod.nolimit.keeps fun b o e => (e0.bs b o e).1
  have hkind : ∀ y ∈ ps.zip us, scope.names.lookup y.1 = some .local ∨ (scope.names.lookup y.1 = some .cell ∧ ((cellsFrom (s.heap.objs.size + 1) scope.names []).lookup y.1).isSome = true) := fun ⟨n, v⟩ hy => by
    rcases S.par n (List.of_mem_zip hy).1 with q | q
    · exact .inl q
    · exact .inr ⟨q, PySem.W.cellsFrom_some _ _ _ (.inl q)⟩
  refine codeAny_call_function hr.depth (KX _ _ lk) rfl S.co S.gen rfl (PySem.W.codeRec_of KX hcd) (hb _ _ _ _ ?_)
  refine wpAny_newFunctionEnv_cells S.kind hkind fun env he s1 x => ?_
  subst he
  refine ⟨lim.keeps x.toInCall.keep, codeAny_func ?_⟩
  obtain ⟨t, ht, hq⟩ := hbody A outer s H vs Q E (hr.deeper _) hsp
  have I : Inv (cxOf CX P w K mg base N qual scope f cdv A outer s H E) [] (start N vs) H s1 := inv_start S hr.hd e0 hl r x
  refine wpAny_mono (ht [] s1 (start N vs) H _ I hq) (fun fl s' hs => ?_) fun e s' hs => hs
  have fin : ∀ {σ' : St} {H' : Hp} {v : V} {u : Value}, Inv (cxOf CX P w K mg base N qual scope f cdv A outer s H E) [] σ' H' s' → RelV v u → Q v H' → CE outer P w H s Q u s' :=
    fun {σ' H' v u} J rv q => ⟨v, H', J.os, J.bare, J.base, J.hok, rv, q⟩
  cases fl with
  | ret u =>
    obtain ⟨v, σ', H', J, rv, q⟩ := hs
    exact fin J rv q
  | next =>
    obtain ⟨σ', H', J, q⟩ := hs
    exact fin (v := V.non) (u := Value.none) J rfl q
  | brk =>
    obtain ⟨_, _, _, q⟩ := hs
    exact False.elim q
  | cont =>
    obtain ⟨_, _, _, q⟩ := hs
    exact False.elim q
end L2

namespace L2
open PySem PySem.Spec PyProof.Rows
section
variable {X : Cx} {x : Str} {p pos : Pos} {e : Expr} {es : List Expr} {t : TA} {id T : String} {r : List V → Hp → VK → Prop}

def tCB (r : List V → Hp → VK → Prop) (t : TA) : TE := fun σ H Q => t σ H fun vs H1 => r vs H1 Q
/-- f(e, ..), f a built-in function -/
theorem pe_callB (hc : CallR X (.builtin id) r) (hg : Gl X x) (hm : X.mg x = none) (hv : bootBuiltins x = some (.builtin id)) (ha : PA X (e :: es) t) (hn : x ≠ "__name__" := by decide) (hdb : (x == ("__debug__" : Str)) = false := by decide)
    (he : starEach (e :: es) X.env = (false, eval e X.env) :: starEach es X.env := by rfl) (hpl : (backTo pos (starEach es X.env)).any (·.1) = false := by rfl) : PE X (.Call (.Name x p) (e :: es) [] pos) (tCB r t) := by
  intro pins s σ H Q I h
  refine wpAny_Call_Name_kw (ld_blt I hg hm hv ?_ hn hdb)
  exact PyProof.Rows.callWith_builtin1 (thn (ha pos pins s σ H _ I h) fun us s1 ⟨vs, H1, I1, r1, q1⟩ => hc pins s1 σ H1 vs us Q I1 r1 q1) he hpl
/-- T(e, ..), T a built-in type -/
theorem pe_callTy (hc : CallR X (.type T) r) (hg : Gl X x) (hm : X.mg x = none) (hv : bootBuiltins x = some (.type T)) (ha : PA X (e :: es) t) (hn : x ≠ "__name__" := by decide) (hdb : (x == ("__debug__" : Str)) = false := by decide)
    (he : starEach (e :: es) X.env = (false, eval e X.env) :: starEach es X.env := by rfl) (hpl : (backTo pos (starEach es X.env)).any (·.1) = false := by rfl) : PE X (.Call (.Name x p) (e :: es) [] pos) (tCB r t) := by
  intro pins s σ H Q I h
  refine wpAny_Call_Name_kw (ld_blt I hg hm hv ?_ hn hdb)
  exact PyProof.Rows.callWith_type1 (thn (ha pos pins s σ H _ I h) fun us s1 ⟨vs, H1, I1, r1, q1⟩ => hc pins s1 σ H1 vs us Q I1 r1 q1) he hpl
end
end L2

namespace HT
open PySem PyProof.Rows

section
open PySem.SeqAt
open PySem.AutoSeq1 (wpAny_loadPart')
open PySem.MeetsSeq PySem.MeetsSeq2 PySem.MeetsSeq3

end

section
variable {prog : Program} {w : World} {A : Around} {E : Value → Shared → Prop} {s : Shared}

/-- t + u, t not empty -/
theorem cat_tup {t b : Addr} {vs ws : List Value} {Q : Value → Shared → Prop} (ht : IsTup s.heap t vs.toArray) (hb : IsTup s.heap b ws.toArray) (hv : vs ≠ [])
    (h1 : ws = [] → Q (.ref t) s) (h2 : ws ≠ [] → Q (.ref s.heap.objs.size) { s with heap := s.heap.push { cls := .type "tuple", data := .seq (vs ++ ws).toArray } })
    (hsz : vs.length + ws.length ≤ sizeLine) : wpAny (model prog w) A (binaryOp .Add (.ref t) (.ref b)) Q E s := by
  obtain ⟨⟨cls, dd, data, sl⟩, ho, hc, n, hd⟩ := id ht
  obtain ⟨⟨cls2, dd2, data2, sl2⟩, ho2, hc2, n2, hd2⟩ := id hb
  simp only at hc hd hc2 hd2
  subst hc hd hc2 hd2
  have e : vs.toArray ++ ws.toArray = (vs ++ ws).toArray := by simp
  by_cases hw : ws = []
  · exact concat_meets ⟨_, ho, rfl⟩ ⟨_, ho2, rfl⟩ noFill_tuple_add seq_tuple_add PySem.F.slot_tuple_add PySem.F.entry_tuple_add (PySem.F.args_tuple_add_2 _ _)
      (tuple_addW1 t b vs.toArray ws.toArray n n2 dd dd2 sl sl2 (by simpa using hv) (by simp [hw])) ⟨ho, ho2, h1 hw⟩
  · refine concat_meets ⟨_, ho, rfl⟩ ⟨_, ho2, rfl⟩ noFill_tuple_add seq_tuple_add PySem.F.slot_tuple_add PySem.F.entry_tuple_add (PySem.F.args_tuple_add_2 _ _)
      (tuple_addW2 t b vs.toArray ws.toArray n n2 dd dd2 sl sl2 (by simpa using hv) (by simpa using hw) (by rw [List.size_toArray, List.size_toArray]; exact hsz)) ⟨ho, ho2, ?_⟩
    rw [e]
    exact h2 hw

/-! ### t[a:b], not the whole -/
/-- a slice's bound as a place among n (d where it is left out) -/
def sIx (n d : Nat) : Option Int → Nat
  | none => d
  | some v => if v < 0 then (v + (n : Int)).toNat else min v.toNat n
theorem sIx_none (n d : Nat) : sIx n d none = d := rfl
theorem sIx_nat (n d k : Nat) : sIx n d (some (k : Int)) = min k n := by
  show (if (k : Int) < 0 then ((k : Int) + (n : Int)).toNat else min (k : Int).toNat n) = min k n
  rw [if_neg (by omega), Int.toNat_natCast]
theorem sIx_le (n d : Nat) (hd : d ≤ n) (o : Option Int) : sIx n d o ≤ n := by
  cases o with
  | none => exact hd
  | some v =>
    show (if v < 0 then (v + (n : Int)).toNat else min v.toNat n) ≤ n
    by_cases hv : v < 0
    · rw [if_pos hv]; omega
    · rw [if_neg hv]; exact Nat.min_le_right _ _
theorem clip_eq (v : Int) (n d : Nat) : (if v < 0 then max (v + (n : Int)) 0 else min v (n : Int)) = ((sIx n d (some v) : Nat) : Int) := by
  show (if v < 0 then max (v + (n : Int)) 0 else min v (n : Int)) = (((if v < 0 then (v + (n : Int)).toNat else min v.toNat n) : Nat) : Int)
  by_cases hv : v < 0
  · simp only [if_pos hv]; omega
  · simp only [if_neg hv]; omega
theorem adjust_gen (lo hi : Option Int) (n : Nat) : Builtin.Slice.sliceAdjust lo hi 1 (n : Int) = (((sIx n 0 lo : Nat) : Int), ((sIx n n hi : Nat) : Int)) := by
  have h1 : ¬ ((1 : Int) < 0) := by omega
  unfold Builtin.Slice.sliceAdjust
  simp only [h1, if_false]
  refine Prod.ext ?_ ?_
  · cases lo with
    | none => rfl
    | some v => exact clip_eq v n 0
  · cases hi with
    | none => rfl
    | some v => exact clip_eq v n n
theorem places_gen (i j : Nat) : Builtin.Slice.slicePlaces (i : Int) (j : Int) 1 = j - i := by
  unfold Builtin.Slice.slicePlaces
  have h1 : (1 : Int) > 0 := by omega
  simp only [h1, if_true, Int.ediv_one]
  split <;> omega
theorem slicePart_ {v : Value} {o : Option Int} {Q : Option Int → Shared → Prop} (p : IsPart v o) (h : Q o s) : wpAny (model prog w) A (Builtin.Slice.slicePartIndex v) Q E s := by
  cases p with
  | none => exact slicePart_none h
  | int i t => exact slicePart_int h
theorem sliceApplied_gen {sl : Addr} {vl vu : Value} {lo hi : Option Int} {n : Nat} {Q : Int × Int × Nat → Shared → Prop} (hs : s.heap.IsSliceOf sl vl vu .none) (pl : IsPart vl lo) (pu : IsPart vu hi)
    (h : Q (((sIx n 0 lo : Nat) : Int), 1, sIx n n hi - sIx n 0 lo) s) : wpAny (model prog w) A (Builtin.Slice.sliceApplied (.ref sl) (pure (n : Int))) Q E s := by
  obtain ⟨os, hos, hcs, hds⟩ := id hs
  unfold Builtin.Slice.sliceApplied Builtin.Slice.sliceFields
  refine wpAny_bind (wpAny_bind (wpAny_field hos hds (x := vl) rfl (wpAny_bind (wpAny_field hos hds (x := vu) rfl (wpAny_bind (wpAny_field hos hds (x := .none) rfl (wpAny_pure ?_)))))))
  refine wpAny_bind (slicePart_none ?_)
  show wpAny _ _ (if ((1 : Int) == 0) = true then _ else _) _ _ s
  rw [if_neg (by decide)]
  refine wpAny_bind (slicePart_ pl (wpAny_bind (slicePart_ pu (wpAny_bind (wpAny_pure ?_)))))
  show wpAny _ _ (match Builtin.Slice.sliceAdjust lo hi 1 (n : Int) with | (lo, hi) => pure (lo, (1 : Int), Builtin.Slice.slicePlaces lo hi 1)) _ _ s
  rw [adjust_gen lo hi n]
  show wpAny _ _ (pure (((sIx n 0 lo : Nat) : Int), (1 : Int), Builtin.Slice.slicePlaces ((sIx n 0 lo : Nat) : Int) ((sIx n n hi : Nat) : Int) 1)) _ _ s
  rw [places_gen]
  exact wpAny_pure h
theorem pick_gen (xs : Array Value) (i k : Nat) : ((List.range k).filterMap fun (m : Nat) => xs[((i : Int) + (m : Int) * 1).toNat]?).toArray = ((xs.toList.drop i).take k).toArray := by
  have e : (fun (m : Nat) => xs[((i : Int) + (m : Int) * 1).toNat]?) = fun m => xs[i + m]? := by
    funext m
    have : ((i : Int) + (m : Int) * 1).toNat = i + m := by omega
    rw [this]
  rw [e]
  have := pick_run xs i k
  rw [List.filterMap_map] at this
  have e2 : ((fun x => xs[x]?) ∘ fun x => i + x) = fun m => xs[i + m]? := rfl
  rw [e2] at this
  rw [this]

theorem getItem_tuple_cut {t sl : Addr} {items : Array Value} {vl vu : Value} {lo hi : Option Int} {Q : Value → Shared → Prop} (ht : IsTup s.heap t items) (hs : s.heap.IsSliceOf sl vl vu .none) (pl : IsPart vl lo) (pu : IsPart vu hi)
    (hw : ¬ (sIx items.size 0 lo = 0 ∧ sIx items.size items.size hi = items.size))
    (h : Q (.ref s.heap.objs.size) { s with heap := s.heap.push { cls := .type "tuple", data := .seq ((items.toList.drop (sIx items.size 0 lo)).take (sIx items.size items.size hi - sIx items.size 0 lo)).toArray } })
    (hsz : items.size ≤ sizeLine) : wpAny (model prog w) A (getItem (.ref t) (.ref sl)) Q E s := by
  have htake : sizeOk (.seq ((items.toList.drop (sIx items.size 0 lo)).take (sIx items.size items.size hi - sIx items.size 0 lo)).toArray) := by
    show ((items.toList.drop (sIx items.size 0 lo)).take (sIx items.size items.size hi - sIx items.size 0 lo)).toArray.size ≤ sizeLine
    rw [List.size_toArray, List.length_take, List.length_drop, Array.length_toList]
    omega
  have hj : sIx items.size items.size hi ≤ items.size := sIx_le _ _ (Nat.le_refl _) hi
  obtain ⟨os, hos, hcs, hds⟩ := id hs
  have hTs : s.TypeIs (.ref sl) "slice" := ⟨os, hos, hcs⟩
  unfold getItem
  try with_reducible refine wpAny_holding ?_
  first | refine wpAny_bind (wpAny_pure ?_) | skip
  refine wpAny_bind (wpAny_sequenceKey ht.typeIs (by decide) ?_)
  refine wpAny_bind (wpAny_callSpecial?_slot (name := Str.ofString "__getitem__") ht.typeIs PyProof.Rows.slot_tuple_getitem
    (wpAny_call_entry PyProof.Rows.slot_tuple_getitem ht.typeIs entry_tuple_getitem ?_ (args_tuple_getitem _ _)))
  show wpAny _ _ (Builtin.Tuple.tupleItemsOf (.ref t) >>= _) _ _ s
  refine wpAny_bind (tupleItemsOf_ ht ?_)
  refine wpAny_bind (wpAny_typeOf hTs ?_)
  rw [if_pos (by decide)]
  refine wpAny_bind (sliceApplied_gen hs pl pu ?_)
  have hno : ¬ ((((sIx items.size 0 lo : Nat) : Int) == 0 && (1 : Int) == 1 && (sIx items.size items.size hi - sIx items.size 0 lo) == items.size) = true) := by
    intro q
    rw [Bool.and_eq_true, Bool.and_eq_true] at q
    have q1 : ((sIx items.size 0 lo : Nat) : Int) = 0 := eq_of_beq q.1.1
    have q2 : sIx items.size items.size hi - sIx items.size 0 lo = items.size := eq_of_beq q.2
    exact hw ⟨by omega, by omega⟩
  show wpAny _ _ (if (((sIx items.size 0 lo : Nat) : Int) == 0 && (1 : Int) == 1 && (sIx items.size items.size hi - sIx items.size 0 lo) == items.size) = true then _ else _) _ _ s
  rw [if_neg hno, pick_gen]
  first
    | exact wpAny_bind (m := Builtin.Tuple.tupleExact _) (wpAny_newObj_type (wpAny_pure ⟨_, rfl, wpAny_pure h⟩) htake)
    | exact wpAny_bind (m := Builtin.Tuple.tupleExact _) (wpAny_newObj_type (wpAny_bind (wpAny_pure (wpAny_pure ⟨_, rfl, wpAny_pure h⟩))) htake)
    | exact wpAny_bind (wpAny_bind (m := Builtin.Tuple.tupleExact _) (wpAny_newObj_type (wpAny_pure (wpAny_pure ⟨_, rfl, wpAny_pure h⟩)) htake))
    | exact wpAny_bind (wpAny_bind (m := Builtin.Tuple.tupleExact _) (wpAny_newObj_type (wpAny_pure ⟨_, rfl, wpAny_pure h⟩) htake))
end
end HT

namespace L2
open PySem PySem.Spec PyProof.Rows

/-! ### the parts of a slice -/
abbrev TO := St → Hp → (Option Int → Hp → Prop) → Prop
/-- a slice's part (left out, or an int) -/
def PO (X : Cx) (e : Option Expr) (t : TO) : Prop :=
  ∀ (pins : List (Addr × Obj)) (s : Shared) (σ : St) (H : Hp) (Q : Option Int → Hp → Prop), Inv X pins σ H s → t σ H Q →
    wpAny (model X.prog X.w) X.A (evalPart e X.env) (fun u s' => ∃ o H', Inv X pins σ H' s' ∧ IsPart u o ∧ Q o H') X.xe s
def tNoPart : TO := fun _ H Q => Q none H
def tPart (t : TE) : TO := fun σ H Q => t σ H fun x H1 => ∃ i, x = .int i ∧ Q (some i) H1

section
variable {X : Cx} {e : Expr} {te : TE} {lo hi : Option Expr} {tl th : TO} {pos p2 : Pos}

theorem po_none : PO X none tNoPart := by
  intro pins s σ H Q I h
  rw [evalPart_none]
  exact wpAny_pure ⟨none, H, I, .none, h⟩
theorem po_some (h : PE X e te) : PO X (some e) (tPart te) := by
  intro pins s σ H Q I hw
  rw [evalPart_some]
  refine thn (h pins s σ H _ I hw) fun u s1 ⟨x, H1, I1, r1, q1⟩ => ?_
  obtain ⟨i, rfl, q⟩ := q1
  obtain ⟨t, rfl⟩ := r1
  exact ⟨some i, H1, I1, .int i t, q⟩

/-- what a slice of a value is, by values: the slice object stands at sl -/
def SlR (X : Cx) (r : V → Option Int → Option Int → Hp → VK → Prop) : Prop :=
  ∀ (pins : List (Addr × Obj)) (s : Shared) (σ : St) (H : Hp) (x : V) (v vl vu : Value) (lo hi : Option Int) (sl : Addr) (Q : VK), Inv X pins σ H s → RelV x v → s.heap.IsSliceOf sl vl vu .none → IsPart vl lo → IsPart vu hi → r x lo hi H Q →
    ∃ T id, typeLookup (.type T) "__getitem__" = pure (some (.builtin id)) ∧ s.TypeIs v T ∧ wpAny (model X.prog X.w) X.A (getItem v (.ref sl)) (EP X pins σ Q) X.xe s
theorem SlR.or {r r' : V → Option Int → Option Int → Hp → VK → Prop} (h : SlR X r) (h' : SlR X r') : SlR X (fun x lo hi H Q => r x lo hi H Q ∨ r' x lo hi H Q) := by
  intro pins s σ H x v vl vu lo hi sl Q I rx hs pl pu q
  rcases q with q | q
  · exact h pins s σ H x v vl vu lo hi sl Q I rx hs pl pu q
  · exact h' pins s σ H x v vl vu lo hi sl Q I rx hs pl pu q
def tSl (r : V → Option Int → Option Int → Hp → VK → Prop) (te : TE) (tl th : TO) : TE := fun σ H Q => te σ H fun x H1 => tl σ H1 fun l H2 => th σ H2 fun u H3 => r x l u H3 Q
/-- a[lo:hi], any a -/
theorem pe_slice {r : V → Option Int → Option Int → Hp → VK → Prop} (hr : SlR X r) (he : PE X e te) (hl : PO X lo tl) (hu : PO X hi th) : PE X (.Subscript e (.Slice lo hi none p2) pos) (tSl r te tl th) := by
  intro pins s σ H Q I h
  refine Subscript_ (thn (he pins s σ H _ I h) fun v s1 ⟨x, H1, I1, r1, q1⟩ => ?_)
  refine wpAny_Slice (thn (hl pins s1 σ H1 _ I1 q1) fun vl s2 ⟨l, H2, I2, pl, q2⟩ => thn (hu pins s2 σ H2 _ I2 q2) fun vu s3 ⟨u, H3, I3, pu, q3⟩ => ?_)
  rw [evalPart_none]
  refine wpAny_pure ?_
  have I4 : Inv X pins σ H3 { s3 with heap := s3.heap.push { cls := .type "slice", data := .fields #[vl, vu, .none] } } := I3.kept (t' := s3.toks) fun b ob q => Heap.get?_push_of_some _ q
  obtain ⟨T, id, hT, ht, hg⟩ := hr pins { s3 with heap := s3.heap.push { cls := .type "slice", data := .fields #[vl, vu, .none] } } σ H3 x v vl vu l u s3.heap.objs.size Q I4 r1 (Heap.IsSliceOf.new ..) pl pu q3
  show wpAny (model X.prog X.w) X.A (subscriptTail e (.Slice lo hi none p2) v (.ref s3.heap.objs.size)) (EP X pins σ Q) X.xe { s3 with heap := s3.heap.push { cls := .type "slice", data := .fields #[vl, vu, .none] } }
  exact tail_any (ops := [.ref s3.heap.objs.size, v]) ht hT hg (by with_unfolding_all rfl)

/-- the items of xs[lo:hi] -/
def cutV (xs : List V) (lo hi : Option Int) : List V := (xs.drop (HT.sIx xs.length 0 lo)).take (HT.sIx xs.length xs.length hi - HT.sIx xs.length 0 lo)
theorem cutV_length (xs : List V) (lo hi : Option Int) : (cutV xs lo hi).length ≤ xs.length := by
  unfold cutV
  rw [List.length_take, List.length_drop]
  omega
/-- t[lo:hi], not the whole of it (the whole would be t itself) -/
def rSlT (K : PySem.W.Frag) : V → Option Int → Option Int → Hp → VK → Prop := fun x lo hi H Q => ∃ a xs, x = .ref a ∧ SqT K H a xs ∧
  ¬ (HT.sIx xs.length 0 lo = 0 ∧ HT.sIx xs.length xs.length hi = xs.length) ∧ ∀ p, H p = none → Q (.ref p) (upd H p (.tup (cutV xs lo hi)))
theorem sl_tup : SlR X (rSlT X.K) := by
  intro pins s σ H x v vl vu lo hi sl Q I rx hs pl pu h
  obtain ⟨a, xs, rfl, hx, hw, q⟩ := h
  cases rx
  obtain ⟨its, r, ht, hz⟩ := I.tuple hx
  have hlen : its.toArray.size = xs.length := by rw [List.size_toArray]; exact r.length.symm
  refine ⟨"tuple", _, PyProof.Rows.slot_tuple_getitem.lookup, ht.typeIs, ?_⟩
  refine HT.getItem_tuple_cut ht hs pl pu (by rw [hlen]; exact hw) ?_ (by rw [hlen]; exact hz)
  rw [hlen]
  refine ⟨.ref s.heap.objs.size, _, I.laid (t' := s.toks) (o := .tup (cutV xs lo hi)) (fun b ob q => Heap.get?_push_of_some _ q) (Nat.le_refl _) ?_, rfl, q _ (I.hok.fresh (Nat.le_refl _))⟩
  exact ⟨Nat.le_trans (cutV_length xs lo hi) hz, _, (r.drop (HT.sIx xs.length 0 lo)).take (HT.sIx xs.length xs.length hi - HT.sIx xs.length 0 lo), IsTup.new _ _⟩

/-! ### t < u, t + u -/
/-- t + u, t not empty: u empty gives t itself -/
def rCatT (K : PySem.W.Frag) : R2 := fun x y H Q => ∃ a b xs ys, x = .ref a ∧ y = .ref b ∧ SqT K H a xs ∧ SqT K H b ys ∧ xs ≠ [] ∧ xs.length + ys.length ≤ sizeLine ∧
  (ys = [] → Q (.ref a) H) ∧ (ys ≠ [] → ∀ p, H p = none → Q (.ref p) (upd H p (.tup (xs ++ ys))))
theorem Vals.nil_iff {xs : List V} {us : List Value} (r : Vals xs us) : us = [] ↔ xs = [] := by
  cases r with
  | nil => simp
  | cons _ _ => simp
theorem op_catT : OpR X (binaryOp .Add) (rCatT X.K) := by
  intro pins s σ H x y v u Q I rx ry h
  obtain ⟨a, b, xs, ys, rfl, rfl, ha, hb, hx, hz, q1, q2⟩ := h
  cases rx
  cases ry
  obtain ⟨its, r1, p1, _⟩ := I.tuple ha
  obtain ⟨its2, r2, p2, _⟩ := I.tuple hb
  refine HT.cat_tup p1 p2 (fun z => hx (r1.nil_iff.mp z)) (fun z => ⟨.ref a, H, I, rfl, q1 (r2.nil_iff.mp z)⟩) (fun z => ?_) (by rw [← r1.length, ← r2.length]; exact hz)
  refine ⟨.ref s.heap.objs.size, _, I.laid (t' := s.toks) (o := .tup (xs ++ ys)) (fun b ob q => Heap.get?_push_of_some _ q) (Nat.le_refl _) ?_, rfl, q2 (fun w => z (r2.nil_iff.mpr w)) _ (I.hok.fresh (Nat.le_refl _))⟩
  exact ⟨by rw [List.length_append]; exact hz, _, r1.append r2, IsTup.new _ _⟩
end
end L2

namespace L2
open PySem PySem.Spec PyProof.Rows

/-! ### places -/
/-- the place that an index of any sign means -/
def ixN (n : Nat) (i : Int) : Option Nat := if 0 ≤ i then (if i < n then some i.toNat else none) else if -(n : Int) ≤ i then some (i + n).toNat else none
def atI {α : Type} (xs : List α) (i : Int) : Option α := (ixN xs.length i).bind fun j => xs[j]?
theorem ixN_seq {n : Nat} {i : Int} {j : Nat} (h : ixN n i = some j) : seqIndex? i n = some j ∧ j < n ∧ -(n : Int) ≤ i ∧ i < n := by
  unfold ixN at h
  by_cases h0 : 0 ≤ i
  · rw [if_pos h0] at h
    by_cases h1 : i < n
    · rw [if_pos h1] at h
      have e : i.toNat = j := Option.some.inj h
      exact ⟨by rw [seqIndex_of h0 h1, e], by omega, by omega, h1⟩
    · rw [if_neg h1] at h; cases h
  · rw [if_neg h0] at h
    by_cases h1 : -(n : Int) ≤ i
    · rw [if_pos h1] at h
      have e : (i + n).toNat = j := Option.some.inj h
      exact ⟨by rw [seqIndex_neg (by omega) h1, e], by omega, h1, by omega⟩
    · rw [if_neg h1] at h; cases h
theorem atI_get {α : Type} {xs : List α} {i : Int} {v : α} (h : atI xs i = some v) : ∃ j, seqIndex? i xs.length = some j ∧ xs[j]? = some v ∧ j < xs.length ∧ -(xs.length : Int) ≤ i ∧ i < xs.length := by
  unfold atI at h
  cases e : ixN xs.length i with
  | none => rw [e] at h; cases h
  | some j =>
    rw [e] at h
    obtain ⟨h1, h2, h3, h4⟩ := ixN_seq e
    exact ⟨j, h1, h, h2, h3, h4⟩
theorem atI_nat {α : Type} {xs : List α} {j : Nat} {v : α} (h : xs[j]? = some v) : atI xs (j : Int) = some v := by
  have hj : j < xs.length := (List.getElem?_eq_some_iff.mp h).1
  have e : ixN xs.length (j : Int) = some j := by
    unfold ixN
    rw [if_pos (by omega), if_pos (by omega)]; simp
  unfold atI; rw [e]; exact h
/-! ### what may be subscripted -/
/-- what stands as an index of a plain subscript -/
def PlainIx (b : Expr) : Prop := ∀ o i, subscripted b false o i = operate [o, i] (getItem o i)
/-- a subscript by values -/
def IxR (X : Cx) (r : R2) : Prop :=
  ∀ (value slice : Expr) (pins : List (Addr × Obj)) (s : Shared) (σ : St) (H : Hp) (x y : V) (v u : Value) (Q : VK), Inv X pins σ H s → RelV x v → RelV y u → r x y H Q →
    subscripted slice false v u = operate [v, u] (getItem v u) → wpAny (model X.prog X.w) X.A (subscriptTail value slice v u) (EP X pins σ Q) X.xe s
/-- a call of a builtin's method by values: the receiver, the arguments -/
def MtR (X : Cx) (id : String) (r : V → List V → Hp → VK → Prop) : Prop :=
  ∀ (pins : List (Addr × Obj)) (s : Shared) (σ : St) (H : Hp) (x : V) (xs : List V) (v : Value) (us : List Value) (Q : VK), Inv X pins σ H s → RelV x v → Vals xs us → r x xs H Q →
    wpAny (model X.prog X.w) X.A (call (.builtin id) (v :: us)) (EP X pins σ Q) X.xe s
section
variable {X : Cx} {a b : Expr} {ta tb : TE} {pos : Pos}
theorem IxR.or {r r' : R2} (h : IxR X r) (h' : IxR X r') : IxR X (fun x y H Q => r x y H Q ∨ r' x y H Q) := by
  intro value slice pins s σ H x y v u Q I rx ry q hs
  rcases q with q | q
  · exact h value slice pins s σ H x y v u Q I rx ry q hs
  · exact h' value slice pins s σ H x y v u Q I rx ry q hs
/-- a[b] -/
theorem pe_ix {r : R2} (hr : IxR X r) (ha : PE X a ta) (hb : PE X b tb) (hs : PlainIx b) : PE X (.Subscript a b pos) (tOp r ta tb) := by
  intro pins s σ H Q I h
  exact Subscript_ (binT ha hb I h fun v u s2 x y H2 I2 rx ry q => hr a b pins s2 σ H2 x y v u Q I2 rx ry q (hs _ _))

def rIxL (K : PySem.W.Frag) : R2 := fun x y H Q => ∃ p xs i v, x = .ref p ∧ y = .int i ∧ SqL K H p xs ∧ atI xs i = some v ∧ Q v H
def rIxT (K : PySem.W.Frag) : R2 := fun x y H Q => ∃ p xs i v, x = .ref p ∧ y = .int i ∧ SqT K H p xs ∧ atI xs i = some v ∧ Q v H
def rIxS : R2 := fun x y H Q => ∃ z i c, x = .str z ∧ y = .int i ∧ z.length ≤ sizeLine ∧ atI z.cps.toList i = some c ∧ Q (.str ⟨#[c]⟩) H
theorem ix_list : IxR X (rIxL X.K) := by
  intro value slice pins s σ H x y v u Q I rx ry h hs
  obtain ⟨p, xs, i, z, rfl, rfl, hq, he, q⟩ := h
  cases rx
  obtain ⟨t, rfl⟩ := ry
  obtain ⟨its, r, pl, hz⟩ := I.list hq
  obtain ⟨j, h1, h2, h3, h4, h5⟩ := atI_get he
  obtain ⟨w, ew, rw'⟩ := r.get h2
  have hl := r.length
  have hn := line63
  have fin : EP X pins σ Q w s := ⟨z, H, I, rw', q⟩
  by_cases h0 : 0 ≤ i
  · have hj : i.toNat = j := by
      rw [seqIndex_of h0 h5] at h1
      exact Option.some.inj h1
    exact item_listR pl.isList h0 (by omega) (by rw [hj]; simpa using ew) fin hs
  · have hj : (i + (its.toArray.size : Int)).toNat = j := by
      rw [seqIndex_neg (by omega) h4] at h1
      rw [List.size_toArray, ← hl]
      exact Option.some.inj h1
    exact subscriptTail_builtinR (x := w) pl.isList.typeIs slot_list_getitem.lookup
      (wpAny_getItem_list_neg (Q := fun r s' => r = w ∧ EP X pins σ Q r s') pl.isList (by omega) (by rw [List.size_toArray] <;> omega) (by omega) (by rw [hj]; simpa using ew) ⟨rfl, fin⟩) hs
theorem ix_tup : IxR X (rIxT X.K) := by
  intro value slice pins s σ H x y v u Q I rx ry h hs
  obtain ⟨p, xs, i, z, rfl, rfl, hq, he, q⟩ := h
  cases rx
  obtain ⟨t, rfl⟩ := ry
  obtain ⟨its, r, pl, hz⟩ := I.tuple hq
  obtain ⟨j, h1, h2, h3, h4, h5⟩ := atI_get he
  obtain ⟨w, ew, rw'⟩ := r.get h2
  have hl := r.length
  have hn := line63
  have fin : EP X pins σ Q w s := ⟨z, H, I, rw', q⟩
  exact subscriptTail_builtinR (x := w) pl.typeIs slot_tuple_getitem.lookup
    (getItem_tuple (j := j) (Q := fun r s' => r = w ∧ EP X pins σ Q r s') pl (by omega) (by omega) (by rw [List.size_toArray, ← hl]; exact h1) (by simpa using ew) ⟨rfl, fin⟩) hs
theorem ix_str : IxR X rIxS := by
  intro value slice pins s σ H x y v u Q I rx ry h hs
  obtain ⟨z, i, c, rfl, rfl, hz, he, q⟩ := h
  obtain ⟨t, rfl⟩ := rx
  obtain ⟨t', rfl⟩ := ry
  obtain ⟨j, h1, h2, h3, h4, h5⟩ := atI_get he
  have hl : z.cps.toList.length = z.length := by simp [Str.length]
  rw [hl] at h1 h4 h5
  have hn := line63
  exact tail_any (typeIs_str s z t) slot_str_getitem.lookup (getItem_str (c := c) (by
    have e1 : decide (i < -(2 ^ 63 : Int)) = false := decide_eq_false (by omega)
    have e2 : decide (i ≥ 2 ^ 63) = false := decide_eq_false (by omega)
    rw [e1, e2, Bool.or_false]) (by rw [h1]; simpa using h2) ⟨.str ⟨#[c]⟩, H, I.tok _, ⟨_, rfl⟩, q⟩) hs
/-- list, tuple or str -/
def rIx (K : PySem.W.Frag) : R2 := fun x y H Q => rIxL K x y H Q ∨ rIxT K x y H Q ∨ rIxS x y H Q
theorem ix_seq : IxR X (rIx X.K) := ix_list.or (ix_tup.or ix_str)

/-! ### xs[i] = v, any sign -/
/-- the list's object behind a store -/
theorem mapSeq_set (its : List Value) (n j : Nat) (u : Value) : Obj.mapSeq (·.setIfInBounds j u) { cls := .type "list", data := .seq its.toArray n } = { cls := .type "list", data := .seq (its.set j u).toArray n } := by
  simp [Obj.mapSeq]
theorem Inv.lst {pins : List (Addr × Obj)} {σ : St} {H : Hp} {s : Shared} {p : Addr} {xs : List V} (I : Inv X pins σ H s) (h : H p = some (.lst xs)) :
    ∃ (its : List Value) (n : Nat), Vals xs its ∧ s.heap.get? p = some { cls := .type "list", data := .seq its.toArray n } ∧ xs.length ≤ sizeLine := by
  obtain ⟨z, its, n, r, e⟩ := I.hok p _ h
  exact ⟨its, n, r, e, z⟩
/-- the list at p is written by an update of its object -/
theorem Inv.lstUpd {pins : List (Addr × Obj)} {σ : St} {H : Hp} {s : Shared} {p : Addr} {xs ys : List V} {its its' : List Value} {n n' : Nat} {f : Obj → Obj} (I : Inv X pins σ H s) (h : H p = some (.lst xs))
    (ho : s.heap.get? p = some { cls := .type "list", data := .seq its.toArray n }) (hf : f { cls := .type "list", data := .seq its.toArray n } = { cls := .type "list", data := .seq its'.toArray n' }) (r : Vals ys its') (hz : ys.length ≤ sizeLine) (t : Nat) :
    Inv X pins σ (upd H p (.lst ys)) { s with heap := s.heap.update p f, toks := t } := by
  have e : (s.heap.update p f).get? p = some { cls := .type "list", data := .seq its'.toArray n' } := by
    rw [Heap.get?_update_self f ho (by rw [hf] <;> rfl), hf]
  refine I.write (x := p) (e := p) (by rw [h]; trivial) (.inl rfl) (fun b u hb q => (Heap.get?_update_other _ _ (Ne.symm hb)).trans q) ⟨_, e⟩ ?_
  exact ⟨hz, its', n', r, e⟩
def rSetL : V → V → V → Hp → (Hp → Prop) → Prop := fun o i v H Q => ∃ p xs k j, o = .ref p ∧ i = .int k ∧ H p = some (.lst xs) ∧ ixN xs.length k = some j ∧ Q (upd H p (.lst (xs.set j v)))
theorem set_list : PSet X rSetL := by
  intro pins s σ H o i v ov iv u Q I ro ri rv h
  obtain ⟨p, xs, k, j, rfl, rfl, hp, hj, q⟩ := h
  cases ro
  obtain ⟨t, rfl⟩ := ri
  obtain ⟨its, n, r, ho, hz⟩ := I.lst hp
  obtain ⟨h1, h2, h3, h4⟩ := ixN_seq hj
  have hl := r.length
  have hn := line63
  have I' : Inv X pins σ (upd H p (.lst (xs.set j v))) { s with heap := s.heap.update p (Obj.mapSeq (·.setIfInBounds j u)) } :=
    I.lstUpd hp ho (mapSeq_set its n j u) (r.set rv j) (by rw [List.length_set]; exact hz) s.toks
  by_cases h0 : 0 ≤ k
  · have hk : k.toNat = j := by
      rw [seqIndex_of h0 h4] at h1
      exact Option.some.inj h1
    exact PySem.W.ki_setAt ho h0 (by omega) (by rw [List.size_toArray, ← hl]; exact h4) (by rw [hk]; exact ⟨_, I', q⟩)
  · have hk : (k + (its.toArray.size : Int)).toNat = j := by
      rw [seqIndex_neg (by omega) h3] at h1
      rw [List.size_toArray, ← hl]
      exact Option.some.inj h1
    exact PySem.W.ki_setBack ho (by omega) (by rw [List.size_toArray, ← hl]; exact h3) (by omega) (by rw [hk]; exact ⟨_, I', q⟩)

/-! ### slices -/
theorem slice_bounds (lo hi : Option Int) (n : Nat) : (sliceBounds lo hi none n).1 = ((HT.sIx n 0 lo : Nat) : Int) ∧ (sliceBounds lo hi none n).2.1 = ((HT.sIx n n hi : Nat) : Int) ∧ (sliceBounds lo hi none n).2.2 = 1 := by
  refine ⟨?_, ?_, rfl⟩
  · cases lo with
    | none => simp [sliceBounds, HT.sIx]
    | some i =>
      simp only [sliceBounds, HT.sIx, Option.getD_none, show (1 : Int) > 0 by decide, if_true]
      by_cases h : i < 0
      · simp only [h, if_true] <;> omega
      · simp only [h, if_false] <;> omega
  · cases hi with
    | none => simp [sliceBounds, HT.sIx]
    | some i =>
      simp only [sliceBounds, HT.sIx, Option.getD_none, show (1 : Int) > 0 by decide, if_true]
      by_cases h : i < 0
      · simp only [h, if_true] <;> omega
      · simp only [h, if_false] <;> omega
theorem slicePick_cut (its : List Value) (lo hi : Option Int) : slicePick its.toArray lo hi none = ((its.drop (HT.sIx its.length 0 lo)).take (HT.sIx its.length its.length hi - HT.sIx its.length 0 lo)).toArray := by
  obtain ⟨h1, h2, h3⟩ := slice_bounds lo hi its.toArray.size
  unfold slicePick
  rw [h1, h2, h3]
  simp only [sliceRange_one, pick_run, List.size_toArray] <;> rfl
/-- xs[lo:hi] of a list: a new list -/
def rSlL (K : PySem.W.Frag) : V → Option Int → Option Int → Hp → VK → Prop := fun x lo hi H Q => ∃ a xs, x = .ref a ∧ SqL K H a xs ∧ ∀ p, H p = none → Q (.ref p) (upd H p (.lst (cutV xs lo hi)))
theorem sl_list : SlR X (rSlL X.K) := by
  intro pins s σ H x v vl vu lo hi sl Q I rx hs pl pu h
  obtain ⟨a, xs, rfl, hx, q⟩ := h
  cases rx
  obtain ⟨its, r, ht, hz⟩ := I.list hx
  have hlen := r.length
  refine ⟨"list", _, slot_list_getitem.lookup, ht.isList.typeIs, ?_⟩
  refine wpAny_getItem_list_slice ht.isList hs pl pu .none (by simp) ?_ (by rw [List.size_toArray] <;> omega)
  rw [slicePick_cut, ← hlen]
  refine ⟨.ref s.heap.objs.size, _, I.laid (t' := s.toks) (o := .lst (cutV xs lo hi)) (fun b ob q => Heap.get?_push_of_some _ q) (Nat.le_refl _) ?_, rfl, q _ (I.hok.fresh (Nat.le_refl _))⟩
  exact ⟨Nat.le_trans (cutV_length xs lo hi) hz, _, 0, (r.drop (HT.sIx xs.length 0 lo)).take (HT.sIx xs.length xs.length hi - HT.sIx xs.length 0 lo), Heap.get?_push_size _ rfl⟩

/-! ### in, not in: flat items -/
/-! ### len, list(x), tuple(x) of any list or tuple that is read -/
theorem CallR.or {f : Value} {r r' : List V → Hp → VK → Prop} (h : CallR X f r) (h' : CallR X f r') : CallR X f (fun xs H Q => r xs H Q ∨ r' xs H Q) := by
  intro pins s σ H xs us Q I rs q
  rcases q with q | q
  · exact h pins s σ H xs us Q I rs q
  · exact h' pins s σ H xs us Q I rs q
theorem call_tuple_of : CallR X (.type "tuple") (fun xs H Q => ∃ p ys, xs = [.ref p] ∧ ((SqL X.K H p ys ∧ ∀ l, H l = none → Q (.ref l) (upd H l (.tup ys))) ∨ (SqT X.K H p ys ∧ Q (.ref p) H))) := by
  intro pins s σ H xs us Q I r h
  obtain ⟨p, ys, rfl, h⟩ := h
  obtain ⟨u, rfl, rx⟩ := vals1 r
  cases rx
  rcases h with ⟨hq, q⟩ | ⟨hq, q⟩
  · obtain ⟨its, r', pl, hz⟩ := I.list hq
    have hlen := r'.length
    refine call_tuple_list pl.isList (fun h' kp => ?_) (by simp only [List.size_toArray] <;> omega)
    have I1 : Inv X pins σ H { s with heap := h' } := I.kept (t' := s.toks) kp
    have I2 : Inv X pins σ (upd H h'.objs.size (.tup ys)) { s with heap := h'.push { cls := .type "tuple", data := .seq its.toArray } } :=
      I1.laid (t' := s.toks) (fun b o e => Heap.get?_push_of_some _ e) (Nat.le_refl _) (show ObjOk X.prog X.w _ _ _ (.tup ys) from ⟨hz, its, r', IsTup.new _ _⟩)
    exact ⟨.ref h'.objs.size, _, I2, rfl, q _ (I1.hok.fresh (Nat.le_refl _))⟩
  · obtain ⟨its, r', pl, hz⟩ := I.tuple hq
    exact call_tuple_same pl ⟨.ref p, H, I, rfl, q⟩

/-! ### the call of a builtin's method: o.m(..) -/
/-- the value is of that builtin type -/
def tyV (K : PySem.W.Frag) (T : String) (x : V) (H : Hp) : Prop := match x with
  | .str _ => T = "str"
  | .int _ => T = "int"
  | .ref p => (T = "list" ∧ ∃ xs, SqL K H p xs) ∨ (T = "tuple" ∧ ∃ o, K.lookup p = some o ∧ o.cls = .type "tuple" ∧ o.dict = none) ∨
      (T = "dict" ∧ ((∃ kvs, H p = some (.dK kvs)) ∨ ∃ kvs, H p = some (.dT kvs))) ∨ (T = "set" ∧ ∃ S n, H p = some (.set S n))
  | _ => False
theorem tyV_is {pins : List (Addr × Obj)} {σ : St} {H : Hp} {s : Shared} {T : String} {x : V} {v : Value} (I : Inv X pins σ H s) (r : RelV x v) (ty : tyV X.K T x H) :
    s.TypeIs v T ∧ ∀ a, v = .ref a → ∃ ob, s.heap.get? a = some ob ∧ ob.dict = none := by
  cases x with
  | str z =>
    obtain ⟨t, rfl⟩ := r
    cases (show T = "str" from ty)
    exact ⟨typeIs_str s z t, fun _ e => nomatch e⟩
  | int i =>
    obtain ⟨t, rfl⟩ := r
    cases (show T = "int" from ty)
    exact ⟨typeIs_int s i t, fun _ e => nomatch e⟩
  | ref p =>
    cases r
    rcases ty with ⟨rfl, xs, hq⟩ | ⟨rfl, o, hk, hc, hd⟩ | ⟨rfl, hk⟩ | ⟨rfl, S, n, hk⟩
    · obtain ⟨its, _, pl, _⟩ := I.list hq
      refine ⟨pl.isList.typeIs, fun a e => ?_⟩
      cases e
      obtain ⟨o, n, e, c, hd, _⟩ := pl
      exact ⟨o, e, hd⟩
    · refine ⟨⟨o, I.kIn p o hk, hc⟩, fun a e => ?_⟩
      cases e
      exact ⟨o, I.kIn _ o hk, hd⟩
    · have z : ∃ o, s.heap.get? p = some o ∧ o.ExactDict := by
        rcases hk with ⟨kvs, hk⟩ | ⟨kvs, hk⟩
        · obtain ⟨_, _, _, _, o, _, _, e, ex, _⟩ := I.hok p _ hk
          exact ⟨o, e, ex⟩
        · obtain ⟨_, _, _, _, o, _, _, e, ex, _⟩ := I.hok p _ hk
          exact ⟨o, e, ex⟩
      obtain ⟨o, e, ex⟩ := z
      refine ⟨⟨o, e, ex.1⟩, fun a e2 => ?_⟩
      cases e2
      exact ⟨o, e, ex.2.1⟩
    · obtain ⟨o, _, _, _, e, ex, _⟩ := I.hok p _ hk
      refine ⟨⟨o, e, ex.1⟩, fun a e2 => ?_⟩
      cases e2
      exact ⟨o, e, ex.2.1⟩
  | _ => exact False.elim ty
def tBM (K : PySem.W.Frag) (T : String) (r : V → List V → Hp → VK → Prop) (to : TE) (t : TA) : TE := fun σ H Q => to σ H fun x H1 => tyV K T x H1 ∧ t σ H1 fun xs H2 => r x xs H2 Q
variable {o e : Expr} {es : List Expr} {to : TE} {t : TA} {name : Str} {apos cpos : Pos} {T id : String} {r : V → List V → Hp → VK → Prop}
theorem pe_bm (pa : PlainAttrs T) (slot : Slot T name id) (hty : typeOf (.builtin id) = pure (.type "method_descriptor")) (hm : MtR X id r) (ho : PE X o to) (ha : PA X (e :: es) t)
    (hbase : attributeBase o name X.env (eval o X.env) = eval o X.env := by rfl)
    (hfew : ((backTo cpos (starEach (e :: es) X.env)).all (fun x => !x.1) && (backToKw cpos (keywordEach [] X.env)).all (fun x => x.1.isSome)
      && decide ((e :: es).length + ([] : List Keyword).length + (if ([] : List Keyword).isEmpty then 0 else 1) < 30)) = true := by rfl)
    (hline : (apos.endLine == cpos.line) = true := by rfl) (hs : starEach (e :: es) X.env = (false, eval e X.env) :: starEach es X.env := by rfl) (hplain : (backTo cpos (starEach es X.env)).any (·.1) = false := by rfl) :
    PE X (.Call (.Attribute o name apos) (e :: es) [] cpos) (tBM X.K T r to t) := by
  intro pins s σ H Q I h
  refine wpAny_Call_method_late hbase hfew hline rfl (thn (ho pins s σ H _ I h) fun v s1 ⟨x, H1, I1, r1, ty, q1⟩ => ?_)
  obtain ⟨h1, h2⟩ := tyV_is I1 r1 ty
  refine ⟨T, id, pa, slot, hty, h1, h2, ?_⟩
  have hA := ha cpos pins s1 σ H1 _ I1 q1
  rw [hs] at hA ⊢
  refine Calls.callWith_builtin (by show (false || (backTo cpos (starEach es X.env)).any (·.1)) = false; rw [hplain] <;> rfl) (Calls.evalArgs_plain ?_)
  exact thn hA fun us s2 ⟨vs, H2, I2, r2, q2⟩ => hm pins s2 σ H2 x vs v us Q I2 r1 r2 q2
/- xs.append(e), list.index on a module's tuple .. are MtR facts of 06m -/
end
end L2

namespace L2
open PySem PySem.Spec PyProof.Rows

def MtM (X : Cx) (id : String) (r : V → List V → Hp → VK → Prop) : Prop :=
  ∀ (pins : List (Addr × Obj)) (s : Shared) (σ : St) (H : Hp) (x : V) (xs : List V) (v : Value) (us : List Value) (Q : VK), Inv X pins σ H s → RelV x v → Vals xs us → r x xs H Q →
    wpAny (model X.prog X.w) X.A (call (.builtin id) (v :: us)) (EP X pins σ Q) X.xe s

/-! ### lists of values -/
theorem Vals.one : ∀ {x : V} {us : List Value}, Vals [x] us → ∃ u, us = [u] ∧ RelV x u
  | _, _, .cons r .nil => ⟨_, rfl, r⟩
section
variable {X : Cx} {pins : List (Addr × Obj)} {σ : St} {H : Hp} {s : Shared} {l b : Addr} {xs ys zs : List V}

/-! ### the two steps: a tracked list is rewritten, a new list is laid -/
theorem Inv.lset {its its' : List Value} {n : Nat} {f : Array Value → Array Value} {t' : Nat} (I : Inv X pins σ H s) (hH : H l = some (.lst xs))
    (e : s.heap.get? l = some { cls := .type "list", data := .seq its.toArray n }) (hf : f its.toArray = its'.toArray) (hv : Vals ys its') (hz : ys.length ≤ sizeLine) :
    Inv X pins σ (upd H l (.lst ys)) { s with heap := s.heap.update l (Obj.mapSeq f), toks := t' } := by
  have q := PySem.IsL.update e f
  rw [hf] at q
  refine I.write (x := l) (e := l) (by rw [hH]; exact trivial) (.inl rfl) (fun b' u hb hu => (Heap.get?_update_other s.heap (Obj.mapSeq f) (Ne.symm hb)).trans hu) ⟨_, q⟩ ?_
  exact ⟨hz, its', _, hv, q⟩
theorem Inv.lnew {its : List Value} {t' : Nat} (I : Inv X pins σ H s) (hv : Vals ys its) (hz : ys.length ≤ sizeLine) :
    Inv X pins σ (upd H s.heap.objs.size (.lst ys)) { s with heap := s.heap.push { cls := .type "list", data := .seq its.toArray }, toks := t' } :=
  I.laid (fun _ _ q => Heap.get?_push_of_some _ q) (Nat.le_refl _) ⟨hz, its, 0, hv, Heap.get?_push_size _ rfl⟩
theorem Inv.fresh (I : Inv X pins σ H s) : H s.heap.objs.size = none := I.hok.fresh (Nat.le_refl _)
theorem Inv.lstM (I : Inv X pins σ H s) (hH : H l = some (.lst xs)) : xs.length ≤ sizeLine ∧ ∃ (its : List Value) (n : Nat), Vals xs its ∧ xs.length = its.length ∧ s.heap.get? l = some { cls := .type "list", data := .seq its.toArray n } := by
  obtain ⟨z, its, n, r, e⟩ := I.hok l _ hH
  exact ⟨z, its, n, r, r.length, e⟩

end

section
variable {X : Cx}

/-! ### methods -/
def rAppend : V → List V → Hp → VK → Prop := fun x vs H Q => ∃ l xs y, x = .ref l ∧ vs = [y] ∧ H l = some (.lst xs) ∧ xs.length < sizeLine ∧ Q .non (upd H l (.lst (xs ++ [y])))
theorem mt_append : MtM X "list.append" rAppend := by
  intro pins s σ H x vs v us Q I rx rv h
  obtain ⟨l, xs, y, rfl, rfl, hH, hz, q⟩ := h
  cases rx
  obtain ⟨u, rfl, ru⟩ := rv.one
  obtain ⟨z, its, n, r, hl, e⟩ := I.lstM hH
  refine call_meets F.slot_list_append ⟨_, e, rfl⟩ F.entry_list_append (F.args_list_append_2 _ _) (PySem.list_append l its.toArray n u (by rw [List.size_toArray]; omega)) ⟨e, ?_⟩
  refine ⟨.non, _, I.lset (its' := its ++ [u]) hH e (by simp) (r.append (.cons ru .nil)) ?_, rfl, q⟩
  rw [List.length_append, List.length_singleton]
  omega

/-! ### list + list, list += list, list * int -/
/-! ### del xs[i] -/
end

/-! ### xs[a:b] = ys -/
section
variable {prog : Program} {w : World} {A : Around} {E : Value → Shared → Prop} {s : Shared}
end

section
variable {X : Cx}
end
end L2

namespace Att
open PySem PySem.W PySem.Calls PyProof.Rows

/-! ### the script -/
theorem ints_of_wellAll {P : Params} {h : Heap} : ∀ (ns : List Int) (vs : List Value), WellAll P h vs (ns.map WData.int) → IntsAre vs ns := by
  intro ns
  induction ns with
  | nil =>
    intro vs w
    rw [List.map_nil] at w
    cases w
    exact .nil
  | cons n ns ih =>
    intro vs w
    rw [List.map_cons] at w
    cases w with
    | cons a b =>
      cases a
      exact .cons _ _ (ih _ b)

theorem script_of {l : OpenLaw} {n : Nat} (hn : l.most = some n) {P : Params} {h : Heap} {args : List WData} {vals : List Value}
    (hpre : l.row.toRowW.claim.pre args = true) (hwl : WellAll P h vals args) :
    ∃ a vs ns, vals = [Value.ref a] ∧ args = [WData.list (ns.map WData.int)] ∧ h.get? a = some { cls := .type "list", data := .seq vs.toArray } ∧ IntsAre vs ns ∧ ns.length ≤ n := by
  have hsh : WShape.hasAll [] args [.list .int] = true := (pre_splitW hpre).1
  have hc : l.pre.holds [] { args := args } = true := (pre_splitW hpre).2
  obtain ⟨d, r, rfl, h1, h2⟩ := hasAllW_cons hsh
  obtain rfl := hasAllW_nil h2
  obtain ⟨xs, rfl, h3⟩ := hasW_list h1
  obtain ⟨ns, rfl⟩ := items_int h3
  have hlen : ns.length ≤ n := by
    unfold OpenLaw.pre at hc
    have h4 : (WTm.not (.lt (.lit (.int (n : Int))) (.len (.arg 0)))).holds [] { args := [.list (ns.map .int)] } = true := by
      have h4 := (holds_andW hc).1
      rw [hn] at h4
      exact h4
    have h5 := condW_of h4 (w_not (w_lt w_lit (w_len_list (w_arg rfl))))
    rw [List.length_map] at h5
    refine Nat.le_of_not_lt fun q => ?_
    have q' : (n : Int) < ((ns.length : Nat) : Int) := by omega
    first
      | (rw [decide_eq_true q'] at h5; exact absurd h5 (by decide))
      | (simp at h5; omega)
  cases hwl with
  | cons w1 w2 =>
    cases w2
    cases w1 with
    | list ho hall => exact ⟨_, _, ns, rfl, rfl, ho, ints_of_wellAll ns _ hall, hlen⟩

theorem post_true (l : OpenLaw) (args : List WData) : l.row.toRowW.claim.post args (.bool true) args = true :=
  postW_of (r := l.row.toRowW) (X := (true == true))
    (show WShape.has [] (.bool true) .bool = true by first | rfl | decide | simp [WShape.has, WShape.arms, WShape.armsAll])
    (show (WTm.eq .res (.lit (.bool true))).value [] { args := args, res := some (.bool true), after := args } = some (.bool (true == true)) from w_eq_bool (w_res rfl) w_lit) rfl

/-! ### the attachment: holds_open's last premise (the goal 'hc' behind k_head) from a wpAny of the law's body -/
/-- the same from a codeAny of the CALL (for a layer whose function contracts speak of calls) -/
theorem attach_call {l : OpenLaw} {n : Nat} {q : Program} {loose : List Str} {XP : (Str → Option Value) → Heap → Prop} {YP : World → Heap → Prop} {d : DefRec}
    (hn : l.most = some n) (hdf : d.params.defaults = [])
    (call : ∀ (w : World) (s₀ s₁ : Shared) (mg mb : Str → Option Value) (fa : Addr) (o : Obj) (pm cd doc : Value) (a : Addr) (vs : List Value) (ns : List Int),
      Ground q loose [] XP w s₀ mg mb s₁.heap → YP w s₁.heap →
      s₁.heap.get? fa = some o → o.data = .func (docDef d.name d.params d.body d.scope pm cd doc) → s₁.heap.CodeRec cd d.name → mg d.name = some (.ref fa) →
      s₁.heap.get? a = some { cls := .type "list", data := .seq vs.toArray } → IntsAre vs ns → ns.length ≤ n → s₁.gens = #[] →
      codeAny (model l.prog w) callerA (.call (.ref fa) ⟨[.ref a], []⟩) (fun r s' => r = .ok (.ret (.bool true)) ∧ OldK s₁.heap s'.heap ∧ s'.os = s₁.os ∧ AllBare s'.gens) s₁) :
    WalkO q loose XP YP l.row.toRowW d [] (fun f vs => PySem.call f vs) := by
  intro w s₀ s₁ mg mb G Y fa o pm cd doc dV kV ho hd hcd hD hmg hg args vals as hpre hlay hrd hwl hlo
  obtain rfl : dV = .none := Dflts.none hD hdf
  obtain rfl : kV = .none := Dflts.noKw hD
  obtain ⟨a, vs, ns, rfl, rfl, hobj, hints, hlen⟩ := script_of hn hpre hwl
  refine enter_call (codeAny_mono (call w s₀ s₁ mg mb fa o pm cd doc a vs ns G Y ho (fd_plain hd) hcd hmg hobj hints hlen hg) fun r s' hq => ?_)
  obtain ⟨rfl, h2, h3, h4⟩ := hq
  exact ⟨.inl ⟨.bool true, .bool true, [], rfl, fun _ => rfl, .bool true, post_true l _, fun _ => ⟨List.Pairwise.nil, fun _ hm => (nomatch hm)⟩⟩, h2, h3, h4⟩

/-! ### rules over ANY heap (no ledger) from facts about the written part K: the library's own take a ledger (News) for what they write -/
section
variable {prog : Program} {w : World} {A : Around} {E : Value → Shared → Prop} {s : Shared} {K : Frag}

/-! the whole heap as the ledger: makes every rule that writes through a ledger a rule over any heap -/
def ledger (h : Heap) (L d : Addr) : List (Addr × Obj) := (List.range h.objs.size).filterMap fun a => if a = L ∨ a = d then none else (h.get? a).map fun o => (a, o)
end
end Att

namespace L2
open PySem PySem.Spec PyProof.Rows

theorem vals_ints : ∀ {vs : List Value} {ns : List Int}, IntsAre vs ns → Vals (ns.map V.int) vs
  | _, _, .nil => .nil
  | _, _, .cons n t h => .cons ⟨t, rfl⟩ (vals_ints h)

/-- nothing is tracked but the script, known to the object (or it is an object of the module) -/
def Only (H : Hp) : Prop := ∀ b, H b = none ∨ ∃ o xs, H b = some (.frz o (.lst xs))

/-- THE HEAD: the law's promise, at the heap behind the top. F, the promise of the law's def, may use that base is part of the heap (so K.In base, base.Ns mainGlobals mg stand in Mod) -/
theorem law_call {P : Program} {w : World} {K : PySem.W.Frag} {mg mb : Str → Option Value} {CX : CXT} {k : Nat} {fa a : Addr} {fd : FuncData} {x : Str} {sp : Sp} {s₁ : Shared} {vs : List Value} {ns : List Int}
    (KX : K.In s₁.heap) (hns : s₁.heap.Ns mainGlobals mg) (hb : s₁.heap.Ns builtinsNs mb) (hbb : ∀ x : Str, x ≠ "__name__" → mb x = bootBuiltins x) (hlim : s₁.heap.NoLimit) (hg : s₁.gens = #[])
    (ha : s₁.heap.get? a = some { cls := .type "list", data := .seq vs.toArray }) (hi : IntsAre vs ns) (hl : ns.length ≤ sizeLine) (hr : Room k callerA)
    (F : ∀ base : Heap, K.In base → base.Ns mainGlobals mg → FnOk P w K mg base CX k fa fd [x] sp) (hbind : ∀ (s : Shared) (u : Value), BindsTo s fd ⟨[u], []⟩ [(x, u)])
    (hsp : ∀ H : Hp, Only H → SqL K H a (ns.map V.int) → sp [.ref a] H (fun v _ => v = .bl true) fun _ _ _ => False)
    (hCX : ∀ H e s', CX [] H s₁ (fun _ _ _ => False) e s' → False) :
    codeAny (model P w) callerA (.call (.ref fa) ⟨[.ref a], []⟩) (fun r s' => r = .ok (.ret (.bool true)) ∧ OldK s₁.heap s'.heap ∧ s'.os = s₁.os ∧ AllBare s'.gens) s₁ := by
  have rv := vals_ints hi
  have lenV := hi.length
  -- from an abstract heap in which nothing but the script may be tracked
  have core : ∀ H : Hp, Only H → SqL K H a (ns.map V.int) → HOk P w H s₁.heap → (∀ b, H b ≠ none → b = a) → (H a ≠ none → K.lookup a = none) →
      codeAny (model P w) callerA (.call (.ref fa) ⟨[.ref a], []⟩) (fun r s' => r = .ok (.ret (.bool true)) ∧ OldK s₁.heap s'.heap ∧ s'.os = s₁.os ∧ AllBare s'.gens) s₁ := by
    intro H hO hS hok hA hK
    have base_of : ∀ {b : Addr} {o : Obj}, s₁.heap.get? b = some o → H b = none → (hidT s₁.heap H).get? b = some o := fun e n => hidT_get e n
    have noA : ∀ {b : Addr} {o : Obj} {es : Array DictEntry} {ep : Nat}, s₁.heap.get? b = some o → o.data = .dict es ep → H b = none := fun {b o es ep} e d => by
      cases q : H b with
      | none => rfl
      | some u =>
        have e' : b = a := hA b (by rw [q]; simp)
        subst e'
        rw [ha] at e; cases e
        have d' : Data.seq vs.toArray _ = Data.dict es ep := d
        cases d'
    have nsK : ∀ {b : Addr} {m : Str → Option Value}, s₁.heap.Ns b m → (hidT s₁.heap H).Ns b m := fun {b m} ⟨o, es, ep, e, d, r⟩ => ⟨o, es, ep, base_of e (noA e d), d, r⟩
    have hKb : K.In (hidT s₁.heap H) := fun b o e => base_of (KX b o e) (by
      cases q : H b with
      | none => rfl
      | some u =>
        have e' : b = a := hA b (by rw [q]; simp)
        subst e'
        rw [hK (by rw [q]; simp)] at e; cases e)
    have hM : Mod K mg (hidT s₁.heap H) := ⟨hKb, nsK hns, ⟨mb, nsK hb, hbb⟩, let ⟨mc, h1, h2⟩ := hlim; ⟨mc, nsK h1, h2⟩⟩
    have e0 : Env0 P w K mg (hidT s₁.heap H) callerA [] s₁ H := ⟨rfl, hM, fun b o e => of_hidT e, Nat.le_of_eq (hidT_size _ _), trivial, fun b hb => absurd (show b ∈ ([] : List Addr) from hb) (by simp), hok, .of_eq hg⟩
    refine codeAny_mono ((F _ hKb (nsK hns)).run callerA [] s₁ H ⟨[.ref a], []⟩ [.ref a] [.ref a] _ _ hr e0 (hbind s₁ (.ref a)) (.cons rfl .nil) (hsp H hO hS)) fun r s' h => ?_
    cases r with
    | error e => exact (hCX H e s' h).elim
    | ok fl =>
      cases fl with
      | next => exact False.elim h
      | brk => exact False.elim h
      | cont => exact False.elim h
      | ret u =>
        obtain ⟨v, H', os, bare, un, hok', r', q⟩ := h
        have q' : v = .bl true := q
        subst q'
        obtain rfl : u = Value.bool true := r'
        refine ⟨rfl, OldK.of_keep fun b o e => ?_, os, bare⟩
        cases q : H b with
        | none => exact un.keep b o e q (by intro z; exact absurd (show b ∈ ([] : List Addr) from z) (by simp)) (by simp)
        | some u =>
          rcases hO b with z | ⟨ob, xs, z⟩
          · rw [q] at z; cases z
          · have z2 := un.frzs b ob _ z
            obtain ⟨e1, _⟩ := hok b _ z
            obtain ⟨e2, _⟩ := hok' b _ z2
            rw [e] at e1; cases e1
            exact e2
  cases hk : K.lookup a with
  | some o =>
    -- the script is one of the module's own objects
    have e := KX a o hk
    rw [ha] at e
    cases e
    refine core (fun _ => none) (fun _ => .inl rfl) (.inr ⟨_, vs.toArray, _, hk, rfl, rfl, rfl, by rw [List.size_toArray, lenV]; exact hl, by simpa using rv⟩) (fun b u z => by have z' : (none : Option HO) = some u := z; cases z') (fun b z => absurd rfl z) fun z => absurd rfl z
  | none =>
    refine core (fun b => if b = a then some (.frz { cls := .type "list", data := .seq vs.toArray } (.lst (ns.map V.int))) else none) (fun b => ?_) (.inl (.inr ⟨{ cls := .type "list", data := .seq vs.toArray }, if_pos rfl⟩)) (fun b u z => ?_) (fun b z => ?_) fun _ => hk
    · by_cases hb : b = a
      · exact .inr ⟨_, _, if_pos hb⟩
      · exact .inl (if_neg hb)
    · by_cases hb : b = a
      · have z' := (if_pos hb).symm.trans z
        cases z'
        subst hb
        exact ⟨ha, by rw [List.length_map]; exact hl, vs, _, rv, ha⟩
      · have z' := (if_neg hb).symm.trans z
        cases z'
    · by_cases hb : b = a
      · exact hb
      · exact absurd (if_neg hb) z
end L2

namespace L2
open PySem PySem.Spec PyProof.Rows

abbrev KOf {K : PySem.W.Frag} {h : Heap} (_ : K.In h) : PySem.W.Frag := K

/-- the goal that k_head leaves (case hc), from the law's promise. F gives the function object fd (K's own) once, then the promise over every base -/
theorem walk_of {l : PySem.W.OpenLaw} {n k : Nat} {q : Program} {loose : List Str} {XP : (Str → Option Value) → Heap → Prop} {YP : World → Heap → Prop} {d : DefRec} {K : Params → PySem.W.Frag} {CX : World → CXT} {sp : World → Sp} {x : Str}
    (hn : l.most = some n) (hn2 : n ≤ sizeLine) (hdf : d.params.defaults = []) (hr : Room k callerA)
    (hY : ∀ (w : World) (h : Heap), YP w h → (K w.params).In h)
    (F : ∀ (w : World) (mg : Str → Option Value) (fa : Addr) (h : Heap), (K w.params).In h → h.Ns mainGlobals mg → mg d.name = some (.ref fa) →
      ∃ fd : FuncData, (∀ (s : Shared) (u : Value), BindsTo s fd ⟨[u], []⟩ [(x, u)]) ∧
        ∀ base : Heap, (K w.params).In base → base.Ns mainGlobals mg → FnOk l.prog w (K w.params) mg base (CX w) k fa fd [x] (sp w))
    (hsp : ∀ (w : World) (H : Hp) (a : Addr) (ns : List Int), ns.length ≤ n → Only H → SqL (K w.params) H a (ns.map V.int) → sp w [.ref a] H (fun v _ => v = .bl true) fun _ _ _ => False)
    (hCX : ∀ (w : World) (H : Hp) (s : Shared) (e : Value) (s' : Shared), CX w [] H s (fun _ _ _ => False) e s' → False) :
    PySem.W.WalkO q loose XP YP l.row.toRowW d [] (fun f vs => PySem.call f vs) := by
  refine Att.attach_call hn hdf fun w s₀ s₁ mg mb fa o pm cd doc a vs ns G Y ho hd hcd hmg hobj hints hlen hg => ?_
  have KX := hY w _ Y
  obtain ⟨fd, hb, hF⟩ := F w mg fa _ KX G.T.g hmg
  exact law_call KX G.T.g G.T.b G.T.builtins G.T.nolimit hg hobj hints (Nat.le_trans hlen hn2) hr hF hb (fun H hO hS => hsp w H a ns hlen hO hS) fun H e s' => hCX w H s₁ e s'
end L2

/- THE LAST THEOREM (shape; LID, My.* are yours):
   My.Adr: a structure of the addresses that your layer names (classes, functions); My.Txt K t: a structure (Prop) of the equations over K;
   My.txt_mk : {K} {implicit addresses ..} (e1 : nsIn K mainGlobals "law" = some (some (.ref f))) (e2 : K.lookup f = some ⟨oc, od, .func (fnOf "law" "law" params body scope dV kV doc pm an cdv ct), sl⟩) (e3 : codeIn K cdv "law" = true) .. : ∃ t, My.Txt K t

set_option maxRecDepth 100000 in
set_option maxHeartbeats 0 in
theorem PySem.Challenge.cw_LID_holds : PySem.Challenge.rw_LID.Holds := by
  w_on; o_law; k_head; (case hw => w_witness2)
  k_fill
  refine L2.walk_of (l := PySem.Challenge.rw_LID) (n := 63) (k := 40) (x := "script") (CX := fun w => ..) (sp := fun _ => My.sp_law) rfl (by decide) rfl ⟨rfl, by decide, by decide⟩ (fun w h Y => PySem.W.kIn_of Y) ?F ?S ?C
  case F =>
    intro w mg fa h KX G hmg
    have T : ∃ t, My.Txt (L2.KOf KX) t := by
      dsimp only [L2.KOf]                          -- K must stand as «<heap const> w.params» for k_is
      refine' My.txt_mk ?e1 ?e2 ?e3 ..
      (case e1 => PySem.W.k_is)                    -- in the order: a name -> its address -> its object -> its parts
      (case e2 => PySem.W.k_is)
      ..
    obtain ⟨t, T⟩ := T
    have e0 := hmg.symm.trans (PySem.W.mg_of KX G T.law)
    cases e0                                       -- fa is the law's own address
    exact ⟨_, fun s u => .of_eq rfl, fun base kb nb => My.law_fn T kb nb⟩     -- if «.of_eq rfl» comes too early: refine' ⟨_, ?b, fun base kb nb => My.law_fn T kb nb⟩; exact fun s u => .of_eq rfl
  case S => exact fun w H a ns hl hO hS => ..
  case C => exact ..
(the tactic k_is has no namespace: write k_is) -/

/-! SHORT WORDS over the layer: a def of the text, its body, what a loop and a test want. -/
namespace L2
open PySem PySem.Spec PyProof.Rows

/-! ### the text by places -/
def defArgs (s : Stmt) : Arguments := match s with
  | .FunctionDef _ a _ _ _ _ _ _ _ _ => a
  | _ => { posonlyargs := [], args := [], vararg := none, kwonlyargs := [], kw_defaults := [], kwarg := none, defaults := [] }
def defBody (s : Stmt) : List Stmt := match s with
  | .FunctionDef _ _ b _ _ _ _ _ _ _ => b
  | _ => []
def defScope (s : Stmt) : Scope := match s with
  | .FunctionDef _ _ _ _ _ _ sc _ _ _ => sc
  | _ => { kind := .function, names := [], isGenerator := false, isCoroutine := false }

/-! ### no exception leaves a def -/
abbrev CX0 : CXT := fun _ _ _ _ _ _ => False
abbrev E0 : XK := fun _ _ _ => False
theorem pass0 {X : Cx} : Passes CX0 X E0 := fun _ _ _ _ _ _ _ h => h.elim

/-! ### a def (or method) of the text as it stands behind the top -/
structure Fun (K : PySem.W.Frag) (x qual : Str) (st : Stmt) (f : Addr) (fd : FuncData) : Prop where
  ex : ∃ (oc : Value) (od : Option Addr) (kV doc pm : Value) (an : Option Addr) (cdv ct : Value) (osl : Array (Option Value)),
    fd = PySem.W.fnOf x qual (defArgs st) (defBody st) (defScope st) .none kV doc pm an cdv ct ∧ K.lookup f = some ⟨oc, od, .func fd, osl⟩ ∧ PySem.W.codeIn K cdv qual = true
  kp : PySem.W.keepIn K (.ref f) = true
section
variable {P : Program} {w : World} {K : PySem.W.Frag} {mg : Str → Option Value} {base : Heap}
/-- how its arguments bind (no defaults): h is «fun _ _ _ _ _ _ us hl => match us, hl with | [_, _], _ => rfl», one _ a parameter -/
theorem Fun.binds {x qual : Str} {st : Stmt} {f : Addr} {fd : FuncData} {ps : List Str} (F : Fun K x qual st f fd)
    (h : ∀ (kV doc pm : Value) (an : Option Addr) (cdv ct : Value) (us : List Value), us.length = ps.length → bindArgs (PySem.W.fnOf x qual (defArgs st) (defBody st) (defScope st) .none kV doc pm an cdv ct) ⟨us, []⟩ = pure (ps.zip us)) : Binds K fd ps [] := by
  obtain ⟨oc, od, kV, doc, pm, an, cdv, ct, osl, rfl, lk, hcd⟩ := F.ex
  exact .all (h kV doc pm an cdv ct)
theorem fun_mk {x qual : Str} {st : Stmt} {f : Addr} {oc : Value} {od an : Option Addr} {osl : Array (Option Value)} {kV doc pm cdv ct : Value} (l : K.lookup f = some ⟨oc, od, .func (PySem.W.fnOf x qual (defArgs st) (defBody st) (defScope st) .none kV doc pm an cdv ct), osl⟩)
    (c : PySem.W.codeIn K cdv qual = true) (k : PySem.W.keepIn K (.ref f) = true) : Fun K x qual st f (PySem.W.fnOf x qual (defArgs st) (defBody st) (defScope st) .none kV doc pm an cdv ct) := ⟨⟨oc, od, kV, doc, pm, an, cdv, ct, osl, rfl, l, c⟩, k⟩
end
/-! ### expressions in short: the name that stands in the i-th slot -/
section
variable {X : Cx}
end

/-! ### tests -/
/-! ### heaps -/
/-- all that was tracked is as it was -/
def Same (H H' : Hp) : Prop := ∀ b o, H b = some o → H' b = some o
theorem Same.trans {H H1 H2 : Hp} (a : Same H H1) (b : Same H1 H2) : Same H H2 := fun c o h => b c o (a c o h)
theorem Same.free {H H' : Hp} (e : Same H H') {l : Addr} (h : H' l = Option.none) : H l = Option.none := by
  cases q : H l with
  | none => rfl
  | some o =>
    rw [e l o q] at h
    cases h
end L2

namespace L2
open PySem PySem.Spec PyProof.Rows

/-! ### lists of pairs as tables -/
section
variable {κ : Type} [DecidableEq κ]
def valV (kvs : List (κ × V)) (k : κ) : Option V := (kvs.find? fun kv => decide (kv.1 = k)).map (·.2)
theorem valV_pos {p : κ × V} {r : List (κ × V)} {k : κ} (e : p.1 = k) : valV (p :: r) k = some p.2 := by simp [valV, List.find?_cons, e]
theorem valV_neg {p : κ × V} {r : List (κ × V)} {k : κ} (e : ¬ p.1 = k) : valV (p :: r) k = valV r k := by simp [valV, List.find?_cons, e]
/-- raw tables of the same keys -/
theorem KV.val {kvs : List (κ × V)} {vs : List (κ × Value)} (r : KV kvs vs) (k : κ) : RelO (valV kvs k) (valueAt vs k) := by
  unfold KV at r
  induction r with
  | nil => exact True.intro
  | @cons p q ps qs h t ih =>
    obtain ⟨h1, h2⟩ := h
    by_cases e : p.1 = k
    · have e' : q.1 = k := h1.symm.trans e
      have b : valueAt (q :: qs) k = some q.2 := by simp [valueAt, List.find?_cons, e']
      rw [valV_pos e, b]; exact h2
    · have e' : ¬ q.1 = k := fun z => e (h1.trans z)
      have b : valueAt (q :: qs) k = valueAt qs k := by simp [valueAt, List.find?_cons, e']
      rw [valV_neg e, b]; exact ih
end


/-! ### a tracked dict, its keys ints and texts or tuples of these -/
/-- raw entries of a dict with tuple keys -/
abbrev KT (H : Hp) : List (List Key × V) → List (List Key × Addr × Value) → Prop := Paired fun p q => p.1 = q.1 ∧ H q.2.1 = some (.tup (p.1.map kV)) ∧ RelV p.2 q.2.2
theorem KT.val {H : Hp} {kvs : List (List Key × V)} {xs : List (List Key × Addr × Value)} (r : KT H kvs xs) (k : List Key) : RelO (valV kvs k) ((atKey xs k).map (·.2)) := by
  induction r with
  | nil => exact True.intro
  | @cons p q ps qs h t ih =>
    obtain ⟨h1, _, h2⟩ := h
    by_cases e : p.1 = k
    · have e' : q.1 = k := h1.symm.trans e
      have b : atKey (q :: qs) k = some q.2 := by simp [atKey, List.find?_cons, e']
      rw [valV_pos e, b]; exact h2
    · have e' : ¬ q.1 = k := fun z => e (h1.trans z)
      have b : atKey (q :: qs) k = atKey qs k := by simp [atKey, List.find?_cons, e']
      rw [valV_neg e, b]; exact ih
section
variable {P : Program} {w : World} {H : Hp} {h : Heap} {a : Addr}
end

section
variable {X : Cx} {pins : List (Addr × Obj)} {σ : St} {H : Hp} {s : Shared} {a : Addr} {y v : V} {u r : Value} {o : Option V} {A : Around} {E : Value → Shared → Prop}

end

section
variable {X : Cx} {pins : List (Addr × Obj)} {σ : St} {H : Hp} {s : Shared} {a : Addr} {kvs : List (Key × V)} {k : Key} {u : Value} {A : Around} {E : Value → Shared → Prop}
end


/-! ### readings and rules -/
/-- the element of a subscription, not a slice -/
def NoSl (i : Expr) : Prop := ∀ ov iv, subscripted i false ov iv = operate [ov, iv] (getItem ov iv)
theorem subD_of {prog : Program} {w : World} {A : Around} {E : Value → Shared → Prop} {s : Shared} {env : Env} {value slice : Expr} {pos : Pos} {T id : String} {Q : Value → Shared → Prop}
    (hl : typeLookup (.type T) "__getitem__" = pure (some (.builtin id))) (hs : NoSl slice)
    (h : wpAny (model prog w) A (eval value env) (fun o s₁ => wpAny (model prog w) A (eval slice env) (fun i s₂ => s₂.TypeIs o T ∧ wpAny (model prog w) A (getItem o i) Q E s₂) E s₁) E s) :
    wpAny (model prog w) A (eval (.Subscript value slice pos) env) Q E s := by
  refine Subscript_ (wpAny_mono h (fun o s₁ h₁ => wpAny_mono h₁ (fun i s₂ h₂ => ?_) fun _ _ x => x) fun _ _ x => x)
  obtain ⟨hT, h₂⟩ := h₂
  unfold subscriptTail
  refine wpAny_bind ?_
  rw [getitemInPython_of_ne hT.not_modules]
  refine wpAny_bind (wpAny_specialOf hT hl ?_)
  have fin : wpAny (model prog w) A (subscripted slice false o i) (fun r s₃ => wpAny (model prog w) A (letTemporaryGo value o r >>= fun _ => pure r) Q E s₃) E s₂ := by
    rw [hs o i]
    exact wpAny_operating (wpAny_mono h₂ (fun r s₃ h₃ => wpAny_bind (wpAny_letTemporaryGo (wpAny_pure h₃))) fun _ _ x => x)
  first
    | exact wpAny_pure (wpAny_bind fin)
    | exact wpAny_bind (wpAny_pure (wpAny_bind fin))
    | exact wpAny_bind fin

section
variable {X : Cx} {o i e value : Expr} {pos pos' tpos : Pos} {td ty tv : TE}
end


/-! ### displays -/
section
variable {X : Cx} {pos : Pos}
end

/-! ### methods -/
/-- a method call o.m(e) of a built-in, with one argument: what must be seen of the text -/
structure M1 (X : Cx) (o : Expr) (m : Str) (apos : Pos) (e : Expr) (cpos : Pos) : Prop where
  base : attributeBase o m X.env (eval o X.env) = eval o X.env
  few : ((backTo cpos (starEach [e] X.env)).all (fun x => !x.1) && (backToKw cpos (keywordEach [] X.env)).all (fun x => x.1.isSome)
    && decide (([e] : List Expr).length + ([] : List Keyword).length + (if ([] : List Keyword).isEmpty then 0 else 1) < 30)) = true
  line : (apos.endLine == cpos.line) = true
  trees : backTo cpos (starEach [e] X.env) = [(false, eval e X.env)]
structure M2 (X : Cx) (o : Expr) (m : Str) (apos : Pos) (e f : Expr) (cpos : Pos) : Prop where
  base : attributeBase o m X.env (eval o X.env) = eval o X.env
  few : ((backTo cpos (starEach [e, f] X.env)).all (fun x => !x.1) && (backToKw cpos (keywordEach [] X.env)).all (fun x => x.1.isSome)
    && decide (([e, f] : List Expr).length + ([] : List Keyword).length + (if ([] : List Keyword).isEmpty then 0 else 1) < 30)) = true
  line : (apos.endLine == cpos.line) = true
  trees : backTo cpos (starEach [e, f] X.env) = [(false, eval e X.env), (false, eval f X.env)]

section
variable {X : Cx} {pins : List (Addr × Obj)} {σ : St} {H : Hp} {s : Shared} {a : Addr} {y d : V} {u r : Value} {o : Option V} {A : Around} {E : Value → Shared → Prop}
end

section
variable {X : Cx} {o e f : Expr} {apos cpos : Pos} {td ty tx : TE}
end

/-! ### dict(d): a copy -/
section
variable {X : Cx} {pins : List (Addr × Obj)} {σ : St} {H : Hp} {s : Shared} {a : Addr} {kvs : List (Key × V)} {A : Around} {E : Value → Shared → Prop}
end


section
variable {X : Cx} {pins : List (Addr × Obj)} {σ : St} {H : Hp} {s : Shared} {a : Addr} {y : V} {u : Value} {A : Around} {E : Value → Shared → Prop}
end
end L2

namespace DL
open PySem L2
/-! ### isinstance of an exception of an own class -/
structure XcK (K : PySem.W.Frag) (C : Addr) : Prop where
  ga : PySem.W.findIn K (.ref C) "__getattribute__" = some (some (.builtin "BaseException.__getattribute__"))
  nh : PySem.W.findIn K (.ref C) "__getattr__" = some none
  cl : ∃ cd, PySem.W.clsIn K C = some cd
  at_ : PySem.W.findIn K (.ref C) "__class__" = some (some (.builtin "object.__class__"))
  gt : PySem.W.specialIn K (.builtin "object.__class__") "__get__" = some (some (.builtin "getset_descriptor.__get__"))
  tk : PySem.W.takesIn K (.builtin "object.__class__") = some true
  ob : PySem.W.mroIn K C (.type "object") = some true
  bx : PySem.W.mroIn K C (.type "BaseException") = some true
  kit : ∀ c ∈ (["int", "bool", "str", "list", "tuple", "dict"] : List String), PySem.W.kitOne K (.ref C) (.type c) = some false
section
open PySem.W
variable {prog : Program} {w : World} {A : Around} {E : Value → Shared → Prop} {s : Shared} {K : PySem.W.Frag} {x C : Addr} {ox : Obj}
theorem check_x {M : Model} {nameV : Value} {Q : Unit → Shared → Prop} (X : K.In s.heap) (k : XcK K C) (I : PySem.W.InstAt s.heap x ox C none) (hq : Q () s) : wpAny M A (checkBuiltinCall "BaseException.__getattribute__" ⟨[.ref x, nameV], []⟩) Q E s := by
  have hk : builtinKind "BaseException.__getattribute__" = some .slot := by decide +kernel
  have hsplit : splitId "BaseException.__getattribute__" = some ("BaseException", "__getattribute__") := by decide +kernel
  have ha := F.args_bexc_ga (.ref x) nameV
  have L0 := I.type (M := M)
  have L1 := looks_mroIn (M := M) X k.bx
  have LI : Looks M s.heap (isInstance (.ref x) (.type "BaseException")) true := L0.andThen L1
  simp only [checkBuiltinCall, hk, hsplit]
  refine wpAny_bind (LI.at ?_)
  repeat (first | wp_step | exact hq)
theorem class_x {Q : Option Value → Shared → Prop} (X : K.In s.heap) (k : XcK K C) (I : PySem.W.InstAt s.heap x ox C none) (h : Q (some (.ref C)) { s with toks := s.toks + 1 }) : wpAny (model prog w) A (getAttr? (.ref x) "__class__") Q E s := by
  obtain ⟨cd, hcd⟩ := k.cl
  have hf : findObj K C none "__class__" = some (.bind (.builtin "getset_descriptor.__get__") (.builtin "object.__class__")) := by
    unfold findObj
    rw [hcd, k.at_]
    simp only [Option.bind_some, k.gt, k.tk]
  have L0 := I.type (M := model prog w)
  have L1 := looks_findIn (M := model prog w) X k.ga
  have L2 := looks_findIn (M := model prog w) X k.nh
  have LF := looks_find (M := model prog w) X I hf
  unfold getAttr? getAttrBy? getAttrBy
  refine wpAny_bind (wpAny_mkText (wpAny_bind (wpAny_attempt (wpAny_holding (wpAny_bind (L0.at (wpAny_bind (L1.at ?_))))))))
  have hx1 : (onTheHeap (Value.ref C) && Value.builtin "BaseException.__getattribute__" == Value.builtin "object.__getattribute__") = false := by
    rw [show (Value.builtin "BaseException.__getattribute__" == Value.builtin "object.__getattribute__") = false from by decide +kernel]; rfl
  show wpAny _ _ (if (onTheHeap (Value.ref C) && Value.builtin "BaseException.__getattribute__" == Value.builtin "object.__getattribute__") = true then _ else _) _ _ _
  rw [if_neg (by rw [hx1]; decide)]
  unfold getAttrByItsOwn hookBefore
  rw [if_pos (by rfl)]
  refine wpAny_bind (L2.at (wpAny_bind (wpAny_attempt (wpAny_holding ?_))))
  unfold callGetattribute boundAndCalled
  rw [if_neg (by decide)]
  rw [F.attr_ValueError.ga.bind (.ref x)]
  refine wpAny_bind (wpAny_pure (wpAny_call ?_))
  refine codeAny_call_builtin F.attr_ValueError.ga.plain F.entry_bexc_ga (check_x (s := { s with toks := s.toks + 1 }) X k I ?_)
  unfold Builtin.«object.__getattribute__»
  refine wpAny_bind (wpAny_pure (wpAny_bind (wpAny_pure (wpAny_bind (L0.at (wpAny_bind (LF.at ?_)))))))
  show wpAny _ _ (Builtin.ObjectAttr.bindTo _ _ _ _) _ _ _
  unfold Builtin.ObjectAttr.bindTo
  refine wpAny_bind (wpAny_holding (wpAny_call (class_get (s := { s with toks := s.toks + 1 }) X I k.ob ?_)))
  exact wpAny_pure (wpAny_pure (wpAny_pure h))
theorem kitx_x (k : XcK K C) : KitX K (.ref x) (.ref C) (fun h => ∃ ox, PySem.W.InstAt h x ox C none) where
  ty := fun _ _ _ ⟨ox, I⟩ => I.type
  it := fun _ _ X _ => by
    obtain ⟨cd, hcd⟩ := k.cl
    unfold clsIn at hcd
    split at hcd
    · rename_i c' d' cd' sl' ho
      intro A' Q' E' s' kp q
      unfold isType loadHead
      exact wpAny_bind (wpAny_loadPart (kp _ _ (X _ _ ho)) (wpAny_pure q))
    · cases hcd
  ne := fun h tp dd its n sl X htp => by
    obtain ⟨cd, hcd⟩ := k.cl
    refine Bool.eq_false_iff.mpr fun q => ?_
    have e : C = tp := Value.ref.inj (beq_iff_eq.mp q)
    subst e
    unfold clsIn at hcd
    split at hcd
    · rename_i c' d' cd' sl' ho
      have z := (X _ _ ho).symm.trans htp
      cases z
    · cases hcd
  ca := fun X ⟨ox, I⟩ q => class_x X k I q
end
end DL

namespace DL
open PySem L2

/-- data by value; own k: the k-th cell (a list that may be changed); exn C: an exception of the own class at C; tab P: no value, but the table at P is tidy (a name that the text hasn't) -/
inductive D where
  | non
  | bl (b : Bool)
  | int (i : Int)
  | str (cs : List Nat)
  | lst (xs : List D)
  | tup (xs : List D)
  | own (k : Nat)
  | dct
  | exn (C : Nat)
  | tab (P : Nat)
  deriving Repr, BEq, Inhabited
abbrev Ow := List (List D)
/-- an expression's outcome -/
inductive R (α : Type) where
  | ok (a : α) (O : Ow)
  | exc (c : Nat) (O : Ow)
  | bad
  deriving Repr, BEq, Inhabited
def R.bnd {α β : Type} (r : R α) (k : α → Ow → R β) : R β := match r with
  | .ok a O => k a O
  | .exc c O => .exc c O
  | .bad => .bad
abbrev Sg := List (Option D)
abbrev DE := Sg → Ow → R D
abbrev DT := Sg → Ow → R Bool
abbrev DA := Sg → Ow → R (List D)

section
variable (K : PySem.W.Frag) (H : Hp) (hid μ : List Addr)
def modL (K : PySem.W.Frag) (a : Addr) (xs : List V) : Prop := ∃ (o : Obj) (its : Array Value) (n : Nat), K.lookup a = some o ∧ o.cls = .type "list" ∧ o.dict = none ∧ o.data = .seq its n ∧ its.size ≤ sizeLine ∧ Vals xs its.toList
def modT (K : PySem.W.Frag) (a : Addr) (xs : List V) : Prop := ∃ (o : Obj) (its : Array Value) (n : Nat), K.lookup a = some o ∧ o.cls = .type "tuple" ∧ o.data = .seq its n ∧ its.size ≤ sizeLine ∧ Vals xs its.toList
def LstAt (a : Addr) (vs : List V) : Prop := (Rd H a (.lst vs) ∧ a ∉ hid ∧ a ∉ μ) ∨ modL K a vs
def TupAt (a : Addr) (vs : List V) : Prop := (Rd H a (.tup vs) ∧ a ∉ hid ∧ a ∉ μ) ∨ modT K a vs
end
/-- the table at P of the codes made within a def -/
def Tidy (H : Hp) (P : Addr) : Prop := ∃ ps, H P = some (.tbl ps) ∧ TriplesOk ps.toList ∧ ∀ pos cv, codeAmong pos ps.toList = some cv → ∃ c φ, cv = .ref c ∧ H c = some (.ext φ) ∧ ∀ h : Heap, φ h → ∃ q, h.CodeRec (.ref c) q
def NoTab (o : HO) : Prop := ∀ ps, o ≠ .tbl ps
section
variable (K : PySem.W.Frag) (H : Hp) (hid μ : List Addr)
mutual
def Dat : D → V → Prop
  | .non, v => v = .non
  | .bl b, v => v = .bl b
  | .int i, v => v = .int i
  | .str cs, v => v = .str ⟨cs.toArray⟩
  | .lst ds, v => ∃ a vs, v = .ref a ∧ LstAt K H hid μ a vs ∧ Dats ds vs
  | .tup ds, v => ∃ a vs, v = .ref a ∧ TupAt K H hid μ a vs ∧ Dats ds vs
  | .own k, v => ∃ a, v = .ref a ∧ μ[k]? = some a
  | .dct, v => ∃ a, v = .ref a ∧ Rd H a (.dK []) ∧ a ∉ hid ∧ a ∉ μ
  | .exn C, v => ∃ a φ, v = .ref a ∧ (XcK K C ∧ ∀ h : Heap, φ h → ∃ ox, PySem.W.InstAt h a ox C none) ∧ Rd H a (.ext φ) ∧ a ∉ hid ∧ a ∉ μ
  | .tab P, v => v = .bl false ∧ Tidy H P
def Dats : List D → List V → Prop
  | [], vs => vs = []
  | d :: ds, vs => ∃ v r, vs = v :: r ∧ Dat d v ∧ Dats ds r
end
/-- the cells -/
structure Cells (O : Ow) : Prop where
  len : μ.length = O.length
  nd : μ.Nodup
  nh : ∀ a ∈ μ, a ∉ hid
  ht : ∀ a ∈ hid, H a ≠ none
  at_ : ∀ (k : Nat) a, μ[k]? = some a → ∃ ds vs, O[k]? = some ds ∧ H a = some (.lst vs) ∧ Dats K H hid μ ds vs
structure EnvOk (σ : Sg) (σv : St) : Prop where
  len : σ.length = σv.length
  at_ : ∀ (i : Nat) d, σ[i]? = some (some d) → ∃ v, σv[i]? = some (some v) ∧ Dat K H hid μ d v
end
/-- tables may grow, so long as they stay tidy -/
structure Ext (H : Hp) (μ : List Addr) (H' : Hp) (μ' : List Addr) : Prop where
  pre : ∃ ν, μ' = μ ++ ν
  kept : ∀ b o, H b = some o → b ∉ μ → NoTab o → H' b = some o
  fresh : ∀ b ∈ μ', b ∈ μ ∨ H b = none
  there : ∀ b, H b ≠ none → H' b ≠ none
  tab : ∀ P, Tidy H P → Tidy H' P
/-- the same, where the hidden ones may change, and fresh ones be hidden -/
structure Mv (H : Hp) (hid μ : List Addr) (H' : Hp) (hid' μ' : List Addr) : Prop where
  pre : ∃ ν, μ' = μ ++ ν
  kept : ∀ b o, H b = some o → b ∉ μ → b ∉ hid → NoTab o → H' b = some o
  fresh : ∀ b ∈ μ', b ∈ μ ∨ H b = none
  hids : ∀ b ∈ hid', b ∈ hid ∨ H b = none
  there : ∀ b, H b ≠ none → H' b ≠ none
  tab : ∀ P, Tidy H P → Tidy H' P

section
variable {K : PySem.W.Frag} {H H' H1 H2 : Hp} {hid hid' hid1 hid2 μ μ' μ1 μ2 : List Addr}
theorem Ext.keep (e : Ext H μ H' μ') (b : Addr) (o : HO) (h : H b = some o) (n : b ∉ μ) (ht : NoTab o := by intro ps z; cases z) : H' b = some o := e.kept b o h n ht
theorem Tidy.upd {P p : Addr} {o : HO} (t : Tidy H P) (hp : H p = none ∨ ∃ vs, H p = some (.lst vs)) : Tidy (L2.upd H p o) P := by
  obtain ⟨ps, h1, h2, h3⟩ := t
  have n1 : P ≠ p := by
    rintro rfl
    rcases hp with z | ⟨vs, z⟩ <;> (rw [z] at h1; cases h1)
  refine ⟨ps, by rw [upd_ne n1]; exact h1, h2, fun pos cv e => ?_⟩
  obtain ⟨c, φ, rfl, hc, hf⟩ := h3 pos cv e
  have n2 : c ≠ p := by
    rintro rfl
    rcases hp with z | ⟨vs, z⟩ <;> (rw [z] at hc; cases hc)
  exact ⟨c, φ, rfl, by rw [upd_ne n2]; exact hc, hf⟩
theorem Ext.refl : Ext H μ H μ := ⟨⟨[], by simp⟩, fun _ _ h _ _ => h, fun _ h => .inl h, fun _ h => h, fun _ t => t⟩
theorem Ext.trans (a : Ext H μ H1 μ1) (b : Ext H1 μ1 H2 μ2) : Ext H μ H2 μ2 := by
  refine ⟨?_, fun c o h n ht => ?_, fun c h => ?_, fun c h => b.there c (a.there c h), fun P t => b.tab P (a.tab P t)⟩
  · obtain ⟨x, rfl⟩ := a.pre
    obtain ⟨y, rfl⟩ := b.pre
    exact ⟨x ++ y, by simp⟩
  · refine b.kept c o (a.kept c o h n ht) (fun m => ?_) ht
    rcases a.fresh c m with z | z
    · exact n z
    · rw [z] at h; cases h
  · rcases b.fresh c h with z | z
    · exact a.fresh c z
    · by_cases hm : c ∈ μ
      · exact .inl hm
      · cases e : H c with
        | none => exact .inr rfl
        | some o => exact absurd z (a.there c (by rw [e]; simp))
theorem Ext.mv (a : Ext H μ H' μ') : Mv H hid μ H' hid μ' := ⟨a.pre, fun b o h n _ ht => a.kept b o h n ht, a.fresh, fun _ h => .inl h, a.there, a.tab⟩
theorem Mv.trans (a : Mv H hid μ H1 hid1 μ1) (b : Mv H1 hid1 μ1 H2 hid2 μ2) : Mv H hid μ H2 hid2 μ2 := by
  have nn : ∀ c, H1 c = none → H c = none := fun c h => by
    cases e : H c with
    | none => rfl
    | some o => exact absurd h (a.there c (by rw [e]; simp))
  refine ⟨?_, fun c o h n1 n2 ht => ?_, fun c h => ?_, fun c h => ?_, fun c h => b.there c (a.there c h), fun P t => b.tab P (a.tab P t)⟩
  · obtain ⟨x, rfl⟩ := a.pre
    obtain ⟨y, rfl⟩ := b.pre
    exact ⟨x ++ y, by simp⟩
  · refine b.kept c o (a.kept c o h n1 n2 ht) (fun m => ?_) (fun m => ?_) ht
    · rcases a.fresh c m with z | z
      · exact n1 z
      · rw [z] at h; cases h
    · rcases a.hids c m with z | z
      · exact n2 z
      · rw [z] at h; cases h
  · rcases b.fresh c h with z | z
    · exact a.fresh c z
    · exact .inr (nn c z)
  · rcases b.hids c h with z | z
    · exact a.hids c z
    · exact .inr (nn c z)
theorem Mv.hide {b : Addr} (h : H b = none) : Mv H hid μ H (b :: hid) μ := ⟨⟨[], by simp⟩, fun _ _ h _ _ _ => h, fun _ m => .inl m, fun c m => (List.mem_cons.mp m).elim (fun e => .inr (by rw [e]; exact h)) .inl, fun _ h => h, fun _ t => t⟩
theorem Mv.unhide {b : Addr} : Mv H (b :: hid) μ H hid μ := ⟨⟨[], by simp⟩, fun _ _ h _ _ _ => h, fun _ m => .inl m, fun _ m => .inl (List.mem_cons_of_mem _ m), fun _ h => h, fun _ t => t⟩
theorem Rd.mv {a : Addr} {u : HO} (r : Rd H a u) (e : Mv H hid μ H' hid' μ') (n1 : a ∉ hid) (n2 : a ∉ μ) (ht : NoTab u := by intro ps z; cases z) : Rd H' a u ∧ a ∉ hid' ∧ a ∉ μ' := by
  have out : ∀ o, H a = some o → a ∉ hid' ∧ a ∉ μ' := by
    intro o h
    constructor
    · intro m
      rcases e.hids a m with z | z
      · exact n1 z
      · rw [z] at h; cases h
    · intro m
      rcases e.fresh a m with z | z
      · exact n2 z
      · rw [z] at h; cases h
  rcases r with r | ⟨o, r⟩
  · exact ⟨.inl (e.kept _ _ r n2 n1 ht), out _ r⟩
  · exact ⟨.inr ⟨o, e.kept _ _ r n2 n1 (by intro ps z; cases z)⟩, out _ r⟩
theorem LstAt.mv {a : Addr} {vs : List V} (h : LstAt K H hid μ a vs) (e : Mv H hid μ H' hid' μ') : LstAt K H' hid' μ' a vs :=
  h.imp (fun z => Rd.mv z.1 e z.2.1 z.2.2) id
theorem TupAt.mv {a : Addr} {vs : List V} (h : TupAt K H hid μ a vs) (e : Mv H hid μ H' hid' μ') : TupAt K H' hid' μ' a vs :=
  h.imp (fun z => Rd.mv z.1 e z.2.1 z.2.2) id
theorem LstAt.sq {a : Addr} {vs : List V} (h : LstAt K H hid μ a vs) : SqL K H a vs := h.elim (fun z => .inl z.1) .inr
theorem TupAt.sq {a : Addr} {vs : List V} (h : TupAt K H hid μ a vs) : SqT K H a vs := h.elim (fun z => .inl z.1) .inr
mutual
theorem Dat.mv (e : Mv H hid μ H' hid' μ') : ∀ {d : D} {v : V}, Dat K H hid μ d v → Dat K H' hid' μ' d v
  | .non, _, h => h
  | .bl _, _, h => h
  | .int _, _, h => h
  | .str _, _, h => h
  | .lst ds, v, h => by
    unfold Dat at h ⊢
    obtain ⟨a, vs, r, l, q⟩ := h
    exact ⟨a, vs, r, l.mv e, Dats.mv e q⟩
  | .tup ds, v, h => by
    unfold Dat at h ⊢
    obtain ⟨a, vs, r, l, q⟩ := h
    exact ⟨a, vs, r, l.mv e, Dats.mv e q⟩
  | .own k, v, h => by
    unfold Dat at h ⊢
    obtain ⟨a, r, q⟩ := h
    obtain ⟨x, rfl⟩ := e.pre
    exact ⟨a, r, by rw [List.getElem?_append_left (List.getElem?_eq_some_iff.mp q).1]; exact q⟩
  | .dct, v, h => by
    unfold Dat at h ⊢
    obtain ⟨a, r, q, n1, n2⟩ := h
    exact ⟨a, r, Rd.mv q e n1 n2⟩
  | .exn C, v, h => by
    unfold Dat at h ⊢
    obtain ⟨a, φ, r, g, q, n1, n2⟩ := h
    exact ⟨a, φ, r, g, Rd.mv q e n1 n2⟩
  | .tab P, v, h => by
    unfold Dat at h ⊢
    exact ⟨h.1, e.tab _ h.2⟩
theorem Dats.mv (e : Mv H hid μ H' hid' μ') : ∀ {ds : List D} {vs : List V}, Dats K H hid μ ds vs → Dats K H' hid' μ' ds vs
  | [], _, h => h
  | d :: ds, vs, h => by
    unfold Dats at h ⊢
    obtain ⟨v, r, e1, h1, h2⟩ := h
    exact ⟨v, r, e1, Dat.mv e h1, Dats.mv e h2⟩
end
theorem Dat.ext (e : Ext H μ H' μ') {d : D} {v : V} (h : Dat K H hid μ d v) : Dat K H' hid μ' d v := h.mv e.mv
theorem Dats.ext (e : Ext H μ H' μ') {ds : List D} {vs : List V} (h : Dats K H hid μ ds vs) : Dats K H' hid μ' ds vs := h.mv e.mv
theorem EnvOk.mv {σ : Sg} {σv : St} (h : EnvOk K H hid μ σ σv) (e : Mv H hid μ H' hid' μ') : EnvOk K H' hid' μ' σ σv :=
  ⟨h.len, fun i d q => let ⟨v, a, b⟩ := h.at_ i d q; ⟨v, a, b.mv e⟩⟩
theorem EnvOk.ext {σ : Sg} {σv : St} (h : EnvOk K H hid μ σ σv) (e : Ext H μ H' μ') : EnvOk K H' hid μ' σ σv := h.mv e.mv
theorem EnvOk.set {σ : Sg} {σv : St} (h : EnvOk K H hid μ σ σv) {d : D} {v : V} (q : Dat K H hid μ d v) (i : Nat) : EnvOk K H hid μ (σ.set i (some d)) (σv.set i (some v)) := by
  refine ⟨by simp [h.len], fun j x e => ?_⟩
  by_cases hj : i = j
  · subst hj
    have hi : i < σ.length := by have := (List.getElem?_eq_some_iff.mp e).1; simpa using this
    rw [List.getElem?_set_self hi] at e
    cases e
    exact ⟨v, by rw [List.getElem?_set_self (by rw [← h.len]; exact hi)], q⟩
  · rw [List.getElem?_set_ne hj] at e
    obtain ⟨w, a, b⟩ := h.at_ j x e
    exact ⟨w, by rw [List.getElem?_set_ne hj]; exact a, b⟩
/-! lists of data -/
theorem Dats.length : ∀ {ds : List D} {vs : List V}, Dats K H hid μ ds vs → ds.length = vs.length
  | [], _, h => by unfold Dats at h; subst h; rfl
  | d :: ds, vs, h => by
    unfold Dats at h
    obtain ⟨v, r, rfl, _, h2⟩ := h
    simp [Dats.length h2]
theorem Dats.nil : Dats K H hid μ [] [] := by unfold Dats; rfl
theorem Dats.cons {d : D} {v : V} {ds : List D} {vs : List V} (h : Dat K H hid μ d v) (t : Dats K H hid μ ds vs) : Dats K H hid μ (d :: ds) (v :: vs) := by
  unfold Dats; exact ⟨v, vs, rfl, h, t⟩
theorem Dats.append : ∀ {ds es : List D} {vs ws : List V}, Dats K H hid μ ds vs → Dats K H hid μ es ws → Dats K H hid μ (ds ++ es) (vs ++ ws)
  | [], _, _, _, h, t => by unfold Dats at h; subst h; exact t
  | d :: ds, es, vs, ws, h, t => by
    unfold Dats at h
    obtain ⟨v, r, rfl, h1, h2⟩ := h
    exact .cons h1 (Dats.append h2 t)
theorem Dats.get : ∀ {ds : List D} {vs : List V} {i : Nat} {d : D}, Dats K H hid μ ds vs → ds[i]? = some d → ∃ v, vs[i]? = some v ∧ Dat K H hid μ d v
  | [], _, _, _, _, e => by simp at e
  | d :: ds, vs, 0, x, h, e => by
    unfold Dats at h
    obtain ⟨v, r, rfl, h1, h2⟩ := h
    simp at e; subst e
    exact ⟨v, by simp, h1⟩
  | d :: ds, vs, i + 1, x, h, e => by
    unfold Dats at h
    obtain ⟨v, r, rfl, h1, h2⟩ := h
    obtain ⟨z, a, b⟩ := Dats.get (i := i) h2 (by simpa using e)
    exact ⟨z, by simpa using a, b⟩
theorem Dats.take : ∀ {ds : List D} {vs : List V} (n : Nat), Dats K H hid μ ds vs → Dats K H hid μ (ds.take n) (vs.take n)
  | _, _, 0, _ => by simpa using Dats.nil
  | [], _, n + 1, h => by unfold Dats at h; subst h; simpa using Dats.nil
  | d :: ds, vs, n + 1, h => by
    unfold Dats at h
    obtain ⟨v, r, rfl, h1, h2⟩ := h
    simpa using Dats.cons h1 (Dats.take n h2)
theorem Dats.drop : ∀ {ds : List D} {vs : List V} (n : Nat), Dats K H hid μ ds vs → Dats K H hid μ (ds.drop n) (vs.drop n)
  | _, _, 0, h => by simpa using h
  | [], _, n + 1, h => by unfold Dats at h; subst h; simpa using Dats.nil
  | d :: ds, vs, n + 1, h => by
    unfold Dats at h
    obtain ⟨v, r, rfl, h1, h2⟩ := h
    simpa using Dats.drop n h2
theorem Dats.set {d : D} {v : V} (q : Dat K H hid μ d v) : ∀ {ds : List D} {vs : List V} (i : Nat), Dats K H hid μ ds vs → Dats K H hid μ (ds.set i d) (vs.set i v)
  | [], _, i, h => by unfold Dats at h; subst h; simpa using Dats.nil
  | x :: ds, vs, 0, h => by
    unfold Dats at h
    obtain ⟨w, r, rfl, h1, h2⟩ := h
    simpa using Dats.cons q h2
  | x :: ds, vs, i + 1, h => by
    unfold Dats at h
    obtain ⟨w, r, rfl, h1, h2⟩ := h
    simpa using Dats.cons h1 (Dats.set q i h2)
/-! steps of the heap -/
theorem upd_there {p : Addr} {o : HO} (b : Addr) (h : H b ≠ none) : upd H p o b ≠ none := by
  by_cases e : b = p
  · subst e; rw [upd_same]; simp
  · rw [upd_ne e]; exact h
/-- a new object by value -/
theorem Ext.laid {p : Addr} {o : HO} (h : H p = none) : Ext H μ (upd H p o) μ :=
  ⟨⟨[], by simp⟩, fun b u e _ _ => by rw [upd_ne (ne_of_none e h)]; exact e, fun _ m => .inl m, upd_there, fun _ t => t.upd (.inl h)⟩
theorem Cells.laid {p : Addr} {o : HO} {O : Ow} (c : Cells K H hid μ O) (h : H p = none) : Cells K (upd H p o) hid μ O := by
  refine ⟨c.len, c.nd, c.nh, fun a m => ?_, fun k a e => ?_⟩
  · by_cases q : a = p
    · subst q; rw [upd_same]; simp
    · rw [upd_ne q]; exact c.ht a m
  · obtain ⟨ds, vs, h1, h2, h3⟩ := c.at_ k a e
    exact ⟨ds, vs, h1, by rw [upd_ne (ne_of_none h2 h)]; exact h2, h3.ext (.laid h)⟩
theorem Cells.not_in {O : Ow} (c : Cells K H hid μ O) {p : Addr} (h : H p = none) : p ∉ hid ∧ p ∉ μ := by
  refine ⟨fun m => c.ht p m h, fun m => ?_⟩
  obtain ⟨k, hk, e⟩ := List.mem_iff_getElem.mp m
  obtain ⟨ds, vs, _, h2, _⟩ := c.at_ k p (by rw [List.getElem?_eq_some_iff]; exact ⟨hk, e⟩)
  rw [h] at h2; cases h2
/-- a new list by value, a new tuple by value -/
theorem Dat.newL {O : Ow} {p : Addr} {vs : List V} {ds : List D} (c : Cells K H hid μ O) (h : H p = none) (q : Dats K H hid μ ds vs) : Dat K (upd H p (.lst vs)) hid μ (.lst ds) (.ref p) := by
  unfold Dat
  exact ⟨p, vs, rfl, .inl ⟨.inl upd_same, c.not_in h⟩, q.ext (.laid h)⟩
theorem Dat.newT {O : Ow} {p : Addr} {vs : List V} {ds : List D} (c : Cells K H hid μ O) (h : H p = none) (q : Dats K H hid μ ds vs) : Dat K (upd H p (.tup vs)) hid μ (.tup ds) (.ref p) := by
  unfold Dat
  exact ⟨p, vs, rfl, .inl ⟨.inl upd_same, c.not_in h⟩, q.ext (.laid h)⟩
/-- a new cell -/
theorem Ext.cell {p : Addr} {o : HO} (h : H p = none) : Ext H μ (upd H p o) (μ ++ [p]) :=
  ⟨⟨[p], rfl⟩, fun b u e _ _ => by rw [upd_ne (ne_of_none e h)]; exact e, fun b m => by
    rcases List.mem_append.mp m with m | m
    · exact .inl m
    · have : b = p := by simpa using m
      subst this; exact .inr h, upd_there, fun _ t => t.upd (.inl h)⟩
theorem Cells.cell {O : Ow} {p : Addr} {vs : List V} {ds : List D} (c : Cells K H hid μ O) (h : H p = none) (q : Dats K H hid μ ds vs) : Cells K (upd H p (.lst vs)) hid (μ ++ [p]) (O ++ [ds]) := by
  have ni := c.not_in h
  refine ⟨by simp [c.len], ?_, fun a m => ?_, fun a m => ?_, fun k a e => ?_⟩
  · rw [List.nodup_append]
    refine ⟨c.nd, by simp, fun a ha b hb => ?_⟩
    have : b = p := by simpa using hb
    subst this
    rintro rfl
    exact ni.2 ha
  · rcases List.mem_append.mp m with m | m
    · exact c.nh a m
    · have : a = p := by simpa using m
      subst this; exact ni.1
  · by_cases q : a = p
    · subst q; rw [upd_same]; simp
    · rw [upd_ne q]; exact c.ht a m
  · by_cases hk : k < μ.length
    · rw [List.getElem?_append_left hk] at e
      obtain ⟨ds', vs', h1, h2, h3⟩ := c.at_ k a e
      exact ⟨ds', vs', by rw [List.getElem?_append_left (by rw [← c.len]; exact hk)]; exact h1, by rw [upd_ne (ne_of_none h2 h)]; exact h2, h3.ext (.cell h)⟩
    · rw [List.getElem?_append_right (by omega)] at e
      have e0 : k - μ.length = 0 := by
        have := (List.getElem?_eq_some_iff.mp e).1
        simp at this; omega
      rw [e0] at e
      simp at e; subst e
      refine ⟨ds, vs, ?_, upd_same, q.ext (.cell h)⟩
      have : k = O.length := by have := c.len; omega
      subst this; simp
/-- a cell is changed -/
theorem Ext.put {p : Addr} {o : HO} (h : p ∈ μ) (hl : ∃ vs, H p = some (.lst vs)) : Ext H μ (upd H p o) μ :=
  ⟨⟨[], by simp⟩, fun b u e n _ => by rw [upd_ne (by rintro rfl; exact n h)]; exact e, fun _ m => .inl m, upd_there, fun _ t => t.upd (.inr hl)⟩
theorem Cells.put {O : Ow} {p : Addr} {k : Nat} {vs : List V} {ds : List D} (c : Cells K H hid μ O) (hk : μ[k]? = some p) (q : Dats K H hid μ ds vs) : Cells K (upd H p (.lst vs)) hid μ (O.set k ds) := by
  have hm : p ∈ μ := List.mem_of_getElem? hk
  have hl : ∃ vs, H p = some (.lst vs) := let ⟨_, vs, _, h2, _⟩ := c.at_ k p hk; ⟨vs, h2⟩
  refine ⟨by simp [c.len], c.nd, c.nh, fun a m => ?_, fun j a e => ?_⟩
  · by_cases q : a = p
    · subst q; rw [upd_same]; simp
    · rw [upd_ne q]; exact c.ht a m
  · by_cases hj : j = k
    · subst hj
      rw [hk] at e; cases e
      refine ⟨ds, vs, ?_, upd_same, q.ext (.put hm hl)⟩
      rw [List.getElem?_set_self (by rw [← c.len]; exact (List.getElem?_eq_some_iff.mp hk).1)]
    · have ne : a ≠ p := by
        rintro rfl
        obtain ⟨h1, e1⟩ := List.getElem?_eq_some_iff.mp e
        obtain ⟨h2, e2⟩ := List.getElem?_eq_some_iff.mp hk
        exact hj ((List.getElem_inj c.nd).mp (e1.trans e2.symm))
      obtain ⟨ds', vs', h1, h2, h3⟩ := c.at_ j a e
      exact ⟨ds', vs', by rw [List.getElem?_set_ne (Ne.symm hj)]; exact h1, by rw [upd_ne ne]; exact h2, h3.ext (.put hm hl)⟩
end

/-! ### readings -/
section
variable (Ex : Nat → Hp → Prop) (K : PySem.W.Frag)
def post {α β : Type} (rel : Hp → List Addr → α → β → Prop) (H : Hp) (hid μ : List Addr) (r : R α) (Q : β → Hp → Prop) : Prop := match r with
  | .ok d O' => ∀ v H' μ', Ext H μ H' μ' → Cells K H' hid μ' O' → rel H' μ' d v → Q v H'
  | .exc c O' => ∀ H' μ', Ext H μ H' μ' → Cells K H' hid μ' O' → Ex c H'
  | .bad => False
abbrev postE (H : Hp) (hid μ : List Addr) (r : R D) (Q : VK) : Prop := post Ex K (fun H' μ' d v => Dat K H' hid μ' d v) H hid μ r Q
abbrev postT (H : Hp) (hid μ : List Addr) (r : R Bool) (Q : Bool → Hp → Prop) : Prop := post Ex K (fun _ _ d v => d = v) H hid μ r Q
abbrev postA (H : Hp) (hid μ : List Addr) (r : R (List D)) (Q : List V → Hp → Prop) : Prop := post Ex K (fun H' μ' d v => Dats K H' hid μ' d v) H hid μ r Q
def rd (t : DE) : TE := fun σv H Q => ∃ hid μ σ O, EnvOk K H hid μ σ σv ∧ Cells K H hid μ O ∧ postE Ex K H hid μ (t σ O) Q
def rdT (t : DT) : TT := fun σv H Q => ∃ hid μ σ O, EnvOk K H hid μ σ σv ∧ Cells K H hid μ O ∧ postT Ex K H hid μ (t σ O) Q
def rdA (t : DA) : TA := fun σv H Q => ∃ hid μ σ O, EnvOk K H hid μ σ σv ∧ Cells K H hid μ O ∧ postA Ex K H hid μ (t σ O) Q
end
section
variable {Ex : Nat → Hp → Prop} {K : PySem.W.Frag} {H H1 : Hp} {hid μ μ1 : List Addr}
theorem post.ext {α β : Type} {rel : Hp → List Addr → α → β → Prop} {r : R α} {Q : β → Hp → Prop} (h : post Ex K rel H hid μ r Q) (e : Ext H μ H1 μ1) : post Ex K rel H1 hid μ1 r Q := by
  cases r with
  | ok d O' => exact fun v H' μ' e' c q => h v H' μ' (e.trans e') c q
  | exc c O' => exact fun H' μ' e' c => h H' μ' (e.trans e') c
  | bad => exact h
/-- one step, then the rest -/
theorem post.bnd {α β α' β' : Type} {rel : Hp → List Addr → α → β → Prop} {rel' : Hp → List Addr → α' → β' → Prop} {r : R α} {k : α → Ow → R α'} {Q : β' → Hp → Prop} {Q1 : β → Hp → Prop}
    (h : post Ex K rel' H hid μ (r.bnd k) Q)
    (hk : ∀ d O1 v H1 μ1, Ext H μ H1 μ1 → Cells K H1 hid μ1 O1 → rel H1 μ1 d v → post Ex K rel' H1 hid μ1 (k d O1) Q → Q1 v H1) : post Ex K rel H hid μ r Q1 := by
  cases r with
  | ok d O' => exact fun v H' μ' e c q => hk d O' v H' μ' e c q (post.ext (show post Ex K rel' H hid μ (k d O') Q from h) e)
  | exc c O' => exact h
  | bad => exact h
theorem post.ok {α β : Type} {rel : Hp → List Addr → α → β → Prop} {d : α} {O : Ow} {Q : β → Hp → Prop} {v : β} (h : post Ex K rel H hid μ (.ok d O) Q) {H' : Hp} {μ' : List Addr} (e : Ext H μ H' μ') (c : Cells K H' hid μ' O) (q : rel H' μ' d v) : Q v H' := h v H' μ' e c q
theorem post.here {α β : Type} {rel : Hp → List Addr → α → β → Prop} {d : α} {O : Ow} {Q : β → Hp → Prop} {v : β} (h : post Ex K rel H hid μ (.ok d O) Q) (c : Cells K H hid μ O) (q : rel H μ d v) : Q v H := h v H μ .refl c q
end
/-! ### the judgements -/
structure PD (X : Cx) (Ex : Nat → Hp → Prop) (e : Expr) (t : DE) : Prop where
  out : PE X e (rd Ex X.K t)
structure PDT (X : Cx) (Ex : Nat → Hp → Prop) (e : Expr) (t : DT) : Prop where
  out : PT X e (rdT Ex X.K t)
structure PDA (X : Cx) (Ex : Nat → Hp → Prop) (es : List Expr) (t : DA) : Prop where
  out : PA X es (rdA Ex X.K t)
theorem PE.imp {X : Cx} {e : Expr} {t t' : TE} (h : PE X e t) (f : ∀ σ H Q, t' σ H Q → t σ H Q) : PE X e t' := fun pins s σ H Q I q => h pins s σ H Q I (f σ H Q q)
theorem PT.imp {X : Cx} {e : Expr} {t t' : TT} (h : PT X e t) (f : ∀ σ H Q, t' σ H Q → t σ H Q) : PT X e t' := fun pins s σ H Q I q => h pins s σ H Q I (f σ H Q q)
theorem PA.imp {X : Cx} {e : List Expr} {t t' : TA} (h : PA X e t) (f : ∀ σ H Q, t' σ H Q → t σ H Q) : PA X e t' := fun pos pins s σ H Q I q => h pos pins s σ H Q I (f σ H Q q)
theorem PW.imp {X : Cx} {e : Expr} {t t' : TT} (h : PW X e t) (f : ∀ σ H Q, t' σ H Q → t σ H Q) : PW X e t' := fun w pins s σ H Q I q => h w pins s σ H Q I (f σ H Q q)
end DL

namespace DL
open PySem L2

/-! ### names, constants -/
def dVar (i : Nat) : DE := fun σ O => match σ[i]? with
  | some (some d) => .ok d O
  | _ => .bad
def dC (d : D) : DE := fun _ O => .ok d O
section
variable {X : Cx} {Ex : Nat → Hp → Prop} {pos : Pos} {a b c : Expr} {ta tb tc : DE}
theorem pd_of {e : Expr} {t : TE} {t' : DE} (h : PE X e t) (f : ∀ hid μ σ O σv H Q, EnvOk X.K H hid μ σ σv → Cells X.K H hid μ O → postE Ex X.K H hid μ (t' σ O) Q → t σv H Q) : PD X Ex e t' :=
  ⟨PE.imp h fun σv H Q ⟨hid, μ, σ, O, e1, c1, q⟩ => f hid μ σ O σv H Q e1 c1 q⟩
theorem pdt_of {e : Expr} {t : TT} {t' : DT} (h : PT X e t) (f : ∀ hid μ σ O σv H Q, EnvOk X.K H hid μ σ σv → Cells X.K H hid μ O → postT Ex X.K H hid μ (t' σ O) Q → t σv H Q) : PDT X Ex e t' :=
  ⟨PT.imp h fun σv H Q ⟨hid, μ, σ, O, e1, c1, q⟩ => f hid μ σ O σv H Q e1 c1 q⟩
theorem pda_of {e : List Expr} {t : TA} {t' : DA} (h : PA X e t) (f : ∀ hid μ σ O σv H Q, EnvOk X.K H hid μ σ σv → Cells X.K H hid μ O → postA Ex X.K H hid μ (t' σ O) Q → t σv H Q) : PDA X Ex e t' :=
  ⟨PA.imp h fun σv H Q ⟨hid, μ, σ, O, e1, c1, q⟩ => f hid μ σ O σv H Q e1 c1 q⟩
/-- step into a part -/
theorem rd.go {α' β' : Type} {rel' : Hp → List Addr → α' → β' → Prop} {t : DE} {hid μ : List Addr} {σ : Sg} {O : Ow} {σv : St} {H : Hp} {Q1 : VK} {k : D → Ow → R α'} {Q : β' → Hp → Prop} (e1 : EnvOk X.K H hid μ σ σv) (c1 : Cells X.K H hid μ O)
    (q : post Ex X.K rel' H hid μ ((t σ O).bnd k) Q)
    (f : ∀ d O1 v H1 μ1, EnvOk X.K H1 hid μ1 σ σv → Ext H μ H1 μ1 → Cells X.K H1 hid μ1 O1 → Dat X.K H1 hid μ1 d v → post Ex X.K rel' H1 hid μ1 (k d O1) Q → Q1 v H1) : rd Ex X.K t σv H Q1 :=
  ⟨hid, μ, σ, O, e1, c1, post.bnd q fun d O1 v H1 μ1 x c r p => f d O1 v H1 μ1 (e1.ext x) x c r p⟩
theorem rdT.go {α' β' : Type} {rel' : Hp → List Addr → α' → β' → Prop} {t : DT} {hid μ : List Addr} {σ : Sg} {O : Ow} {σv : St} {H : Hp} {Q1 : Bool → Hp → Prop} {k : Bool → Ow → R α'} {Q : β' → Hp → Prop} (e1 : EnvOk X.K H hid μ σ σv) (c1 : Cells X.K H hid μ O)
    (q : post Ex X.K rel' H hid μ ((t σ O).bnd k) Q)
    (f : ∀ v O1 H1 μ1, EnvOk X.K H1 hid μ1 σ σv → Ext H μ H1 μ1 → Cells X.K H1 hid μ1 O1 → post Ex X.K rel' H1 hid μ1 (k v O1) Q → Q1 v H1) : rdT Ex X.K t σv H Q1 :=
  ⟨hid, μ, σ, O, e1, c1, post.bnd q fun d O1 v H1 μ1 x c r p => by
    have r : d = v := r
    subst r
    exact f d O1 H1 μ1 (e1.ext x) x c p⟩
theorem rdA.go {α' β' : Type} {rel' : Hp → List Addr → α' → β' → Prop} {t : DA} {hid μ : List Addr} {σ : Sg} {O : Ow} {σv : St} {H : Hp} {Q1 : List V → Hp → Prop} {k : List D → Ow → R α'} {Q : β' → Hp → Prop} (e1 : EnvOk X.K H hid μ σ σv) (c1 : Cells X.K H hid μ O)
    (q : post Ex X.K rel' H hid μ ((t σ O).bnd k) Q)
    (f : ∀ d O1 v H1 μ1, EnvOk X.K H1 hid μ1 σ σv → Ext H μ H1 μ1 → Cells X.K H1 hid μ1 O1 → Dats X.K H1 hid μ1 d v → post Ex X.K rel' H1 hid μ1 (k d O1) Q → Q1 v H1) : rdA Ex X.K t σv H Q1 :=
  ⟨hid, μ, σ, O, e1, c1, post.bnd q fun d O1 v H1 μ1 x c r p => f d O1 v H1 μ1 (e1.ext x) x c r p⟩

theorem pd_var {i : Nat} {x : Str} (hN : X.N[i]? = some x) (hv : Vis X.env.scope x) (hd : (x == ("__debug__" : Str)) = false := by decide) (hcd : (x == ("__classdict__" : Str)) = false := by decide) : PD X Ex (.Name x pos) (dVar i) :=
  pd_of (pe_var hN hv hd hcd) fun hid μ σ O σv H Q e1 c1 q => by
    unfold dVar at q
    split at q
    · rename_i d hd
      obtain ⟨v, h1, h2⟩ := e1.at_ i d hd
      exact ⟨v, h1, post.here q c1 h2⟩
    · exact False.elim q
theorem pd_int {i j} : PD X Ex (.Constant (.int i) j pos) (dC (.int i)) := pd_of pe_int fun hid μ σ O σv H Q e1 c1 q => post.here q c1 (by unfold Dat; rfl)
theorem pd_bl {i j} : PD X Ex (.Constant (.bool i) j pos) (dC (.bl i)) := pd_of pe_bl fun hid μ σ O σv H Q e1 c1 q => post.here q c1 (by unfold Dat; rfl)
theorem pd_non {j} : PD X Ex (.Constant .none j pos) (dC .non) := pd_of pe_non fun hid μ σ O σv H Q e1 c1 q => post.here q c1 (by unfold Dat; rfl)
theorem pd_str {x : Str} {j} (cs : List Nat) (h : x = ⟨cs.toArray⟩) : PD X Ex (.Constant (.str x) j pos) (dC (.str cs)) := pd_of pe_str fun hid μ σ O σv H Q e1 c1 q => post.here q c1 (by unfold Dat; rw [h])
theorem pd_globS {x : Str} {y : Str} {t : Tok} (cs : List Nat) (hg : Gl X x) (hm : X.mg x = some (.str y t)) (h : y = ⟨cs.toArray⟩) (hd : (x == ("__debug__" : Str)) = false := by decide) : PD X Ex (.Name x pos) (dC (.str cs)) :=
  pd_of (pe_glob (v := .str y) hg hm ⟨t, rfl⟩ hd) fun hid μ σ O σv H Q e1 c1 q => post.here q c1 (by unfold Dat; rw [h])

/-! ### operators -/
def dOp (f : Ow → D → D → R D) (ta tb : DE) : DE := fun σ O => (ta σ O).bnd fun x O1 => (tb σ O1).bnd fun y O2 => f O2 x y
/-- an operation by data -/
def OpD (X : Cx) (Ex : Nat → Hp → Prop) (r : R2) (f : Ow → D → D → R D) : Prop := ∀ (H : Hp) (hid μ : List Addr) (O : Ow) (x y : D) (v w : V) (Q : VK), Cells X.K H hid μ O → Dat X.K H hid μ x v → Dat X.K H hid μ y w → postE Ex X.K H hid μ (f O x y) Q → r v w H Q
theorem tOp_of {r : R2} {f : Ow → D → D → R D} (h : OpD X Ex r f) (hid μ : List Addr) (σ : Sg) (O : Ow) (σv : St) (H : Hp) (Q : VK) (e1 : EnvOk X.K H hid μ σ σv) (c1 : Cells X.K H hid μ O) (q : postE Ex X.K H hid μ (dOp f ta tb σ O) Q) :
    tOp r (rd Ex X.K ta) (rd Ex X.K tb) σv H Q :=
  rd.go e1 c1 q fun x O1 v H1 μ1 e2 x2 c2 d2 q2 => rd.go e2 c2 q2 fun y O2 w H2 μ2 e3 x3 c3 d3 q3 => h H2 hid μ2 O2 x y v w Q c3 (d2.ext x3) d3 q3
theorem pd_op {op : Operator} {r : R2} {f : Ow → D → D → R D} (ho : OpR X (binaryOp op) r) (h : OpD X Ex r f) (ha : PD X Ex a ta) (hb : PD X Ex b tb) : PD X Ex (.BinOp a op b pos) (dOp f ta tb) :=
  pd_of (pe_op ho ha.out hb.out) (tOp_of h)
theorem pd_cmp {op : CmpOp} {r : R2} {f : Ow → D → D → R D} (ho : OpR X (compareOp op) r) (h : OpD X Ex r f) (ha : PD X Ex a ta) (hb : PD X Ex b tb) (hm : behindInMarks op b = false) : PD X Ex (.Compare a [op] [b] pos) (dOp f ta tb) :=
  pd_of (pe_cmpR ho ha.out hb.out hm) (tOp_of h)
/-- a value as a test -/
def dTst (t : DE) : DT := fun σ O => (t σ O).bnd fun x O1 => match x with
  | .bl k => .ok k O1
  | _ => .bad
theorem tTest_of {t : TE} {td : DE} (f : ∀ hid μ σ O σv H Q, EnvOk X.K H hid μ σ σv → Cells X.K H hid μ O → postE Ex X.K H hid μ (td σ O) Q → t σv H Q) (hid μ : List Addr) (σ : Sg) (O : Ow) (σv : St) (H : Hp) (Q : Bool → Hp → Prop)
    (e1 : EnvOk X.K H hid μ σ σv) (c1 : Cells X.K H hid μ O) (q : postT Ex X.K H hid μ (dTst td σ O) Q) : tTest t σv H Q := by
  refine f hid μ σ O σv H _ e1 c1 ?_
  refine post.bnd q fun d O1 v H1 μ1 x c r p => ?_
  cases d with
  | bl k =>
    have r : v = .bl k := by unfold Dat at r; exact r
    exact ⟨k, r, post.here p c rfl⟩
  | _ => exact False.elim p
theorem pdt_cmp {op : CmpOp} {r : R2} {f : Ow → D → D → R D} (ho : OpR X (compareOp op) r) (h : OpD X Ex r f) (ha : PD X Ex a ta) (hb : PD X Ex b tb) (hm : behindInMarks op b = false) : PDT X Ex (.Compare a [op] [b] pos) (dTst (dOp f ta tb)) :=
  pdt_of (pt_cmpR ho ha.out hb.out hm) (tTest_of (tOp_of h))
/-- any value's truth -/
def truD (O : Ow) : D → R Bool
  | .non => .ok false O
  | .bl b => .ok b O
  | .int i => .ok (i != 0) O
  | .str cs => if cs.length ≤ 100000 then .ok (!cs.isEmpty) O else .bad
  | .lst ds => .ok (!ds.isEmpty) O
  | .tup ds => .ok (!ds.isEmpty) O
  | .own k => match O[k]? with
    | some ds => .ok (!ds.isEmpty) O
    | none => .bad
  | .dct => .bad
  | .exn _ => .bad
  | .tab _ => .bad
def dTru (t : DE) : DT := fun σ O => (t σ O).bnd fun x O1 => truD O1 x
theorem small_line {n : Nat} (h : n ≤ 100000) : n ≤ sizeLine := Nat.le_trans h (by decide)
theorem isEmpty_of_dats {K : PySem.W.Frag} {H : Hp} {hid μ : List Addr} {ds : List D} {vs : List V} (h : Dats K H hid μ ds vs) : (!ds.isEmpty) = !vs.isEmpty := by
  have e := h.length
  cases ds <;> cases vs <;> simp_all
theorem pdt_tru (ha : PD X Ex a ta) (he : ∀ whole, isTrue a X.env whole = (do let v ← whole; standAt a.pos; holding [v] (truthy v))) : PDT X Ex a (dTru ta) :=
  pdt_of (pt_truth ha.out he) fun hid μ σ O σv H Q e1 c1 q => rd.go e1 c1 q fun d O1 v H1 μ1 e2 x c r p => by
    cases d with
    | non => unfold Dat at r; subst r; exact ⟨_, rfl, post.here p c rfl⟩
    | bl b => unfold Dat at r; subst r; exact ⟨_, rfl, post.here p c rfl⟩
    | int b => unfold Dat at r; subst r; exact ⟨_, rfl, post.here p c rfl⟩
    | str cs =>
      unfold Dat at r; subst r
      by_cases hl : cs.length ≤ 100000
      · have p' : postT Ex X.K H1 hid μ1 (.ok (!cs.isEmpty) O1) Q := by
          have p2 : postT Ex X.K H1 hid μ1 (if cs.length ≤ 100000 then .ok (!cs.isEmpty) O1 else .bad) Q := p
          rw [if_pos hl] at p2; exact p2
        refine ⟨_, ⟨?_, rfl⟩, ?_⟩
        · show cs.toArray.size ≤ _
          rw [List.size_toArray]; exact small_line hl
        · have e : (((⟨cs.toArray⟩ : Str).length : Int) != 0) = !cs.isEmpty := by
            show ((cs.toArray.size : Int) != 0) = _
            rw [List.size_toArray]
            cases cs <;> simp [bne]
            omega
          rw [e]; exact post.here p' c rfl
      · have p2 : postT Ex X.K H1 hid μ1 (if cs.length ≤ 100000 then .ok (!cs.isEmpty) O1 else .bad) Q := p
        rw [if_neg hl] at p2; exact False.elim p2
    | lst ds =>
      unfold Dat at r
      obtain ⟨a, vs, rfl, l, q⟩ := r
      exact ⟨_, .inl ⟨vs, l.sq, rfl⟩, by rw [← isEmpty_of_dats q]; exact post.here p c rfl⟩
    | tup ds =>
      unfold Dat at r
      obtain ⟨a, vs, rfl, l, q⟩ := r
      exact ⟨_, .inr (.inl ⟨vs, l.sq, rfl⟩), by rw [← isEmpty_of_dats q]; exact post.here p c rfl⟩
    | own k =>
      unfold Dat at r
      obtain ⟨a, rfl, hk⟩ := r
      obtain ⟨ds, vs, h1, h2, h3⟩ := c.at_ k a hk
      have p' : postT Ex X.K H1 hid μ1 (.ok (!ds.isEmpty) O1) Q := by
        have p2 : postT Ex X.K H1 hid μ1 (match O1[k]? with | some ds => .ok (!ds.isEmpty) O1 | none => .bad) Q := p
        rw [h1] at p2; exact p2
      exact ⟨_, .inl ⟨vs, .of h2, rfl⟩, by rw [← isEmpty_of_dats h3]; exact post.here p' c rfl⟩
    | dct => exact False.elim p
    | exn _ => exact False.elim p
    | tab _ => exact False.elim p
/-! ints -/
def fI (g : Int → Int → Option D) : Ow → D → D → R D := fun O x y => match x, y with
  | .int i, .int j => match g i j with
    | some d => .ok d O
    | none => .bad
  | _, _ => .bad
theorem opd_int {C : Int → Int → Prop} {gv : Int → Int → V} {g : Int → Int → Option D} (h : ∀ i j d, g i j = some d → C i j ∧ ∀ K H hid μ, Dat K H hid μ d (gv i j)) : OpD X Ex (rI C gv) (fI g) := by
  intro H hid μ O x y v w Q c dx dy q
  unfold fI at q
  split at q
  · rename_i i j
    unfold Dat at dx dy
    subst dx; subst dy
    split at q
    · rename_i d hd
      obtain ⟨h1, h2⟩ := h i j d hd
      exact ⟨i, j, rfl, rfl, h1, post.here q c (h2 _ _ _ _)⟩
    · exact False.elim q
  · exact False.elim q
theorem opd_int0 {gv : Int → Int → V} {g : Int → Int → Option D} (h : ∀ i j d, g i j = some d → ∀ K H hid μ, Dat K H hid μ d (gv i j)) : OpD X Ex (rI0 gv) (fI g) := by
  intro H hid μ O x y v w Q c dx dy q
  unfold fI at q
  split at q
  · rename_i i j
    unfold Dat at dx dy
    subst dx; subst dy
    split at q
    · rename_i d hd
      exact ⟨i, j, rfl, rfl, post.here q c (h i j d hd _ _ _ _)⟩
    · exact False.elim q
  · exact False.elim q
theorem dat_int {K H hid μ} {i : Int} : Dat K H hid μ (.int i) (.int i) := by unfold Dat; rfl
theorem dat_bl {K H hid μ} {i : Bool} : Dat K H hid μ (.bl i) (.bl i) := by unfold Dat; rfl
theorem dat_non {K H hid μ} : Dat K H hid μ .non .non := by unfold Dat; rfl
theorem dat_str {K H hid μ} {cs : List Nat} : Dat K H hid μ (.str cs) (.str ⟨cs.toArray⟩) := by unfold Dat; rfl
def gB (p : Int → Int → Bool) : Int → Int → Option D := fun i j => some (.bl (p i j))
def gI (p : Int → Int → Int) : Int → Int → Option D := fun i j => some (.int (p i j))
def gSub : Int → Int → Option D := gI fun i j => i - j
def gMul : Int → Int → Option D := fun i j => if (-1000000000000000 < i ∧ i < 1000000000000000) ∨ (-1000000000000000 < j ∧ j < 1000000000000000) then some (.int (i * j)) else none
def gDiv : Int → Int → Option D := fun i j => if 0 < j ∧ j < 1073741824 then some (.int (i / j)) else none
def gMod : Int → Int → Option D := fun i j => if 0 < j then some (.int (i % j)) else none
def gPow : Int → Int → Option D := fun i j => if 0 ≤ j ∧ j ≤ 1000000 ∧ i.natAbs < 2 ^ 64 then some (.int (i ^ j.toNat)) else none
def gShl : Int → Int → Option D := fun i j => if 0 ≤ j ∧ j ≤ 1000000 ∧ i.natAbs < 2 ^ 64 then some (.int (i * 2 ^ j.toNat)) else none
theorem opd_sub : OpD X Ex (rI0 fun i j => .int (i - j)) (fI gSub) := opd_int0 fun i j d h _ _ _ _ => by cases h; exact dat_int
theorem opd_mul : OpD X Ex (rI CMul fun i j => .int (i * j)) (fI gMul) := opd_int fun i j d h => by
  unfold gMul at h; split at h
  · rename_i hc; cases h; exact ⟨hc.imp (fun z => ⟨by omega, by omega⟩) fun z => ⟨by omega, by omega⟩, fun _ _ _ _ => dat_int⟩
  · cases h
theorem opd_div : OpD X Ex (rI CDiv fun i j => .int (i / j)) (fI gDiv) := opd_int fun i j d h => by
  unfold gDiv at h; split at h
  · rename_i hc; cases h; exact ⟨hc, fun _ _ _ _ => dat_int⟩
  · cases h
theorem opd_mod : OpD X Ex (rI (fun _ j => 0 < j) fun i j => .int (i % j)) (fI gMod) := opd_int fun i j d h => by
  unfold gMod at h; split at h
  · rename_i hc; cases h; exact ⟨hc, fun _ _ _ _ => dat_int⟩
  · cases h
theorem opd_pow : OpD X Ex (rI CPow fun i j => .int (i ^ j.toNat)) (fI gPow) := opd_int fun i j d h => by
  unfold gPow at h; split at h
  · rename_i hc; cases h; exact ⟨hc, fun _ _ _ _ => dat_int⟩
  · cases h
theorem opd_shl : OpD X Ex (rI CPow fun i j => .int (i * 2 ^ j.toNat)) (fI gShl) := opd_int fun i j d h => by
  unfold gShl at h; split at h
  · rename_i hc; cases h; exact ⟨hc, fun _ _ _ _ => dat_int⟩
  · cases h
def fLt : Ow → D → D → R D := fI (gB fun i j => decide (i < j))
def fLe : Ow → D → D → R D := fI (gB fun i j => decide (i ≤ j))
def fGe : Ow → D → D → R D := fI (gB fun i j => decide (j ≤ i))
theorem opd_lt : OpD X Ex (rI0 fun i j => .bl (decide (i < j))) fLt := opd_int0 fun i j d h _ _ _ _ => by cases h; exact dat_bl
theorem opd_le : OpD X Ex (rI0 fun i j => .bl (decide (i ≤ j))) fLe := opd_int0 fun i j d h _ _ _ _ => by cases h; exact dat_bl
theorem opd_ge : OpD X Ex (rI0 fun i j => .bl (decide (j ≤ i))) fGe := opd_int0 fun i j d h _ _ _ _ => by cases h; exact dat_bl
/-! is None -/
def isNon : D → Bool
  | .non => true
  | _ => false
def fIsN : Ow → D → D → R D := fun O x y => match y with
  | .non => .ok (.bl (isNon x)) O
  | _ => .bad
theorem dat_isN {K H hid μ} {x : D} {v : V} (h : Dat K H hid μ x v) : decide (v = .non) = isNon x := by
  cases x with
  | non => unfold Dat at h; subst h; rfl
  | bl _ => unfold Dat at h; subst h; rfl
  | int _ => unfold Dat at h; subst h; rfl
  | str _ => unfold Dat at h; subst h; rfl
  | lst _ => unfold Dat at h; obtain ⟨_, _, rfl, _⟩ := h; rfl
  | tup _ => unfold Dat at h; obtain ⟨_, _, rfl, _⟩ := h; rfl
  | own _ => unfold Dat at h; obtain ⟨_, rfl, _⟩ := h; rfl
  | dct => unfold Dat at h; obtain ⟨_, rfl, _⟩ := h; rfl
  | exn _ => unfold Dat at h; obtain ⟨_, _, rfl, _⟩ := h; rfl
  | tab _ => unfold Dat at h; obtain ⟨rfl, _⟩ := h; rfl
theorem opd_isN : OpD X Ex (fun x y H Q => y = .non ∧ Q (.bl (decide (x = .non))) H) fIsN := by
  intro H hid μ O x y v w Q c dx dy q
  cases y with
  | non =>
    unfold Dat at dy; subst dy
    refine ⟨rfl, ?_⟩
    rw [dat_isN dx]
    exact post.here (show postE Ex X.K H hid μ (.ok (.bl (isNon x)) O) Q from q) c dat_bl
  | _ => exact False.elim q
/-! ### and, or, not, if -/
def dAnd (t u : DE) : DE := fun σ O => (t σ O).bnd fun x O1 => match x with
  | .bl true => u σ O1
  | .bl false => .ok (.bl false) O1
  | _ => .bad
def dOr (t u : DE) : DE := fun σ O => (t σ O).bnd fun x O1 => match x with
  | .bl true => .ok (.bl true) O1
  | .bl false => u σ O1
  | _ => .bad
def dNot (t : DE) : DE := fun σ O => (t σ O).bnd fun x O1 => match x with
  | .bl b => .ok (.bl (!b)) O1
  | _ => .bad
def dAndT (t u : DT) : DT := fun σ O => (t σ O).bnd fun x O1 => if x = true then u σ O1 else .ok false O1
def dOrT (t u : DT) : DT := fun σ O => (t σ O).bnd fun x O1 => if x = true then .ok true O1 else u σ O1
def dNotT (t : DT) : DT := fun σ O => (t σ O).bnd fun x O1 => .ok (!x) O1
theorem pd_one {op} (ha : PD X Ex a ta) : PD X Ex (.BoolOp op [a] pos) ta := ⟨pe_one ha.out⟩
theorem pd_and {rest : List Expr} (ha : PD X Ex a ta) (hb : PD X Ex (.BoolOp .And (b :: rest) pos) tb) : PD X Ex (.BoolOp .And (a :: b :: rest) pos) (dAnd ta tb) :=
  pd_of (pe_and ha.out hb.out) fun hid μ σ O σv H Q e1 c1 q => rd.go e1 c1 q fun d O1 v H1 μ1 e2 x c r p => by
    cases d with
    | bl k =>
      unfold Dat at r; subst r
      refine ⟨k, rfl, ?_⟩
      cases k with
      | true => rw [if_pos rfl]; exact ⟨hid, μ1, σ, O1, e2, c, p⟩
      | false => rw [if_neg Bool.false_ne_true]; exact post.here p c dat_bl
    | _ => exact False.elim p
theorem pd_or {rest : List Expr} (ha : PD X Ex a ta) (hb : PD X Ex (.BoolOp .Or (b :: rest) pos) tb) : PD X Ex (.BoolOp .Or (a :: b :: rest) pos) (dOr ta tb) :=
  pd_of (pe_or ha.out hb.out) fun hid μ σ O σv H Q e1 c1 q => rd.go e1 c1 q fun d O1 v H1 μ1 e2 x c r p => by
    cases d with
    | bl k =>
      unfold Dat at r; subst r
      refine ⟨k, rfl, ?_⟩
      cases k with
      | true => rw [if_pos rfl]; exact post.here p c dat_bl
      | false => rw [if_neg Bool.false_ne_true]; exact ⟨hid, μ1, σ, O1, e2, c, p⟩
    | _ => exact False.elim p
theorem pd_not (ha : PD X Ex a ta) : PD X Ex (.UnaryOp .Not a pos) (dNot ta) :=
  pd_of (pe_not ha.out) fun hid μ σ O σv H Q e1 c1 q => rd.go e1 c1 q fun d O1 v H1 μ1 e2 x c r p => by
    cases d with
    | bl k => unfold Dat at r; subst r; exact ⟨k, rfl, post.here p c dat_bl⟩
    | _ => exact False.elim p
structure PDW (X : Cx) (Ex : Nat → Hp → Prop) (e : Expr) (t : DT) : Prop where
  out : PW X e (rdT Ex X.K t)
theorem PDW.pt {e : Expr} {t : DT} (h : PDW X Ex e t) : PDT X Ex e t := ⟨L2.PW.pt h.out⟩
theorem pw_imp {e : Expr} {t : TT} {t' : DT} (h : PW X e t) (f : ∀ hid μ σ O σv H Q, EnvOk X.K H hid μ σ σv → Cells X.K H hid μ O → postT Ex X.K H hid μ (t' σ O) Q → t σv H Q) : PDW X Ex e t' :=
  ⟨PW.imp h fun σv H Q ⟨hid, μ, σ, O, e1, c1, q⟩ => f hid μ σ O σv H Q e1 c1 q⟩
theorem pwd_and {rest : List Expr} {tA tB : DT} (ha : PDT X Ex a tA) (hb : PDW X Ex (.BoolOp .And (b :: rest) pos) tB) : PDW X Ex (.BoolOp .And (a :: b :: rest) pos) (dAndT tA tB) :=
  pw_imp (pw_and ha.out hb.out) fun hid μ σ O σv H Q e1 c1 q => rdT.go e1 c1 q fun k O1 H1 μ1 e2 x c p => by
    cases k with
    | true => rw [if_pos rfl]; exact ⟨hid, μ1, σ, O1, e2, c, p⟩
    | false => rw [if_neg Bool.false_ne_true]; exact post.here p c rfl
theorem pwd_or {rest : List Expr} {tA tB : DT} (ha : PDT X Ex a tA) (hb : PDW X Ex (.BoolOp .Or (b :: rest) pos) tB) : PDW X Ex (.BoolOp .Or (a :: b :: rest) pos) (dOrT tA tB) :=
  pw_imp (pw_or ha.out hb.out) fun hid μ σ O σv H Q e1 c1 q => rdT.go e1 c1 q fun k O1 H1 μ1 e2 x c p => by
    cases k with
    | true => rw [if_pos rfl]; exact post.here p c rfl
    | false => rw [if_neg Bool.false_ne_true]; exact ⟨hid, μ1, σ, O1, e2, c, p⟩
theorem pwd_and1 {tA : DT} (ha : PDT X Ex a tA) : PDW X Ex (.BoolOp .And [a] pos) tA := ⟨pw_and1 ha.out⟩
theorem pwd_or1 {tA : DT} (ha : PDT X Ex a tA) : PDW X Ex (.BoolOp .Or [a] pos) tA := ⟨pw_or1 ha.out⟩
theorem pdt_not {tA : DT} (ha : PDT X Ex a tA) : PDT X Ex (.UnaryOp .Not a pos) (dNotT tA) :=
  pdt_of (pt_not ha.out) fun hid μ σ O σv H Q e1 c1 q => rdT.go e1 c1 q fun k O1 H1 μ1 e2 x c p => post.here p c rfl
/-- a <= b <= c as a value -/
def dChain (f g : Ow → D → D → R D) (ta tb tc : DE) : DE := fun σ O => (ta σ O).bnd fun x O1 => (tb σ O1).bnd fun y O2 => (f O2 x y).bnd fun z O3 => match z with
  | .bl true => (tc σ O3).bnd fun w O4 => g O4 y w
  | .bl false => .ok (.bl false) O3
  | _ => .bad
theorem pd_chain {op op' : CmpOp} {r r' : R2} {f g : Ow → D → D → R D} (ho : OpR X (compareOp op) r) (h : OpD X Ex r f) (ho' : OpR X (compareOp op') r') (h' : OpD X Ex r' g) (ha : PD X Ex a ta) (hb : PD X Ex b tb) (hc : PD X Ex c tc)
    (hm : lastMarks [op, op'] [b, c] = false := by with_unfolding_all rfl) : PD X Ex (.Compare a [op, op'] [b, c] pos) (dChain f g ta tb tc) :=
  pd_of (pe_chain ho ho' ha.out hb.out hc.out hm) fun hid μ σ O σv H Q e1 c1 q => rd.go e1 c1 q fun x O1 v H1 μ1 e2 x2 c2 d2 q2 => rd.go e2 c2 q2 fun y O2 w H2 μ2 e3 x3 c3 d3 q3 =>
    h H2 hid μ2 O2 x y v w _ c3 (d2.ext x3) d3 (post.bnd q3 fun z O3 u H3 μ3 x4 c4 r4 p => by
      cases z with
      | bl k =>
        unfold Dat at r4; subst r4
        refine ⟨k, rfl, ?_⟩
        cases k with
        | true => rw [if_pos rfl]; exact rd.go (e3.ext x4) c4 p fun w2 O4 v4 H4 μ4 e5 x5 c5 d5 q5 => h' H4 hid μ4 O4 y w2 w v4 Q c5 ((d3.ext x4).ext x5) d5 q5
        | false => rw [if_neg Bool.false_ne_true]; exact post.here p c4 dat_bl
      | _ => exact False.elim p)
/-! ### argument lists, displays -/
def dNil : DA := fun _ O => .ok [] O
def dCons (t : DE) (u : DA) : DA := fun σ O => (t σ O).bnd fun x O1 => (u σ O1).bnd fun xs O2 => .ok (x :: xs) O2
theorem pda_nil : PDA X Ex [] dNil := pda_of pa_nil fun hid μ σ O σv H Q e1 c1 q => post.here q c1 .nil
theorem pda_cons {es : List Expr} {t : DA} (ha : PD X Ex a ta) (hr : PDA X Ex es t) (hs : starEach (a :: es) X.env = (false, eval a X.env) :: starEach es X.env := by rfl) : PDA X Ex (a :: es) (dCons ta t) :=
  pda_of (pa_cons ha.out hr.out hs) fun hid μ σ O σv H Q e1 c1 q => rd.go e1 c1 q fun x O1 v H1 μ1 e2 x2 c2 d2 q2 => rdA.go e2 c2 q2 fun y O2 w H2 μ2 e3 x3 c3 d3 q3 => post.here q3 c3 (.cons (d2.ext x3) d3)
def dTup (t : DA) : DE := fun σ O => (t σ O).bnd fun xs O1 => if xs.length ≤ 100000 then .ok (.tup xs) O1 else .bad
def dLst (t : DA) : DE := fun σ O => (t σ O).bnd fun xs O1 => if xs.length ≤ 100000 then .ok (.lst xs) O1 else .bad
/-- a list that is a cell -/
def dLstO (t : DA) : DE := fun σ O => (t σ O).bnd fun xs O1 => if xs.length ≤ 100000 then .ok (.own O1.length) (O1 ++ [xs]) else .bad
theorem post.ite {α β : Type} {K : PySem.W.Frag} {H : Hp} {hid μ : List Addr} {rel : Hp → List Addr → α → β → Prop} {Q : β → Hp → Prop} {c : Prop} [Decidable c] {r : R α} (h : post Ex K rel H hid μ (if c then r else .bad) Q) : c ∧ post Ex K rel H hid μ r Q := by
  by_cases hc : c
  · rw [if_pos hc] at h; exact ⟨hc, h⟩
  · rw [if_neg hc] at h; exact False.elim h
theorem pd_tup {es : List Expr} {t : DA} {x1} (h : PDA X Ex es t) : PD X Ex (.Tuple es x1 pos) (dTup t) :=
  pd_of (pe_tup h.out) fun hid μ σ O σv H Q e1 c1 q => rdA.go e1 c1 q fun xs O1 vs H1 μ1 e2 x2 c2 d2 q2 => by
    obtain ⟨hl, q2⟩ := post.ite q2
    exact ⟨by rw [← d2.length]; exact small_line hl, fun p hp => post.ok q2 (.laid hp) (c2.laid hp) (Dat.newT c2 hp d2)⟩
theorem pd_lst {es : List Expr} {t : DA} (h : PDA X Ex es t) : PD X Ex (.List es pos) (dLst t) :=
  pd_of (pe_lst h.out) fun hid μ σ O σv H Q e1 c1 q => rdA.go e1 c1 q fun xs O1 vs H1 μ1 e2 x2 c2 d2 q2 => by
    obtain ⟨hl, q2⟩ := post.ite q2
    exact ⟨by rw [← d2.length]; exact small_line hl, fun p hp => post.ok q2 (.laid hp) (c2.laid hp) (Dat.newL c2 hp d2)⟩
theorem dat_own_last {K : PySem.W.Frag} {H : Hp} {hid μ : List Addr} {p : Addr} {n : Nat} (h : μ.length = n) : Dat K H hid (μ ++ [p]) (.own n) (.ref p) := by
  unfold Dat
  exact ⟨p, rfl, by rw [← h]; simp⟩
theorem pd_lstO {es : List Expr} {t : DA} (h : PDA X Ex es t) : PD X Ex (.List es pos) (dLstO t) :=
  pd_of (pe_lst h.out) fun hid μ σ O σv H Q e1 c1 q => rdA.go e1 c1 q fun xs O1 vs H1 μ1 e2 x2 c2 d2 q2 => by
    obtain ⟨hl, q2⟩ := post.ite q2
    exact ⟨by rw [← d2.length]; exact small_line hl, fun p hp => post.ok q2 (.cell hp) (c2.cell hp d2) (dat_own_last c2.len)⟩
end
end DL

namespace DL
open PySem L2

/-! ### what is walked -/
inductive Src where
  | val (ds : List D)
  | own (k : Nat)
  | zip (a b : Src)
  deriving Repr, Inhabited
def Src.get : Src → Ow → Nat → Option D
  | .val ds, _, i => ds[i]?
  | .own k, O, i => match O[k]? with
    | some ds => ds[i]?
    | none => none
  | .zip a b, O, i => match a.get O i, b.get O i with
    | some x, some y => some (.tup [x, y])
    | _, _ => none
def Src.size : Src → Ow → Nat
  | .val ds, _ => ds.length
  | .own k, O => match O[k]? with
    | some ds => ds.length
    | none => 0
  | .zip a b, O => min (a.size O) (b.size O)
abbrev DI := Sg → Ow → R Src
/-- the iterator J walks src, now and later -/
def SrcAt (K : PySem.W.Frag) (J : It) (src : Src) (H : Hp) (hid μ : List Addr) : Prop := ∀ hid' H' μ' O', Mv H hid μ H' hid' μ' → Cells K H' hid' μ' O' → ∀ i,
  match src.get O' i with
  | some d => J.go i H' ∧ ∀ x H'', J.yld i H' x H'' → Ext H' μ' H'' μ' ∧ Cells K H'' hid' μ' O' ∧ Dat K H'' hid' μ' d x
  | none => J.stop i H'
def rdI (Ex : Nat → Hp → Prop) (K : PySem.W.Frag) (t : DI) : TI := fun σv H Rr => ∃ hid μ σ O, EnvOk K H hid μ σ σv ∧ Cells K H hid μ O ∧ post Ex K (fun H' μ' s J => SrcAt K J s H' hid μ') H hid μ (t σ O) Rr
structure PDI (X : Cx) (Ex : Nat → Hp → Prop) (tg iter : Expr) (t : DI) : Prop where
  out : PI X tg iter (rdI Ex X.K t)
theorem SrcAt.mv {K : PySem.W.Frag} {J : It} {src : Src} {H H1 : Hp} {hid hid1 μ μ1 : List Addr} (h : SrcAt K J src H hid μ) (e : Mv H hid μ H1 hid1 μ1) : SrcAt K J src H1 hid1 μ1 :=
  fun hid' H' μ' O' m c => h hid' H' μ' O' (e.trans m) c
theorem SrcAt.val {K : PySem.W.Frag} {H : Hp} {hid μ : List Addr} {ds : List D} {vs : List V} {a : Addr} (l : LstAt K H hid μ a vs) (q : Dats K H hid μ ds vs) : SrcAt K (Itl K a) (.val ds) H hid μ := by
  intro hid' H' μ' O' m c i
  have sq := (l.mv m).sq
  have q' := q.mv m
  show match ds[i]? with | some d => _ | none => _
  cases e : ds[i]? with
  | some d =>
    obtain ⟨v, h1, h2⟩ := q'.get e
    refine ⟨⟨vs, v, sq, h1⟩, fun x H'' y => ?_⟩
    obtain ⟨rfl, y⟩ := y
    have := y vs sq
    rw [h1] at this; cases this
    exact ⟨.refl, c, h2⟩
  | none =>
    refine ⟨vs, sq, ?_⟩
    have := List.getElem?_eq_none_iff.mp e
    rw [← q.length]; exact this
theorem SrcAt.tup {K : PySem.W.Frag} {H : Hp} {hid μ : List Addr} {ds : List D} {vs : List V} {a : Addr} (l : TupAt K H hid μ a vs) (q : Dats K H hid μ ds vs) : SrcAt K (Itt K a) (.val ds) H hid μ := by
  intro hid' H' μ' O' m c i
  have sq := (l.mv m).sq
  have q' := q.mv m
  show match ds[i]? with | some d => _ | none => _
  cases e : ds[i]? with
  | some d =>
    obtain ⟨v, h1, h2⟩ := q'.get e
    refine ⟨⟨vs, v, sq, h1⟩, fun x H'' y => ?_⟩
    obtain ⟨rfl, y⟩ := y
    have := y vs sq
    rw [h1] at this; cases this
    exact ⟨.refl, c, h2⟩
  | none =>
    refine ⟨vs, sq, ?_⟩
    have := List.getElem?_eq_none_iff.mp e
    rw [← q.length]; exact this
theorem SrcAt.own {K : PySem.W.Frag} {H : Hp} {hid μ : List Addr} {k : Nat} {a : Addr} (hk : μ[k]? = some a) : SrcAt K (Itl K a) (.own k) H hid μ := by
  intro hid' H' μ' O' m c i
  obtain ⟨ν, rfl⟩ := m.pre
  have hk' : (μ ++ ν)[k]? = some a := by rw [List.getElem?_append_left (List.getElem?_eq_some_iff.mp hk).1]; exact hk
  obtain ⟨ds, vs, h1, h2, h3⟩ := c.at_ k a hk'
  have sq : SqL K H' a vs := .of h2
  show match (match O'[k]? with | some ds => ds[i]? | none => none) with | some d => _ | none => _
  rw [h1]
  show match ds[i]? with | some d => _ | none => _
  cases e : ds[i]? with
  | some d =>
    obtain ⟨v, g1, g2⟩ := h3.get e
    refine ⟨⟨vs, v, sq, g1⟩, fun x H'' y => ?_⟩
    obtain ⟨rfl, y⟩ := y
    have := y vs sq
    rw [g1] at this; cases this
    exact ⟨.refl, c, g2⟩
  | none =>
    refine ⟨vs, sq, ?_⟩
    have := List.getElem?_eq_none_iff.mp e
    rw [← h3.length]; exact this
/-- a text's signs -/
def Its (x : Str) : It := ⟨fun i _ => i < x.cps.size, fun i H v H' => H' = H ∧ ∃ c, x.cps[i]? = some c ∧ v = .str ⟨#[c]⟩, fun i _ => x.cps.size ≤ i⟩
theorem SrcAt.str {K : PySem.W.Frag} {H : Hp} {hid μ : List Addr} {cs : List Nat} : SrcAt K (Its ⟨cs.toArray⟩) (.val (cs.map fun c => .str [c])) H hid μ := by
  intro hid' H' μ' O' m c i
  show match (cs.map fun c => D.str [c])[i]? with | some d => _ | none => _
  rw [List.getElem?_map]
  cases e : cs[i]? with
  | some d =>
    have hi := (List.getElem?_eq_some_iff.mp e).1
    refine ⟨by show i < cs.toArray.size; simpa using hi, fun x H'' y => ?_⟩
    obtain ⟨rfl, z, h1, rfl⟩ := y
    have h1' : cs.toArray[i]? = some z := h1
    rw [List.getElem?_toArray, e] at h1'
    cases h1'
    refine ⟨.refl, c, ?_⟩
    unfold Dat
    rfl
  | none =>
    have := List.getElem?_eq_none_iff.mp e
    show cs.toArray.size ≤ i
    simpa using this
theorem SrcAt.rng {K : PySem.W.Frag} {H : Hp} {hid μ : List Addr} {lo : Int} {n : Nat} : SrcAt K (Itr lo n) (.val ((List.range n).map fun i => .int (lo + (i : Nat)))) H hid μ := by
  intro hid' H' μ' O' m c i
  show match ((List.range n).map fun i => D.int (lo + (i : Nat)))[i]? with | some d => _ | none => _
  rw [List.getElem?_map]
  by_cases hi : i < n
  · rw [List.getElem?_range hi]
    refine ⟨hi, fun x H'' y => ?_⟩
    obtain ⟨rfl, rfl⟩ := y
    exact ⟨.refl, c, dat_int⟩
  · rw [List.getElem?_eq_none_iff.mpr (by simpa using hi)]
    exact Nat.not_lt.mp hi
theorem turn_str {P : Program} {w : World} {K : PySem.W.Frag} {tg : Expr} (x : Str) (t : Tok) (it : Addr) : Turn P w K tg (Its x) [it] it (fun i h => h.IsStrIter it (strIterType x) x t i) where
  mem := by simp
  obj := fun i h st b hb => by
    have e : b = it := by simpa using hb
    subst e
    obtain ⟨o, e, c, d⟩ := st
    exact ⟨o, e, fun v z => by rw [d] at z; cases z⟩
  keep := fun i h h' st k => by
    obtain ⟨o, e, c, d⟩ := st
    exact ⟨o, k it (by simp) o e, c, d⟩
  item := by
    intro X hP hw hK hc i pins s σ H E I hf st hg
    subst hP hw hK
    obtain ⟨f0, f1, f2, f3, f4, f5⟩ := hf it (by simp)
    obtain ⟨ch, hx⟩ : ∃ c, x.cps[i]? = some c := ⟨_, Array.getElem?_eq_getElem (show i < x.cps.size from hg)⟩
    have go : ∀ (ty : String), (["enumerate", "zip", "dict_itemiterator", "dict_reverseitemiterator", "odict_iterator", "itertools.zip_longest", "itertools.pairwise"].contains ty = false) → strIterType x = ty → ∀ h', h'.IsStrIter it ty x t (i + 1) → Heap.SameBut it s.heap h' →
        ∃ u, some (Value.str ⟨#[ch]⟩ s.toks) = some u ∧ wpAny (model X.prog X.w) X.A (letOwnedTupleGo tg (.ref it) u) (fun _ s2 => ∃ y H', Inv X pins σ H' s2 ∧ RelV y u ∧ (Its x).yld i H y H' ∧ s2.heap.IsStrIter it (strIterType x) x t (i + 1) ∧ ∀ b ∈ [it], H' b = none) E { s with heap := h', toks := s.toks + 1 } := by
      intro ty hn et h' st' sb
      have I1 : Inv X pins σ H { s with heap := h', toks := s.toks + 1 } := I.turned (t' := s.toks + 1) (fun b o hb e => (sb.2 b hb).trans e) f0 f1 f3 f4 f5
      obtain ⟨o, e, c, d⟩ := id st'
      refine ⟨_, rfl, go_of (s := { s with heap := h', toks := s.toks + 1 }) e c d hn ⟨.str ⟨#[ch]⟩, H, I1, ⟨_, rfl⟩, ⟨rfl, _, hx, rfl⟩, ?_, fun b hb => (hf b hb).1⟩⟩
      rw [et]; exact st'
    unfold strIterType at st go ⊢
    split at st
    · rename_i ha
      exact wpAny_pyNext_ascii_item st hx fun h' st' sb => go "str_ascii_iterator" (by decide) (by rw [if_pos ha]) h' st' sb
    · rename_i ha
      exact wpAny_pyNext_wide_item st hx fun h' st' sb => go "str_iterator" (by decide) (by rw [if_neg ha]) h' st' sb
  done := by
    intro X hP hw hK hc i pins s σ H E I hf st hg
    subst hP hw hK
    obtain ⟨f0, f1, f2, f3, f4, f5⟩ := hf it (by simp)
    have hx : x.cps[i]? = none := by
      have : x.cps.size ≤ i := hg
      simp [this]
    unfold strIterType at st
    split at st
    · exact wpAny_pyNext_ascii_end (I.ok.hd hc) st hx fun h' eb => ⟨rfl, I.turned (t' := s.toks) (fun b o hb e => eb b o hb e) f0 f1 f3 f4 f5⟩
    · exact wpAny_pyNext_wide_end (I.ok.hd hc) st hx fun h' eb => ⟨rfl, I.turned (t' := s.toks) (fun b o hb e => eb b o hb e) f0 f1 f3 f4 f5⟩
  self := fun _ _ s _ _ st h => by
    unfold strIterType at st
    split at st
    · exact wpAny_pyIter_striter_ascii st h
    · exact wpAny_pyIter_striter_wide st h
end DL

namespace DL
open PySem L2

section
variable {X : Cx} {Ex : Nat → Hp → Prop} {pos : Pos} {a b c tg : Expr} {ta tb tc : DE}
/-! ### iterables -/
def srcOf (O : Ow) : D → R Src
  | .lst ds => .ok (.val ds) O
  | .tup ds => .ok (.val ds) O
  | .str cs => .ok (.val (cs.map fun c => .str [c])) O
  | .own k => .ok (.own k) O
  | _ => .bad
def dIt (t : DE) : DI := fun σ O => (t σ O).bnd fun x O1 => srcOf O1 x
theorem pdi_seq (ha : PD X Ex a ta) : PDI X Ex tg a (dIt ta) := by
  refine ⟨?_⟩
  rintro pins s σv H Rr I ⟨hid, μ, σ, O, e1, c1, q⟩
  refine thn (ha.out pins s σv H _ I (rd.go e1 c1 q (Q1 := fun v H1 => ∃ hid μ1 O1 d, Cells X.K H1 hid μ1 O1 ∧ Dat X.K H1 hid μ1 d v ∧ post Ex X.K (fun H' μ' s J => SrcAt X.K J s H' hid μ') H1 hid μ1 (srcOf O1 d) Rr)
    fun d O1 v H1 μ1 e2 x c r p => ⟨hid, μ1, O1, d, c, r, p⟩)) fun u s1 ⟨v, H1, I1, ru, hid, μ1, O1, d, c, r, p⟩ => ?_
  have new : ∀ (b : Addr), b ∈ [s1.heap.objs.size] → FpOk X pins H1 b := fun b hb => by
    have e : b = s1.heap.objs.size := by simpa using hb
    subst e
    exact I1.fpOk (Nat.le_refl _) (I1.hok.fresh (Nat.le_refl _))
  cases d with
  | lst ds =>
    unfold Dat at r
    obtain ⟨a, vs, rfl, l, q⟩ := r
    cases ru
    obtain ⟨its, rv, p1, hz⟩ := I1.list l.sq
    refine wpAny_pyIter_list p1.isList ?_
    exact ⟨s1.heap.objs.size, [s1.heap.objs.size], _, _, H1, rfl, I1.kept (t' := s1.toks) fun b o e => Heap.get?_push_of_some _ e, turn_list a _, ⟨_, Heap.get?_push_size _ rfl, rfl, rfl⟩, new, post.here p c (.val l q)⟩
  | tup ds =>
    unfold Dat at r
    obtain ⟨a, vs, rfl, l, q⟩ := r
    cases ru
    obtain ⟨its, rv, p1, hz⟩ := I1.tuple l.sq
    refine wpAny_pyIter_tuple (show s1.heap.IsTuple a its.toArray from p1) ?_
    exact ⟨s1.heap.objs.size, [s1.heap.objs.size], _, _, H1, rfl, I1.kept (t' := s1.toks) fun b o e => Heap.get?_push_of_some _ e, turn_tuple a _, ⟨_, Heap.get?_push_size _ rfl, rfl, rfl⟩, new, post.here p c (.tup l q)⟩
  | str cs =>
    unfold Dat at r
    subst r
    obtain ⟨t, rfl⟩ := ru
    refine wpAny_pyIter_strU ?_
    exact ⟨s1.heap.objs.size, [s1.heap.objs.size], _, _, H1, rfl, I1.kept (t' := s1.toks) fun b o e => Heap.get?_push_of_some _ e, turn_str ⟨cs.toArray⟩ t _, ⟨_, Heap.get?_push_size _ rfl, rfl, rfl⟩, new, post.here p c .str⟩
  | own k =>
    unfold Dat at r
    obtain ⟨a, rfl, hk⟩ := r
    cases ru
    obtain ⟨ds, vs, h1, h2, h3⟩ := c.at_ k a hk
    obtain ⟨its, rv, p1, hz⟩ := I1.list (.of h2)
    refine wpAny_pyIter_list p1.isList ?_
    exact ⟨s1.heap.objs.size, [s1.heap.objs.size], _, _, H1, rfl, I1.kept (t' := s1.toks) fun b o e => Heap.get?_push_of_some _ e, turn_list a _, ⟨_, Heap.get?_push_size _ rfl, rfl, rfl⟩, new, post.here p c (.own hk)⟩
  | _ => exact False.elim p
def rngSrc (lo hi : Int) : Src := .val ((List.range (hi - lo).toNat).map fun i => .int (lo + (i : Nat)))
def dRng1 (t : DA) : DI := fun σ O => (t σ O).bnd fun xs O1 => match xs with
  | [.int j] => if -1000000 ≤ j ∧ j ≤ 1000000 then .ok (rngSrc 0 j) O1 else .bad
  | _ => .bad
theorem PI.imp {iter : Expr} {t t' : TI} (h : PI X tg iter t) (f : ∀ σ H Q, t' σ H Q → t σ H Q) : PI X tg iter t' := fun pins s σ H Q I q => h pins s σ H Q I (f σ H Q q)
theorem dats1 {K : PySem.W.Frag} {H : Hp} {hid μ : List Addr} {d : D} {vs : List V} (h : Dats K H hid μ [d] vs) : ∃ v, vs = [v] ∧ Dat K H hid μ d v := by
  unfold Dats at h
  obtain ⟨v, r, rfl, h1, h2⟩ := h
  unfold Dats at h2
  subst h2
  exact ⟨v, rfl, h1⟩
theorem dats2 {K : PySem.W.Frag} {H : Hp} {hid μ : List Addr} {d e : D} {vs : List V} (h : Dats K H hid μ [d, e] vs) : ∃ v w, vs = [v, w] ∧ Dat K H hid μ d v ∧ Dat K H hid μ e w := by
  unfold Dats at h
  obtain ⟨v, r, rfl, h1, h2⟩ := h
  obtain ⟨w, rfl, h3⟩ := dats1 h2
  exact ⟨v, w, rfl, h1, h3⟩
theorem pdi_range1 {t : DA} {p pos : Pos} (hg : Gl X "range") (hm : X.mg "range" = none) (ha : PDA X Ex [a] t) (hs : starEach [a] X.env = [(false, eval a X.env)] := by rfl) : PDI X Ex tg (.Call (.Name "range" p) [a] [] pos) (dRng1 t) :=
  PDI.mk <| PI.imp (pi_range1 hg hm ha.out hs) fun σv H Q ⟨hid, μ, σ, O, e1, c1, q⟩ => rdA.go e1 c1 q fun d O1 vs H1 μ1 e2 x c r p => by
    split at p
    · rename_i j
      obtain ⟨⟨h1, h2⟩, p⟩ := post.ite p
      obtain ⟨v, rfl, hv⟩ := dats1 r
      unfold Dat at hv; subst hv
      refine ⟨j, rfl, by omega, by omega, ?_⟩
      have := post.here p c (SrcAt.rng (lo := 0) (n := (j - 0).toNat))
      simpa using this
    · exact False.elim p
end
/-! ### statements -/
inductive RS where
  | nx (σ : Sg) (O : Ow)
  | rt (d : D) (O : Ow)
  | bk (σ : Sg) (O : Ow)
  | ct (σ : Sg) (O : Ow)
  | exc (c : Nat) (O : Ow)
  | bad
  deriving Repr, Inhabited
abbrev DS := Sg → Ow → RS
def R.bnS {α : Type} (r : R α) (k : α → Ow → RS) : RS := match r with
  | .ok a O => k a O
  | .exc c O => .exc c O
  | .bad => .bad
section
variable (Ex : Nat → Hp → Prop) (K : PySem.W.Frag)
def postS (H : Hp) (hid μ : List Addr) (r : RS) (E : Ends) : Prop := match r with
  | .nx σ O => ∀ σv H' μ', Ext H μ H' μ' → EnvOk K H' hid μ' σ σv → Cells K H' hid μ' O → E.nx σv H'
  | .rt d O => ∀ v H' μ', Ext H μ H' μ' → Cells K H' hid μ' O → Dat K H' hid μ' d v → E.rt v H'
  | .bk σ O => ∀ σv H' μ', Ext H μ H' μ' → EnvOk K H' hid μ' σ σv → Cells K H' hid μ' O → E.bk σv H'
  | .ct σ O => ∀ σv H' μ', Ext H μ H' μ' → EnvOk K H' hid μ' σ σv → Cells K H' hid μ' O → E.ct σv H'
  | .exc c O => ∀ H' μ', Ext H μ H' μ' → Cells K H' hid μ' O → Ex c H'
  | .bad => False
def rds (t : DS) : TS := fun E σv H => ∃ hid μ σ O, EnvOk K H hid μ σ σv ∧ Cells K H hid μ O ∧ postS Ex K H hid μ (t σ O) E
end
structure PDS (X : Cx) (Ex : Nat → Hp → Prop) (st : Stmt) (t : DS) : Prop where
  out : PS X st (rds Ex X.K t)
structure PDSs (X : Cx) (Ex : Nat → Hp → Prop) (st : List Stmt) (t : DS) : Prop where
  out : PSs X st (rds Ex X.K t)
theorem PS.imp {X : Cx} {st : Stmt} {t t' : TS} (h : PS X st t) (f : ∀ E σ H, t' E σ H → t E σ H) : PS X st t' := fun pins s σ H D I q => h pins s σ H D I (f D σ H q)
theorem PSs.imp {X : Cx} {st : List Stmt} {t t' : TS} (h : PSs X st t) (f : ∀ E σ H, t' E σ H → t E σ H) : PSs X st t' := fun pins s σ H D I q => h pins s σ H D I (f D σ H q)
section
variable {Ex : Nat → Hp → Prop} {K : PySem.W.Frag} {H H1 : Hp} {hid μ μ1 : List Addr}
theorem postS.ext {r : RS} {E : Ends} (h : postS Ex K H hid μ r E) (e : Ext H μ H1 μ1) : postS Ex K H1 hid μ1 r E := by
  cases r with
  | nx σ O => exact fun σv H' μ' e' a b => h σv H' μ' (e.trans e') a b
  | bk σ O => exact fun σv H' μ' e' a b => h σv H' μ' (e.trans e') a b
  | ct σ O => exact fun σv H' μ' e' a b => h σv H' μ' (e.trans e') a b
  | rt d O => exact fun v H' μ' e' a b => h v H' μ' (e.trans e') a b
  | exc c O => exact fun H' μ' e' a => h H' μ' (e.trans e') a
  | bad => exact h
theorem postS.bnS {α β : Type} {rel : Hp → List Addr → α → β → Prop} {r : R α} {k : α → Ow → RS} {E : Ends} {Q1 : β → Hp → Prop} (h : postS Ex K H hid μ (r.bnS k) E)
    (hk : ∀ d O1 v H1 μ1, Ext H μ H1 μ1 → Cells K H1 hid μ1 O1 → rel H1 μ1 d v → postS Ex K H1 hid μ1 (k d O1) E → Q1 v H1) : post Ex K rel H hid μ r Q1 := by
  cases r with
  | ok d O' => exact fun v H' μ' e c q => hk d O' v H' μ' e c q (postS.ext (show postS Ex K H hid μ (k d O') E from h) e)
  | exc c O' => exact h
  | bad => exact h
end
section
variable {X : Cx} {Ex : Nat → Hp → Prop} {pos : Pos} {a b c e tg : Expr} {ta tb tc te : DE} {tA : DT}
theorem pds_of {st : Stmt} {t : TS} {t' : DS} (h : PS X st t) (f : ∀ hid μ σ O E σv H, EnvOk X.K H hid μ σ σv → Cells X.K H hid μ O → postS Ex X.K H hid μ (t' σ O) E → t E σv H) : PDS X Ex st t' :=
  ⟨PS.imp h fun E σv H ⟨hid, μ, σ, O, e1, c1, q⟩ => f hid μ σ O E σv H e1 c1 q⟩
theorem pdss_of {st : List Stmt} {t : TS} {t' : DS} (h : PSs X st t) (f : ∀ hid μ σ O E σv H, EnvOk X.K H hid μ σ σv → Cells X.K H hid μ O → postS Ex X.K H hid μ (t' σ O) E → t E σv H) : PDSs X Ex st t' :=
  ⟨PSs.imp h fun E σv H ⟨hid, μ, σ, O, e1, c1, q⟩ => f hid μ σ O E σv H e1 c1 q⟩
theorem rd.goS {t : DE} {hid μ : List Addr} {σ : Sg} {O : Ow} {σv : St} {H : Hp} {Q1 : VK} {k : D → Ow → RS} {E : Ends} (e1 : EnvOk X.K H hid μ σ σv) (c1 : Cells X.K H hid μ O)
    (q : postS Ex X.K H hid μ ((t σ O).bnS k) E)
    (f : ∀ d O1 v H1 μ1, EnvOk X.K H1 hid μ1 σ σv → Ext H μ H1 μ1 → Cells X.K H1 hid μ1 O1 → Dat X.K H1 hid μ1 d v → postS Ex X.K H1 hid μ1 (k d O1) E → Q1 v H1) : rd Ex X.K t σv H Q1 :=
  ⟨hid, μ, σ, O, e1, c1, postS.bnS q fun d O1 v H1 μ1 x c r p => f d O1 v H1 μ1 (e1.ext x) x c r p⟩
theorem rdT.goS {t : DT} {hid μ : List Addr} {σ : Sg} {O : Ow} {σv : St} {H : Hp} {Q1 : Bool → Hp → Prop} {k : Bool → Ow → RS} {E : Ends} (e1 : EnvOk X.K H hid μ σ σv) (c1 : Cells X.K H hid μ O)
    (q : postS Ex X.K H hid μ ((t σ O).bnS k) E)
    (f : ∀ v O1 H1 μ1, EnvOk X.K H1 hid μ1 σ σv → Ext H μ H1 μ1 → Cells X.K H1 hid μ1 O1 → postS Ex X.K H1 hid μ1 (k v O1) E → Q1 v H1) : rdT Ex X.K t σv H Q1 :=
  ⟨hid, μ, σ, O, e1, c1, postS.bnS q fun d O1 v H1 μ1 x c r p => by
    have r : d = v := r
    subst r
    exact f d O1 H1 μ1 (e1.ext x) x c p⟩
def sNil : DS := fun σ O => .nx σ O
def sSeq (t u : DS) : DS := fun σ O => match t σ O with
  | .nx σ' O' => u σ' O'
  | r => r
theorem pdss_nil : PDSs X Ex [] sNil := pdss_of pss_nil fun hid μ σ O E σv H e1 c1 q => q σv H μ .refl e1 c1
theorem pdss_cons {st : Stmt} {rest : List Stmt} {t u : DS} (h1 : PDS X Ex st t) (h2 : PDSs X Ex rest u) : PDSs X Ex (st :: rest) (sSeq t u) :=
  pdss_of (pss_cons h1.out h2.out) fun hid μ σ O E σv H e1 c1 q => by
    refine ⟨hid, μ, σ, O, e1, c1, ?_⟩
    unfold sSeq at q
    cases ht : t σ O with
    | nx σ' O' =>
      rw [ht] at q
      exact fun σv' H' μ' e2 a b => ⟨hid, μ', σ', O', a, b, q.ext e2⟩
    | rt d O' => rw [ht] at q; exact q
    | bk σ' O' => rw [ht] at q; exact q
    | ct σ' O' => rw [ht] at q; exact q
    | exc c O' => rw [ht] at q; exact q
    | bad => rw [ht] at q; exact q
theorem pdss_one {st : Stmt} {t : DS} (h1 : PDS X Ex st t) : PDSs X Ex [st] t := ⟨pss_one h1.out⟩
def sRet (t : DE) : DS := fun σ O => (t σ O).bnS fun d O1 => .rt d O1
theorem pds_ret (he : PD X Ex e te) : PDS X Ex (.Return (some e) pos) (sRet te) :=
  pds_of (ps_ret he.out) fun hid μ σ O E σv H e1 c1 q => rd.goS e1 c1 q fun d O1 v H1 μ1 e2 x c r p => p v H1 μ1 .refl c r
def sIf (c : DT) (t u : DS) : DS := fun σ O => (c σ O).bnS fun b O1 => if b = true then t σ O1 else u σ O1
theorem pds_if {c : Expr} {x y : List Stmt} {tc : DT} {t u : DS} (hc : PDT X Ex c tc) (ha : PDSs X Ex x t) (hb : PDSs X Ex y u) : PDS X Ex (.If c x y pos) (sIf tc t u) :=
  pds_of (ps_if hc.out ha.out hb.out) fun hid μ σ O E σv H e1 c1 q => rdT.goS e1 c1 q fun k O1 H1 μ1 e2 x c p => by
    cases k with
    | true => rw [if_pos rfl]; exact ⟨hid, μ1, σ, O1, e2, c, p⟩
    | false => rw [if_neg Bool.false_ne_true]; exact ⟨hid, μ1, σ, O1, e2, c, p⟩
def sBad : DS := fun _ _ => .bad
theorem pdss_bad {st : List Stmt} : PDSs X Ex st sBad := pdss_of pss_never fun hid μ σ O E σv H e1 c1 q => q
def sDrop (t : DE) : DS := fun σ O => (t σ O).bnS fun _ O1 => .nx σ O1
theorem pds_expr (he : PD X Ex e te) (hs : swapsWith e none pos.line X.env = pure false := by rfl) : PDS X Ex (.Expr e pos) (sDrop te) :=
  pds_of (ps_expr he.out hs) fun hid μ σ O E σv H e1 c1 q => rd.goS e1 c1 q fun d O1 v H1 μ1 e2 x c r p => p σv H1 μ1 .refl e2 c
def sSet (i : Nat) (t : DE) : DS := fun σ O => (t σ O).bnS fun d O1 => .nx (σ.set i (some d)) O1
theorem pds_set {i : Nat} {x : Str} {pos' : Pos} (hN : X.N.Nodup) (hi : X.N[i]? = some x) (hx : Loc X.env.scope x) (he : PD X Ex e te) (hs : swapsWith e (some (.Name x pos')) pos.line X.env = pure false := by rfl)
    (hf : X.fn x = true ∨ X.env.scope.names.lookup x = some .local := by first | exact .inl rfl | exact .inr rfl) : PDS X Ex (.Assign [.Name x pos'] e pos) (sSet i te) :=
  pds_of (ps_set hN hi hx he.out hs hf) fun hid μ σ O E σv H e1 c1 q => rd.goS e1 c1 q fun d O1 v H1 μ1 e2 x c r p => p (σv.set i (some v)) H1 μ1 .refl (e2.set r i) c
/-- a, b = x, y -/
def sPar (i j : Nat) (t : DA) : DS := fun σ O => (t σ O).bnS fun ds O1 => match ds with
  | [x, y] => .nx ((σ.set i (some x)).set j (some y)) O1
  | _ => .bad
/-! targets -/
inductive Tg where
  | one (i : Nat)
  | two (i j : Nat)
def Tg.put : Tg → D → Sg → Option Sg
  | .one i, d, σ => some (σ.set i (some d))
  | .two i j, d, σ => match d with
    | .tup [x, y] => some ((σ.set i (some x)).set j (some y))
    | _ => none
def Tg.rd (K : PySem.W.Frag) : Tg → TG
  | .one i => gName i
  | .two i j => gTup K 2 (gCons (gName i) (gCons (gName j) gNil))
def Tg.slots : Tg → List Nat
  | .one i => [i]
  | .two i j => [i, j]
theorem Tg.ok2 {K : PySem.W.Frag} {H : Hp} {hid μ : List Addr} {σ σ' : Sg} {σv : St} {d : D} {v : V} {Q : St → Hp → Prop} (g : Tg) (e1 : EnvOk K H hid μ σ σv) (q : Dat K H hid μ d v) (h : g.put d σ = some σ')
    (k : ∀ σv', EnvOk K H hid μ σ' σv' → (∀ i, i ∉ g.slots → σv'[i]? = σv[i]?) → Q σv' H) : g.rd K v σv H Q := by
  cases g with
  | one i =>
    cases h
    exact k _ (e1.set q i) fun j hj => List.getElem?_set_ne (fun e => hj (by simp [Tg.slots, e]))
  | two i j =>
    unfold Tg.put at h
    dsimp only at h
    split at h
    · rename_i x y
      cases h
      unfold Dat at q
      obtain ⟨a, vs, rfl, l, q⟩ := q
      obtain ⟨u, w, rfl, q1, q2⟩ := dats2 q
      refine ⟨a, [u, w], rfl, l.sq, rfl, u, [w], rfl, w, [], rfl, rfl, k _ ((e1.set q1 i).set q2 j) fun m hm => ?_⟩
      rw [List.getElem?_set_ne (fun e => hm (by simp [Tg.slots, e])), List.getElem?_set_ne (fun e => hm (by simp [Tg.slots, e]))]
    · cases h
theorem Tg.ok {K : PySem.W.Frag} {H : Hp} {hid μ : List Addr} {σ σ' : Sg} {σv : St} {d : D} {v : V} {Q : St → Hp → Prop} (g : Tg) (e1 : EnvOk K H hid μ σ σv) (q : Dat K H hid μ d v) (h : g.put d σ = some σ') (k : ∀ σv', EnvOk K H hid μ σ' σv' → Q σv' H) : g.rd K v σv H Q := by
  cases g with
  | one i => cases h; exact k _ (e1.set q i)
  | two i j =>
    unfold Tg.put at h
    dsimp only at h
    split at h
    · rename_i x y
      cases h
      unfold Dat at q
      obtain ⟨a, vs, rfl, l, q⟩ := q
      obtain ⟨u, w, rfl, q1, q2⟩ := dats2 q
      exact ⟨a, [u, w], rfl, l.sq, rfl, u, [w], rfl, w, [], rfl, rfl, k _ ((e1.set q1 i).set q2 j)⟩
    · cases h
theorem pg_one {i : Nat} {x : Str} (hN : X.N.Nodup) (hi : X.N[i]? = some x) (hx : Loc X.env.scope x) (hf : X.fn x = true ∨ X.env.scope.names.lookup x = some .local := by first | exact .inl rfl | exact .inr rfl | assumption) : PG X (.Name x pos) ((Tg.one i).rd X.K) := pg_name hN hi hx hf
/-! for -/
def loopS (src : Src) (step : D → Sg → Ow → RS) : Nat → Nat → Sg → Ow → RS
  | 0, i, σ, O => match src.get O i with
    | none => .nx σ O
    | some _ => .bad
  | f + 1, i, σ, O => match src.get O i with
    | none => .nx σ O
    | some d => match step d σ O with
      | .nx σ' O' => loopS src step f (i + 1) σ' O'
      | .ct σ' O' => loopS src step f (i + 1) σ' O'
      | .bk σ' O' => .nx σ' O'
      | r => r
def sFor (it : DI) (g : Tg) (body : DS) : DS := fun σ O => (it σ O).bnS fun src O1 => loopS src (fun d σ O => match g.put d σ with | some σ' => body σ' O | none => .bad) (src.size O1) 0 σ O1
theorem pds_for {iter : Expr} {body : List Stmt} {it : DI} {g : Tg} {tb : DS} (hp : PassesOwn (model X.prog X.w) X.A X.env X.xe) (hc : X.calm = true) (hi : PDI X Ex tg iter it) (hg : PG X tg (g.rd X.K)) (hb : PDSs X Ex body tb)
    (hs : ∀ x, foldedSetIterable iter X.env x = pure x := by intro _; rfl) : PDS X Ex (.For tg iter body [] pos) (sFor it g tb) :=
  pds_of (ps_for hp hc hi.out hg hb.out hs) fun hid μ σ O E σv H e1 c1 q => by
    refine ⟨hid, μ, σ, O, e1, c1, postS.bnS q fun src O1 J H1 μ1 x1 c2 sa p => ?_⟩
    generalize hst : (fun (d : D) (σ : Sg) (O : Ow) => match g.put d σ with | some σ' => tb σ' O | none => RS.bad) = step at p
    refine ⟨fun i m σv' H' => ∃ μ' σ' O', Ext H1 μ1 H' μ' ∧ EnvOk X.K H' hid μ' σ' σv' ∧ Cells X.K H' hid μ' O' ∧ postS Ex X.K H' hid μ' (loopS src step m i σ' O') E, ⟨_, μ1, σ, O1, .refl, e1.ext x1, c2, p⟩, ?_⟩
    rintro i m σv2 H2 ⟨μ2, σ2, O2, x2, e2, c3, p2⟩
    have sa2 := sa hid H2 μ2 O2 x2.mv c3 i
    cases hget : src.get O2 i with
    | none =>
      rw [hget] at sa2
      refine .inl ⟨sa2, ?_⟩
      cases m with
      | zero =>
        have p3 : postS Ex X.K H2 hid μ2 (match src.get O2 i with | none => .nx σ2 O2 | some _ => .bad) E := p2
        rw [hget] at p3
        exact p3 σv2 H2 μ2 .refl e2 c3
      | succ f =>
        unfold loopS at p2
        rw [hget] at p2
        exact p2 σv2 H2 μ2 .refl e2 c3
    | some d =>
      rw [hget] at sa2
      obtain ⟨go, yl⟩ := sa2
      cases m with
      | zero =>
        have p3 : postS Ex X.K H2 hid μ2 (match src.get O2 i with | none => .nx σ2 O2 | some _ => .bad) E := p2
        rw [hget] at p3
        exact False.elim p3
      | succ f =>
        refine .inr ⟨go, fun σv' H' => ∃ μ' σ' O', Ext H1 μ1 H' μ' ∧ EnvOk X.K H' hid μ' σ' σv' ∧ Cells X.K H' hid μ' O' ∧ postS Ex X.K H' hid μ' (loopS src step f (i + 1) σ' O') E, fun σ' H' h => ⟨f, Nat.lt_succ_self f, h⟩, fun v H3 y => ?_⟩
        obtain ⟨x3, c4, r⟩ := yl v H3 y
        unfold loopS at p2
        rw [hget] at p2
        have p3 : postS Ex X.K H3 hid μ2 (match step d σ2 O2 with
          | .nx σ' O' => loopS src step f (i + 1) σ' O'
          | .ct σ' O' => loopS src step f (i + 1) σ' O'
          | .bk σ' O' => .nx σ' O'
          | r => r) E := postS.ext p2 x3
        cases hput : g.put d σ2 with
        | none =>
          rw [← hst] at p3
          simp only [hput] at p3
          exact False.elim p3
        | some σ3 =>
          refine Tg.ok g (e2.ext x3) r hput fun σv3 e3 => ⟨hid, μ2, σ3, O2, e3, c4, ?_⟩
          have hs1 : step d σ2 O2 = tb σ3 O2 := by rw [← hst]; simp only [hput]
          rw [hs1] at p3
          have x4 := x2.trans x3
          cases ht : tb σ3 O2 with
          | nx σ4 O4 => rw [ht] at p3; exact fun σv' H' μ' e5 a b => ⟨μ', σ4, O4, x4.trans e5, a, b, p3.ext e5⟩
          | ct σ4 O4 => rw [ht] at p3; exact fun σv' H' μ' e5 a b => ⟨μ', σ4, O4, x4.trans e5, a, b, p3.ext e5⟩
          | bk σ4 O4 => rw [ht] at p3; exact p3
          | rt d4 O4 => rw [ht] at p3; exact p3
          | exc c4 O4 => rw [ht] at p3; exact p3
          | bad => rw [ht] at p3; exact p3
end
end DL

namespace DL
open PySem L2

/-! ### comprehensions, by data -/
structure Cl where
  it : DI
  g : Tg
  ifs : List DT
def slotsOf : List Cl → List Nat
  | [] => []
  | c :: cs => c.g.slots ++ slotsOf cs
def clr {α : Type} (σ : List (Option α)) : List Nat → List (Option α)
  | [] => σ
  | i :: r => clr (σ.set i none) r
def dAll : List DT → DT
  | [] => fun _ O => .ok true O
  | c :: cs => fun σ O => (c σ O).bnd fun b O1 => if b = true then dAll cs σ O1 else .ok false O1
def walkD (src : Src) (step : D → Ow → List D → R (List D)) : Nat → Nat → Ow → List D → R (List D)
  | 0, i, O, acc => match src.get O i with
    | none => .ok acc O
    | some _ => .bad
  | f + 1, i, O, acc => match src.get O i with
    | none => .ok acc O
    | some d => (step d O acc).bnd fun acc' O' => walkD src step f (i + 1) O' acc'
def compD : List Cl → DE → Sg → Ow → List D → R (List D)
  | [], elt, σ, O, acc => (elt σ O).bnd fun v O1 => if acc.length < 100000 then .ok (acc ++ [v]) O1 else .bad
  | c :: cs, elt, σ, O, acc => (c.it σ O).bnd fun src O1 => walkD src (fun d O2 acc => match c.g.put d (clr σ (slotsOf (c :: cs))) with
      | some σ1 => (dAll c.ifs σ1 O2).bnd fun b O3 => if b = true then compD cs elt σ1 O3 acc else .ok acc O3
      | none => .bad) (src.size O1) 0 O1 acc
/-- a step of the loop -/
def stepD (c : Cl) (cs : List Cl) (elt : DE) (σ : Sg) : D → Ow → List D → R (List D) := fun d O2 acc => match c.g.put d (clr σ (slotsOf (c :: cs))) with
      | some σ1 => (dAll c.ifs σ1 O2).bnd fun b O3 => if b = true then compD cs elt σ1 O3 acc else .ok acc O3
      | none => .bad
theorem clr_len {α : Type} : ∀ (l : List Nat) (σ : List (Option α)), (clr σ l).length = σ.length
  | [], _ => rfl
  | i :: r, σ => by unfold clr; rw [clr_len r]; simp
theorem clr_out {α : Type} : ∀ (l : List Nat) (σ : List (Option α)) (i : Nat), i ∉ l → (clr σ l)[i]? = σ[i]?
  | [], σ, i, h => rfl
  | j :: r, σ, i, h => by
    unfold clr
    rw [clr_out r _ i fun z => h (List.mem_cons_of_mem _ z), List.getElem?_set_ne fun z => h (by simp [z])]
theorem clr_get {α : Type} : ∀ (l : List Nat) (σ : List (Option α)) (i : Nat) (d : α), (clr σ l)[i]? = some (some d) → σ[i]? = some (some d) ∧ i ∉ l
  | [], σ, i, d, h => ⟨h, by simp⟩
  | j :: r, σ, i, d, h => by
    unfold clr at h
    obtain ⟨h1, h2⟩ := clr_get r _ i d h
    by_cases e : j = i
    · subst e
      by_cases hl : j < σ.length
      · rw [List.getElem?_set_self hl] at h1; cases h1
      · rw [List.getElem?_eq_none_iff.mpr (by simp; omega)] at h1; cases h1
    · rw [List.getElem?_set_ne e] at h1
      exact ⟨h1, by simp [h2]; exact fun z => e z.symm⟩
/-- all but the one at A is kept -/
structure Ea (A : Addr) (H : Hp) (μ : List Addr) (H' : Hp) (μ' : List Addr) : Prop where
  pre : ∃ ν, μ' = μ ++ ν
  kept : ∀ b o, H b = some o → b ∉ μ → b ≠ A → NoTab o → H' b = some o
  fresh : ∀ b ∈ μ', b ∈ μ ∨ H b = none
  there : ∀ b, H b ≠ none → H' b ≠ none
  tab : ∀ P, Tidy H P → Tidy H' P
section
variable {K : PySem.W.Frag} {A : Addr} {H H' H1 H2 : Hp} {hid μ μ' μ1 μ2 : List Addr}
theorem Ext.ea (e : Ext H μ H' μ') : Ea A H μ H' μ' := ⟨e.pre, fun b o h n _ ht => e.kept b o h n ht, e.fresh, e.there, e.tab⟩
theorem Ea.refl : Ea A H μ H μ := Ext.refl.ea
theorem Ea.trans (a : Ea A H μ H1 μ1) (b : Ea A H1 μ1 H2 μ2) : Ea A H μ H2 μ2 := by
  have nn : ∀ c, H1 c = none → H c = none := fun c h => by
    cases e : H c with
    | none => rfl
    | some o => exact absurd h (a.there c (by rw [e]; simp))
  refine ⟨?_, fun c o h n1 n2 ht => ?_, fun c h => ?_, fun c h => b.there c (a.there c h), fun P t => b.tab P (a.tab P t)⟩
  · obtain ⟨x, rfl⟩ := a.pre
    obtain ⟨y, rfl⟩ := b.pre
    exact ⟨x ++ y, by simp⟩
  · refine b.kept c o (a.kept c o h n1 n2 ht) (fun m => ?_) n2 ht
    rcases a.fresh c m with z | z
    · exact n1 z
    · rw [z] at h; cases h
  · rcases b.fresh c h with z | z
    · exact a.fresh c z
    · exact .inr (nn c z)
theorem Ea.mv (e : Ea A H μ H' μ') : Mv H (A :: hid) μ H' (A :: hid) μ' := ⟨e.pre, fun b o h n1 n2 ht => e.kept b o h n1 (fun z => n2 (by simp [z])) ht, e.fresh, fun _ m => .inl m, e.there, e.tab⟩
theorem Ea.put {o : HO} (hl : ∃ vs, H A = some (.lst vs)) : Ea A H μ (upd H A o) μ := ⟨⟨[], by simp⟩, fun b u h _ n _ => by rw [upd_ne n]; exact h, fun _ m => .inl m, upd_there, fun _ t => t.upd (.inr hl)⟩
theorem Cells.putA {o : HO} {O : Ow} (c : Cells K H (A :: hid) μ O) (hl : ∃ vs, H A = some (.lst vs)) : Cells K (upd H A o) (A :: hid) μ O := by
  refine ⟨c.len, c.nd, c.nh, fun a m => upd_there a (c.ht a m), fun k a e => ?_⟩
  obtain ⟨ds, vs, h1, h2, h3⟩ := c.at_ k a e
  have ne : a ≠ A := fun z => c.nh a (List.mem_of_getElem? e) (by simp [z])
  exact ⟨ds, vs, h1, by rw [upd_ne ne]; exact h2, h3.mv (Ea.put (A := A) hl).mv⟩
theorem Cells.unhide (c : Cells K H (A :: hid) μ O) : Cells K H hid μ O :=
  ⟨c.len, c.nd, fun a m z => c.nh a m (List.mem_cons_of_mem _ z), fun a m => c.ht a (List.mem_cons_of_mem _ m), fun k a e =>
    let ⟨ds, vs, h1, h2, h3⟩ := c.at_ k a e
    ⟨ds, vs, h1, h2, h3.mv .unhide⟩⟩
end
abbrev Ex0 : Nat → Hp → Prop := fun _ _ => False
/-- the clauses of a block -/
inductive ClsOk (X : Cx) : List Comprehension → List Cl → Prop where
  | nil : ClsOk X [] []
  | cons {tg iter : Expr} {ifs : List Expr} {gs : List Comprehension} {c : Cl} {cs : List Cl} (hi : PDI X Ex0 tg iter c.it) (hs : ∀ x, foldedSetIterable iter X.env x = pure x) (hg : PG X tg (c.g.rd X.K))
      (hf : PySem.Paired (fun e t => PDT X Ex0 e t) ifs c.ifs) (r : ClsOk X gs cs) : ClsOk X (⟨tg, iter, ifs, 0⟩ :: gs) (c :: cs)
section
variable {X : Cx}
theorem any_of_nox {α : Type} {M : Model} {A : Around} {t : Sem α} {Q Q' : α → Shared → Prop} {E : Value → Shared → Prop} {s : Shared} (hx : X.xe = fun _ _ => False) (h : wpAny M A t Q X.xe s) (k : ∀ a s', Q a s' → Q' a s') : wpAny M A t Q' E s :=
  wpAny_mono h k fun e s' z => by rw [hx] at z; exact z.elim
theorem tests_false {env : Env} {M : Model} {A : Around} {E : Value → Shared → Prop} {s : Shared} {Q : Bool → Shared → Prop} (h : Q false s) : ∀ (ifs : List Expr), wpAny M A (forIn ifs false fun c r => if r = true then do let ok ← isTrue c env (eval c env); pure (ForInStep.yield ok) else pure (ForInStep.yield r)) Q E s
  | [] => wpAny_pure h
  | c :: cs => by
    simp only [List.forIn_cons, Bool.false_eq_true, if_false]
    exact wpAny_bind (wpAny_pure (tests_false h cs))
theorem tests_ok {E : Value → Shared → Prop} {hid : List Addr} (hx : X.xe = fun _ _ => False) : ∀ {ifs : List Expr} {ts : List DT}, PySem.Paired (fun e t => PDT X Ex0 e t) ifs ts → ∀ (pins : List (Addr × Obj)) (s : Shared) (σv : St) (H : Hp) (μ : List Addr) (σ : Sg) (O : Ow) (Q : Bool → Shared → Prop),
    L2.Inv X pins σv H s → EnvOk X.K H hid μ σ σv → Cells X.K H hid μ O →
    postT Ex0 X.K H hid μ (dAll ts σ O) (fun b H' => ∀ s', L2.Inv X pins σv H' s' → Q b s') →
    wpAny (model X.prog X.w) X.A (forIn ifs true fun c r => if r = true then do let ok ← isTrue c X.env (eval c X.env); pure (ForInStep.yield ok) else pure (ForInStep.yield r)) Q E s
  | _, _, .nil, pins, s, σv, H, μ, σ, O, Q, I, e1, c1, q => wpAny_pure (post.here (v := true) q c1 rfl s I)
  | _ :: ifs, _ :: ts, .cons hc hr, pins, s, σv, H, μ, σ, O, Q, I, e1, c1, q => by
    simp only [List.forIn_cons, if_true]
    refine wpAny_bind (wpAny_bind (any_of_nox hx (hc.out pins s σv H _ I (rdT.go e1 c1 q (Q1 := fun b H1 => ∃ μ1 O1, EnvOk X.K H1 hid μ1 σ σv ∧ Cells X.K H1 hid μ1 O1 ∧ postT Ex0 X.K H1 hid μ1 (if b = true then dAll ts σ O1 else .ok false O1) (fun b H' => ∀ s', L2.Inv X pins σv H' s' → Q b s'))
      fun b O1 H1 μ1 e2 x c p => ⟨μ1, O1, e2, c, p⟩)) fun b s1 ⟨H1, I1, μ1, O1, e2, c2, p⟩ => wpAny_pure ?_))
    show wpAny _ _ (forIn ifs b _) _ _ _
    cases b with
    | true => rw [if_pos rfl] at p; exact tests_ok hx hr pins s1 σv H1 μ1 σ O1 Q I1 e2 c2 p
    | false => rw [if_neg Bool.false_ne_true] at p; exact tests_false (post.here (v := false) p c2 rfl s1 I1) ifs
/-- the block between two steps: the list that grows stands at A -/
structure Bs (X : Cx) (A : Addr) (hid : List Addr) (pins : List (Addr × Obj)) (s : Shared) (σv : St) (H : Hp) (μ : List Addr) (σ : Sg) (O : Ow) (acc : List D) : Prop where
  inv : L2.Inv X pins σv H s
  env : EnvOk X.K H (A :: hid) μ σ σv
  cells : Cells X.K H (A :: hid) μ O
  grown : ∃ vs, H A = some (.lst vs) ∧ Dats X.K H (A :: hid) μ acc vs
/-- what is wanted behind the rest of the clauses -/
def BsEnd (X : Cx) (A : Addr) (hid : List Addr) (pins : List (Addr × Obj)) (σv : St) (H : Hp) (μ : List Addr) (sl : List Nat) (acc : List D) (O : Ow) (Q : Shared → Prop) : Prop :=
  ∀ s' σv' H' μ', L2.Inv X pins σv' H' s' → Ea A H μ H' μ' → Cells X.K H' (A :: hid) μ' O → (∃ vs, H' A = some (.lst vs) ∧ Dats X.K H' (A :: hid) μ' acc vs) → σv'.length = σv.length → (∀ i, i ∉ sl → σv'[i]? = σv[i]?) → Q s'
def BsPost (X : Cx) (A : Addr) (hid : List Addr) (pins : List (Addr × Obj)) (σv : St) (H : Hp) (μ : List Addr) (sl : List Nat) (r : R (List D)) (Q : Shared → Prop) : Prop := match r with
  | .ok acc O => BsEnd X A hid pins σv H μ sl acc O Q
  | _ => False
def emitC (elt : Expr) (acc : Value) (env : Env) : Sem Unit := do let _ ← call (.builtin "list.append") [acc, ← eval elt env]
def bodyC (e : Expr) (elt : Expr) (gens : List Comprehension) (k : Nat) (acc : Value) (env : Env) : Sem Unit := match gens[k]? with
  | some g' => do
    let x ← eval g'.iter env
    standAt g'.iter.pos
    let x ← if g'.is_async != 0 then foldedIterable g'.iter x else foldedSetIterable g'.iter env x
    let _ ← runOwn (.compStart e k (← holding [x] (if g'.is_async != 0 then asyncIter x else pyIter x)) acc env) env
  | none => emitC elt acc env
theorem compTurn_eq (elt : Expr) (gens : List Comprehension) (scope : Scope) (pos : Pos) (k : Nat) (it acc : Value) (env : Env) {tg iter : Expr} {ifs : List Expr} (hk : gens[k]? = some ⟨tg, iter, ifs, 0⟩)
    (hn : gens[k + 1]? = none ∨ ∃ tg' iter' ifs', gens[k + 1]? = some ⟨tg', iter', ifs', 0⟩) :
    compTurn (.ListComp elt gens scope pos) k it acc env = (do
      standAt iter.pos
      match ← pyNext it with
      | none => pure (.done .next)
      | some v =>
        letOwnedTupleGo tg it v
        assign tg env v
        let mut ok := true
        for c in ifs do
          if ok then ok ← isTrue c env (eval c env)
        if ok then bodyC (.ListComp elt gens scope pos) elt gens (k + 1) acc env
        again (.compLoop (.ListComp elt gens scope pos) k it acc env)) := by
  unfold compTurn bodyC emitC
  rcases hn with hn | ⟨tg', iter', ifs', hn⟩
  · simp only [hk, hn]
    rfl
  · simp only [hk, hn, bne_self_eq_false, Bool.false_eq_true, if_false, bind_assoc, pure_bind]
    first | rfl | congr 1
section
variable {A : Addr} {hid : List Addr} {elt : Expr} {gens : List Comprehension} {scope : Scope} {pos : Pos} {te : DE}
/-- the claim for the rest of the clauses -/
def BodyOk (X : Cx) (A : Addr) (hid : List Addr) (e elt : Expr) (gens : List Comprehension) (te : DE) (k : Nat) (cls : List Cl) : Prop := ∀ (pins : List (Addr × Obj)) (s : Shared) (σv : St) (H : Hp) (μ : List Addr) (σ : Sg) (O : Ow) (acc : List D) (Q : Shared → Prop) (E : Value → Shared → Prop),
  Bs X A hid pins s σv H μ σ O acc → BsPost X A hid pins σv H μ (slotsOf cls) (compD cls te σ O acc) Q → wpAny (model X.prog X.w) X.A (bodyC e elt gens k (.ref A) X.env) (fun _ s' => Q s') E s
theorem body_nil {k : Nat} {e : Expr} (hx : X.xe = fun _ _ => False) (he : PD X Ex0 elt te) (hk : gens[k]? = none) : BodyOk X A hid e elt gens te k [] := by
  intro pins s σv H μ σ O acc Q E B q
  unfold bodyC
  rw [hk]
  show wpAny _ _ (emitC elt (.ref A) X.env) _ _ s
  unfold emitC
  obtain ⟨vs, hA, dA⟩ := B.grown
  cases hte : te σ O with
  | ok d O1 =>
    have q2 : BsPost X A hid pins σv H μ (slotsOf []) (if acc.length < 100000 then .ok (acc ++ [d]) O1 else .bad) Q := by
      have := q
      unfold compD at this
      rw [hte] at this
      exact this
    by_cases hl : acc.length < 100000
    · rw [if_pos hl] at q2
      refine wpAny_bind (any_of_nox hx (he.out pins s σv H (fun v H1 => ∃ μ1, Ext H μ H1 μ1 ∧ Cells X.K H1 (A :: hid) μ1 O1 ∧ Dat X.K H1 (A :: hid) μ1 d v) B.inv ⟨A :: hid, μ, σ, O, B.env, B.cells, by rw [hte]; exact fun v H' μ' x c r => ⟨μ', x, c, r⟩⟩)
        fun u s1 ⟨v, H1, I1, ru, μ1, x, c, r⟩ => ?_)
      have nA : A ∉ μ := fun m => B.cells.nh A m (by simp)
      have hA1 : H1 A = some (.lst vs) := x.keep A _ hA nA
      have dA1 := dA.ext x
      refine wpAny_bind (any_of_nox hx (mt_append pins s1 σv H1 (.ref A) [v] (.ref A) [u] (fun _ H2 => H2 = upd H1 A (.lst (vs ++ [v]))) I1 rfl (.cons ru .nil)
        ⟨A, vs, v, rfl, rfl, hA1, Nat.lt_of_lt_of_le (by rw [← dA1.length]; exact hl) (by decide), rfl⟩) fun u2 s2 ⟨v2, H2, I2, r2, e2⟩ => ?_)
      subst e2
      refine wpAny_pure (q2 s2 σv _ μ1 I2 (x.ea.trans (.put ⟨_, hA1⟩)) (c.putA ⟨_, hA1⟩) ⟨_, upd_same, ?_⟩ rfl fun _ _ => rfl)
      exact (dA1.append (.cons r .nil)).mv (Ea.put ⟨_, hA1⟩).mv
    · rw [if_neg hl] at q2; exact q2.elim
  | exc c O1 =>
    unfold compD at q; rw [hte] at q; exact q.elim
  | bad =>
    unfold compD at q; rw [hte] at q; exact q.elim
/-- the loop of one clause -/
theorem loop_ok {k : Nat} {tg iter : Expr} {ifs : List Expr} {c : Cl} {cs : List Cl} (hx : X.xe = fun _ _ => False) (hcalm : X.calm = true) (hk : gens[k]? = some ⟨tg, iter, ifs, 0⟩) (hg : PG X tg (c.g.rd X.K)) (hf : PySem.Paired (fun e t => PDT X Ex0 e t) ifs c.ifs)
    (hb : BodyOk X A hid (.ListComp elt gens scope pos) elt gens te (k + 1) cs) (hn : gens[k + 1]? = none ∨ ∃ tg' iter' ifs', gens[k + 1]? = some ⟨tg', iter', ifs', 0⟩) {it : Addr} {fp : List Addr} {tn : Nat → Heap → Prop} {J : It} {src : Src} (T : Turn X.prog X.w X.K tg J fp it tn)
    (pins : List (Addr × Obj)) (s : Shared) (σv : St) (H : Hp) (μ : List Addr) (σ : Sg) (O : Ow) (acc : List D) (n : Nat) (Q : Shared → Prop) (st : tn 0 s.heap) (hfp : ∀ b ∈ fp, FpOk X pins H b) (sa : SrcAt X.K J src H (A :: hid) μ)
    (B : Bs X A hid pins s σv H μ σ O acc) (q : BsPost X A hid pins σv H μ (slotsOf (c :: cs)) (walkD src (stepD c cs te σ) n 0 O acc) Q) :
    codeAny (model X.prog X.w) X.A (.compLoop (.ListComp elt gens scope pos) k (.ref it) (.ref A) X.env) (fun r s' => ∃ f, r = .ok f ∧ Q s') s := by
  have stat : ∀ {H' : Hp}, (∀ b ∈ fp, H' b = none) → ∀ b ∈ fp, FpOk X pins H' b := fun hn b hb => ⟨hn b hb, (hfp b hb).2⟩
  let P : Nat → Shared → Prop := fun m s' => ∃ i σv' H' μ' O' acc', L2.Inv X pins σv' H' s' ∧ tn i s'.heap ∧ (∀ b ∈ fp, H' b = none) ∧ Ea A H μ H' μ' ∧ Cells X.K H' (A :: hid) μ' O' ∧ (∃ vs, H' A = some (.lst vs) ∧ Dats X.K H' (A :: hid) μ' acc' vs) ∧
    σv'.length = σv.length ∧ (∀ i, i ∉ slotsOf (c :: cs) → σv'[i]? = σv[i]?) ∧ BsPost X A hid pins σv H μ (slotsOf (c :: cs)) (walkD src (stepD c cs te σ) m i O' acc') Q
  refine codeAny_loop rfl P (fun m s1 hP => ?_) n ⟨0, σv, H, μ, O, acc, B.inv, st, fun b hb => (hfp b hb).1, .refl, B.cells, B.grown, rfl, fun _ _ => rfl, q⟩
  show wpAny _ X.A ((compTurn (.ListComp elt gens scope pos) k (.ref it) (.ref A) X.env).onRaise (fun x => do noteFrame x X.env; theTreesLotGoes x)) _ _ s1
  refine wpAny_noted ?_
  rw [compTurn_eq _ _ _ _ _ _ _ _ hk hn]
  obtain ⟨i, σv1, H1, μ1, O1, acc1, I1, st1, fr1, x1, c1, g1, l1, k1, q1⟩ := hP
  have sa1 := sa (A :: hid) H1 μ1 O1 x1.mv c1 i
  -- the names that stand
  have env1 : EnvOk X.K H1 (A :: hid) μ1 (clr σ (slotsOf (c :: cs))) σv1 := by
    refine ⟨by rw [clr_len, B.env.len, l1], fun j d hj => ?_⟩
    obtain ⟨h1, h2⟩ := clr_get _ _ _ _ hj
    obtain ⟨v, h3, h4⟩ := B.env.at_ j d h1
    exact ⟨v, by rw [k1 j h2]; exact h3, h4.mv x1.mv⟩
  cases hget : src.get O1 i with
  | none =>
    rw [hget] at sa1
    have q2 : BsEnd X A hid pins σv H μ (slotsOf (c :: cs)) acc1 O1 Q := by
      cases m with
      | zero => unfold walkD at q1; rw [hget] at q1; exact q1
      | succ f => unfold walkD at q1; rw [hget] at q1; exact q1
    refine wpAny_bind (wpAny_standAt (wpAny_bind (thn (T.done X rfl rfl rfl hcalm i pins s1 σv1 H1 _ I1 (stat fr1) st1 sa1) fun r s2 ⟨hr, I2⟩ => ?_)))
    subst hr
    exact wpAny_pure ⟨_, rfl, q2 s2 σv1 H1 μ1 I2 x1 c1 g1 l1 k1⟩
  | some d =>
    rw [hget] at sa1
    obtain ⟨go, yl⟩ := sa1
    cases m with
    | zero =>
      unfold walkD at q1; rw [hget] at q1; exact q1.elim
    | succ f =>
      have q2 : BsPost X A hid pins σv H μ (slotsOf (c :: cs)) ((stepD c cs te σ d O1 acc1).bnd fun acc' O' => walkD src (stepD c cs te σ) f (i + 1) O' acc') Q := by
        have := q1
        unfold walkD at this
        rw [hget] at this
        exact this
      refine wpAny_bind (wpAny_standAt (wpAny_bind (thn (T.item X rfl rfl rfl hcalm i pins s1 σv1 H1 _ I1 (stat fr1) st1 go) fun r s2 ⟨u, hr, h2⟩ => ?_)))
      subst hr
      refine wpAny_bind (thn h2 fun _ s3 ⟨v, H3, I3, r3, y3, st3, fr3⟩ => ?_)
      obtain ⟨x3, c3, d3⟩ := yl v H3 y3
      have I3' := I3.pinned (stat fr3) (T.obj _ _ st3)
      cases hput : c.g.put d (clr σ (slotsOf (c :: cs))) with
      | none =>
        unfold stepD at q2; rw [hput] at q2; exact q2.elim
      | some σ3 =>
        have hstep : stepD c cs te σ d O1 acc1 = ((dAll c.ifs σ3 O1).bnd fun b O3 => if b = true then compD cs te σ3 O3 acc1 else .ok acc1 O3) := by
          unfold stepD; rw [hput]
        rw [hstep] at q2
        refine wpAny_bind (any_of_nox hx (hg _ s3 σv1 H3 v u (fun σv4 H4 => H4 = H3 ∧ EnvOk X.K H3 (A :: hid) μ1 σ3 σv4 ∧ ∀ j, j ∉ c.g.slots → σv4[j]? = σv1[j]?) I3' r3 (Tg.ok2 c.g (env1.ext x3) d3 hput fun σv4 e4 k4 => ⟨rfl, e4, k4⟩)) fun _ s4 ⟨σv4, H4, I4, e4, env4, k4⟩ => ?_)
        subst e4
        have l4 : σv4.length = σv.length := by rw [I4.len, ← I3.len, l1]
        have k4' : ∀ j, j ∉ slotsOf (c :: cs) → σv4[j]? = σv[j]? := fun j hj => by
          rw [k4 j fun z => hj (List.mem_append_left _ z)]; exact k1 j hj
        have nA : A ∉ μ1 := fun m => c1.nh A m (by simp)
        obtain ⟨vs, hA, dA⟩ := g1
        have x13 : Ea A H μ H4 μ1 := x1.trans x3.ea
        have hA3 : H4 A = some (.lst vs) := x3.keep A _ hA nA
        have dA3 := dA.ext x3
        -- behind the step: the next turn
        have again : ∀ {s' : Shared} {σv' : St} {H' : Hp} {μ' : List Addr} {O' : Ow} {acc' : List D}, L2.Inv X (pins ++ pinsAt fp s3.heap) σv' H' s' → Ea A H μ H' μ' → Cells X.K H' (A :: hid) μ' O' → (∃ vs, H' A = some (.lst vs) ∧ Dats X.K H' (A :: hid) μ' acc' vs) → σv'.length = σv.length →
            (∀ i, i ∉ slotsOf (c :: cs) → σv'[i]? = σv[i]?) → BsPost X A hid pins σv H μ (slotsOf (c :: cs)) (walkD src (stepD c cs te σ) f (i + 1) O' acc') Q → ∃ m, m < f + 1 ∧ P m s' := by
          intro s' σv' H' μ' O' acc' I' x' c' g' l' k' p'
          refine ⟨f, Nat.lt_succ_self f, i + 1, σv', H', μ', O', acc', I'.unpinned, T.keep _ _ _ st3 fun b hb o e => (I'.pin (b, o) (List.mem_append_right _ (List.mem_append_right _ (mem_pinsAt hb e)))).1, fun b hb => ?_, x', c', g', l', k', p'⟩
          obtain ⟨o, e, d⟩ := T.obj _ _ st3 b hb
          exact (I'.pin (b, o) (List.mem_append_right _ (List.mem_append_right _ (mem_pinsAt hb e)))).2.1
        cases hall : dAll c.ifs σ3 O1 with
        | exc c' O' => rw [hall] at q2; exact q2.elim
        | bad => rw [hall] at q2; exact q2.elim
        | ok b O3 =>
          rw [hall] at q2
          have q3 : BsPost X A hid pins σv H μ (slotsOf (c :: cs)) ((if b = true then compD cs te σ3 O3 acc1 else .ok acc1 O3).bnd fun acc' O' => walkD src (stepD c cs te σ) f (i + 1) O' acc') Q := q2
          refine wpAny_bind (tests_ok (hid := A :: hid) hx hf _ s4 σv4 H4 μ1 σ3 O1 _ I4 env4 c3 ?_)
          rw [hall]
          intro b' H5 μ5 x5 c5 eb s5 I5
          have eb : b = b' := eb
          subst eb
          have hA5 : H5 A = some (.lst vs) := x5.keep A _ hA3 nA
          have x15 : Ea A H μ H5 μ5 := x13.trans x5.ea
          cases b with
          | false =>
            rw [if_neg Bool.false_ne_true] at q3
            exact wpAny_pure ⟨rfl, again I5 x15 c5 ⟨vs, hA5, dA3.ext x5⟩ l4 k4' q3⟩
          | true =>
            rw [if_pos rfl] at q3
            refine wpAny_bind (hb _ s5 σv4 H5 μ5 σ3 O3 acc1 _ _ ⟨I5, env4.ext x5, c5, vs, hA5, dA3.ext x5⟩ ?_)
            cases hcd : compD cs te σ3 O3 acc1 with
            | exc c' O' => rw [hcd] at q3; exact q3.elim
            | bad => rw [hcd] at q3; exact q3.elim
            | ok acc6 O6 =>
              rw [hcd] at q3
              intro s6 σv6 H6 μ6 I6 x6 c6 g6 l6 k6
              refine wpAny_pure ⟨rfl, again I6 (x15.trans x6) c6 g6 (l6.trans l4) (fun j hj => ?_) q3⟩
              rw [k6 j fun z => hj (List.mem_append_right _ z)]
              exact k4' j hj
end
end
end DL

namespace DL
open PySem L2

section
variable {X : Cx} {A : Addr} {hid : List Addr} {elt : Expr} {gens : List Comprehension} {scope : Scope} {pos : Pos} {te : DE}
/-- the start of a clause's loop -/
theorem start_ok {k : Nat} {tg iter : Expr} {ifs : List Expr} {it : Addr} {fp : List Addr} {tn : Nat → Heap → Prop} {J : It} {env : Env} {P : Result → Shared → Prop} {s : Shared} {acc : Value} (hk : gens[k]? = some ⟨tg, iter, ifs, 0⟩) (T : Turn X.prog X.w X.K tg J fp it tn) (i : Nat) (st : tn i s.heap)
    (h : codeAny (model X.prog X.w) X.A (.compLoop (.ListComp elt gens scope pos) k (.ref it) acc env) P s) :
    codeAny (model X.prog X.w) X.A (.compStart (.ListComp elt gens scope pos) k (.ref it) acc env) P s := by
  refine codeAny_of_tree ?_
  show wpAny _ _ ((compStart (.ListComp elt gens scope pos) k (.ref it) acc env).onRaise (fun x => do noteFrame x env; standAt theWindowsPlace)) _ _ s
  refine wpAny_notedAt ?_
  unfold compStart
  have hcl : clausesOf (.ListComp elt gens scope pos) = gens := rfl
  simp only [hcl, hk, Option.elim, bne_self_eq_false, Bool.false_eq_true, if_false]
  refine wpAny_bind (wpAny_askSetting (wpAny_ite ?_))
  split
  · exact wpAny_pure (And.intro rfl h)
  · refine wpAny_bind (wpAny_rule ?_)
    exact wpAny_bind (wpAny_standAt (wpAny_bind (T.self _ i s _ _ st (wpAny_pure (And.intro rfl h)))))
theorem body_ok (hx : X.xe = fun _ _ => False) (hcalm : X.calm = true) (he : PD X Ex0 elt te) : ∀ {rest : List Comprehension} {cls : List Cl}, ClsOk X rest cls → ∀ k, gens.drop k = rest → BodyOk X A hid (.ListComp elt gens scope pos) elt gens te k cls
  | _, _, .nil, k, hd => body_nil hx he (by
      have := congrArg List.length hd
      simp at this
      exact List.getElem?_eq_none_iff.mpr (by omega))
  | ⟨tg, iter, ifs, _⟩ :: gs, c :: cs, .cons hi hs hg hf r, k, hd => by
    have hk : gens[k]? = some ⟨tg, iter, ifs, 0⟩ := by
      have : (gens.drop k)[0]? = some ⟨tg, iter, ifs, 0⟩ := by rw [hd]; rfl
      simpa using this
    have hd' : gens.drop (k + 1) = gs := by
      have := congrArg (List.drop 1) hd
      simpa [List.drop_drop, Nat.add_comm] using this
    have hb := body_ok hx hcalm he r (k + 1) hd'
    have hn : gens[k + 1]? = none ∨ ∃ tg' iter' ifs', gens[k + 1]? = some ⟨tg', iter', ifs', 0⟩ := by
      have e : gens[k + 1]? = gs[0]? := by rw [← hd']; simp
      cases r with
      | nil => exact .inl (by rw [e]; rfl)
      | cons _ _ _ _ _ => exact .inr ⟨_, _, _, by rw [e]; rfl⟩
    intro pins s σv H μ σ O acc Q E B q
    unfold bodyC
    rw [hk]
    simp only [bne_self_eq_false, Bool.false_eq_true, if_false]
    cases hit : c.it σ O with
    | exc c' O' => unfold compD at q; rw [hit] at q; exact q.elim
    | bad => unfold compD at q; rw [hit] at q; exact q.elim
    | ok src O1 =>
      have q1 : BsPost X A hid pins σv H μ (slotsOf (c :: cs)) (walkD src (stepD c cs te σ) (src.size O1) 0 O1 acc) Q := by
        have := q
        unfold compD at this
        rw [hit] at this
        exact this
      refine wpAny_bind (any_of_nox hx (hi.out pins s σv H (fun J H1 => ∃ μ1, Ext H μ H1 μ1 ∧ Cells X.K H1 (A :: hid) μ1 O1 ∧ SrcAt X.K J src H1 (A :: hid) μ1) B.inv ⟨A :: hid, μ, σ, O, B.env, B.cells, by rw [hit]; exact fun J H1 μ1 x c sa => ⟨μ1, x, c, sa⟩⟩) fun v s1 h1 => ?_)
      refine wpAny_bind (wpAny_standAt ?_)
      refine wpAny_bind (wpAny_of_eq (hs v) ?_)
      refine wpAny_bind (wpAny_holding (any_of_nox hx h1 fun itv s2 h2 => ?_))
      obtain ⟨it, fp, tn, J, H2, e, I2, T, st2, f2, μ2, x2, c2, sa⟩ := h2
      subst e
      refine wpAny_bind (wpAny_runOwn (h := none) ?_)
      show codeAny _ X.A _ _ _
      obtain ⟨vs, hA, dA⟩ := B.grown
      have nA : A ∉ μ := fun m => B.cells.nh A m (by simp)
      refine start_ok hk T 0 st2 ?_
      refine codeAny_mono (loop_ok (A := A) (hid := hid) (te := te) (c := c) (cs := cs) hx hcalm hk hg hf hb hn T pins s2 σv H2 μ2 σ O1 acc (src.size O1) (fun s' => Q s') st2 f2 sa ⟨I2, B.env.ext x2, c2, vs, x2.keep A _ hA nA, dA.ext x2⟩ ?_) fun r s' hr => ?_
      · cases hw : walkD src (stepD c cs te σ) (src.size O1) 0 O1 acc with
        | exc c' O' => rw [hw] at q1; exact q1.elim
        | bad => rw [hw] at q1; exact q1.elim
        | ok acc' O' =>
          rw [hw] at q1
          exact fun s' σv' H' μ' I' x' c' g' l' k' => q1 s' σv' H' μ' I' (x2.ea.trans x') c' g' l' k'
      · obtain ⟨f, rfl, hq⟩ := hr
        exact wpAny_pure hq
end
end DL

namespace DL
open PySem L2

/-! ### the block of a comprehension -/
def cxB (X : Cx) (N' : List Str) (scope : Scope) (cells : List (Str × Addr)) (C : Addr) (s : Shared) (H : Hp) (fp : List Addr) : Cx :=
  { X with
    N := N', s₀ := s, H₀ := H
    env := { scope := relabel scope X.env, locals := C, globals := X.env.globals, cells := cells, qual := X.env.qual, func := none, code := X.env.code, frame := X.env.frame, builtins := X.env.builtins }
    outer := X.stack, ex := fp, fn := fun x => scope.names.lookup x == some .cell, pn := [], xe := fun _ _ => False }
/-- what of the names can be seen -/
structure BOk (sc scope : Scope) (N' : List Str) (sl : List Nat) : Prop where
  kind : scope.kind = .function
  nd : (scope.names.map (·.1)).Nodup
  frees : ∀ y ∈ scope.names, y.2 = .free → sc.names.lookup y.1 = some .cell ∨ sc.names.lookup y.1 = some .free
  own : ∀ (i : Nat) x, N'[i]? = some x → (x, NameKind.local) ∈ scope.names ∨ (x, NameKind.cell) ∈ scope.names → i ∈ sl
theorem lookup_mem {β : Type} : ∀ {l : List (Str × β)} {x : Str} {b : β}, (l.map (·.1)).Nodup → (x, b) ∈ l → l.lookup x = some b
  | [], _, _, _, h => by cases h
  | (y, c) :: r, x, b, nd, h => by
    obtain ⟨n1, n2⟩ := List.nodup_cons.mp nd
    rcases List.mem_cons.mp h with e | h
    · cases e; simp [List.lookup_cons]
    · have ne : x ≠ y := fun e => n1 (List.mem_map.mpr ⟨(x, b), h, e⟩)
      rw [List.lookup_cons]
      have : (x == y) = false := by simpa using ne
      rw [this]
      exact lookup_mem n2 h
theorem lookup_relabel (env : Env) (x : Str) : ∀ (names : List (Str × NameKind)), (names.map fun (n, k) => if (k == NameKind.free && env.scope.kind == .function && env.kindOf n == some .cell) then (n, NameKind.cell) else (n, k)).lookup x =
    (names.lookup x).map fun k => if (k == NameKind.free && env.scope.kind == .function && env.kindOf x == some .cell) then NameKind.cell else k
  | [] => rfl
  | (n, k) :: r => by
    show List.lookup x ((if (k == NameKind.free && env.scope.kind == .function && env.kindOf n == some .cell) = true then (n, NameKind.cell) else (n, k)) :: _) = _
    cases hx : x == n with
    | true =>
      have e : x = n := by simpa using hx
      subst e
      simp only [List.lookup_cons, hx, Option.map_some]
      split
      · rename_i h; simp [List.lookup_cons, h]
      · rename_i h; simp [List.lookup_cons, h]
    | false =>
      have ih := lookup_relabel env x r
      simp only [List.lookup_cons, hx]
      rw [← ih]
      split <;> simp only [List.lookup_cons, hx]
theorem vis_relabel {scope : Scope} {env : Env} {x : Str} (h : Vis (relabel scope env) x) : (x, NameKind.local) ∈ scope.names ∨ (x, NameKind.cell) ∈ scope.names ∨ (x, NameKind.free) ∈ scope.names := by
  unfold Vis relabel at h
  simp only [lookup_relabel] at h
  cases e : scope.names.lookup x with
  | none => rw [e] at h; simp at h
  | some k =>
    have m := PySem.mem_of_lookup e
    cases k with
    | «local» => exact .inl m
    | cell => exact .inr (.inl m)
    | free => exact .inr (.inr m)
    | _ => rw [e] at h; simp at h
/-! closures -/
def clFold (cells : List (Str × Addr)) : List (Str × NameKind) → List (Str × Addr) → List (Str × Addr)
  | [], acc => acc
  | (n, k) :: r, acc => if k == .free then clFold cells r ((n, (cells.lookup n).getD 0) :: acc) else clFold cells r acc
theorem closureFor_eq {scope : Scope} {env : Env} (h : ∀ y ∈ scope.names, y.2 = .free → ∃ c, env.cells.lookup y.1 = some c) : closureFor scope env = pure (clFold env.cells scope.names []) := by
  have key : ∀ (names : List (Str × NameKind)) (acc : List (Str × Addr)), (∀ y ∈ names, y.2 = .free → ∃ c, env.cells.lookup y.1 = some c) →
      (forIn names acc fun (x : Str × NameKind) (cs : List (Str × Addr)) => (if x.2 == .free then (do let a ← cellOf env x.1; pure (ForInStep.yield ((x.1, a) :: cs))) else pure (ForInStep.yield cs) : Sem _)) = pure (clFold env.cells names acc) := by
    intro names
    induction names with
    | nil => intro acc _; rfl
    | cons y r ih =>
      intro acc hn
      obtain ⟨n, k⟩ := y
      rw [List.forIn_cons]
      unfold clFold
      by_cases hk : (k == NameKind.free) = true
      · obtain ⟨c, hc⟩ := hn (n, k) List.mem_cons_self (by simpa using hk)
        have e1 : cellOf env n = pure c := by unfold cellOf; rw [hc]
        simp only [hk, if_true, e1, pure_bind, hc, Option.getD_some]
        exact ih _ fun y hy => hn y (List.mem_cons_of_mem _ hy)
      · simp only [hk, if_false, pure_bind, Bool.false_eq_true]
        exact ih _ fun y hy => hn y (List.mem_cons_of_mem _ hy)
  have := key scope.names [] h
  unfold closureFor
  refine Eq.trans ?_ (congrArg (fun m => m >>= fun cs => pure cs) this)
  congr 1
theorem clFold_mem {cells : List (Str × Addr)} {x : Str} {c : Addr} : ∀ (names : List (Str × NameKind)) (acc : List (Str × Addr)), (x, c) ∈ clFold cells names acc → (x, c) ∈ acc ∨ ((x, NameKind.free) ∈ names ∧ c = (cells.lookup x).getD 0)
  | [], acc, h => .inl h
  | (n, k) :: r, acc, h => by
    unfold clFold at h
    by_cases hk : (k == NameKind.free) = true
    · rw [if_pos hk] at h
      rcases clFold_mem r _ h with m | ⟨m, e⟩
      · rcases List.mem_cons.mp m with m | m
        · cases m
          have : k = .free := by simpa using hk
          subst this
          exact .inr ⟨List.mem_cons_self, rfl⟩
        · exact .inl m
      · exact .inr ⟨List.mem_cons_of_mem _ m, e⟩
    · rw [if_neg hk] at h
      rcases clFold_mem r _ h with m | ⟨m, e⟩
      · exact .inl m
      · exact .inr ⟨List.mem_cons_of_mem _ m, e⟩
theorem clFold_acc {cells : List (Str × Addr)} {p : Str × Addr} : ∀ (names : List (Str × NameKind)) (acc : List (Str × Addr)), p ∈ acc → p ∈ clFold cells names acc
  | [], acc, h => h
  | (n, k) :: r, acc, h => by
    unfold clFold
    split
    · exact clFold_acc r _ (List.mem_cons_of_mem _ h)
    · exact clFold_acc r _ h
theorem clFold_has {cells : List (Str × Addr)} {x : Str} : ∀ (names : List (Str × NameKind)) (acc : List (Str × Addr)), (x, NameKind.free) ∈ names → (x, (cells.lookup x).getD 0) ∈ clFold cells names acc
  | (n, k) :: r, acc, h => by
    unfold clFold
    rcases List.mem_cons.mp h with e | h
    · cases e
      rw [if_pos (by decide)]
      exact clFold_acc r _ List.mem_cons_self
    · split
      · exact clFold_has r _ h
      · exact clFold_has r _ h
/-! the cells of a block -/
theorem cf_mem {x : Str} {c : Addr} : ∀ (names : List (Str × NameKind)) (n : Nat) (acc : List (Str × Addr)), (x, c) ∈ cellsFrom n names acc → (x, c) ∈ acc ∨ ((x, NameKind.cell) ∈ names ∧ n ≤ c)
  | [], n, acc, h => .inl h
  | (y, k) :: r, n, acc, h => by
    unfold cellsFrom at h
    by_cases hk : (k == NameKind.cell) = true
    · rw [if_pos hk] at h
      rcases cf_mem r _ _ h with m | ⟨m, e⟩
      · rcases List.mem_cons.mp m with m | m
        · cases m
          have : k = .cell := by simpa using hk
          subst this
          exact .inr ⟨List.mem_cons_self, Nat.le_refl _⟩
        · exact .inl m
      · exact .inr ⟨List.mem_cons_of_mem _ m, Nat.le_of_succ_le e⟩
    · rw [if_neg hk] at h
      rcases cf_mem r _ _ h with m | ⟨m, e⟩
      · exact .inl m
      · exact .inr ⟨List.mem_cons_of_mem _ m, e⟩
theorem cf_acc {p : Str × Addr} : ∀ (names : List (Str × NameKind)) (n : Nat) (acc : List (Str × Addr)), p ∈ acc → p ∈ cellsFrom n names acc
  | [], _, _, h => h
  | (y, k) :: r, n, acc, h => by
    unfold cellsFrom
    split
    · exact cf_acc r _ _ (List.mem_cons_of_mem _ h)
    · exact cf_acc r _ _ h
theorem cf_apart : ∀ (names : List (Str × NameKind)) (n : Nat) (acc : List (Str × Addr)), (acc.Pairwise fun x y => x.2 ≠ y.2) → (∀ p ∈ acc, p.2 < n) → (cellsFrom n names acc).Pairwise fun x y => x.2 ≠ y.2
  | [], _, _, h, _ => h
  | (y, k) :: r, n, acc, h, hl => by
    unfold cellsFrom
    split
    · refine cf_apart r (n + 1) _ (List.pairwise_cons.mpr ⟨fun p hp => ?_, h⟩) fun p hp => ?_
      · exact fun e => absurd (hl p hp) (by show ¬ p.2 < n; rw [← e]; exact Nat.lt_irrefl _)
      · rcases List.mem_cons.mp hp with rfl | hp
        · exact Nat.lt_succ_self _
        · exact Nat.lt_succ_of_lt (hl p hp)
    · exact cf_apart r n acc h hl
theorem cf_names : ∀ (names : List (Str × NameKind)) (n : Nat) (acc : List (Str × Addr)), ((names.map (·.1)).Nodup) → (acc.map (·.1)).Nodup → (∀ p ∈ acc, ∀ k, (p.1, k) ∈ names → k ≠ NameKind.cell) → ((cellsFrom n names acc).map (·.1)).Nodup
  | [], _, _, _, h, _ => h
  | (y, k) :: r, n, acc, nd, h, hl => by
    obtain ⟨n1, n2⟩ := List.nodup_cons.mp nd
    unfold cellsFrom
    by_cases hk : (k == NameKind.cell) = true
    · rw [if_pos hk]
      have hk' : k = .cell := by simpa using hk
      refine cf_names r (n + 1) _ n2 (List.nodup_cons.mpr ⟨fun m => ?_, h⟩) fun p hp k' hk2 => ?_
      · obtain ⟨p, hp, e⟩ := List.mem_map.mp m
        exact hl p hp k (by rw [e]; exact List.mem_cons_self) hk'
      · rcases List.mem_cons.mp hp with rfl | hp
        · exact absurd (List.mem_map.mpr ⟨(y, k'), hk2, rfl⟩) n1
        · exact hl p hp k' (List.mem_cons_of_mem _ hk2)
    · rw [if_neg hk]
      exact cf_names r n acc n2 h fun p hp k' hk2 => hl p hp k' (List.mem_cons_of_mem _ hk2)
theorem clFold_nodup {cells : List (Str × Addr)} : ∀ (names : List (Str × NameKind)) (acc : List (Str × Addr)), ((names.map (·.1)).Nodup) → (acc.map (·.1)).Nodup → (∀ p ∈ acc, p.1 ∉ names.map (·.1)) → ((clFold cells names acc).map (·.1)).Nodup
  | [], _, _, h, _ => h
  | (y, k) :: r, acc, nd, h, hl => by
    obtain ⟨n1, n2⟩ := List.nodup_cons.mp nd
    unfold clFold
    split
    · refine clFold_nodup r _ n2 (List.nodup_cons.mpr ⟨fun m => ?_, h⟩) fun p hp => ?_
      · obtain ⟨p, hp, e⟩ := List.mem_map.mp m
        exact hl p hp (by rw [e]; simp)
      · rcases List.mem_cons.mp hp with rfl | hp
        · exact n1
        · exact fun m => hl p hp (List.mem_cons_of_mem _ m)
    · exact clFold_nodup r acc n2 h fun p hp m => hl p hp (List.mem_cons_of_mem _ m)
end DL

namespace DL
open PySem L2

theorem cf_cell {x : Str} {c : Addr} : ∀ (names : List (Str × NameKind)) (h : Heap) (acc : List (Str × Addr)), (x, c) ∈ cellsFrom h.objs.size names acc → (x, c) ∈ acc ∨ (pushCells h names).IsCell c none
  | [], _, _, m => .inl m
  | (y, k) :: r, h, acc, m => by
    unfold cellsFrom at m
    unfold pushCells
    by_cases hk : (k == NameKind.cell) = true
    · rw [if_pos hk] at m ⊢
      have e : h.objs.size + 1 = (h.push { cls := .type "cell", data := .cell none }).objs.size := (Heap.size_push ..).symm
      rw [e] at m
      rcases cf_cell r _ _ m with m | m
      · rcases List.mem_cons.mp m with m | m
        · cases m
          exact .inr ⟨_, pushCells_keeps _ _ _ _ (Heap.get?_push_size _ rfl), rfl⟩
        · exact .inl m
      · exact .inr m
    · rw [if_neg hk] at m ⊢
      exact cf_cell r _ _ m
theorem pairwise_snd {l : List (Str × Addr)} (nd : (l.map (·.1)).Nodup) (inj : ∀ p ∈ l, ∀ q ∈ l, p.2 = q.2 → p.1 = q.1) : l.Pairwise fun x y => x.2 ≠ y.2 := by
  induction l with
  | nil => exact .nil
  | cons p r ih =>
    obtain ⟨n1, n2⟩ := List.nodup_cons.mp nd
    refine List.pairwise_cons.mpr ⟨fun q hq e => n1 ?_, ih n2 fun a ha b hb => inj a (List.mem_cons_of_mem _ ha) b (List.mem_cons_of_mem _ hb)⟩
    exact List.mem_map.mpr ⟨q, hq, (inj p List.mem_cons_self q (List.mem_cons_of_mem _ hq) e).symm⟩
abbrev lstObj : Obj := { cls := .type "list", dict := none, data := .seq ([] : List Value).toArray }
abbrev dctObj : Obj := { cls := .type "dict", data := .dict #[] }
section
variable {X : Cx} {pins : List (Addr × Obj)} {σv : St} {H : Hp} {s : Shared}
abbrev bHeap (h : Heap) (names : List (Str × NameKind)) : Heap := pushCells ((h.push lstObj).push dctObj) names
theorem bHeap_keeps (h : Heap) (names : List (Str × NameKind)) (b : Addr) (o : Obj) (e : h.get? b = some o) : (bHeap h names).get? b = some o := pushCells_keeps _ _ _ _ (Heap.get?_push_of_some _ (Heap.get?_push_of_some _ e))
theorem bsize (h : Heap) : ((h.push lstObj).push dctObj).objs.size = h.objs.size + 2 := by rw [Heap.size_push, Heap.size_push]
theorem inv_block {scope : Scope} {ext : List Str} {sl : List Nat} {fp : List Addr} (I : L2.Inv X pins σv H s) (hfp : ∀ b ∈ fp, FpOk X pins H b) (hlt : ∀ b ∈ fp, b < s.heap.objs.size) (hb : BOk X.env.scope scope (X.N ++ ext) sl) :
    L2.Inv (cxB X (X.N ++ ext) scope (cellsFrom (s.heap.objs.size + 2) scope.names (clFold X.env.cells scope.names [])) (s.heap.objs.size + 1) s H fp) [] (clr (σv ++ List.replicate ext.length none) sl)
      (upd H s.heap.objs.size (.lst [])) { s with heap := bHeap s.heap scope.names } := by
  have hclt : ∀ x c, X.env.cells.lookup x = some c → c < s.heap.objs.size := fun x c e => by
    obtain ⟨v, z⟩ := I.cell x c e
    exact z.lt
  -- a free name of the block has its cell around
  have hfree : ∀ x, (x, NameKind.free) ∈ scope.names → ∃ c, X.env.cells.lookup x = some c := fun x hx => I.ok.has x (hb.frees _ hx rfl)
  have hcl : ∀ x c, (x, c) ∈ clFold X.env.cells scope.names [] → (x, NameKind.free) ∈ scope.names ∧ X.env.cells.lookup x = some c := fun x c hm => by
    rcases clFold_mem _ _ hm with m | ⟨m, e⟩
    · cases m
    · obtain ⟨c', hc'⟩ := hfree x m
      rw [hc'] at e
      exact ⟨m, by rw [e]; exact hc'⟩
  have hlc : ∀ x, (x, NameKind.free) ∈ scope.names → ∀ c, X.env.cells.lookup x = some c → (x, c) ∈ clFold X.env.cells scope.names [] := fun x hx c e => by
    have := clFold_has (cells := X.env.cells) scope.names [] hx
    rw [e] at this
    exact this
  have ndcl : ((clFold X.env.cells scope.names []).map (·.1)).Nodup := clFold_nodup _ _ hb.nd (by simp) (by intro p hp; cases hp)
  have ndc : ((cellsFrom (s.heap.objs.size + 2) scope.names (clFold X.env.cells scope.names [])).map (·.1)).Nodup := cf_names _ _ _ hb.nd ndcl fun p hp k hk e => by
    subst e
    have h1 := (hcl p.1 p.2 hp).1
    have := lookup_mem hb.nd h1
    rw [lookup_mem hb.nd hk] at this
    cases this
  have apart : (cellsFrom (s.heap.objs.size + 2) scope.names (clFold X.env.cells scope.names [])).Pairwise fun x y => x.2 ≠ y.2 := by
    refine cf_apart _ _ _ (pairwise_snd ndcl fun p hp q hq e => ?_) fun p hp => Nat.lt_of_lt_of_le (hclt _ _ (hcl p.1 p.2 hp).2) (Nat.le_add_right _ _)
    refine I.ok.inj p.1 q.1 p.2 (hcl p.1 p.2 hp).2 ?_
    rw [e]; exact (hcl q.1 q.2 hq).2
  have hsplit : ∀ x c, (cellsFrom (s.heap.objs.size + 2) scope.names (clFold X.env.cells scope.names [])).lookup x = some c → ((x, NameKind.free) ∈ scope.names ∧ X.env.cells.lookup x = some c) ∨ ((x, NameKind.cell) ∈ scope.names ∧ s.heap.objs.size + 2 ≤ c) := fun x c e => by
    rcases cf_mem _ _ _ (PySem.mem_of_lookup e) with m | m
    · exact .inl (hcl x c m)
    · exact .inr m
  have fresh : ∀ a, s.heap.objs.size ≤ a → H a = none := fun a ha => I.hok.fresh ha
  have kp := bHeap_keeps s.heap scope.names
  have oldc : ∀ x, (x, NameKind.free) ∈ scope.names → ∀ c, X.env.cells.lookup x = some c → (cellsFrom (s.heap.objs.size + 2) scope.names (clFold X.env.cells scope.names [])).lookup x = some c := fun x hx c e =>
    lookup_mem ndc (cf_acc _ _ _ (hlc x hx c e))
  refine ⟨⟨I.ok.mod, hb.kind, I.ok.glob, I.ok.blt, Nat.le_succ _, fun x y c h1 h2 => name_of_addr apart (PySem.mem_of_lookup h1) (PySem.mem_of_lookup h2), fun x hx => ?_, fun x c hx h => ?_, I.ok.hd, I.ok.frames, .inl rfl, fun b hbm => ⟨?_, fun x c e => ?_⟩, I.bs, ?_, fun b o e hbm => ?_, fun b hbm z => ?_, I.stack, I.stkFree⟩,
    rfl, I.bare, Un.laid kp (Nat.le_refl _) (fresh _ (Nat.le_refl _)), ?_, fun x c e => ?_, ?_, fun x c e => ?_, fun p hp => absurd (show p ∈ ([] : List (Addr × Obj)) from hp) (by simp), I.hok.laid kp (Nat.le_refl _) ?_, ?_⟩
  · -- has
    have hx : Vis (relabel scope X.env) x := .inr hx
    rcases vis_relabel hx with m | m | m
    · exfalso
      have e := lookup_mem hb.nd m
      have e2 : (relabel scope X.env).names.lookup x = some .local := lookup_relabel_local e
      rcases (show (relabel scope X.env).names.lookup x = some .cell ∨ (relabel scope X.env).names.lookup x = some .free by rename_i h0; exact h0) with q | q
      · rw [e2] at q; cases q
      · rw [e2] at q; cases q
    · exact Option.isSome_iff_exists.mp (PySem.W.cellsFrom_some scope.names _ _ (.inl (lookup_mem hb.nd m)))
    · obtain ⟨c, hc⟩ := hfree x m
      exact ⟨c, oldc x m c hc⟩
  · -- cab
    have hx : (scope.names.lookup x == some .cell) = true := hx
    rcases hsplit x c h with ⟨m, _⟩ | ⟨_, m⟩
    · rw [lookup_mem hb.nd m] at hx; cases hx
    · exact Nat.le_trans (Nat.le_add_right _ _) m
  · exact Nat.ne_of_lt (Nat.lt_succ_of_lt (hlt b hbm))
  · rcases hsplit x c e with ⟨_, m⟩ | ⟨_, m⟩
    · exact (hfp b hbm).2.2.2.2.1 x c m
    · have h0 : b < s.heap.objs.size := hlt b hbm
      exact fun z => by
        rw [z] at m
        exact absurd (Nat.lt_of_lt_of_le h0 (Nat.le_trans (Nat.le_add_right _ 2) m)) (Nat.lt_irrefl _)
  · exact Nat.le_trans I.ok.bsz I.sz
  · rcases (hfp b hbm).2.2.2.1 with z | z
    · exact I.ok.noex b o e z
    · exact absurd (Nat.lt_of_lt_of_le (Heap.lt_size e) (Nat.le_trans I.ok.bsz z)) (Nat.lt_irrefl _)
  · rcases List.mem_cons.mp (I.stkSub b z) with q | q
    · exact (hfp b hbm).2.1 q
    · exact (hfp b hbm).2.2.1 q
  · -- loc
    refine ⟨fun _ => none, ?_, fun i x v h1 h2 h3 => ?_⟩
    · have z := (Heap.Ns.new (s.heap.push lstObj) (.type "dict")).keeps (pushCells_keeps scope.names _)
      rw [Heap.size_push] at z
      exact z
    · obtain ⟨g1, g2⟩ := clr_get _ _ _ _ h2
      have hi : i < σv.length := by
        by_cases hi : i < σv.length
        · exact hi
        · rw [List.getElem?_append_right (by omega), List.getElem?_replicate] at g1
          split at g1 <;> cases g1
      rw [List.getElem?_append_left hi] at g1
      have hxN : X.N[i]? = some x := by
        have h1 : (X.N ++ ext)[i]? = some x := h1
        rw [List.getElem?_append_left (by rw [← I.len]; exact hi)] at h1
        exact h1
      rcases vis_relabel h3 with m | m | m
      · exact absurd (hb.own i x h1 (.inl m)) g2
      · exact absurd (hb.own i x h1 (.inr m)) g2
      · obtain ⟨m0, hn, hl⟩ := I.loc
        have kx := hb.frees _ m rfl
        obtain ⟨u, ru, lk⟩ := hl i x v hxN g1 (.inr kx)
        refine ⟨u, ru, ?_⟩
        rcases lk with ⟨q, _⟩ | ⟨q, c, hc, z⟩
        · exfalso
          have q : X.env.scope.names.lookup x = some .local := q
          rcases kx with k | k <;> (rw [q] at k; cases k)
        · refine .inr ⟨?_, c, oldc x m c hc, z.keeps kp⟩
          have e := lookup_mem hb.nd m
          show (relabel scope X.env).names.lookup x = some .cell ∨ (relabel scope X.env).names.lookup x = some .free
          unfold relabel
          simp only [lookup_relabel, e, Option.map_some]
          split
          · exact .inl rfl
          · exact .inr rfl
  · -- cell
    rcases cf_cell scope.names ((s.heap.push lstObj).push dctObj) (clFold X.env.cells scope.names []) (x := x) (c := c) (by rw [bsize]; exact PySem.mem_of_lookup e) with m | m
    · obtain ⟨v, z⟩ := I.cell x c (hcl x c m).2
      exact ⟨v, z.keeps kp⟩
    · exact ⟨none, m⟩
  · show upd H s.heap.objs.size (HO.lst []) (s.heap.objs.size + 1) = none
    rw [upd_ne (Nat.ne_of_gt (Nat.lt_succ_self _))]
    exact fresh _ (Nat.le_succ _)
  · rcases hsplit x c e with ⟨_, m⟩ | ⟨_, m⟩
    · rw [upd_ne (Nat.ne_of_lt (hclt x c m))]
      exact I.freeC x c m
    · have ne : c ≠ s.heap.objs.size := fun z => by
        rw [z] at m
        exact absurd m (by omega)
      rw [upd_ne ne]
      exact fresh c (Nat.le_trans (Nat.le_add_right _ 2) m)
  · exact ⟨Nat.zero_le _, [], 0, .nil, pushCells_keeps _ _ _ _ (Heap.get?_push_of_some _ (Heap.get?_push_size _ rfl))⟩
  · show _ = (X.N ++ ext).length
    rw [clr_len, List.length_append, List.length_replicate, List.length_append, I.len]
end
end DL

namespace DL
open PySem L2

def noX {α : Type} : R α → R α
  | .ok a O => .ok a O
  | _ => .bad
def compAll (ext : Nat) (it0 : DI) (g : Tg) (ts : List DT) (cs : List Cl) (te : DE) : Sg → Ow → R (List D) := fun σ O => (it0 σ O).bnd fun src O1 =>
  noX (walkD src (stepD ⟨it0, g, ts⟩ cs te (clr (σ ++ List.replicate ext none) (slotsOf (⟨it0, g, ts⟩ :: cs)))) (src.size O1) 0 O1 [])
section
variable {X : Cx} {Ex : Nat → Hp → Prop} {M : Model} {A : Around} {E : Value → Shared → Prop} {s : Shared}
theorem newEnv_block {scope : Scope} {globals : Addr} {cl : List (Str × Addr)} {qual : Str} {env : Env} {Q : Env → Shared → Prop}
    (h : Q { scope, locals := s.heap.objs.size, globals, cells := cellsFrom (s.heap.objs.size + 1) scope.names cl, qual, func := none, code := env.code, frame := env.frame, builtins := env.builtins } { s with heap := pushCells (s.heap.push dctObj) scope.names }) :
    wpAny M A (newFunctionEnv scope globals cl [] qual none .none (some env)) Q E s := by
  simp only [newFunctionEnv, Option.isSome_some, if_true]
  refine wpAny_bind (wpAny_alloc ?_)
  refine wpAny_bind (wpAny_layCells _ (fun name kind cells => by cases hkc : kind == NameKind.cell <;> simp [hkc]) _ _ _ _ ?_)
  rw [show ({ s with heap := s.heap.push dctObj } : Shared).heap.objs.size = s.heap.objs.size + 1 from Heap.size_push ..]
  simp only [List.forIn_nil, pure_bind]
  exact wpAny_pure h
/-- what stands behind the block: the list at L, the block's names at C -/
structure Behind (X : Cx) (pins : List (Addr × Obj)) (σv : St) (H : Hp) (hid μ : List Addr) (L C : Addr) (acc : List D) (O : Ow) (s' : Shared) : Prop where
  inv : ∃ H' μ', L2.Inv X pins σv H' s' ∧ Ext H μ H' μ' ∧ Cells X.K H' (L :: hid) μ' O ∧ H L = none ∧ H' C = none ∧ ∃ vs, H' L = some (.lst vs) ∧ Dats X.K H' (L :: hid) μ' acc vs
  ns : ∃ m, s'.heap.Ns C m
  loc : C ≠ X.env.locals
  young : X.s₀.heap.objs.size ≤ C
  cel : ∀ x c, X.env.cells.lookup x = some c → c ≠ C
  pns : ∀ p ∈ X.pn ++ pins, p.1 ≠ C
theorem Inv.bare {pins : List (Addr × Obj)} {σv : St} {H : Hp} {s' : Shared} {C : Addr} {h' : Heap} (I : L2.Inv X pins σv H s') (hs : Heap.SameBut C s'.heap h') (hn : H C = none) (loc : C ≠ X.env.locals) (young : X.s₀.heap.objs.size ≤ C) (cel : ∀ x c, X.env.cells.lookup x = some c → c ≠ C)
    (pns : ∀ p ∈ X.pn ++ pins, p.1 ≠ C) : L2.Inv X pins σv H { s' with heap := h' } := I.turned (t' := s'.toks) (fun b o hb e => (hs.2 b hb).trans e) hn loc (.inr young) cel pns
theorem comp_block {elt tg iter : Expr} {ifs : List Expr} {gs : List Comprehension} {scope : Scope} {pos : Pos} {ext : List Str} {it0 : DI} {g : Tg} {ts : List DT} {cs : List Cl} {te : DE} {pins : List (Addr × Obj)} {σv : St} {H : Hp} {hid μ : List Addr} {σ : Sg} {O : Ow} {src : Src} {acc : List D} {O2 : Ow}
    {it : Addr} {fp : List Addr} {tn : Nat → Heap → Prop} {J : It} {RR : Value → Addr → Result → Shared → Prop}
    (hcalm : X.calm = true) (hb : BOk X.env.scope scope (X.N ++ ext) (slotsOf (⟨it0, g, ts⟩ :: cs)))
    (blk : ∀ cells C s H fp, PG (cxB X (X.N ++ ext) scope cells C s H fp) tg (g.rd X.K) ∧ PySem.Paired (fun e t => PDT (cxB X (X.N ++ ext) scope cells C s H fp) Ex0 e t) ifs ts ∧ ClsOk (cxB X (X.N ++ ext) scope cells C s H fp) gs cs ∧ PD (cxB X (X.N ++ ext) scope cells C s H fp) Ex0 elt te)
    (I : L2.Inv X pins σv H s) (e1 : EnvOk X.K H hid μ σ σv) (c1 : Cells X.K H hid μ O) (T : Turn X.prog X.w X.K tg J fp it tn) (st : tn 0 s.heap) (hfp : ∀ b ∈ fp, FpOk X pins H b) (sa : SrcAt X.K J src H hid μ)
    (hw : walkD src (stepD ⟨it0, g, ts⟩ cs te (clr (σ ++ List.replicate ext.length none) (slotsOf (⟨it0, g, ts⟩ :: cs)))) (src.size O) 0 O [] = .ok acc O2)
    (hRR : ∀ f s', Behind X pins σv H hid μ s.heap.objs.size (s.heap.objs.size + 1) acc O2 s' → RR (.ref s.heap.objs.size) (s.heap.objs.size + 1) (.ok f) s') :
    wpAny (model X.prog X.w) X.A (newList []) (fun ac s₃ => wpAny (model X.prog X.w) X.A (newFunctionEnv scope X.env.globals (clFold X.env.cells scope.names []) [] X.env.qual none .none (some X.env)) (fun cenv s₄ =>
      codeAny (model X.prog X.w) X.A (.compStart (.ListComp elt (⟨tg, iter, ifs, 0⟩ :: gs) scope pos) 0 (.ref it) ac { cenv with scope := relabel scope X.env }) (RR ac cenv.locals) s₄) E s₃) E s := by
  refine wpAny_newObj_type ?_
  refine newEnv_block ?_
  have hsz : (s.heap.push lstObj).objs.size = s.heap.objs.size + 1 := Heap.size_push ..
  have hlt : ∀ b ∈ fp, b < s.heap.objs.size := fun b hb => by
    obtain ⟨o, ho, _⟩ := T.obj 0 _ st b hb
    exact Heap.lt_size ho
  have IB := inv_block I hfp hlt hb
  have nL : H s.heap.objs.size = none := I.hok.fresh (Nat.le_refl _)
  have hne : ∀ b ∈ fp, b ≠ s.heap.objs.size := fun b hb => Nat.ne_of_lt (hlt b hb)
  obtain ⟨b1, b2, b3, b4⟩ := blk (cellsFrom (s.heap.objs.size + 2) scope.names (clFold X.env.cells scope.names [])) (s.heap.objs.size + 1) s H fp
  generalize hX' : cxB X (X.N ++ ext) scope (cellsFrom (s.heap.objs.size + 2) scope.names (clFold X.env.cells scope.names [])) (s.heap.objs.size + 1) s H fp = X' at IB b1 b2 b3 b4
  have eP : X'.prog = X.prog := by rw [← hX']; rfl
  have eW : X'.w = X.w := by rw [← hX']; rfl
  have eK : X'.K = X.K := by rw [← hX']; rfl
  have eA : X'.A = X.A := by rw [← hX']; rfl
  have ex : X'.xe = fun _ _ => False := by rw [← hX']; rfl
  have ec : X'.calm = true := by rw [← hX']; exact hcalm
  have eenv : X'.env = { scope := relabel scope X.env, locals := s.heap.objs.size + 1, globals := X.env.globals, cells := cellsFrom (s.heap.objs.size + 2) scope.names (clFold X.env.cells scope.names []), qual := X.env.qual, func := none, code := X.env.code, frame := X.env.frame, builtins := X.env.builtins } := by rw [← hX']; rfl
  have eenv2 : ({ ({ scope, locals := (s.heap.push lstObj).objs.size, globals := X.env.globals, cells := cellsFrom ((s.heap.push lstObj).objs.size + 1) scope.names (clFold X.env.cells scope.names []), qual := X.env.qual, func := none, code := X.env.code, frame := X.env.frame, builtins := X.env.builtins } : Env) with scope := relabel scope X.env } : Env) = X'.env := by
    rw [eenv, hsz]
  show codeAny _ _ (.compStart _ 0 _ _ ({ ({ scope, locals := (s.heap.push lstObj).objs.size, globals := X.env.globals, cells := cellsFrom ((s.heap.push lstObj).objs.size + 1) scope.names (clFold X.env.cells scope.names []), qual := X.env.qual, func := none, code := X.env.code, frame := X.env.frame, builtins := X.env.builtins } : Env) with scope := relabel scope X.env } : Env)) (RR _ (s.heap.push lstObj).objs.size) _
  rw [eenv2, hsz]
  have mv0 : Mv H hid μ (upd H s.heap.objs.size (.lst [])) (s.heap.objs.size :: hid) μ := (Mv.hide nL).trans ⟨⟨[], by simp⟩, fun b o h _ n2 _ => by rw [upd_ne (fun z => n2 (by simp [z]))]; exact h, fun _ m => .inl m, fun _ m => .inl m, upd_there, fun _ t => t.upd (.inl nL)⟩
  have c2 : Cells X.K (upd H s.heap.objs.size (.lst [])) (s.heap.objs.size :: hid) μ O := by
    refine ⟨c1.len, c1.nd, fun a m z => ?_, fun a m => ?_, fun k a e => ?_⟩
    · rcases List.mem_cons.mp z with rfl | z
      · exact (c1.not_in nL).2 m
      · exact c1.nh a m z
    · rcases List.mem_cons.mp m with rfl | m
      · rw [upd_same]; simp
      · exact upd_there a (c1.ht a m)
    · obtain ⟨ds, vs, h1, h2, h3⟩ := c1.at_ k a e
      exact ⟨ds, vs, h1, by rw [upd_ne (ne_of_none h2 nL)]; exact h2, h3.mv mv0⟩
  have e2 : EnvOk X.K (upd H s.heap.objs.size (.lst [])) (s.heap.objs.size :: hid) μ (clr (σ ++ List.replicate ext.length none) (slotsOf (⟨it0, g, ts⟩ :: cs))) (clr (σv ++ List.replicate ext.length none) (slotsOf (⟨it0, g, ts⟩ :: cs))) := by
    refine ⟨by rw [clr_len, clr_len, List.length_append, List.length_append, e1.len]; simp, fun i d h => ?_⟩
    obtain ⟨g1, g2⟩ := clr_get _ _ _ _ h
    have hi : i < σ.length := by
      by_cases hi : i < σ.length
      · exact hi
      · rw [List.getElem?_append_right (by omega), List.getElem?_replicate] at g1
        split at g1 <;> cases g1
    rw [List.getElem?_append_left hi] at g1
    obtain ⟨v, h1, h2⟩ := e1.at_ i d g1
    exact ⟨v, by rw [clr_out _ _ _ g2, List.getElem?_append_left (by rw [← e1.len]; exact hi)]; exact h1, h2.mv mv0⟩
  have hfp' : ∀ b ∈ fp, FpOk X' [] (upd H s.heap.objs.size (.lst [])) b := fun b hbm => by
    obtain ⟨f0, f1, f2, f3, f4, f5⟩ := hfp b hbm
    have h1 := IB.ok.exf
    refine ⟨by rw [upd_ne (hne b hbm)]; exact f0, ?_, ?_, .inl ?_, ?_, ?_⟩
    · exact (h1 b (by rw [← hX']; exact hbm)).1
    · rw [← hX']
      exact fun z => IB.ok.exfs b (by rw [← hX']; exact hbm) (by rw [← hX']; exact z)
    · rw [← hX']; exact hbm
    · exact (h1 b (by rw [← hX']; exact hbm)).2
    · rw [← hX']
      exact fun p hp => absurd (show p ∈ ([] : List (Addr × Obj)) from hp) (by simp)
  have st' : tn 0 (bHeap s.heap scope.names) := T.keep _ _ _ st fun b _ o e => bHeap_keeps _ _ _ _ e
  have T' : Turn X'.prog X'.w X'.K tg J fp it tn := by rw [eP, eW, eK]; exact T
  have key := loop_ok (X := X') (A := s.heap.objs.size) (hid := hid) (elt := elt) (gens := ⟨tg, iter, ifs, 0⟩ :: gs) (scope := scope) (pos := pos) (te := te) (k := 0) (c := ⟨it0, g, ts⟩) (cs := cs) ex ec rfl (by rw [eK]; exact b1) b2 (body_ok ex ec b4 b3 1 rfl) (by
      cases b3 with
      | nil => exact .inl rfl
      | cons _ _ _ _ _ => exact .inr ⟨_, _, _, rfl⟩) T' [] { s with heap := bHeap s.heap scope.names } (clr (σv ++ List.replicate ext.length none) (slotsOf (⟨it0, g, ts⟩ :: cs))) (upd H s.heap.objs.size (.lst [])) μ (clr (σ ++ List.replicate ext.length none) (slotsOf (⟨it0, g, ts⟩ :: cs))) O [] (src.size O)
      (fun s' => Behind X pins σv H hid μ s.heap.objs.size (s.heap.objs.size + 1) acc O2 s') st' hfp' (by rw [eK]; exact sa.mv mv0) ⟨IB, by rw [eK]; exact e2, by rw [eK]; exact c2, [], upd_same, .nil⟩ ?_
  · have key2 := start_ok (X := X') (elt := elt) (gens := ⟨tg, iter, ifs, 0⟩ :: gs) (scope := scope) (pos := pos) (env := X'.env) rfl T' 0 st' key
    rw [eP, eW, eA] at key2
    exact codeAny_mono key2 fun r s' ⟨f, hr, q⟩ => by subst hr; exact hRR f s' q
  · rw [hw]
    intro s' σv' H' μ' I' x' c' g' l' k'
    rw [eK] at c'
    obtain ⟨vs, hv, dv⟩ := g'
    rw [eK] at dv
    have xe : Ext H μ H' μ' := ⟨x'.pre, fun b o h n ht => x'.kept b o (by rw [upd_ne (ne_of_none h nL)]; exact h) n (ne_of_none h nL) ht, fun b m => (x'.fresh b m).imp id fun z => by
      by_cases q : b = s.heap.objs.size
      · rw [q]; exact nL
      · rw [upd_ne q] at z; exact z, fun b h => x'.there b (upd_there b h), fun P t => x'.tab P (t.upd (.inl nL))⟩
    have un : Un (frs X.stack) fp H H' s.heap s'.heap := by
      have := I'.base
      rw [← hX'] at this
      exact this
    have os : s'.os = s.os := by
      have := I'.os
      rw [← hX'] at this
      exact this
    have hok : HOk X.prog X.w H' s'.heap := by
      have := I'.hok
      rw [eP, eW] at this
      exact this
    have IX : L2.Inv X pins σv H' s' := I.call' os un hok I'.bare fun b hbm => by
      obtain ⟨f0, f1, f2, f3, f4, f5⟩ := hfp b hbm
      exact ⟨f3, f1, f4, f5⟩
    have big : ∀ b, b < s.heap.objs.size → b ≠ s.heap.objs.size + 1 := fun b h => Nat.ne_of_lt (Nat.lt_succ_of_lt h)
    refine ⟨⟨H', μ', IX, xe, c', nL, ?_, vs, hv, dv⟩, ?_, ?_, ?_, fun x c e => ?_, fun p hp => ?_⟩
    · have := I'.free
      rw [eenv] at this
      exact this
    · obtain ⟨m, hn, _⟩ := I'.loc
      rw [eenv] at hn
      exact ⟨m, hn⟩
    · exact (big _ I.lt).symm
    · exact Nat.le_trans I.sz (Nat.le_succ _)
    · obtain ⟨v, z⟩ := I.cell x c e
      exact big _ z.lt
    · exact big _ (Heap.lt_size (I.pin p hp).1)
end
end DL

namespace DL
open PySem L2
section
variable {X : Cx} {Ex : Nat → Hp → Prop}
theorem noX_ok {α : Type} {r : R α} {a : α} {O : Ow} (h : noX r = .ok a O) : r = .ok a O := by
  cases r with
  | ok _ _ => exact h
  | exc _ _ => cases h
  | bad => cases h
theorem noX_exc {α : Type} {r : R α} {c : Nat} {O : Ow} (h : noX r = .exc c O) : False := by
  cases r <;> cases h
def postC (Ex : Nat → Hp → Prop) (K : PySem.W.Frag) (H : Hp) (hid μ : List Addr) (r : R (List D)) (Q : Addr → Hp → Prop) : Prop := match r with
  | .ok acc O' => ∀ L H' μ', H L = none → Ext H μ H' μ' → Cells K H' (L :: hid) μ' O' → (∃ vs, H' L = some (.lst vs) ∧ Dats K H' (L :: hid) μ' acc vs) → Q L H'
  | .exc c O' => ∀ H' μ', Ext H μ H' μ' → Cells K H' hid μ' O' → Ex c H'
  | .bad => False
theorem Ext.none {H H' : Hp} {μ μ' : List Addr} (e : Ext H μ H' μ') {L : Addr} (h : H' L = Option.none) : H L = Option.none := by
  cases q : H L with
  | none => rfl
  | some o => exact absurd h (e.there L (by rw [q]; simp))
/-- the common part: the first source, the block, and what is wanted behind -/
theorem comp_run {elt tg iter : Expr} {ifs : List Expr} {gs : List Comprehension} {scope : Scope} {pos cpos : Pos} {ext : List Str} {it0 : DI} {g : Tg} {ts : List DT} {cs : List Cl} {te : DE} {pins : List (Addr × Obj)} {σv : St} {H : Hp} {s : Shared} {hid μ : List Addr} {σ : Sg} {O : Ow}
    {use : Option (Value → Sem Unit)} {Q : Value → Shared → Prop} (hcalm : X.calm = true) (hi : PDI X Ex tg iter it0) (hb : BOk X.env.scope scope (X.N ++ ext) (slotsOf (⟨it0, g, ts⟩ :: cs)))
    (blk : ∀ cells C s H fp, PG (cxB X (X.N ++ ext) scope cells C s H fp) tg (g.rd X.K) ∧ PySem.Paired (fun e t => PDT (cxB X (X.N ++ ext) scope cells C s H fp) Ex0 e t) ifs ts ∧ ClsOk (cxB X (X.N ++ ext) scope cells C s H fp) gs cs ∧ PD (cxB X (X.N ++ ext) scope cells C s H fp) Ex0 elt te)
    (hs : ∀ x, foldedSetIterable iter X.env x = pure x) (I : L2.Inv X pins σv H s) (e1 : EnvOk X.K H hid μ σ σv) (c1 : Cells X.K H hid μ O)
    (q : postC Ex X.K H hid μ (compAll ext.length it0 g ts cs te σ O)
      (fun (L : Addr) H' => ∀ s' C, L2.Inv X pins σv H' s' → (∃ m, s'.heap.Ns C m) → H' C = none → C ≠ X.env.locals → X.s₀.heap.objs.size ≤ C → (∀ x c, X.env.cells.lookup x = some c → c ≠ C) → (∀ p ∈ X.pn ++ pins, p.1 ≠ C) →
        compPost (model X.prog X.w) X.A X.xe use Q (.ref L) C (.ok .next) s')) :
    wpAny (model X.prog X.w) X.A (comprehension (.ListComp elt (⟨tg, iter, ifs, 0⟩ :: gs) scope pos) scope X.env cpos (newList []) false (eval iter X.env) use) Q X.xe s := by
  have hfree : ∀ y ∈ scope.names, y.2 = .free → ∃ c, X.env.cells.lookup y.1 = some c := fun y hy hf => by
    obtain ⟨n, k⟩ := y
    subst hf
    exact I.ok.has n (hb.frees _ hy rfl)
  refine wpAny_comprehension_free (g := ⟨tg, iter, ifs, 0⟩) (gs := gs) rfl hs (closureFor_eq hfree) hb.kind (fun x hx hl => ?_) ?_
  · obtain ⟨n, k⟩ := x
    subst hl
    exact lookup_mem hb.nd hx
  unfold compAll at q
  cases hit : it0 σ O with
  | bad => rw [hit] at q; exact False.elim q
  | exc c' O' =>
    rw [hit] at q
    refine thn (hi.out pins s σv H (fun J H1 => False) I ⟨hid, μ, σ, O, e1, c1, by rw [hit]; exact q⟩) fun v s1 h1 => thn h1 fun itv s2 h2 => ?_
    obtain ⟨it, fp, tn, J, H2, e, I2, T, st2, f2, z⟩ := h2
    exact z.elim
  | ok src O2 =>
    rw [hit] at q
    refine thn (hi.out pins s σv H (fun J H1 => ∃ μ1, Ext H μ H1 μ1 ∧ Cells X.K H1 hid μ1 O2 ∧ SrcAt X.K J src H1 hid μ1) I ⟨hid, μ, σ, O, e1, c1, by rw [hit]; exact fun J H1 μ1 x c sa => ⟨μ1, x, c, sa⟩⟩) fun v s1 h1 => thn h1 fun itv s2 h2 => ?_
    obtain ⟨it, fp, tn, J, H2, e, I2, T, st2, f2, μ2, x2, c2, sa⟩ := h2
    subst e
    have p : postC Ex X.K H hid μ (noX (walkD src (stepD ⟨it0, g, ts⟩ cs te (clr (σ ++ List.replicate ext.length none) (slotsOf (⟨it0, g, ts⟩ :: cs)))) (src.size O2) 0 O2 [])) _ := q
    cases hw : noX (walkD src (stepD ⟨it0, g, ts⟩ cs te (clr (σ ++ List.replicate ext.length none) (slotsOf (⟨it0, g, ts⟩ :: cs)))) (src.size O2) 0 O2 []) with
    | bad => rw [hw] at p; exact False.elim p
    | exc c' O' => exact (noX_exc hw).elim
    | ok acc O3 =>
      rw [hw] at p
      refine comp_block (RR := fun ac C => compPost (model X.prog X.w) X.A X.xe use Q ac C) hcalm hb blk I2 (e1.ext x2) c2 T st2 f2 sa (noX_ok hw) fun f s' Bh => ?_
      obtain ⟨H', μ', I', x', c', nL, nC, vs, hv, dv⟩ := Bh.inv
      have := p (s2.heap.objs.size) H' μ' (x2.none nL) (x2.trans x') c' ⟨vs, hv, dv⟩ s' (s2.heap.objs.size + 1) I' Bh.ns nC Bh.loc Bh.young Bh.cel Bh.pns
      unfold compPost at this ⊢
      cases use <;> exact this
/-- a list that nobody else knows becomes data by value, or a cell -/
theorem dat_of_new {K : PySem.W.Frag} {H : Hp} {hid μ : List Addr} {O : Ow} {L : Addr} {vs : List V} {ds : List D} (c : Cells K H (L :: hid) μ O) (n1 : L ∉ hid) (h : H L = some (.lst vs)) (q : Dats K H (L :: hid) μ ds vs) : Dat K H hid μ (.lst ds) (.ref L) := by
  unfold Dat
  exact ⟨L, vs, rfl, .inl ⟨.inl h, n1, fun m => c.nh L m (by simp)⟩, q.mv .unhide⟩
mutual
theorem Dat.swap {K : PySem.W.Frag} {H : Hp} {hid μ : List Addr} {L : Addr} : ∀ {d : D} {v : V}, Dat K H (L :: hid) μ d v → Dat K H hid (μ ++ [L]) d v
  | .non, _, h => h
  | .bl _, _, h => h
  | .int _, _, h => h
  | .str _, _, h => h
  | .lst ds, v, h => by
    unfold Dat at h ⊢
    obtain ⟨a, vs, r, l, q⟩ := h
    refine ⟨a, vs, r, l.imp (fun z => ⟨z.1, fun m => z.2.1 (List.mem_cons_of_mem _ m), fun m => ?_⟩) id, Dats.swap q⟩
    rcases List.mem_append.mp m with m | m
    · exact z.2.2 m
    · exact z.2.1 (by simp at m; simp [m])
  | .tup ds, v, h => by
    unfold Dat at h ⊢
    obtain ⟨a, vs, r, l, q⟩ := h
    refine ⟨a, vs, r, l.imp (fun z => ⟨z.1, fun m => z.2.1 (List.mem_cons_of_mem _ m), fun m => ?_⟩) id, Dats.swap q⟩
    rcases List.mem_append.mp m with m | m
    · exact z.2.2 m
    · exact z.2.1 (by simp at m; simp [m])
  | .own k, v, h => by
    unfold Dat at h ⊢
    obtain ⟨a, r, q⟩ := h
    exact ⟨a, r, by rw [List.getElem?_append_left (List.getElem?_eq_some_iff.mp q).1]; exact q⟩
  | .dct, v, h => by
    unfold Dat at h ⊢
    obtain ⟨a, r, q, n1, n2⟩ := h
    refine ⟨a, r, q, fun m => n1 (List.mem_cons_of_mem _ m), fun m => ?_⟩
    rcases List.mem_append.mp m with m | m
    · exact n2 m
    · exact n1 (by simp at m; simp [m])
  | .exn C, v, h => by
    unfold Dat at h ⊢
    obtain ⟨a, φ, r, g, q, n1, n2⟩ := h
    refine ⟨a, φ, r, g, q, fun m => n1 (List.mem_cons_of_mem _ m), fun m => ?_⟩
    rcases List.mem_append.mp m with m | m
    · exact n2 m
    · exact n1 (by simp at m; simp [m])
  | .tab P, v, h => by
    unfold Dat at h ⊢
    exact h
theorem Dats.swap {K : PySem.W.Frag} {H : Hp} {hid μ : List Addr} {L : Addr} : ∀ {ds : List D} {vs : List V}, Dats K H (L :: hid) μ ds vs → Dats K H hid (μ ++ [L]) ds vs
  | [], _, h => h
  | d :: ds, vs, h => by
    unfold Dats at h ⊢
    obtain ⟨v, r, e1, h1, h2⟩ := h
    exact ⟨v, r, e1, Dat.swap h1, Dats.swap h2⟩
end
theorem Cells.swap {K : PySem.W.Frag} {H : Hp} {hid μ : List Addr} {O : Ow} {L : Addr} {vs : List V} {ds : List D} (c : Cells K H (L :: hid) μ O) (n1 : L ∉ hid) (h : H L = some (.lst vs)) (q : Dats K H (L :: hid) μ ds vs) : Cells K H hid (μ ++ [L]) (O ++ [ds]) := by
  have nm : L ∉ μ := fun m => c.nh L m (by simp)
  refine ⟨by simp [c.len], ?_, fun a m => ?_, fun a m => c.ht a (List.mem_cons_of_mem _ m), fun k a e => ?_⟩
  · rw [List.nodup_append]
    refine ⟨c.nd, by simp, fun a ha b hb => ?_⟩
    have : b = L := by simpa using hb
    subst this
    rintro rfl
    exact nm ha
  · rcases List.mem_append.mp m with m | m
    · exact fun z => c.nh a m (List.mem_cons_of_mem _ z)
    · have : a = L := by simpa using m
      subst this; exact n1
  · by_cases hk : k < μ.length
    · rw [List.getElem?_append_left hk] at e
      obtain ⟨ds', vs', h1, h2, h3⟩ := c.at_ k a e
      exact ⟨ds', vs', by rw [List.getElem?_append_left (by rw [← c.len]; exact hk)]; exact h1, h2, h3.swap⟩
    · rw [List.getElem?_append_right (by omega)] at e
      have e0 : k - μ.length = 0 := by
        have := (List.getElem?_eq_some_iff.mp e).1
        simp at this; omega
      rw [e0] at e
      simp at e; subst e
      refine ⟨ds, vs, ?_, h, q.swap⟩
      have : k = O.length := by have := c.len; omega
      subst this; simp
theorem Ext.grow {H H' : Hp} {μ μ' : List Addr} (e : Ext H μ H' μ') {L : Addr} (h : H L = Option.none) : Ext H μ H' (μ' ++ [L]) := by
  obtain ⟨ν, rfl⟩ := e.pre
  refine ⟨⟨ν ++ [L], by simp⟩, e.kept, fun b m => ?_, e.there, e.tab⟩
  rcases List.mem_append.mp m with m | m
  · exact e.fresh b m
  · have : b = L := by simpa using m
    subst this; exact .inr h
/-- how the outcome is handed on: by value (false) or as a cell (true) -/
def outC (o : Bool) (r : R (List D)) : R D := r.bnd fun acc O1 => if o = true then .ok (.own O1.length) (O1 ++ [acc]) else .ok (.lst acc) O1
theorem postC_of {K : PySem.W.Frag} {H : Hp} {hid μ : List Addr} {O : Ow} (c1 : Cells K H hid μ O) {r : R (List D)} {o : Bool} {Q : VK} (q : postE Ex K H hid μ (outC o r) Q) {Q1 : Addr → Hp → Prop} (h : ∀ L H', Q (.ref L) H' → Q1 L H') : postC Ex K H hid μ r Q1 := by
  cases r with
  | bad => exact q
  | exc c' O' => exact q
  | ok acc O' =>
    intro L H' μ' nL x c ⟨vs, hv, dv⟩
    have n1 : L ∉ hid := fun m => c1.ht L m nL
    cases o with
    | false => exact h L H' (post.ok (show postE Ex K H hid μ (.ok (.lst acc) O') Q from q) x c.unhide (dat_of_new c n1 hv dv))
    | true => exact h L H' (post.ok (show postE Ex K H hid μ (.ok (.own O'.length) (O' ++ [acc])) Q from q) (x.grow nL) (c.swap n1 hv dv) (dat_own_last c.len))
theorem postSC_of {K : PySem.W.Frag} {H : Hp} {hid μ : List Addr} {O : Ow} (c1 : Cells K H hid μ O) {σ : Sg} {σv : St} (e1 : EnvOk K H hid μ σ σv) {r : R (List D)} {o : Bool} {i : Nat} {E : Ends} (q : postS Ex K H hid μ ((outC o r).bnS fun d O1 => .nx (σ.set i (some d)) O1) E) {Q1 : Addr → Hp → Prop} (h : ∀ L H', E.nx (σv.set i (some (.ref L))) H' → Q1 L H') :
    postC Ex K H hid μ r Q1 := by
  cases r with
  | bad => exact q
  | exc c' O' => exact q
  | ok acc O' =>
    intro L H' μ' nL x c ⟨vs, hv, dv⟩
    have n1 : L ∉ hid := fun m => c1.ht L m nL
    cases o with
    | false =>
      have q : postS Ex K H hid μ (.nx (σ.set i (some (.lst acc))) O') E := q
      exact h L H' (q _ H' μ' x ((e1.ext x).set (dat_of_new c n1 hv dv) i) c.unhide)
    | true =>
      have q : postS Ex K H hid μ (.nx (σ.set i (some (.own O'.length))) (O' ++ [acc])) E := q
      exact h L H' (q _ H' (μ' ++ [L]) (x.grow nL) ((e1.ext (x.grow nL)).set (dat_own_last c.len) i) (c.swap n1 hv dv))
def dComp (o : Bool) (ext : Nat) (it0 : DI) (g : Tg) (ts : List DT) (cs : List Cl) (te : DE) : DE := fun σ O => outC o (compAll ext it0 g ts cs te σ O)
theorem pd_comp {elt tg iter : Expr} {ifs : List Expr} {gs : List Comprehension} {scope : Scope} {pos : Pos} (o : Bool) (ext : List Str) {it0 : DI} {g : Tg} {ts : List DT} {cs : List Cl} {te : DE} (hcalm : X.calm = true) (hi : PDI X Ex tg iter it0) (hb : BOk X.env.scope scope (X.N ++ ext) (slotsOf (⟨it0, g, ts⟩ :: cs)))
    (blk : ∀ cells C s H fp, PG (cxB X (X.N ++ ext) scope cells C s H fp) tg (g.rd X.K) ∧ PySem.Paired (fun e t => PDT (cxB X (X.N ++ ext) scope cells C s H fp) Ex0 e t) ifs ts ∧ ClsOk (cxB X (X.N ++ ext) scope cells C s H fp) gs cs ∧ PD (cxB X (X.N ++ ext) scope cells C s H fp) Ex0 elt te)
    (hs : ∀ x, foldedSetIterable iter X.env x = pure x := by intro _; rfl) : PD X Ex (.ListComp elt (⟨tg, iter, ifs, 0⟩ :: gs) scope pos) (dComp o ext.length it0 g ts cs te) := by
  refine ⟨?_⟩
  rintro pins s σv H Q I ⟨hid, μ, σ, O, e1, c1, q⟩
  rw [eval_ListComp]
  refine comp_run (use := none) hcalm hi hb blk hs I e1 c1 (postC_of c1 q fun L H' hQ s' C I' ns nC l1 y1 ce pn => ?_)
  obtain ⟨m, hn⟩ := ns
  exact ⟨m, hn, fun h' hs' => ⟨.ref L, H', Inv.bare I' hs' nC l1 y1 ce pn, rfl, hQ⟩⟩
/-- name = [..] on one row -/
theorem pds_setComp {elt tg iter : Expr} {ifs : List Expr} {gs : List Comprehension} {scope : Scope} {pos spos py : Pos} {y : Str} {i : Nat} (o : Bool) (ext : List Str) {it0 : DI} {g : Tg} {ts : List DT} {cs : List Cl} {te : DE} (hcalm : X.calm = true) (hN : X.N.Nodup) (hiy : X.N[i]? = some y) (hy : X.env.scope.names.lookup y = some .local)
    (hi : PDI X Ex tg iter it0) (hb : BOk X.env.scope scope (X.N ++ ext) (slotsOf (⟨it0, g, ts⟩ :: cs)))
    (blk : ∀ cells C s H fp, PG (cxB X (X.N ++ ext) scope cells C s H fp) tg (g.rd X.K) ∧ PySem.Paired (fun e t => PDT (cxB X (X.N ++ ext) scope cells C s H fp) Ex0 e t) ifs ts ∧ ClsOk (cxB X (X.N ++ ext) scope cells C s H fp) gs cs ∧ PD (cxB X (X.N ++ ext) scope cells C s H fp) Ex0 elt te)
    (hsw : swapsWith (.ListComp elt (⟨tg, iter, ifs, 0⟩ :: gs) scope pos) (some (.Name y py)) spos.line X.env = pure true)
    (hs : ∀ x, foldedSetIterable iter X.env x = pure x := by intro _; rfl) : PDS X Ex (.Assign [.Name y py] (.ListComp elt (⟨tg, iter, ifs, 0⟩ :: gs) scope pos) spos) (sSet i (dComp o ext.length it0 g ts cs te)) := by
  refine ⟨?_⟩
  rintro pins s σv H E I ⟨hid, μ, σ, O, e1, c1, q⟩
  rw [exec_Assign_Name_used _ _ _ _ hsw]
  refine wpAny_bind (wpAny_standAt (wpAny_bind ?_))
  show wpAny _ X.A (do let _ ← comprehension (.ListComp elt (⟨tg, iter, ifs, 0⟩ :: gs) scope pos) scope X.env _ (newList []) false (eval iter X.env) (some (assign (.Name y py) X.env))) _ _ s
  refine wpAny_bind (wpAny_mono (comp_run (use := some (assign (.Name y py) X.env)) (Q := fun _ s' => SP X pins E .next s') hcalm hi hb blk hs I e1 c1 (postSC_of c1 e1 q fun L H' hQ s' C I' ns nC l1 y1 ce pn => ?_)) (fun _ s' hq => wpAny_pure (wpAny_pure hq)) fun _ _ e => e)
  obtain ⟨m, hn⟩ := ns
  show wpAny _ _ (assign (.Name y py) X.env (.ref L)) _ _ s'
  refine wpAny_assign_Name (store_ok2 (v := .ref L) I' hN hiy (.inl hy) rfl (fun s'' I'' hsame => ?_) (.inr hy))
  obtain ⟨a, hsb, ha⟩ := hsame
  have hCa : C ≠ a := by
    rcases ha with z | z
    · rw [z]; exact l1
    · exact fun e => ce y a z e.symm
  refine ⟨m, hn.sameBut hsb hCa, fun h' hs' => ?_⟩
  exact ⟨_, H', Inv.bare I'' hs' nC l1 y1 ce pn, hQ⟩
end
end DL

namespace DL
open PySem L2

/-! ### == and in, by data -/
def mapO {α β : Type} (f : α → Option β) : List α → Option (List β)
  | [] => some []
  | x :: xs => match f x, mapO f xs with
    | some p, some ps => some (p :: ps)
    | _, _ => none
def strO (cs : List Nat) : Option PyData := if cs.all (· < 1114112) = true then some (.str ⟨cs.toArray⟩) else none
def toPy (O : Ow) : Nat → D → Option PyData
  | 0, d => match d with
    | .non => some .none
    | .bl b => some (.bool b)
    | .int i => some (.int i)
    | .str cs => strO cs
    | _ => none
  | n + 1, d => match d with
    | .non => some .none
    | .bl b => some (.bool b)
    | .int i => some (.int i)
    | .str cs => strO cs
    | .lst ds => (mapO (toPy O n) ds).map .list
    | .tup ds => (mapO (toPy O n) ds).map .tuple
    | .own k => match O[k]? with
      | some ds => (mapO (toPy O n) ds).map .list
      | none => none
    | .dct => none
    | .exn _ => none
    | .tab _ => none
section
variable {X : Cx} {pins : List (Addr × Obj)} {σv : St} {H : Hp} {s : Shared} {hid μ : List Addr} {O : Ow}
theorem toPys_reads {n : Nat} (I : L2.Inv X pins σv H s) (ih : ∀ (d : D) (v : V) (u : Value) (p : PyData), Dat X.K H hid μ d v → RelV v u → toPy O n d = some p → ∃ as, Reads s.heap u p as ∧ p.canLay0 = true ∧ p.depth ≤ n) :
    ∀ (ds : List D) (vs : List V) (us : List Value) (ps : List PyData), Dats X.K H hid μ ds vs → Vals vs us → mapO (toPy O n) ds = some ps → ∃ as, ReadsAll s.heap us ps as ∧ PyData.canLayAll0 ps = true ∧ PyData.depthAll ps ≤ n
  | [], vs, us, ps, h, r, e => by
    unfold Dats at h; subst h
    cases r
    cases e
    exact ⟨[], .nil, rfl, Nat.zero_le _⟩
  | d :: ds, vs, us, ps, h, r, e => by
    unfold Dats at h
    obtain ⟨v, t, rfl, h1, h2⟩ := h
    cases r with
    | cons r1 r2 =>
      unfold mapO at e
      split at e
      · rename_i p ps' e1 e2
        cases e
        obtain ⟨as, q1, q2, q3⟩ := ih d v _ p h1 r1 e1
        obtain ⟨bs, z1, z2, z3⟩ := toPys_reads I ih ds t _ ps' h2 r2 e2
        refine ⟨as ++ bs, .cons q1 z1, ?_, ?_⟩
        · unfold PyData.canLayAll0; rw [q2, z2]; rfl
        · unfold PyData.depthAll; exact Nat.max_le.mpr ⟨q3, z3⟩
      · cases e
theorem strO_reads {n : Nat} {cs : List Nat} {t : Tok} {p : PyData} (e : strO cs = some p) : ∃ as, Reads s.heap (.str ⟨cs.toArray⟩ t) p as ∧ p.canLay0 = true ∧ p.depth ≤ n := by
  unfold strO at e
  split at e
  · rename_i hc
    cases e
    exact ⟨[], .str _ _, by unfold PyData.canLay0 PyData.strOk; simpa using hc, Nat.zero_le _⟩
  · cases e
theorem toPy_reads (I : L2.Inv X pins σv H s) (c : Cells X.K H hid μ O) : ∀ (n : Nat) (d : D) (v : V) (u : Value) (p : PyData), Dat X.K H hid μ d v → RelV v u → toPy O n d = some p → ∃ as, Reads s.heap u p as ∧ p.canLay0 = true ∧ p.depth ≤ n := by
  intro n
  induction n with
  | zero =>
    intro d v u p h r e
    cases d with
    | non => unfold Dat at h; subst h; cases r; cases e; exact ⟨[], .none, rfl, Nat.zero_le _⟩
    | bl b => unfold Dat at h; subst h; cases r; cases e; exact ⟨[], .bool _, rfl, Nat.zero_le _⟩
    | int b => unfold Dat at h; subst h; obtain ⟨t, rfl⟩ := r; cases e; exact ⟨[], .int _ _, rfl, Nat.zero_le _⟩
    | str cs =>
      unfold Dat at h; subst h; obtain ⟨t, rfl⟩ := r
      exact strO_reads (show strO cs = some p from e)
    | _ => cases e
  | succ n ih =>
    intro d v u p h r e
    cases d with
    | non => unfold Dat at h; subst h; cases r; cases e; exact ⟨[], .none, rfl, Nat.zero_le _⟩
    | bl b => unfold Dat at h; subst h; cases r; cases e; exact ⟨[], .bool _, rfl, Nat.zero_le _⟩
    | int b => unfold Dat at h; subst h; obtain ⟨t, rfl⟩ := r; cases e; exact ⟨[], .int _ _, rfl, Nat.zero_le _⟩
    | str cs =>
      unfold Dat at h; subst h; obtain ⟨t, rfl⟩ := r
      exact strO_reads (show strO cs = some p from e)
    | lst ds =>
      unfold Dat at h
      obtain ⟨a, vs, rfl, l, q⟩ := h
      cases r
      have e : (mapO (toPy O n) ds).map PyData.list = some p := e
      cases e1 : mapO (toPy O n) ds with
      | none => rw [e1] at e; cases e
      | some ps =>
        rw [e1] at e; cases e
        obtain ⟨its, rv, ⟨o, k, ho, hc, hd, hdt⟩, hz⟩ := I.list l.sq
        obtain ⟨as, z1, z2, z3⟩ := toPys_reads I ih ds vs its ps q rv e1
        exact ⟨_, .list ho hc hdt (by simpa using z1), by unfold PyData.canLay0; exact z2, by unfold PyData.depth; omega⟩
    | tup ds =>
      unfold Dat at h
      obtain ⟨a, vs, rfl, l, q⟩ := h
      cases r
      have e : (mapO (toPy O n) ds).map PyData.tuple = some p := e
      cases e1 : mapO (toPy O n) ds with
      | none => rw [e1] at e; cases e
      | some ps =>
        rw [e1] at e; cases e
        obtain ⟨its, rv, ⟨o, ho, hc, k, hdt⟩, hz⟩ := I.tuple l.sq
        obtain ⟨as, z1, z2, z3⟩ := toPys_reads I ih ds vs its ps q rv e1
        exact ⟨_, .tuple ho hc hdt (by simpa using z1), by unfold PyData.canLay0; exact z2, by unfold PyData.depth; omega⟩
    | own k =>
      unfold Dat at h
      obtain ⟨a, rfl, hk⟩ := h
      cases r
      obtain ⟨ds, vs, h1, h2, h3⟩ := c.at_ k a hk
      have e : (match O[k]? with | some ds => (mapO (toPy O n) ds).map PyData.list | none => none) = some p := e
      rw [h1] at e
      cases e1 : mapO (toPy O n) ds with
      | none => simp only [e1] at e; cases e
      | some ps =>
        simp only [e1] at e; cases e
        obtain ⟨its, rv, ⟨o, k', ho, hc, hd, hdt⟩, hz⟩ := I.list (.of h2)
        obtain ⟨as, z1, z2, z3⟩ := toPys_reads I ih ds vs its ps h3 rv e1
        exact ⟨_, .list ho hc hdt (by simpa using z1), by unfold PyData.canLay0; exact z2, by unfold PyData.depth; omega⟩
    | dct => cases e
    | exn _ => cases e
    | tab _ => cases e
end
/-- eight deep is enough -/
def py (O : Ow) (d : D) : Option PyData := toPy O 8 d
def rPy (K : PySem.W.Frag) (f : PyData → PyData → Option Bool) : R2 := fun v w H Q => ∃ hid μ O x y a b k, Cells K H hid μ O ∧ Dat K H hid μ x v ∧ Dat K H hid μ y w ∧ py O x = some a ∧ py O y = some b ∧ f a b = some k ∧ Q (.bl k) H
def fPy (f : PyData → PyData → Option Bool) : Ow → D → D → R D := fun O x y => match py O x, py O y with
  | some a, some b => match f a b with
    | some k => .ok (.bl k) O
    | none => .bad
  | _, _ => .bad
section
variable {X : Cx} {Ex : Nat → Hp → Prop}
theorem opd_py {f : PyData → PyData → Option Bool} : OpD X Ex (rPy X.K f) (fPy f) := by
  intro H hid μ O x y v w Q c dx dy q
  unfold fPy at q
  split at q
  · rename_i a b e1 e2
    split at q
    · rename_i k e3
      exact ⟨hid, μ, O, x, y, a, b, k, c, dx, dy, e1, e2, e3, post.here q c dat_bl⟩
    · exact False.elim q
  · exact False.elim q
def eqF : PyData → PyData → Option Bool := fun a b => some (PyData.eqv a b)
def neF : PyData → PyData → Option Bool := fun a b => some (!PyData.eqv a b)
def inF : PyData → PyData → Option Bool := fun a b => match b with
  | .list xs => some (xs.any fun y => PyData.eqv y a)
  | .tuple xs => some (xs.any fun y => PyData.eqv y a)
  | _ => none
def ninF : PyData → PyData → Option Bool := fun a b => match b with
  | .list xs => some (!xs.any fun y => PyData.eqv y a)
  | .tuple xs => some (!xs.any fun y => PyData.eqv y a)
  | _ => none
theorem shaped8 {p : PyData} (h1 : p.canLay0 = true) (h2 : p.depth ≤ 8) : SeqAt.shaped p = true := by
  unfold SeqAt.shaped
  rw [h1, decide_eq_true (show p.depth ≤ 64 by omega)]; rfl
theorem op_eqPy (hu : X.A.units + 64 < cLine) : OpR X (compareOp .Eq) (rPy X.K eqF) := by
  intro pins s σ H x y v u Q I rx ry h
  obtain ⟨hid, μ, O, dx, dy, a, b, k, c, h1, h2, e1, e2, e3, q⟩ := h
  obtain ⟨as, z1, z2, z3⟩ := toPy_reads I c 8 dx x v a h1 rx e1
  obtain ⟨bs, y1, y2, y3⟩ := toPy_reads I c 8 dy y u b h2 ry e2
  cases e3
  exact PyProof.Rows.eq_dataH z1 y1 (shaped8 z2 z3) (shaped8 y2 y3) hu ⟨.bl _, H, I, rfl, q⟩
theorem op_nePy (hu : X.A.units + 64 < cLine) : OpR X (compareOp .NotEq) (rPy X.K neF) := by
  intro pins s σ H x y v u Q I rx ry h
  obtain ⟨hid, μ, O, dx, dy, a, b, k, c, h1, h2, e1, e2, e3, q⟩ := h
  obtain ⟨as, z1, z2, z3⟩ := toPy_reads I c 8 dx x v a h1 rx e1
  obtain ⟨bs, y1, y2, y3⟩ := toPy_reads I c 8 dy y u b h2 ry e2
  cases e3
  exact PyProof.Rows.ne_dataH z1 y1 (shaped8 z2 z3) (shaped8 y2 y3) hu ⟨.bl _, H, I, rfl, q⟩
theorem room8 {A : Around} {n m : Nat} (h : m ≤ 8) (hu : A.units + 64 < cLine) : A.units + 1 + min n m < cLine := by
  have := Nat.min_le_right n m
  omega
theorem op_inPy (hu : X.A.units + 64 < cLine) : OpR X (compareOp .In) (rPy X.K inF) := by
  intro pins s σ H x y v u Q I rx ry h
  obtain ⟨hid, μ, O, dx, dy, a, b, k, c, h1, h2, e1, e2, e3, q⟩ := h
  obtain ⟨as, z1, z2, z3⟩ := toPy_reads I c 8 dx x v a h1 rx e1
  obtain ⟨bs, y1, y2, y3⟩ := toPy_reads I c 8 dy y u b h2 ry e2
  cases b with
  | list xs => cases e3; exact SeqAt.in_list_reads y1 z1 y2 z2 (room8 z3 hu) ⟨.bl _, H, I, rfl, q⟩
  | tuple xs => cases e3; exact SeqAt.in_tuple_reads y1 z1 y2 z2 (room8 z3 hu) ⟨.bl _, H, I, rfl, q⟩
  | _ => cases e3
theorem op_ninPy (hu : X.A.units + 64 < cLine) : OpR X (compareOp .NotIn) (rPy X.K ninF) := by
  intro pins s σ H x y v u Q I rx ry h
  obtain ⟨hid, μ, O, dx, dy, a, b, k, c, h1, h2, e1, e2, e3, q⟩ := h
  obtain ⟨as, z1, z2, z3⟩ := toPy_reads I c 8 dx x v a h1 rx e1
  obtain ⟨bs, y1, y2, y3⟩ := toPy_reads I c 8 dy y u b h2 ry e2
  cases b with
  | list xs => cases e3; exact SeqAt.notIn_list_reads y1 z1 y2 z2 (room8 z3 hu) ⟨.bl _, H, I, rfl, q⟩
  | tuple xs => cases e3; exact SeqAt.notIn_tuple_reads y1 z1 y2 z2 (room8 z3 hu) ⟨.bl _, H, I, rfl, q⟩
  | _ => cases e3
end
end DL

namespace DL
open PySem L2
section
variable {X : Cx} {Ex : Nat → Hp → Prop} {pos : Pos} {a b c e : Expr} {ta tb tc te : DE}
/-! ### sequences as they are read -/
/-- the items of a list or a cell; of a tuple -/
def lsV (O : Ow) : D → Option (List D)
  | .lst ds => some ds
  | .own k => O[k]?
  | _ => none
def tpV : D → Option (List D)
  | .tup ds => some ds
  | _ => none
theorem lsV_at {K : PySem.W.Frag} {H : Hp} {hid μ : List Addr} {O : Ow} {d : D} {v : V} {ds : List D} (cl : Cells K H hid μ O) (h : Dat K H hid μ d v) (e : lsV O d = some ds) : ∃ p vs, v = .ref p ∧ SqL K H p vs ∧ Dats K H hid μ ds vs := by
  cases d with
  | lst xs =>
    unfold Dat at h
    obtain ⟨p, vs, rfl, l, q⟩ := h
    cases e
    exact ⟨p, vs, rfl, l.sq, q⟩
  | own k =>
    unfold Dat at h
    obtain ⟨p, rfl, hk⟩ := h
    obtain ⟨ds', vs, h1, h2, h3⟩ := cl.at_ k p hk
    have e : O[k]? = some ds := e
    rw [h1] at e; cases e
    exact ⟨p, vs, rfl, .of h2, h3⟩
  | _ => cases e
theorem tpV_at {K : PySem.W.Frag} {H : Hp} {hid μ : List Addr} {d : D} {v : V} {ds : List D} (h : Dat K H hid μ d v) (e : tpV d = some ds) : ∃ p vs, v = .ref p ∧ SqT K H p vs ∧ Dats K H hid μ ds vs := by
  cases d with
  | tup xs =>
    unfold Dat at h
    obtain ⟨p, vs, rfl, l, q⟩ := h
    cases e
    exact ⟨p, vs, rfl, l.sq, q⟩
  | _ => cases e
/-! x + y: ints, texts, lists by value -/
def fAddS : Ow → D → D → R D := fun O x y => match x, y with
  | .str s, .str t => if s.length + t.length ≤ 100000 then .ok (.str (s ++ t)) O else .bad
  | _, _ => .bad
end
/-! ### a[i] -/
theorem dats_atI {K : PySem.W.Frag} {H : Hp} {hid μ : List Addr} {ds : List D} {vs : List V} (h : Dats K H hid μ ds vs) {i : Int} {d : D} (e : atI ds i = some d) : ∃ v, atI vs i = some v ∧ Dat K H hid μ d v := by
  unfold atI at e ⊢
  rw [← h.length]
  cases q : ixN ds.length i with
  | none => rw [q] at e; cases e
  | some j => rw [q] at e; exact h.get e
def fIx : Ow → D → D → R D := fun O x y => match y with
  | .int i => match lsV O x with
    | some ds => match atI ds i with
      | some d => .ok d O
      | none => .bad
    | none => match tpV x with
      | some ds => match atI ds i with
        | some d => .ok d O
        | none => .bad
      | none => match x with
        | .str cs => if cs.length ≤ 100000 then match atI cs i with
            | some ch => .ok (.str [ch]) O
            | none => .bad
          else .bad
        | _ => .bad
  | _ => .bad
section
variable {X : Cx} {Ex : Nat → Hp → Prop} {pos : Pos} {a b c e : Expr} {ta tb tc te : DE}
theorem opd_ix : OpD X Ex (rIx X.K) fIx := by
  intro H hid μ O x y v w Q c dx dy q
  unfold fIx at q
  split at q
  · rename_i i
    unfold Dat at dy; subst dy
    split at q
    · rename_i ds e
      obtain ⟨p, vs, rfl, sq, dd⟩ := lsV_at c dx e
      split at q
      · rename_i d ed
        obtain ⟨z, h1, h2⟩ := dats_atI dd ed
        exact .inl ⟨p, vs, i, z, rfl, rfl, sq, h1, post.here q c h2⟩
      · exact False.elim q
    · split at q
      · rename_i ds e
        obtain ⟨p, vs, rfl, sq, dd⟩ := tpV_at dx e
        split at q
        · rename_i d ed
          obtain ⟨z, h1, h2⟩ := dats_atI dd ed
          exact .inr (.inl ⟨p, vs, i, z, rfl, rfl, sq, h1, post.here q c h2⟩)
        · exact False.elim q
      · split at q
        · rename_i cs _ _
          unfold Dat at dx; subst dx
          obtain ⟨hl, q⟩ := post.ite q
          split at q
          · rename_i ch ed
            refine .inr (.inr ⟨_, i, ch, rfl, rfl, ?_, ?_, post.here q c dat_str⟩)
            · show cs.toArray.size ≤ _
              rw [List.size_toArray]; exact small_line hl
            · simpa using ed
          · exact False.elim q
        · exact False.elim q
  · exact False.elim q
theorem pd_ix (ha : PD X Ex a ta) (hb : PD X Ex b tb) (hs : PlainIx b) : PD X Ex (.Subscript a b pos) (dOp fIx ta tb) := pd_of (pe_ix ix_seq ha.out hb.out hs) (tOp_of opd_ix)
/-! ### calls -/
def dCall (f : Ow → List D → R D) (t : DA) : DE := fun σ O => (t σ O).bnd fun xs O1 => f O1 xs
def CallD (X : Cx) (Ex : Nat → Hp → Prop) (r : List V → Hp → VK → Prop) (f : Ow → List D → R D) : Prop := ∀ (H : Hp) (hid μ : List Addr) (O : Ow) (xs : List D) (vs : List V) (Q : VK), Cells X.K H hid μ O → Dats X.K H hid μ xs vs → postE Ex X.K H hid μ (f O xs) Q → r vs H Q
theorem tCB_of {r : List V → Hp → VK → Prop} {f : Ow → List D → R D} {t : DA} (h : CallD X Ex r f) (hid μ : List Addr) (σ : Sg) (O : Ow) (σv : St) (H : Hp) (Q : VK) (e1 : EnvOk X.K H hid μ σ σv) (c1 : Cells X.K H hid μ O) (q : postE Ex X.K H hid μ (dCall f t σ O) Q) : tCB r (rdA Ex X.K t) σv H Q :=
  rdA.go e1 c1 q fun xs O1 vs H1 μ1 e2 x c d p => h H1 hid μ1 O1 xs vs Q c d p
theorem pd_callB {x : Str} {id : String} {p : Pos} {es : List Expr} {r : List V → Hp → VK → Prop} {f : Ow → List D → R D} {t : DA} (hc : CallR X (.builtin id) r) (h : CallD X Ex r f) (hg : Gl X x) (hm : X.mg x = none) (hv : bootBuiltins x = some (.builtin id)) (ha : PDA X Ex (e :: es) t)
    (hn : x ≠ "__name__" := by decide) (hdb : (x == ("__debug__" : Str)) = false := by decide) (he : starEach (e :: es) X.env = (false, eval e X.env) :: starEach es X.env := by rfl) (hpl : (backTo pos (starEach es X.env)).any (·.1) = false := by rfl) :
    PD X Ex (.Call (.Name x p) (e :: es) [] pos) (dCall f t) := pd_of (pe_callB hc hg hm hv ha.out hn hdb he hpl) (tCB_of h)
theorem pd_callTy {x : Str} {T : String} {p : Pos} {es : List Expr} {r : List V → Hp → VK → Prop} {f : Ow → List D → R D} {t : DA} (hc : CallR X (.type T) r) (h : CallD X Ex r f) (hg : Gl X x) (hm : X.mg x = none) (hv : bootBuiltins x = some (.type T)) (ha : PDA X Ex (e :: es) t)
    (hn : x ≠ "__name__" := by decide) (hdb : (x == ("__debug__" : Str)) = false := by decide) (he : starEach (e :: es) X.env = (false, eval e X.env) :: starEach es X.env := by rfl) (hpl : (backTo pos (starEach es X.env)).any (·.1) = false := by rfl) :
    PD X Ex (.Call (.Name x p) (e :: es) [] pos) (dCall f t) := pd_of (pe_callTy hc hg hm hv ha.out hn hdb he hpl) (tCB_of h)
/-! len -/
def fLen : Ow → List D → R D := fun O xs => match xs with
  | [x] => match lsV O x with
    | some ds => .ok (.int ds.length) O
    | none => match tpV x with
      | some ds => .ok (.int ds.length) O
      | none => match x with
        | .str cs => if cs.length ≤ 100000 then .ok (.int cs.length) O else .bad
        | _ => .bad
  | _ => .bad
theorem cd_len : CallD X Ex (fun xs H Q => ∃ x n, xs = [x] ∧ LenV X.K x H n ∧ Q (.int n) H) fLen := by
  intro H hid μ O xs vs Q c d q
  unfold fLen at q
  split at q
  · rename_i x
    obtain ⟨v, rfl, dx⟩ := dats1 d
    split at q
    · rename_i ds e
      obtain ⟨p, ws, rfl, sq, dd⟩ := lsV_at c dx e
      exact ⟨_, ds.length, rfl, .inl ⟨ws, sq, dd.length⟩, post.here q c dat_int⟩
    · split at q
      · rename_i ds e
        obtain ⟨p, ws, rfl, sq, dd⟩ := tpV_at dx e
        exact ⟨_, ds.length, rfl, .inr ⟨ws, sq, dd.length⟩, post.here q c dat_int⟩
      · split at q
        · rename_i cs _ _
          unfold Dat at dx; subst dx
          obtain ⟨hl, q⟩ := post.ite q
          refine ⟨_, cs.length, rfl, ⟨?_, ?_⟩, post.here q c dat_int⟩
          · show cs.toArray.size ≤ _
            rw [List.size_toArray]; exact small_line hl
          · show cs.length = cs.toArray.size
            rw [List.size_toArray]
        · exact False.elim q
  · exact False.elim q
/-! int, str, tuple, list -/
def fInt : Ow → List D → R D := fun O xs => match xs with
  | [.int i] => .ok (.int i) O
  | [.bl k] => .ok (.int (if k then 1 else 0)) O
  | _ => .bad
theorem cd_int : CallD X Ex (fun xs H Q => (∃ i, xs = [.int i] ∧ Q (.int i) H) ∨ ∃ k, xs = [.bl k] ∧ Q (.int (if k then 1 else 0)) H) fInt := by
  intro H hid μ O xs vs Q c d q
  unfold fInt at q
  split at q
  · obtain ⟨v, rfl, dx⟩ := dats1 d
    unfold Dat at dx; subst dx
    exact .inl ⟨_, rfl, post.here q c dat_int⟩
  · obtain ⟨v, rfl, dx⟩ := dats1 d
    unfold Dat at dx; subst dx
    exact .inr ⟨_, rfl, post.here q c dat_int⟩
  · exact False.elim q
def fTuple : Ow → List D → R D := fun O xs => match xs with
  | [x] => match lsV O x with
    | some ds => .ok (.tup ds) O
    | none => match tpV x with
      | some ds => .ok (.tup ds) O
      | none => .bad
  | _ => .bad
theorem cd_tuple : CallD X Ex (fun xs H Q => ∃ p ys, xs = [.ref p] ∧ ((SqL X.K H p ys ∧ ∀ l, H l = none → Q (.ref l) (upd H l (.tup ys))) ∨ (SqT X.K H p ys ∧ Q (.ref p) H))) fTuple := by
  intro H hid μ O xs vs Q c d q
  unfold fTuple at q
  split at q
  · rename_i x
    obtain ⟨v, rfl, dx⟩ := dats1 d
    split at q
    · rename_i ds e
      obtain ⟨p, ws, rfl, sq, dd⟩ := lsV_at c dx e
      exact ⟨p, ws, rfl, .inl ⟨sq, fun l hl => post.ok q (.laid hl) (c.laid hl) (Dat.newT c hl dd)⟩⟩
    · split at q
      · rename_i ds e
        obtain ⟨p, ws, rfl, sq, dd⟩ := tpV_at dx e
        refine ⟨p, ws, rfl, .inr ⟨sq, post.here q c ?_⟩⟩
        cases x with
        | tup ys => cases e; exact dx
        | _ => cases e
      · exact False.elim q
  · exact False.elim q
/-! max, min of two ints -/
def fMax2 : Ow → List D → R D := fun O xs => match xs with
  | [.int i, .int j] => .ok (.int (if j > i then j else i)) O
  | _ => .bad
def fMin2 : Ow → List D → R D := fun O xs => match xs with
  | [.int i, .int j] => .ok (.int (if j < i then j else i)) O
  | _ => .bad
theorem cd_max2 : CallD X Ex (fun xs H Q => ∃ i j, xs = [.int i, .int j] ∧ Q (.int (if j > i then j else i)) H) fMax2 := by
  intro H hid μ O xs vs Q c d q
  unfold fMax2 at q
  split at q
  · obtain ⟨v, w, rfl, d1, d2⟩ := dats2 d
    unfold Dat at d1 d2; subst d1; subst d2
    exact ⟨_, _, rfl, post.here q c dat_int⟩
  · exact False.elim q
theorem cd_min2 : CallD X Ex (fun xs H Q => ∃ i j, xs = [.int i, .int j] ∧ Q (.int (if j < i then j else i)) H) fMin2 := by
  intro H hid μ O xs vs Q c d q
  unfold fMin2 at q
  split at q
  · obtain ⟨v, w, rfl, d1, d2⟩ := dats2 d
    unfold Dat at d1 d2; subst d1; subst d2
    exact ⟨_, _, rfl, post.here q c dat_int⟩
  · exact False.elim q
end
/-! ### defs of the text -/
/-- what a def promises, by data; exceptions: E of the class by number -/
def DSp (K : PySem.W.Frag) (Ec : XK → Nat → Hp → Prop) (n : Nat) (F : List D → Ow → R D) : Sp := fun vs H Q E => vs.length = n ∧ ∃ hid μ ds O, Dats K H hid μ ds vs ∧ Cells K H hid μ O ∧ postE (Ec E) K H hid μ (F ds O) Q
abbrev Ec0 : XK → Nat → Hp → Prop := fun _ _ _ => False
section
variable {X : Cx} {CX : CXT} {k : Nat} {f : Addr} {fd : FuncData} {ps : List Str} {E : XK} {Ec : XK → Nat → Hp → Prop} {x : Str} {p pos : Pos} {e : Expr} {es : List Expr} {t : DA} {F : List D → Ow → R D} {n : Nat}
def dFn (n : Nat) (F : List D → Ow → R D) (t : DA) : DE := fun σ O => (t σ O).bnd fun ds O1 => if ds.length = n then F ds O1 else .bad
theorem pd_fn (G : FnOk X.prog X.w X.K X.mg X.base CX k f fd ps (DSp X.K Ec n F)) (hr : Room k X.A) (hg : Gl X x) (hm : X.mg x = some (.ref f)) (hk : PySem.W.keepIn X.K (.ref f) = true) (hb : Binds X.K fd ps []) (hx : Passes CX X E) (ha : PDA X (Ec E) (e :: es) t)
    (hdb : (x == ("__debug__" : Str)) = false := by decide) (he : starEach (e :: es) X.env = (false, eval e X.env) :: starEach es X.env := by rfl) (hpl : (backTo pos (starEach es X.env)).any (·.1) = false := by rfl) :
    PD X (Ec E) (.Call (.Name x p) (e :: es) [] pos) (dFn n F t) :=
  pd_of (pe_call (dvs := []) (ds := []) G hr hg hm hk hb .nil hx ha.out hdb he hpl) fun hid μ σ O σv H Q e1 c1 q => rdA.go e1 c1 q fun ds O1 vs H1 μ1 e2 x2 c2 d2 q2 => by
    obtain ⟨hl, q2⟩ := post.ite q2
    refine ⟨by rw [List.append_nil, ← d2.length]; exact hl, hid, μ1, ds, O1, ?_, c2, q2⟩
    rw [List.append_nil]; exact d2
end
/-- a body's outcome as a def's -/
def fin (r : RS) : R D := match r with
  | .nx _ O => .ok .non O
  | .rt d O => .ok d O
  | .exc c O => .exc c O
  | _ => .bad
def runF (n : Nat) (t : DS) : List D → Ow → R D := fun ds O => fin (t (ds.map some ++ List.replicate (n - ds.length) none) O)
theorem envOk_start {K : PySem.W.Frag} {H : Hp} {hid μ : List Addr} {ds : List D} {vs : List V} (h : Dats K H hid μ ds vs) (N : List Str) : EnvOk K H hid μ (ds.map some ++ List.replicate (N.length - ds.length) none) (L2.start N vs) := by
  unfold L2.start
  have hl := h.length
  refine ⟨by simp [hl], fun i d e => ?_⟩
  have hi : i < ds.length := by
    by_cases hi : i < ds.length
    · exact hi
    · rw [List.getElem?_append_right (by simpa using hi), List.getElem?_replicate] at e
      split at e <;> cases e
  rw [List.getElem?_append_left (by simpa using hi), List.getElem?_map] at e
  cases q : ds[i]? with
  | none => rw [q] at e; cases e
  | some d' =>
    rw [q] at e; cases e
    obtain ⟨v, h1, h2⟩ := h.get q
    exact ⟨v, by rw [List.getElem?_append_left (by simp; omega), List.getElem?_map, h1]; rfl, h2⟩
abbrev cx0 (P : Program) (w : World) (K : PySem.W.Frag) (mg : Str → Option Value) (base : Heap) (N : List Str) (qual : Str) (scope : Scope) (f : Addr) (cdv : Value) (A : Around) (outer : List Env) (s : Shared) (H : Hp) (E : XK) : Cx :=
  (cxOf (fun _ _ _ _ _ _ => False) P w K mg base N qual scope f cdv A outer s H E).nox
/-- THE RULE, no exception leaves: a def of the text by its body's data -/
theorem fn_ok {P : Program} {w : World} {K : PySem.W.Frag} {mg : Str → Option Value} {base : Heap} {k : Nat} {f : Addr} {name qual : Str} {params : Arguments} {body : List Stmt} {scope : Scope} {dV kV doc pm cdv ct oc : Value} {an od : Option Addr} {osl : Array (Option Value)} {N ps : List Str} {t : DS}
    (lk : K.lookup f = some ⟨oc, od, .func (PySem.W.fnOf name qual params body scope dV kV doc pm an cdv ct), osl⟩) (hcd : PySem.W.codeIn K cdv qual = true) (S : FnScope N ps scope)
    (hbody : ∀ (A : Around) (outer : List Env) (s : Shared) (H : Hp) (E : XK), Room k (A.deeper (PyProof.Rows.envOfC qual scope s.heap.objs.size f cdv)) → PDSs (cx0 P w K mg base N qual scope f cdv A outer s H E) Ex0 body t) :
    FnOk P w K mg base (fun _ _ _ _ _ _ => False) (k + 1) f (PySem.W.fnOf name qual params body scope dV kV doc pm an cdv ct) ps (DSp K Ec0 ps.length (runF N.length t)) := by
  refine fn_of lk hcd S (fun vs H Q E h => h.1) fun A outer s H vs Q E hr h => ?_
  obtain ⟨hl, hid, μ, ds, O, d, c, q⟩ := h
  refine ⟨_, (hbody A outer s H E hr).out.nox, hid, μ, _, O, envOk_start d N, c, ?_⟩
  unfold runF at q
  generalize t (ds.map some ++ List.replicate (N.length - ds.length) none) O = r at q
  cases r with
  | nx σ O' => exact fun σv H' μ' x e c' => q .non H' μ' x c' dat_non
  | rt d' O' => exact fun v H' μ' x c' r => q v H' μ' x c' r
  | bk σ O' => exact False.elim q
  | ct σ O' => exact False.elim q
  | exc c' O' => exact fun H' μ' x c2 => q H' μ' x c2
  | bad => exact False.elim q
end DL

namespace DL
open PySem L2
/-! ### isinstance -/
def kindD : D → String
  | .non => "NoneType"
  | .bl _ => "bool"
  | .int _ => "int"
  | .str _ => "str"
  | .lst _ => "list"
  | .own _ => "list"
  | .tup _ => "tuple"
  | .dct => "dict"
  | .exn _ => "exception"
  | .tab _ => "bool"
/-- of the built-in kinds -/
def isiB (t c : String) : Bool := t == c || (t == "bool" && c == "int")
section
variable {X : Cx} {Ex : Nat → Hp → Prop} {pos : Pos} {a b c e : Expr} {ta tb tc te : DE} {pins : List (Addr × Obj)} {σv : St} {H : Hp} {s : Shared} {hid μ : List Addr} {O : Ow}
def kinds : List String := ["NoneType", "bool", "int", "str", "list", "tuple", "dict"]
theorem kit_all (K : PySem.W.Frag) {t c : String} (ht : t ∈ kinds) (hc : c ∈ ["int", "bool", "str", "list", "tuple", "dict"]) : PySem.W.kitOne K (.type t) (.type c) = some (isiB t c) := by
  simp only [kinds, List.mem_cons, List.not_mem_nil, or_false] at ht hc
  rcases ht with rfl | rfl | rfl | rfl | rfl | rfl | rfl <;> rcases hc with rfl | rfl | rfl | rfl | rfl | rfl <;> first | rfl | decide
/-- the value's kind, as the library asks for it -/
theorem kitx_of_dat {v : V} {u : Value} {d : D} (I : L2.Inv X pins σv H s) (cl : Cells X.K H hid μ O) (h : Dat X.K H hid μ d v) (r : RelV v u) : ∃ (T : Value) (Hh : Heap → Prop), PySem.W.KitX X.K u T Hh ∧ Hh s.heap ∧ u ≠ .builtin "__main__.__loader__#opaque" ∧ ∀ c ∈ (["int", "bool", "str", "list", "tuple", "dict"] : List String), PySem.W.kitOne X.K T (.type c) = some (isiB (kindD d) c) := by
  cases d with
  | non => unfold Dat at h; subst h; cases r; exact ⟨.type "NoneType", _, PySem.W.kitx_none, True.intro, (fun z => nomatch z), fun c hc => kit_all X.K (t := "NoneType") (by simp [kinds]) hc⟩
  | bl _ => unfold Dat at h; subst h; cases r; exact ⟨.type "bool", _, PySem.W.kitx_bool, True.intro, (fun z => nomatch z), fun c hc => kit_all X.K (t := "bool") (by simp [kinds]) hc⟩
  | int _ => unfold Dat at h; subst h; obtain ⟨t, rfl⟩ := r; exact ⟨.type "int", _, PySem.W.kitx_int, True.intro, (fun z => nomatch z), fun c hc => kit_all X.K (t := "int") (by simp [kinds]) hc⟩
  | str _ => unfold Dat at h; subst h; obtain ⟨t, rfl⟩ := r; exact ⟨.type "str", _, PySem.W.kitx_str, True.intro, (fun z => nomatch z), fun c hc => kit_all X.K (t := "str") (by simp [kinds]) hc⟩
  | lst ds =>
    unfold Dat at h
    obtain ⟨p, vs, rfl, l, q⟩ := h
    cases r
    obtain ⟨its, rv, ⟨o, n, h1, h2, _⟩, _⟩ := I.list l.sq
    exact ⟨.type "list", _, PySem.W.kitx_list, ⟨o, h1, h2⟩, (fun z => nomatch z), fun c hc => kit_all X.K (t := "list") (by simp [kinds]) hc⟩
  | own k =>
    unfold Dat at h
    obtain ⟨p, rfl, hk⟩ := h
    cases r
    obtain ⟨ds, vs, _, h2, _⟩ := cl.at_ k p hk
    obtain ⟨its, rv, ⟨o, n, h1, h2, _⟩, _⟩ := I.list (.of h2)
    exact ⟨.type "list", _, PySem.W.kitx_list, ⟨o, h1, h2⟩, (fun z => nomatch z), fun c hc => kit_all X.K (t := "list") (by simp [kinds]) hc⟩
  | tup ds =>
    unfold Dat at h
    obtain ⟨p, vs, rfl, l, q⟩ := h
    cases r
    obtain ⟨its, rv, ⟨o, h1, h2, _⟩, _⟩ := I.tuple l.sq
    exact ⟨.type "tuple", _, PySem.W.kitx_tuple, ⟨o, h1, h2⟩, (fun z => nomatch z), fun c hc => kit_all X.K (t := "tuple") (by simp [kinds]) hc⟩
  | dct =>
    unfold Dat at h
    obtain ⟨p, rfl, hr, _⟩ := h
    cases r
    obtain ⟨_, _, vs, _, o, es, ep, h1, h2, _⟩ := Rd.ok hr I.hok
    exact ⟨.type "dict", _, PySem.W.kitx_dict, ⟨o, h1, h2.1⟩, (fun z => nomatch z), fun c hc => kit_all X.K (t := "dict") (by simp [kinds]) hc⟩
  | tab _ => unfold Dat at h; obtain ⟨rfl, _⟩ := h; cases r; exact ⟨.type "bool", _, PySem.W.kitx_bool, True.intro, (fun z => nomatch z), fun c hc => kit_all X.K (t := "bool") (by simp [kinds]) hc⟩
  | exn C =>
    unfold Dat at h
    obtain ⟨p, φ, rfl, ⟨k, g⟩, hr, _⟩ := h
    cases r
    obtain ⟨y, _⟩ := Rd.ok hr I.hok
    refine ⟨_, _, kitx_x k, g _ y, (fun z => nomatch z), fun c hc => ?_⟩
    rw [k.kit c hc]
    simp only [List.mem_cons, List.not_mem_nil, or_false] at hc
    rcases hc with rfl | rfl | rfl | rfl | rfl | rfl <;> rfl
def kOk : List String := ["int", "bool", "str", "list", "tuple", "dict"]
theorem call_isi1 : CallR X (.builtin "isinstance") (fun xs H Q => ∃ x C hid μ O d, xs = [x, .ty C] ∧ C ∈ kOk ∧ Cells X.K H hid μ O ∧ Dat X.K H hid μ d x ∧ Q (.bl (isiB (kindD d) C)) H) := by
  intro pins s σ H xs us Q I r h
  obtain ⟨x, C, hid, μ, O, d, rfl, hC, cl, dx, q⟩ := h
  obtain ⟨u, w', rfl, rx, rc⟩ := vals2 r
  cases rc
  obtain ⟨T, Hh, Z, p, hx, hk⟩ := kitx_of_dat I cl dx rx
  exact PySem.W.kia_one Z I.kIn p (hk _ hC) hx fun tk => ⟨.bl _, H, I.tok tk, rfl, q⟩
/-- isinstance(x, T) -/
def dIsi (C : String) (t : DE) : DE := fun σ O => (t σ O).bnd fun d O1 => .ok (.bl (isiB (kindD d) C)) O1
theorem pd_isi {C : Str} {n : String} {p p' : Pos} (ha : PD X Ex a ta) (hn : n ∈ kOk) (hg : Gl X "isinstance") (hm : X.mg "isinstance" = none) (hv : bootBuiltins "isinstance" = some (.builtin "isinstance")) (hgC : Gl X C) (hmC : X.mg C = none) (hvC : bootBuiltins C = some (.type n)) (hCn : C ≠ "__name__" := by decide)
    (hCd : (C == ("__debug__" : Str)) = false := by decide) (he : starEach [a, .Name C p'] X.env = (false, eval a X.env) :: starEach [.Name C p'] X.env := by rfl) (he2 : starEach [.Name C p'] X.env = [(false, eval (.Name C p') X.env)] := by rfl) (hpl : (backTo pos (starEach [.Name C p'] X.env)).any (·.1) = false := by rfl) :
    PD X Ex (.Call (.Name "isinstance" p) [a, .Name C p'] [] pos) (dIsi n ta) :=
  pd_of (pe_callB (call_isi1 (X := X)) hg hm hv (pa_cons ha.out (pa_cons (pe_bltn (v := .ty n) hgC hmC hvC rfl hCn hCd) pa_nil he2) he) (by decide) (by decide) he hpl) fun hid μ σ O σv H Q e1 c1 q => rd.go e1 c1 q fun d O1 v H1 μ1 e2 x cl r p2 =>
    ⟨v, n, hid, μ1, O1, d, rfl, hn, cl, r, post.here p2 cl dat_bl⟩
/-! ### x.append(e) -/
def dApp (to : DE) (t : DA) : DE := fun σ O => (to σ O).bnd fun x O1 => match x with
  | .own k => (t σ O1).bnd fun ys O2 => match ys, O2[k]? with
    | [y], some ds => if ds.length < 100000 then .ok .non (O2.set k (ds ++ [y])) else .bad
    | _, _ => .bad
  | _ => .bad
theorem pd_append {o : Expr} {to : DE} {t : DA} {es : List Expr} {apos cpos : Pos} (ho : PD X Ex o to) (ha : PDA X Ex (e :: es) t) (hbase : attributeBase o "append" X.env (eval o X.env) = eval o X.env := by rfl)
    (hfew : ((backTo cpos (starEach (e :: es) X.env)).all (fun x => !x.1) && (backToKw cpos (keywordEach [] X.env)).all (fun x => x.1.isSome) && decide ((e :: es).length + ([] : List Keyword).length + (if ([] : List Keyword).isEmpty then 0 else 1) < 30)) = true := by rfl)
    (hline : (apos.endLine == cpos.line) = true := by rfl) (hs : starEach (e :: es) X.env = (false, eval e X.env) :: starEach es X.env := by rfl) (hplain : (backTo cpos (starEach es X.env)).any (·.1) = false := by rfl) :
    PD X Ex (.Call (.Attribute o "append" apos) (e :: es) [] cpos) (dApp to t) :=
  pd_of (pe_bm PySem.F.plainAttrs_list PySem.F.slot_list_append PySem.F.type_list_append mt_append ho.out ha.out hbase hfew hline hs hplain) fun hid μ σ O σv H Q e1 c1 q => rd.go e1 c1 q fun d O1 v H1 μ1 e2 x cl r p => by
    cases d with
    | own k =>
      have hr := r
      unfold Dat at r
      obtain ⟨A, rfl, hk⟩ := r
      obtain ⟨ds, vs, h1, h2, h3⟩ := cl.at_ k A hk
      refine ⟨.inl ⟨rfl, vs, .of h2⟩, rdA.go e2 cl p fun ys O2 ws H2 μ2 e3 x3 c3 d3 p3 => ?_⟩
      split at p3
      · rename_i y es' hds
        obtain ⟨hl, p3⟩ := post.ite p3
        obtain ⟨w, rfl, dw⟩ := dats1 d3
        have hk2 : μ2[k]? = some A := by
          have := hr.ext x3
          unfold Dat at this
          obtain ⟨A', e', hk'⟩ := this
          cases e'; exact hk'
        obtain ⟨ds2, vs2, g1, g2, g3⟩ := c3.at_ k A hk2
        rw [hds] at g1; cases g1
        refine ⟨A, vs2, w, rfl, rfl, g2, Nat.lt_of_lt_of_le (by rw [← g3.length]; exact hl) (by decide), ?_⟩
        exact post.ok p3 (.put (List.mem_of_getElem? hk2) ⟨_, g2⟩) (c3.put hk2 (g3.append (.cons dw .nil))) dat_non
      · exact False.elim p3
    | _ => exact False.elim p
/-! ### x[i] = e -/
def sPut (te to ti : DE) : DS := fun σ O => (te σ O).bnS fun y O1 => (to σ O1).bnS fun x O2 => (ti σ O2).bnS fun i O3 => match x, i with
  | .own k, .int i => match O3[k]? with
    | some ds => match ixN ds.length i with
      | some j => .nx σ (O3.set k (ds.set j y))
      | none => .bad
    | none => .bad
  | _, _ => .bad
theorem pds_put {o i : Expr} {to ti : DE} {spos : Pos} (he : PD X Ex e te) (ho : PD X Ex o to) (hi : PD X Ex i ti) (ha : ∀ v, assign (.Subscript o i pos) X.env v = (do
      let ov ← holding [v] (eval o X.env)
      let iv ← holding [v, ov] (eval i X.env)
      standAt pos
      holding [v, ov, iv] (setItem ov iv v)
      release [v, ov, iv] []) := by intro _; rfl) (hs : swapsWithSole [.Subscript o i pos] e spos.line X.env = pure false := by rfl) (hw : swappedStores [.Subscript o i pos] e X.env = pure none := by rfl)
    (h1 : (assignEach [.Subscript o i pos] X.env).map (·.2) = [assign (.Subscript o i pos) X.env] := by rfl) : PDS X Ex (.Assign [.Subscript o i pos] e spos) (sPut te to ti) :=
  pds_of (ps_asg he.out (pg_sub ho.out hi.out set_list ha) hs hw h1) fun hid μ σ O E σv H e1 c1 q => rd.goS e1 c1 q fun y O1 v H1 μ1 e2 x1 c2 d2 q2 => rd.goS e2 c2 q2 fun x O2 u H2 μ2 e3 x2 c3 d3 q3 => rd.goS e3 c3 q3 fun ii O3 w H3 μ3 e4 x3 c4 d4 q4 => by
    split at q4
    · rename_i k j
      split at q4
      · rename_i ds hds
        split at q4
        · rename_i m hm
          have d3' := d3.ext x3
          unfold Dat at d3' d4
          obtain ⟨A, rfl, hk⟩ := d3'
          subst d4
          obtain ⟨ds2, vs2, g1, g2, g3⟩ := c4.at_ k A hk
          rw [hds] at g1; cases g1
          refine ⟨A, vs2, j, m, rfl, rfl, g2, by rw [← g3.length]; exact hm, ?_⟩
          exact q4 σv _ μ3 (.put (List.mem_of_getElem? hk) ⟨_, g2⟩) (e4.ext (.put (List.mem_of_getElem? hk) ⟨_, g2⟩)) (c4.put hk (g3.set ((d2.ext x2).ext x3) m))
        · exact False.elim q4
      · exact False.elim q4
    · exact False.elim q4
/-! ### all, any of truths -/
def bls : List D → Option (List Bool)
  | [] => some []
  | .bl b :: r => (bls r).map (b :: ·)
  | _ => none
theorem bls_at {K : PySem.W.Frag} : ∀ {ds : List D} {vs : List V} {bs : List Bool}, Dats K H hid μ ds vs → bls ds = some bs → vs = bs.map V.bl
  | [], vs, bs, h, e => by unfold Dats at h; subst h; cases e; rfl
  | d :: ds, vs, bs, h, e => by
    unfold Dats at h
    obtain ⟨v, r, rfl, h1, h2⟩ := h
    cases d with
    | bl b =>
      unfold bls at e
      cases q : bls ds with
      | none => rw [q] at e; cases e
      | some cs =>
        rw [q] at e; cases e
        unfold Dat at h1; subst h1
        rw [bls_at h2 q]; rfl
    | _ => cases e
def fAll : Ow → List D → R D := fun O xs => match xs with
  | [x] => match lsV O x with
    | some ds => match bls ds with
      | some bs => .ok (.bl (bs.all id)) O
      | none => .bad
    | none => .bad
  | _ => .bad
def fAny : Ow → List D → R D := fun O xs => match xs with
  | [x] => match lsV O x with
    | some ds => match bls ds with
      | some bs => .ok (.bl (bs.any id)) O
      | none => .bad
    | none => .bad
  | _ => .bad
theorem cd_all : CallD X Ex (fun xs H Q => ∃ (p : Addr) (bs : List Bool), xs = [.ref p] ∧ SqL X.K H p (bs.map V.bl) ∧ Q (.bl (bs.all id)) H) fAll := by
  intro H hid μ O xs vs Q c d q
  unfold fAll at q
  split at q
  · rename_i x
    obtain ⟨v, rfl, dx⟩ := dats1 d
    split at q
    · rename_i ds e
      obtain ⟨p, ws, rfl, sq, dd⟩ := lsV_at c dx e
      split at q
      · rename_i bs eb
        refine ⟨p, bs, rfl, ?_, post.here q c dat_bl⟩
        rw [← bls_at dd eb]; exact sq
      · exact False.elim q
    · exact False.elim q
  · exact False.elim q
theorem cd_any : CallD X Ex (fun xs H Q => ∃ (p : Addr) (bs : List Bool), xs = [.ref p] ∧ SqL X.K H p (bs.map V.bl) ∧ Q (.bl (bs.any id)) H) fAny := by
  intro H hid μ O xs vs Q c d q
  unfold fAny at q
  split at q
  · rename_i x
    obtain ⟨v, rfl, dx⟩ := dats1 d
    split at q
    · rename_i ds e
      obtain ⟨p, ws, rfl, sq, dd⟩ := lsV_at c dx e
      split at q
      · rename_i bs eb
        refine ⟨p, bs, rfl, ?_, post.here q c dat_bl⟩
        rw [← bls_at dd eb]; exact sq
      · exact False.elim q
    · exact False.elim q
  · exact False.elim q
theorem range_all (bs : List Bool) : (List.range bs.length).all (fun i => bs.getD i true) = bs.all id := by
  rw [Bool.eq_iff_iff, List.all_eq_true, List.all_eq_true]
  constructor
  · intro h b hb
    obtain ⟨i, hi, e⟩ := List.mem_iff_getElem.mp hb
    have := h i (by simpa using hi)
    rw [List.getD_eq_getElem?_getD, List.getElem?_eq_getElem hi, e] at this
    exact this
  · intro h i hi
    have hi : i < bs.length := by simpa using hi
    rw [List.getD_eq_getElem?_getD, List.getElem?_eq_getElem hi]
    exact h _ (List.getElem_mem hi)
theorem range_any (bs : List Bool) : (List.range bs.length).any (fun i => bs.getD i true) = bs.any id := by
  rw [Bool.eq_iff_iff, List.any_eq_true, List.any_eq_true]
  constructor
  · rintro ⟨i, hi, h⟩
    have hi : i < bs.length := by simpa using hi
    rw [List.getD_eq_getElem?_getD, List.getElem?_eq_getElem hi] at h
    exact ⟨_, List.getElem_mem hi, h⟩
  · rintro ⟨b, hb, h⟩
    obtain ⟨i, hi, e⟩ := List.mem_iff_getElem.mp hb
    exact ⟨i, by simpa using hi, by rw [List.getD_eq_getElem?_getD, List.getElem?_eq_getElem hi, e]; exact h⟩
theorem bool_at {bs : List Bool} {its : List Value} (r : Vals (bs.map V.bl) its) {i : Nat} {v : Value} (h : its.toArray[i]? = some v) : v = .bool (bs.getD i true) := by
  have h : its[i]? = some v := by simpa using h
  have hi : i < bs.length := by
    have := r.length
    have := (List.getElem?_eq_some_iff.mp h).1
    simp at *; omega
  obtain ⟨u, h1, h2⟩ := r.get (i := i) (x := .bl bs[i]) (by rw [List.getElem?_map, List.getElem?_eq_getElem hi]; rfl)
  rw [h] at h1; cases h1
  cases h2
  rw [List.getD_eq_getElem?_getD, List.getElem?_eq_getElem hi]; rfl
theorem call_allB (hc : X.calm = true) : CallR X (.builtin "all") (fun xs H Q => ∃ (p : Addr) (bs : List Bool), xs = [.ref p] ∧ SqL X.K H p (bs.map V.bl) ∧ Q (.bl (bs.all id)) H) := by
  intro pins s σ H xs us Q I r h
  obtain ⟨p, bs, rfl, sq, q⟩ := h
  obtain ⟨u, rfl, ru⟩ := vals1 r
  cases ru
  obtain ⟨its, rv, pl, hz⟩ := I.list sq
  have hl : its.toArray.size = bs.length := by have := rv.length; simp at *; omega
  have hne : p ≠ s.heap.objs.size := by obtain ⟨o, n, e, _⟩ := pl; exact Nat.ne_of_lt (Heap.lt_size e)
  refine call_all_walk (wpAny_pyIter_list pl.isList ?_)
  refine ⟨s.heap.objs.size, _, _, its.toArray.size, _, _, fun i => bs.getD i true, rfl, Walks.list (show X.A.in1.handled = none from I.ok.hd hc) _ p hne its.toArray, ⟨⟨_, Heap.get?_push_size _ rfl, rfl, rfl⟩, pl.isList.push _⟩, fun i v s' Q' E' hP hQ => ?_, fun h' tk hk => ?_⟩
  · rw [bool_at rv hP]; exact wpAny_truthy_bool hQ
  · rw [hl, range_all]
    exact ⟨.bl _, H, I.kept (t' := tk) fun b o e => hk b o (by simpa using Nat.ne_of_lt (Heap.lt_size e)) (Heap.get?_push_of_some _ e), rfl, q⟩
theorem call_anyB (hc : X.calm = true) : CallR X (.builtin "any") (fun xs H Q => ∃ (p : Addr) (bs : List Bool), xs = [.ref p] ∧ SqL X.K H p (bs.map V.bl) ∧ Q (.bl (bs.any id)) H) := by
  intro pins s σ H xs us Q I r h
  obtain ⟨p, bs, rfl, sq, q⟩ := h
  obtain ⟨u, rfl, ru⟩ := vals1 r
  cases ru
  obtain ⟨its, rv, pl, hz⟩ := I.list sq
  have hl : its.toArray.size = bs.length := by have := rv.length; simp at *; omega
  have hne : p ≠ s.heap.objs.size := by obtain ⟨o, n, e, _⟩ := pl; exact Nat.ne_of_lt (Heap.lt_size e)
  refine call_any_walk (wpAny_pyIter_list pl.isList ?_)
  refine ⟨s.heap.objs.size, _, _, its.toArray.size, _, _, fun i => bs.getD i true, rfl, Walks.list (show X.A.in1.handled = none from I.ok.hd hc) _ p hne its.toArray, ⟨⟨_, Heap.get?_push_size _ rfl, rfl, rfl⟩, pl.isList.push _⟩, fun i v s' Q' E' hP hQ => ?_, fun h' tk hk => ?_⟩
  · rw [bool_at rv hP]; exact wpAny_truthy_bool hQ
  · rw [hl, range_any]
    exact ⟨.bl _, H, I.kept (t' := tk) fun b o e => hk b o (by simpa using Nat.ne_of_lt (Heap.lt_size e)) (Heap.get?_push_of_some _ e), rfl, q⟩
end
end DL

namespace DL
open PySem L2
section
variable {X : Cx} {Ex : Nat → Hp → Prop} {pos : Pos} {a b c e o : Expr} {ta tb tc te to : DE} {pins : List (Addr × Obj)} {σv : St} {H : Hp} {s : Shared} {hid μ : List Addr} {O : Ow}
/-! ### x + y -/
def rCatL (K : PySem.W.Frag) : R2 := fun x y H Q => ∃ l b xs zs, x = .ref l ∧ y = .ref b ∧ SqL K H l xs ∧ SqL K H b zs ∧ xs.length + zs.length ≤ sizeLine ∧ ∀ p, H p = none → Q (.ref p) (upd H p (.lst (xs ++ zs)))
theorem op_catL : OpR X (binaryOp .Add) (rCatL X.K) := by
  intro pins s σ H x y v u Q I rx ry h
  obtain ⟨l, b, xs, zs, rfl, rfl, h1, h2, hz, q⟩ := h
  cases rx
  cases ry
  obtain ⟨its, r1, p1, z1⟩ := I.list h1
  obtain ⟨its2, r2, p2, z2⟩ := I.list h2
  obtain ⟨⟨c1, d1, t1, s1⟩, n1, g1, k1, m1, w1⟩ := p1
  obtain ⟨⟨c2, d2, t2, s2⟩, n2, g2, k2, m2, w2⟩ := p2
  simp only at k1 m1 w1 k2 m2 w2
  subst k1 m1 w1 k2 m2 w2
  have ea : its.toArray ++ its2.toArray = (its ++ its2).toArray := by simp
  have l1 := r1.length
  have l2 := r2.length
  refine PySem.concat_meets ⟨_, g1, rfl⟩ ⟨_, g2, rfl⟩ PySem.noFill_list_add PySem.seq_list_add PySem.F.slot_list_add PySem.F.entry_list_add (PySem.F.args_list_add_2 _ _)
    (PyProof.Rows.list_addW l b its.toArray its2.toArray n1 n2 none none s1 s2 (by simp only [List.size_toArray]; omega)) ⟨g1, g2, ?_⟩
  rw [ea]
  exact ⟨.ref _, _, I.lnew (t' := s.toks) (r1.append r2) (by rw [List.length_append]; omega), rfl, q _ I.fresh⟩
/-- ints, texts, lists, tuples (the left one not empty) -/
def fAdd : Ow → D → D → R D := fun O x y => match x, y with
  | .int i, .int j => .ok (.int (i + j)) O
  | .str p, .str q => if p.length + q.length ≤ 100000 then .ok (.str (p ++ q)) O else .bad
  | .tup xs, .tup ys => if xs ≠ [] ∧ xs.length + ys.length ≤ 100000 then .ok (.tup (xs ++ ys)) O else .bad
  | x, y => match lsV O x, lsV O y with
    | some xs, some ys => if xs.length + ys.length ≤ 100000 then .ok (.lst (xs ++ ys)) O else .bad
    | _, _ => .bad
def rAdd' (K : PySem.W.Frag) : R2 := fun x y H Q => (∃ i j, x = .int i ∧ y = .int j ∧ Q (.int (i + j)) H) ∨ (∃ i j, x = .str i ∧ y = .str j ∧ i.length + j.length ≤ sizeLine ∧ Q (.str (i ++ j)) H) ∨ rCatT K x y H Q ∨ rCatL K x y H Q
theorem op_addA : OpR X (binaryOp .Add) (rAdd' X.K) := OpR.or op_add (OpR.or op_add_str (OpR.or op_catT op_catL))
theorem opd_add : OpD X Ex (rAdd' X.K) fAdd := by
  intro H hid μ O x y v w Q c dx dy q
  unfold fAdd at q
  split at q
  · unfold Dat at dx dy; subst dx; subst dy
    exact .inl ⟨_, _, rfl, rfl, post.here q c dat_int⟩
  · rename_i p q'
    unfold Dat at dx dy; subst dx; subst dy
    obtain ⟨hl, q⟩ := post.ite q
    refine .inr (.inl ⟨_, _, rfl, rfl, ?_, ?_⟩)
    · show p.toArray.size + q'.toArray.size ≤ _
      simp only [List.size_toArray]; exact small_line hl
    · have e : ((⟨p.toArray⟩ : Str) ++ (⟨q'.toArray⟩ : Str)) = ⟨(p ++ q').toArray⟩ := by
        show (⟨p.toArray ++ q'.toArray⟩ : Str) = _
        simp
      rw [e]
      exact post.here q c dat_str
  · rename_i xs ys
    have dx0 := dx
    unfold Dat at dx dy
    obtain ⟨p, vs, rfl, l1, q1⟩ := dx
    obtain ⟨p', vs', rfl, l2, q2⟩ := dy
    obtain ⟨⟨hn, hl⟩, q⟩ := post.ite q
    have e1 := q1.length
    have e2 := q2.length
    refine .inr (.inr (.inl ⟨p, p', vs, vs', rfl, rfl, l1.sq, l2.sq, ?_, small_line (by omega), ?_, ?_⟩))
    · rintro rfl
      exact hn (List.length_eq_zero_iff.mp e1)
    · rintro rfl
      have : ys = [] := List.length_eq_zero_iff.mp e2
      subst this
      rw [List.append_nil] at q
      exact post.here q c dx0
    · intro _ l hl0
      exact post.ok q (.laid hl0) (c.laid hl0) (Dat.newT c hl0 (q1.append q2))
  · split at q
    · rename_i xs ys e1 e2
      obtain ⟨p, vs, rfl, s1, q1⟩ := lsV_at c dx e1
      obtain ⟨p', vs', rfl, s2, q2⟩ := lsV_at c dy e2
      obtain ⟨hl, q⟩ := post.ite q
      have l1 := q1.length
      have l2 := q2.length
      exact .inr (.inr (.inr ⟨p, p', vs, vs', rfl, rfl, s1, s2, small_line (by omega), fun l hl0 => post.ok q (.laid hl0) (c.laid hl0) (Dat.newL c hl0 (q1.append q2))⟩))
    · exact False.elim q
theorem pd_add (ha : PD X Ex a ta) (hb : PD X Ex b tb) : PD X Ex (.BinOp a .Add b pos) (dOp fAdd ta tb) := pd_op op_addA opd_add ha hb
/-! ### str(i) -/
def txtI (i : Int) : List Nat := ((toString i : Str)).cps.toList
def fStrI : Ow → List D → R D := fun O xs => match xs with
  | [.int i] => if i.natAbs < 2 ^ 64 then .ok (.str (txtI i)) O else .bad
  | _ => .bad
theorem log2_small {n : Nat} (h : n < 2 ^ 64) : n.log2 < 1920 := by
  by_cases hn : n = 0
  · subst hn; decide
  · have := (Nat.log2_lt hn (k := 64)).mpr h
    omega
theorem str_eta (x : Str) : (⟨x.cps.toList.toArray⟩ : Str) = x := by
  cases x; simp
theorem cd_strI : CallD X Ex (fun xs H Q => ∃ i, xs = [.int i] ∧ i.natAbs.log2 < 1920 ∧ Q (.str (toString i)) H) fStrI := by
  intro H hid μ O xs vs Q c d q
  unfold fStrI at q
  split at q
  · rename_i i
    obtain ⟨v, rfl, dx⟩ := dats1 d
    unfold Dat at dx; subst dx
    obtain ⟨hl, q⟩ := post.ite q
    refine ⟨i, rfl, log2_small hl, post.here q c ?_⟩
    unfold Dat txtI
    rw [str_eta]
  · exact False.elim q
/-! ### methods of texts: one text more -/
def dS1 (g : List Nat → List Nat → Option D) (to : DE) (t : DA) : DE := fun σ O => (to σ O).bnd fun x O1 => match x with
  | .str i => (t σ O1).bnd fun ys O2 => match ys with
    | [.str j] => match g i j with
      | some d => .ok d O2
      | none => .bad
    | _ => .bad
  | _ => .bad
/-! ### sep.join(list of texts) -/
def strsD : List D → Option (List Str)
  | [] => some []
  | .str cs :: r => (strsD r).map (⟨cs.toArray⟩ :: ·)
  | _ => none
theorem strs_at {K : PySem.W.Frag} : ∀ {ds : List D} {vs : List V} {ys : List Str}, Dats K H hid μ ds vs → strsD ds = some ys → vs = ys.map V.str
  | [], vs, ys, h, e => by unfold Dats at h; subst h; cases e; rfl
  | d :: ds, vs, ys, h, e => by
    unfold Dats at h
    obtain ⟨v, r, rfl, h1, h2⟩ := h
    cases d with
    | str cs =>
      unfold strsD at e
      cases q : strsD ds with
      | none => rw [q] at e; cases e
      | some zs =>
        rw [q] at e; cases e
        unfold Dat at h1; subst h1
        rw [strs_at h2 q]; rfl
    | _ => cases e
theorem strsAre_of : ∀ {ys : List Str} {us : List Value}, Vals (ys.map V.str) us → PyProof.Rows.StrsAre us ys := by
  intro ys
  induction ys with
  | nil => intro us r; rw [List.map_nil] at r; cases r; exact .nil
  | cons y ys ih =>
    intro us r
    rw [List.map_cons] at r
    cases r with
    | cons r1 r2 =>
      obtain ⟨t, e⟩ := r1
      subst e
      exact .cons y t (ih r2)
def rJoin (K : PySem.W.Frag) : V → List V → Hp → VK → Prop := fun x xs H Q => ∃ i p ys, x = .str i ∧ xs = [.ref p] ∧ (SqL K H p (ys.map V.str) ∨ SqT K H p (ys.map V.str)) ∧ i.length ≤ 16 ∧ (ys.map (·.length)).sum + ys.length ≤ 1048576 ∧ Q (.str (Txt.join i ys)) H
theorem mt_join : MtR X "str.join" (rJoin X.K) := by
  intro pins s σ H x xs v us Q I rx rs h
  obtain ⟨i, p, ys, rfl, rfl, sq, hi, hw, q⟩ := h
  obtain ⟨t, rfl⟩ := rx
  obtain ⟨u, rfl, ru⟩ := vals1 rs
  cases ru
  rcases sq with sq | sq
  · obtain ⟨its, r1, p1, z1⟩ := I.list sq
    exact PyProof.Rows.join_listW p1.isList (strsAre_of r1) hi hw fun t' k => ⟨.str _, H, I.tok k, ⟨_, rfl⟩, q⟩
  · obtain ⟨its, r1, p1, z1⟩ := I.tuple sq
    exact PyProof.Rows.join_tupleW p1 (strsAre_of r1) hi hw fun t' k => ⟨.str _, H, I.tok k, ⟨_, rfl⟩, q⟩
def dJoin (to : DE) (t : DA) : DE := fun σ O => (to σ O).bnd fun x O1 => match x with
  | .str i => (t σ O1).bnd fun ys O2 => match ys with
    | [z] => match (match lsV O2 z with | some ds => some ds | none => tpV z) with
      | some ds => match strsD ds with
        | some zs => if i.length ≤ 16 ∧ (zs.map (·.length)).sum + zs.length ≤ 1048576 then .ok (.str (Txt.join ⟨i.toArray⟩ zs).cps.toList) O2 else .bad
        | none => .bad
      | none => .bad
    | _ => .bad
  | _ => .bad
theorem pd_join {t : DA} {es : List Expr} {apos cpos : Pos} (ho : PD X Ex o to) (ha : PDA X Ex (e :: es) t) (hbase : attributeBase o "join" X.env (eval o X.env) = eval o X.env := by rfl)
    (hfew : ((backTo cpos (starEach (e :: es) X.env)).all (fun x => !x.1) && (backToKw cpos (keywordEach [] X.env)).all (fun x => x.1.isSome) && decide ((e :: es).length + ([] : List Keyword).length + (if ([] : List Keyword).isEmpty then 0 else 1) < 30)) = true := by rfl)
    (hline : (apos.endLine == cpos.line) = true := by rfl) (hs : starEach (e :: es) X.env = (false, eval e X.env) :: starEach es X.env := by rfl) (hplain : (backTo cpos (starEach es X.env)).any (·.1) = false := by rfl) :
    PD X Ex (.Call (.Attribute o "join" apos) (e :: es) [] cpos) (dJoin to t) :=
  pd_of (pe_bm PySem.F.plainAttrs_str PySem.F.slot_str_join PySem.F.type_str_join mt_join ho.out ha.out hbase hfew hline hs hplain) fun hid μ σ O σv H Q e1 c1 q => rd.go e1 c1 q fun d O1 v H1 μ1 e2 x cl r p => by
    cases d with
    | str i =>
      unfold Dat at r
      subst r
      refine ⟨rfl, rdA.go e2 cl p fun ys O2 ws H2 μ2 e3 x3 c3 d3 p3 => ?_⟩
      split at p3
      · rename_i z
        obtain ⟨w, rfl, dw⟩ := dats1 d3
        split at p3
        · rename_i ds hds
          split at p3
          · rename_i zs hzs
            obtain ⟨⟨h1, h2⟩, p3⟩ := post.ite p3
            have h : ∃ p ws, w = .ref p ∧ (SqL X.K H2 p ws ∨ SqT X.K H2 p ws) ∧ Dats X.K H2 hid μ2 ds ws := by
              cases e1 : lsV O2 z with
              | some es =>
                rw [e1] at hds; cases hds
                obtain ⟨p, ws, h1, sq, dd⟩ := lsV_at c3 dw e1
                exact ⟨p, ws, h1, .inl sq, dd⟩
              | none =>
                rw [e1] at hds
                obtain ⟨p, ws, h1, sq, dd⟩ := tpV_at dw hds
                exact ⟨p, ws, h1, .inr sq, dd⟩
            obtain ⟨pp, ws, rfl, sq, dd⟩ := h
            have ev := strs_at dd hzs
            subst ev
            refine ⟨_, pp, zs, rfl, rfl, sq, ?_, h2, post.here p3 c3 ?_⟩
            · show i.toArray.size ≤ 16
              simpa using h1
            · unfold Dat; rw [str_eta]
          · exact False.elim p3
        · exact False.elim p3
      · exact False.elim p3
    | _ => exact False.elim p
/-! ### slices of texts, lists -/
abbrev DO := Sg → Ow → R (Option Int)
def rdO (Ex : Nat → Hp → Prop) (K : PySem.W.Frag) (t : DO) : TO := fun σv H Q => ∃ hid μ σ O, EnvOk K H hid μ σ σv ∧ Cells K H hid μ O ∧ post Ex K (fun _ _ (d v : Option Int) => d = v) H hid μ (t σ O) Q
structure PDO (X : Cx) (Ex : Nat → Hp → Prop) (e : Option Expr) (t : DO) : Prop where
  out : PO X e (rdO Ex X.K t)
def oNone : DO := fun _ O => .ok none O
def oSome (t : DE) : DO := fun σ O => (t σ O).bnd fun d O1 => match d with
  | .int i => .ok (some i) O1
  | _ => .bad
theorem PO.imp {e : Option Expr} {t t' : TO} (h : PO X e t) (f : ∀ σ H Q, t' σ H Q → t σ H Q) : PO X e t' := fun pins s σ H Q I q => h pins s σ H Q I (f σ H Q q)
theorem pdo_none : PDO X Ex none oNone := PDO.mk <| PO.imp po_none fun σv H Q ⟨hid, μ, σ, O, e1, c1, q⟩ => post.here (v := none) q c1 rfl
theorem pdo_some (h : PD X Ex e te) : PDO X Ex (some e) (oSome te) := PDO.mk <| PO.imp (po_some h.out) fun σv H Q ⟨hid, μ, σ, O, e1, c1, q⟩ => rd.go e1 c1 q fun d O1 v H1 μ1 e2 x cl r p => by
  cases d with
  | int i => unfold Dat at r; subst r; exact ⟨i, rfl, post.here (v := some i) p cl rfl⟩
  | _ => exact False.elim p
theorem rdO.go {α' β' : Type} {rel' : Hp → List Addr → α' → β' → Prop} {t : DO} {hid μ : List Addr} {σ : Sg} {O : Ow} {σv : St} {H : Hp} {Q1 : Option Int → Hp → Prop} {k : Option Int → Ow → R α'} {Q : β' → Hp → Prop} (e1 : EnvOk X.K H hid μ σ σv) (c1 : Cells X.K H hid μ O)
    (q : post Ex X.K rel' H hid μ ((t σ O).bnd k) Q)
    (f : ∀ v O1 H1 μ1, EnvOk X.K H1 hid μ1 σ σv → Ext H μ H1 μ1 → Cells X.K H1 hid μ1 O1 → post Ex X.K rel' H1 hid μ1 (k v O1) Q → Q1 v H1) : rdO Ex X.K t σv H Q1 :=
  ⟨hid, μ, σ, O, e1, c1, post.bnd q fun d O1 v H1 μ1 x c r p => by
    have r : d = v := r
    subst r
    exact f d O1 H1 μ1 (e1.ext x) x c p⟩
def rSlS : V → Option Int → Option Int → Hp → VK → Prop := fun x lo hi H Q => ∃ i, x = .str i ∧ i.length ≤ sizeLine ∧ Q (.str (Txt.slice i lo hi)) H
theorem isSlice_of {h : Heap} {sl : Addr} {vl vu : Value} {lo hi : Option Int} (hs : h.IsSliceOf sl vl vu .none) (pl : IsPart vl lo) (pu : IsPart vu hi) : ∃ l u : Option (Int × Tok), h.IsSlice sl l u none ∧ l.map (·.1) = lo ∧ u.map (·.1) = hi := by
  obtain ⟨ob, g, k1, k2⟩ := hs
  cases pl with
  | none =>
    cases pu with
    | none => exact ⟨none, none, ⟨ob, g, k1, k2⟩, rfl, rfl⟩
    | int j t => exact ⟨none, some (j, t), ⟨ob, g, k1, k2⟩, rfl, rfl⟩
  | int i t =>
    cases pu with
    | none => exact ⟨some (i, t), none, ⟨ob, g, k1, k2⟩, rfl, rfl⟩
    | int j t' => exact ⟨some (i, t), some (j, t'), ⟨ob, g, k1, k2⟩, rfl, rfl⟩
theorem sl_str : SlR X rSlS := by
  intro pins s σ H x v vl vu lo hi sl Q I rx hs pl pu h
  obtain ⟨i, rfl, hz, q⟩ := h
  obtain ⟨t, rfl⟩ := rx
  obtain ⟨l, u, hs2, rfl, rfl⟩ := isSlice_of hs pl pu
  refine ⟨"str", _, PySem.F.slot_str_getitem.lookup, typeIs_str s i t, ?_⟩
  exact wpAny_getItem_str_slice (l := l) (u := u) (st := none) hs2 rfl (post_val_or_str ⟨Nat.le_trans (Txt.slice_le i _ _) hz, fun t' k => ⟨.str _, H, I.tok k, ⟨_, rfl⟩, q⟩⟩)
def cutD (xs : List D) (lo hi : Option Int) : List D := (xs.drop (HT.sIx xs.length 0 lo)).take (HT.sIx xs.length xs.length hi - HT.sIx xs.length 0 lo)
def fSl (O : Ow) (x : D) (lo hi : Option Int) : R D := match x with
  | .str i => if i.length ≤ 100000 then .ok (.str (Txt.slice ⟨i.toArray⟩ lo hi).cps.toList) O else .bad
  | .tup ds => if HT.sIx ds.length 0 lo = 0 ∧ HT.sIx ds.length ds.length hi = ds.length then .bad else .ok (.tup (cutD ds lo hi)) O
  | x => match lsV O x with
    | some ds => .ok (.lst (cutD ds lo hi)) O
    | none => .bad
def dSl (te : DE) (tl th : DO) : DE := fun σ O => (te σ O).bnd fun x O1 => (tl σ O1).bnd fun lo O2 => (th σ O2).bnd fun hi O3 => fSl O3 x lo hi
def rSlA (K : PySem.W.Frag) : V → Option Int → Option Int → Hp → VK → Prop := fun x lo hi H Q => rSlS x lo hi H Q ∨ rSlT K x lo hi H Q ∨ rSlL K x lo hi H Q
theorem dats_cut {K : PySem.W.Frag} {ds : List D} {vs : List V} (h : Dats K H hid μ ds vs) (lo hi : Option Int) : Dats K H hid μ (cutD ds lo hi) (cutV vs lo hi) := by
  unfold cutD cutV
  rw [h.length]
  exact Dats.take _ (Dats.drop _ h)
theorem pd_sl {lo hi : Option Expr} {tl th : DO} {p2 : Pos} (he : PD X Ex e te) (hl : PDO X Ex lo tl) (hu : PDO X Ex hi th) : PD X Ex (.Subscript e (.Slice lo hi none p2) pos) (dSl te tl th) :=
  pd_of (pe_slice (r := rSlA X.K) (SlR.or sl_str (SlR.or sl_tup sl_list)) he.out hl.out hu.out) fun hid μ σ O σv H Q e1 c1 q => rd.go e1 c1 q fun d O1 v H1 μ1 e2 x cl r p => rdO.go e2 cl p fun l O2 H2 μ2 e3 x3 c3 p3 => rdO.go e3 c3 p3 fun u O3 H3 μ3 e4 x4 c4 p4 => by
    have r' := (r.ext x3).ext x4
    unfold fSl at p4
    split at p4
    · rename_i i
      unfold Dat at r'; subst r'
      obtain ⟨hl.out, p4⟩ := post.ite p4
      refine .inl ⟨_, rfl, ?_, post.here p4 c4 ?_⟩
      · show i.toArray.size ≤ _
        rw [List.size_toArray]; exact small_line hl.out
      · unfold Dat; rw [str_eta]
    · rename_i ds
      unfold Dat at r'
      obtain ⟨pa, vs, rfl, la, q1⟩ := r'
      split at p4
      · exact False.elim p4
      · rename_i hw
        refine .inr (.inl ⟨pa, vs, rfl, la.sq, by rw [← q1.length]; exact hw, fun l' hl' => post.ok p4 (.laid hl') (c4.laid hl') (Dat.newT c4 hl' (dats_cut q1 l u))⟩)
    · split at p4
      · rename_i ds eds
        obtain ⟨pa, vs, rfl, sq, q1⟩ := lsV_at c4 r' eds
        exact .inr (.inr ⟨pa, vs, rfl, sq, fun l' hl' => post.ok p4 (.laid hl') (c4.laid hl') (Dat.newL c4 hl' (dats_cut q1 l u))⟩)
      · exact False.elim p4
/-! ### a text in a text -/
def fInS : Ow → D → D → R D := fun O x y => match x, y with
  | .str i, .str j => .ok (.bl (!(PySem.Builtin.Str.occurrences ⟨j.toArray⟩ ⟨i.toArray⟩ 0 j.length 1).isEmpty)) O
  | _, _ => .bad
theorem opd_inS : OpD X Ex (fun x y H Q => ∃ i j, x = .str i ∧ y = .str j ∧ Q (.bl (!(Builtin.Str.occurrences j i 0 j.length 1).isEmpty)) H) fInS := by
  intro H hid μ O x y v w Q c dx dy q
  unfold fInS at q
  split at q
  · rename_i i j
    unfold Dat at dx dy; subst dx; subst dy
    refine ⟨_, _, rfl, rfl, post.here q c ?_⟩
    have e : (⟨j.toArray⟩ : Str).length = j.length := by show j.toArray.size = _; simp
    rw [e]; exact dat_bl
  · exact False.elim q
/-! ### a, b = x, y -/
theorem pds_par {i j : Nat} {x y : Str} {t : DA} {px py pt : Pos} {kt k2 pt2} (hc : X.calm = true) (hN : X.N.Nodup) (hi : X.N[i]? = some x) (hj : X.N[j]? = some y) (hij : i ≠ j) (hx : X.env.scope.names.lookup x = some .local) (hy : X.env.scope.names.lookup y = some .local) (ha : PDA X Ex [a, b] t)
    (hw : swappedStores [.Tuple [.Name x px, .Name y py] kt pt] (.Tuple [a, b] k2 pt2) X.env = pure (some [x, y]))
    (hs : swapsWithSole [.Tuple [.Name x px, .Name y py] kt pt] (.Tuple [a, b] k2 pt2) pos.line X.env = pure false := by rfl) :
    PDS X Ex (.Assign [.Tuple [.Name x px, .Name y py] kt pt] (.Tuple [a, b] k2 pt2) pos) (sPar i j t) :=
  pds_of (ps_par hc hN hi hj hij hx hy ha.out hw hs) fun hid μ σ O E σv H e1 c1 q => ⟨hid, μ, σ, O, e1, c1, postS.bnS q fun d O1 vs H1 μ1 x1 c2 r p => by
    split at p
    · obtain ⟨v, w, rfl, d1, d2⟩ := dats2 r
      exact ⟨v, w, rfl, p _ H1 μ1 .refl (((e1.ext x1).set d1 i).set d2 j) c2⟩
    · exact False.elim p⟩
end
end DL

namespace DL
open PySem L2
/-! ### defs of the text, by name -/
def FunAt (K : PySem.W.Frag) (mg : Str → Option Value) (x : Str) (st : Stmt) : Prop := ∃ f fd, mg x = some (.ref f) ∧ L2.Fun K x x st f fd
structure Callee (P : Program) (w : World) (K : PySem.W.Frag) (mg : Str → Option Value) (base : Heap) (x : Str) (k n : Nat) (F : List D → Ow → R D) : Prop where
  ex : ∃ f fd ps, mg x = some (.ref f) ∧ PySem.W.keepIn K (.ref f) = true ∧ Binds K fd ps [] ∧ FnOk P w K mg base CX0 k f fd ps (DSp K Ec0 n F)
theorem pd_fnC {X : Cx} {x : Str} {k j n : Nat} {F : List D → Ow → R D} {p pos : Pos} {e : Expr} {es : List Expr} {t : DA} (c : Callee X.prog X.w X.K X.mg X.base x k n F) (hr : Room j X.A) (hk : k ≤ j) (hg : Gl X x) (ha : PDA X Ex0 (e :: es) t)
    (hdb : (x == ("__debug__" : Str)) = false := by decide) (he : starEach (e :: es) X.env = (false, eval e X.env) :: starEach es X.env := by rfl) (hpl : (backTo pos (starEach es X.env)).any (·.1) = false := by rfl) :
    PD X Ex0 (.Call (.Name x p) (e :: es) [] pos) (dFn n F t) := by
  obtain ⟨f, fd, ps, hm, hkp, hb, G⟩ := c.ex
  exact pd_fn (Ec := Ec0) (E := E0) (G.mono hk) hr hg hm hkp hb pass0 ha hdb he hpl
theorem fnC {P : Program} {w : World} {K : PySem.W.Frag} {mg : Str → Option Value} {base : Heap} {k : Nat} {x : Str} {st : Stmt} {N ps : List Str} {t : DS} (h : FunAt K mg x st) (S : FnScope N ps (defScope st))
    (hb : ∀ (kV doc pm : Value) (an : Option Addr) (cdv ct : Value) (us : List Value), us.length = ps.length → bindArgs (PySem.W.fnOf x x (defArgs st) (defBody st) (defScope st) .none kV doc pm an cdv ct) ⟨us, []⟩ = pure (ps.zip us))
    (hbody : ∀ (f : Addr) (cdv : Value) (A : Around) (outer : List Env) (s : Shared) (H : Hp) (E : XK), Room k (A.deeper (PyProof.Rows.envOfC x (defScope st) s.heap.objs.size f cdv)) → PDSs (cx0 P w K mg base N x (defScope st) f cdv A outer s H E) Ex0 (defBody st) t) :
    Callee P w K mg base x (k + 1) ps.length (runF N.length t) := by
  obtain ⟨f, fd, hm, F⟩ := h
  refine ⟨f, fd, ps, hm, F.kp, F.binds hb, ?_⟩
  obtain ⟨oc, od, kV, doc, pm, an, cdv, ct, osl, rfl, lk, hcd⟩ := F.ex
  exact fn_ok lk hcd S fun A outer s H E hr => hbody f cdv A outer s H E hr
theorem Callee.imp {P : Program} {w : World} {K : PySem.W.Frag} {mg : Str → Option Value} {base : Heap} {k n : Nat} {x : Str} {F G : List D → Ow → R D} (c : Callee P w K mg base x k n F)
    (h : ∀ ds O H hid μ Q, Cells K H hid μ O → postE Ex0 K H hid μ (G ds O) Q → postE Ex0 K H hid μ (F ds O) Q) : Callee P w K mg base x k n G := by
  obtain ⟨f, fd, ps, hm, hkp, hb, Fo⟩ := c.ex
  refine ⟨f, fd, ps, hm, hkp, hb, Fo.imp fun vs H Q E ⟨hl, hid, μ, ds, O, d, cl, q⟩ => ⟨hl, hid, μ, ds, O, d, cl, h ds O H hid μ Q cl q⟩⟩
/-! ### lists that nobody changes any more are data by value -/
def frz (O : Ow) (n : Nat) : Nat → D → Option D
  | 0, d => match d with
    | .own k => if k < n then some (.own k) else none
    | .lst _ => none
    | .tup _ => none
    | d => some d
  | f + 1, d => match d with
    | .own k => if k < n then some (.own k) else match O[k]? with
      | some ds => (mapO (frz O n f) ds).map .lst
      | none => none
    | .lst ds => (mapO (frz O n f) ds).map .lst
    | .tup ds => (mapO (frz O n f) ds).map .tup
    | d => some d
/-- the cells from n on are given up -/
def frzR (n : Nat) (r : R D) : R D := match r with
  | .ok d O => match frz O n 8 d, mapO (mapO (frz O n 8)) (O.take n) with
    | some d', some O' => .ok d' O'
    | _, _ => .bad
  | r => r
section
variable {K : PySem.W.Frag} {H : Hp} {hid μ ν : List Addr} {O : Ow} {n : Nat}
theorem mapO_dats {f : D → Option D} {μ' : List Addr} (ih : ∀ d d' v, f d = some d' → Dat K H hid μ d v → Dat K H hid μ' d' v) : ∀ (ds ds' : List D) (vs : List V), mapO f ds = some ds' → Dats K H hid μ ds vs → Dats K H hid μ' ds' vs
  | [], ds', vs, e, h => by cases e; unfold Dats at h ⊢; exact h
  | d :: ds, ds', vs, e, h => by
    unfold mapO at e
    split at e
    · rename_i p ps e1 e2
      cases e
      unfold Dats at h
      obtain ⟨v, r, rfl, h1, h2⟩ := h
      exact .cons (ih d p v e1 h1) (mapO_dats ih ds ps r e2 h2)
    · cases e
theorem frz_ok (c : Cells K H hid (μ ++ ν) O) (hn : μ.length = n) : ∀ (f : Nat) (d d' : D) (v : V), frz O n f d = some d' → Dat K H hid (μ ++ ν) d v → Dat K H hid μ d' v := by
  have sub : ∀ {a : Addr}, a ∉ μ ++ ν → a ∉ μ := fun h m => h (List.mem_append_left _ m)
  have low : ∀ {k : Nat} {v : V}, k < n → Dat K H hid (μ ++ ν) (.own k) v → Dat K H hid μ (.own k) v := fun {k v} hk h => by
    unfold Dat at h ⊢
    obtain ⟨a, rfl, e⟩ := h
    rw [List.getElem?_append_left (by omega)] at e
    exact ⟨a, rfl, e⟩
  have dc : ∀ {v : V}, Dat K H hid (μ ++ ν) .dct v → Dat K H hid μ .dct v := fun {v} h => by
    unfold Dat at h ⊢
    obtain ⟨a, rfl, r, n1, n2⟩ := h
    exact ⟨a, rfl, r, n1, sub n2⟩
  have xc : ∀ {C : Nat} {v : V}, Dat K H hid (μ ++ ν) (.exn C) v → Dat K H hid μ (.exn C) v := fun {C v} h => by
    unfold Dat at h ⊢
    obtain ⟨a, φ, rfl, g, r, n1, n2⟩ := h
    exact ⟨a, φ, rfl, g, r, n1, sub n2⟩
  intro f
  induction f with
  | zero =>
    intro d d' v e h
    cases d with
    | own k =>
      unfold frz at e; dsimp only at e
      split at e
      · rename_i hk; cases e; exact low hk h
      · cases e
    | lst ds => cases e
    | tup ds => cases e
    | dct => cases e; exact dc h
    | exn C => cases e; exact xc h
    | tab P => cases e; unfold Dat at h ⊢; exact h
    | non => cases e; unfold Dat at h ⊢; exact h
    | bl b => cases e; unfold Dat at h ⊢; exact h
    | int i => cases e; unfold Dat at h ⊢; exact h
    | str i => cases e; unfold Dat at h ⊢; exact h
  | succ f ih =>
    intro d d' v e h
    cases d with
    | own k =>
      unfold frz at e; dsimp only at e
      split at e
      · rename_i hk; cases e; exact low hk h
      · rename_i hk
        unfold Dat at h
        obtain ⟨a, rfl, hk2⟩ := h
        obtain ⟨ds, vs, h1, h2, h3⟩ := c.at_ k a hk2
        rw [h1] at e
        dsimp only at e
        cases e1 : mapO (frz O n f) ds with
        | none => rw [e1] at e; cases e
        | some ps =>
          rw [e1] at e; cases e
          unfold Dat
          refine ⟨a, vs, rfl, .inl ⟨.inl h2, c.nh a (List.mem_of_getElem? hk2), fun m => ?_⟩, mapO_dats ih ds ps vs e1 h3⟩
          obtain ⟨j, hj, ej⟩ := List.mem_iff_getElem.mp m
          have q1 : (μ ++ ν)[j]? = some a := by rw [List.getElem?_append_left hj, List.getElem?_eq_getElem hj, ej]
          obtain ⟨w1, z1⟩ := List.getElem?_eq_some_iff.mp q1
          obtain ⟨w2, z2⟩ := List.getElem?_eq_some_iff.mp hk2
          have := (List.getElem_inj c.nd).mp (z1.trans z2.symm)
          omega
    | lst ds =>
      unfold frz at e; dsimp only at e
      unfold Dat at h
      obtain ⟨a, vs, rfl, l, q⟩ := h
      cases e1 : mapO (frz O n f) ds with
      | none => rw [e1] at e; cases e
      | some ps =>
        rw [e1] at e; cases e
        unfold Dat
        exact ⟨a, vs, rfl, l.imp (fun z => ⟨z.1, z.2.1, sub z.2.2⟩) id, mapO_dats ih ds ps vs e1 q⟩
    | tup ds =>
      unfold frz at e; dsimp only at e
      unfold Dat at h
      obtain ⟨a, vs, rfl, l, q⟩ := h
      cases e1 : mapO (frz O n f) ds with
      | none => rw [e1] at e; cases e
      | some ps =>
        rw [e1] at e; cases e
        unfold Dat
        exact ⟨a, vs, rfl, l.imp (fun z => ⟨z.1, z.2.1, sub z.2.2⟩) id, mapO_dats ih ds ps vs e1 q⟩
    | dct => cases e; exact dc h
    | exn C => cases e; exact xc h
    | tab P => cases e; unfold Dat at h ⊢; exact h
    | non => cases e; unfold Dat at h ⊢; exact h
    | bl b => cases e; unfold Dat at h ⊢; exact h
    | int i => cases e; unfold Dat at h ⊢; exact h
    | str i => cases e; unfold Dat at h ⊢; exact h
theorem mapO_len {α β : Type} {f : α → Option β} : ∀ {l : List α} {r : List β}, mapO f l = some r → r.length = l.length
  | [], r, e => by cases e; rfl
  | x :: l, r, e => by
    unfold mapO at e
    split at e
    · rename_i p ps e1 e2; cases e; simp [mapO_len e2]
    · cases e
theorem mapO_get {α β : Type} {f : α → Option β} : ∀ {l : List α} {r : List β} {k : Nat} {y : β}, mapO f l = some r → r[k]? = some y → ∃ x, l[k]? = some x ∧ f x = some y
  | [], r, k, y, e, h => by cases e; simp at h
  | x :: l, r, k, y, e, h => by
    unfold mapO at e
    split at e
    · rename_i p ps e1 e2
      cases e
      cases k with
      | zero => simp at h; subst h; exact ⟨x, by simp, e1⟩
      | succ k => obtain ⟨z, h1, h2⟩ := mapO_get (k := k) e2 (by simpa using h); exact ⟨z, by simpa using h1, h2⟩
    · cases e
theorem post_frz {Ex : Nat → Hp → Prop} {r : R D} {Q : VK} (hn : μ.length = n) (q : postE Ex K H hid μ (frzR n r) Q) : postE Ex K H hid μ r Q := by
  cases r with
  | bad => exact q
  | exc c O' => exact q
  | ok d O' =>
    intro v H' μ' x c h
    obtain ⟨ν, rfl⟩ := x.pre
    have q1 : postE Ex K H hid μ (match frz O' n 8 d, mapO (mapO (frz O' n 8)) (O'.take n) with | some d', some O2 => .ok d' O2 | _, _ => .bad) Q := q
    cases e1 : frz O' n 8 d with
    | none => rw [e1] at q1; exact False.elim q1
    | some d' =>
      cases e2 : mapO (mapO (frz O' n 8)) (O'.take n) with
      | none => rw [e1, e2] at q1; exact False.elim q1
      | some O2 =>
        rw [e1, e2] at q1
        have xe : Ext H μ H' μ := ⟨⟨[], by simp⟩, x.kept, fun _ m => .inl m, x.there, x.tab⟩
        have hl : O'.length = (μ ++ ν).length := c.len.symm
        have c2 : Cells K H' hid μ O2 := by
          refine ⟨?_, (List.nodup_append.mp c.nd).1, fun a m => c.nh a (List.mem_append_left _ m), c.ht, fun k a e => ?_⟩
          · rw [mapO_len e2, List.length_take, hl, List.length_append, hn]; omega
          · have hk : k < μ.length := (List.getElem?_eq_some_iff.mp e).1
            obtain ⟨ds, vs, h1, h2, h3⟩ := c.at_ k a (by rw [List.getElem?_append_left hk]; exact e)
            have hk2 : k < O2.length := by rw [mapO_len e2, List.length_take, hl, List.length_append, hn]; omega
            obtain ⟨ds', g1, g2⟩ := mapO_get e2 (List.getElem?_eq_getElem hk2)
            have : ds' = ds := by
              rw [List.getElem?_take, if_pos (by omega), h1] at g1
              cases g1; rfl
            subst this
            exact ⟨_, vs, List.getElem?_eq_getElem hk2, h2, mapO_dats (frz_ok c hn 8) _ _ vs g2 h3⟩
        exact q1 v H' μ xe c2 (frz_ok c hn 8 d d' v e1 h)
end
def frzF (F : List D → Ow → R D) : List D → Ow → R D := fun ds O => frzR O.length (F ds O)
theorem Callee.frz {P : Program} {w : World} {K : PySem.W.Frag} {mg : Str → Option Value} {base : Heap} {k n : Nat} {x : Str} {F : List D → Ow → R D} (c : Callee P w K mg base x k n F) : Callee P w K mg base x k n (frzF F) :=
  c.imp fun ds O H hid μ Q cl q => post_frz cl.len q
/-! ### the names of a block, checked -/
def bokB (sc scope : Scope) (N' : List Str) (sl : List Nat) : Bool :=
  (match scope.kind with | .function => true | _ => false) && decide ((scope.names.map (·.1)).Nodup) && (scope.names.all fun y => !(y.2 == .free) || sc.names.lookup y.1 == some .cell || sc.names.lookup y.1 == some .free) &&
  (N'.zipIdx.all fun p => !((scope.names.any fun y => y.1 == p.1 && y.2 == .local) || (scope.names.any fun y => y.1 == p.1 && y.2 == .cell)) || sl.contains p.2)
theorem bok_of {sc scope : Scope} {N' : List Str} {sl : List Nat} (h : bokB sc scope N' sl = true) : BOk sc scope N' sl := by
  unfold bokB at h
  simp only [Bool.and_eq_true, decide_eq_true_eq, List.all_eq_true] at h
  obtain ⟨⟨⟨h1, h2⟩, h3⟩, h4⟩ := h
  refine ⟨?_, h2, fun y hy hf => ?_, fun i x hx hm => ?_⟩
  · cases e : scope.kind <;> rw [e] at h1 <;> first | rfl | cases h1
  · have := h3 y hy
    rw [hf] at this
    simpa using this
  · have hp : (x, i) ∈ N'.zipIdx := by
      rw [List.mem_zipIdx_iff_getElem?]; exact hx
    have h := h4 _ hp
    have hany : ((scope.names.any fun y => y.1 == x && y.2 == .local) || (scope.names.any fun y => y.1 == x && y.2 == .cell)) = true := by
      rw [Bool.or_eq_true]
      exact hm.imp (fun m => List.any_eq_true.mpr ⟨_, m, by simp⟩) fun m => List.any_eq_true.mpr ⟨_, m, by simp⟩
    have h : (!((scope.names.any fun y => y.1 == x && y.2 == .local) || (scope.names.any fun y => y.1 == x && y.2 == .cell)) || sl.contains i) = true := h
    rw [hany] at h
    simpa using h
/-! ### a module's text -/
structure GStr (mg : Str → Option Value) (x : Str) (cs : List Nat) : Prop where
  ex : ∃ t, mg x = some (.str ⟨cs.toArray⟩ t)
section
variable {X : Cx} {Ex : Nat → Hp → Prop} {pos : Pos} {a b c e o : Expr} {ta tb tc te to : DE} {pins : List (Addr × Obj)} {σv : St} {H : Hp} {s : Shared} {hid μ : List Addr} {O : Ow}
theorem pd_gstr {x : Str} {cs : List Nat} (h : GStr X.mg x cs) (hg : Gl X x := by rfl) (hd : (x == ("__debug__" : Str)) = false := by decide) : PD X Ex (.Name x pos) (dC (.str cs)) := by
  obtain ⟨t, h⟩ := h.ex
  exact pd_globS cs hg h rfl hd
/-! ### isinstance(x, (T, U)) -/
/-! ### not, minus -/
/-! ### x in y: texts, lists, tuples -/
def fIn : Ow → D → D → R D := fun O x y => match y with
  | .str _ => fInS O x y
  | _ => fPy inF O x y
def fNin : Ow → D → D → R D := fun O x y => match y with
  | .str _ => match fInS O x y with
    | .ok (.bl b) O1 => .ok (.bl (!b)) O1
    | _ => .bad
  | _ => fPy ninF O x y
theorem op_inA (hu : X.A.units + 64 < cLine) : OpR X (compareOp .In) (fun x y H Q => rPy X.K inF x y H Q ∨ ∃ i j, x = .str i ∧ y = .str j ∧ Q (.bl (!(Builtin.Str.occurrences j i 0 j.length 1).isEmpty)) H) := OpR.or (op_inPy hu) op_in_str
theorem opd_in : OpD X Ex (fun x y H Q => rPy X.K inF x y H Q ∨ ∃ i j, x = .str i ∧ y = .str j ∧ Q (.bl (!(Builtin.Str.occurrences j i 0 j.length 1).isEmpty)) H) fIn := by
  intro H hid μ O x y v w Q c dx dy q
  unfold fIn at q
  split at q
  · exact .inr (opd_inS H hid μ O _ _ v w Q c dx dy q)
  · exact .inl (opd_py H hid μ O x y v w Q c dx dy q)
theorem op_ninA (hu : X.A.units + 64 < cLine) : OpR X (compareOp .NotIn) (fun x y H Q => rPy X.K ninF x y H Q ∨ ∃ i j, x = .str i ∧ y = .str j ∧ Q (.bl (!(!(Builtin.Str.occurrences j i 0 j.length 1).isEmpty))) H) := OpR.or (op_ninPy hu) op_notin_str
theorem opd_nin : OpD X Ex (fun x y H Q => rPy X.K ninF x y H Q ∨ ∃ i j, x = .str i ∧ y = .str j ∧ Q (.bl (!(!(Builtin.Str.occurrences j i 0 j.length 1).isEmpty))) H) fNin := by
  intro H hid μ O x y v w Q c dx dy q
  unfold fNin at q
  split at q
  · rename_i cs
    cases x with
    | str i =>
      unfold Dat at dx dy; subst dx; subst dy
      refine .inr ⟨_, _, rfl, rfl, post.here (d := D.bl (!(!(PySem.Builtin.Str.occurrences ⟨cs.toArray⟩ ⟨i.toArray⟩ 0 cs.length 1).isEmpty))) q c ?_⟩
      have e : (⟨cs.toArray⟩ : Str).length = cs.length := by show cs.toArray.size = _; simp
      rw [e]; exact dat_bl
    | _ => exact False.elim q
  · exact .inl (opd_py H hid μ O x y v w Q c dx dy q)
end
end DL

namespace DL
open PySem L2
section
variable {X : Cx} {pins : List (Addr × Obj)} {σv : St} {H : Hp} {s : Shared}
/-- records of ours have turned -/
theorem Inv.turns {h' : Heap} {t' : Nat} (ch : List Addr) (I : L2.Inv X pins σv H s) (k : ∀ b o, b ∉ ch → s.heap.get? b = some o → h'.get? b = some o) (hf : ∀ b ∈ ch, FpOk X pins H b) : L2.Inv X pins σv H { s with heap := h', toks := t' } := by
  have nit : ∀ b u, H b = some u → b ∉ ch := fun b u e z => by rw [(hf b z).1] at e; cases e
  have un : Un (frs X.stack) ch H H s.heap h' := ⟨fun b o e _ _ n => k b o n e, fun b o e _ _ n => ⟨o.slots, k b o n e⟩, fun _ _ _ n _ => n, fun b o e n => ⟨o, k b o n e⟩, fun _ _ e => e, fun _ _ _ e => e, fun b ps e => ⟨#[], by rw [e]; simp⟩⟩
  have hok : HOk X.prog X.w H h' := fun b u e => (I.hok b u e).stay (fun c v hc q => k c v (by
    rcases hc with z | z
    · rw [z]; exact nit b u e
    · exact nit c _ z) q) (fun _ q => q) fun _ _ q => q
  exact I.call (t' := t') (d' := s.drawn) un hok I.bare fun b hb => let ⟨_, f1, _, f3, f4, f5⟩ := hf b hb; ⟨f3, f1, f4, f5⟩
end
/-! ### zip of two lists -/
/-- a list, as it is read now and later -/
def LsAt (K : PySem.W.Frag) (src : Src) (a : Addr) (H : Hp) (hid μ : List Addr) : Prop := ∀ hid' H' μ' O', Mv H hid μ H' hid' μ' → Cells K H' hid' μ' O' → ∃ ds vs, SqL K H' a vs ∧ Dats K H' hid' μ' ds vs ∧ ∀ i, src.get O' i = ds[i]?
section
variable {K : PySem.W.Frag} {H : Hp} {hid μ : List Addr}
theorem LsAt.val {ds : List D} {vs : List V} {a : Addr} (l : LstAt K H hid μ a vs) (q : Dats K H hid μ ds vs) : LsAt K (.val ds) a H hid μ := fun hid' H' μ' O' m c => ⟨ds, vs, (l.mv m).sq, q.mv m, fun _ => rfl⟩
theorem LsAt.own {k : Nat} {a : Addr} (hk : μ[k]? = some a) : LsAt K (.own k) a H hid μ := by
  intro hid' H' μ' O' m c
  obtain ⟨ν, rfl⟩ := m.pre
  have hk' : (μ ++ ν)[k]? = some a := by rw [List.getElem?_append_left (List.getElem?_eq_some_iff.mp hk).1]; exact hk
  obtain ⟨ds, vs, h1, h2, h3⟩ := c.at_ k a hk'
  exact ⟨ds, vs, .of h2, h3, fun i => by show (match O'[k]? with | some ds => ds[i]? | none => none) = _; rw [h1]⟩
theorem LsAt.mv {src : Src} {a : Addr} {H1 : Hp} {hid1 μ1 : List Addr} (h : LsAt K src a H hid μ) (e : Mv H hid μ H1 hid1 μ1) : LsAt K src a H1 hid1 μ1 := fun hid' H' μ' O' m c => h hid' H' μ' O' (e.trans m) c
end
def lsSrc : D → Option Src
  | .lst ds => some (.val ds)
  | .own k => some (.own k)
  | _ => none
def dZip (t : DA) : DI := fun σ O => (t σ O).bnd fun xs O1 => match xs with
  | [x, y] => match lsSrc x, lsSrc y with
    | some p, some q => .ok (.zip p q) O1
    | _, _ => .bad
  | _ => .bad
section
variable {X : Cx} {Ex : Nat → Hp → Prop} {pos : Pos} {a b c e o : Expr} {ta tb tc te to : DE} {pins : List (Addr × Obj)} {σv : St} {H : Hp} {s : Shared} {hid μ : List Addr} {O : Ow}
theorem boot_zip : bootBuiltins "zip" = some (.type "zip") := by boot_by_name
theorem pg_two {i j : Nat} {x y : Str} {px py pt : Pos} {kt : Nat} (hc : X.calm = true) (hN : X.N.Nodup) (hi : X.N[i]? = some x) (hj : X.N[j]? = some y) (hx : Loc X.env.scope x) (hy : Loc X.env.scope y)
    (hf : X.fn x = true ∨ X.env.scope.names.lookup x = some .local) (hf2 : X.fn y = true ∨ X.env.scope.names.lookup y = some .local) : PG X (.Tuple [.Name x px, .Name y py] kt pt) ((Tg.two i j).rd X.K) :=
  pg_tup hc (pgs_cons (pg_name hN hi hx hf) (pgs_cons (pg_name hN hj hy hf2) pgs_nil))
/-! ### max, min of a list of ints -/
/-! ### int of a text -/
def fIntA : Ow → List D → R D := fun O xs => match xs with
  | [.str cs] => match PySem.intText? ⟨cs.toArray⟩ with
    | some n => if cs.length ≤ 640 then .ok (.int n) O else .bad
    | none => .bad
  | xs => fInt O xs
theorem call_intT : CallR X (.type "int") (fun xs H Q => ∃ x n, xs = [.str x] ∧ PySem.intText? x = some n ∧ x.length ≤ 640 ∧ Q (.int n) H) := by
  intro pins s σ H xs us Q I r h
  obtain ⟨x, n, rfl, hn, hl, q⟩ := h
  obtain ⟨u, rfl, t, rfl⟩ := vals1 r
  exact PySem.W.KIN.call_text hn hl ⟨.int _, H, I.tok _, ⟨_, rfl⟩, q⟩
def rIntA : List V → Hp → VK → Prop := fun xs H Q => ((∃ i, xs = [.int i] ∧ Q (.int i) H) ∨ ∃ k, xs = [.bl k] ∧ Q (.int (if k then 1 else 0)) H) ∨ ∃ x n, xs = [.str x] ∧ PySem.intText? x = some n ∧ x.length ≤ 640 ∧ Q (.int n) H
theorem call_intA : CallR X (.type "int") rIntA := CallR.or call_int1 call_intT
theorem cd_intA : CallD X Ex rIntA fIntA := by
  intro H hid μ O xs vs Q c d q
  unfold fIntA at q
  split at q
  · rename_i cs
    obtain ⟨v, rfl, dx⟩ := dats1 d
    unfold Dat at dx; subst dx
    split at q
    · rename_i n hn
      obtain ⟨hl, q⟩ := post.ite q
      refine .inr ⟨_, n, rfl, hn, ?_, post.here q c dat_int⟩
      show cs.toArray.size ≤ 640
      simpa using hl
    · exact False.elim q
  · exact .inl (cd_int H hid μ O _ vs Q c d q)
end
end DL

namespace DL
open PySem L2
theorem Callee.self {P : Program} {w : World} {K : PySem.W.Frag} {mg : Str → Option Value} {base : Heap} {k n : Nat} {x : Str} {F : List D → Ow → R D} (c : Callee P w K mg base x k n F) : Callee P w K mg base x k n F := c
section
variable {X : Cx} {Ex : Nat → Hp → Prop} {pos dpos : Pos} {a b c e o i : Expr} {ta tb tc te to ti : DE} {pins : List (Addr × Obj)} {σv : St} {H : Hp} {s : Shared} {hid μ : List Addr} {O : Ow}
/-! ### {}: a dict of its own -/
/-! ### {k: v, ..}[i], ints -/
def tabAt (tab : List (Int × Int)) (i : Int) : Option Int := (tab.find? fun kv => kv.1 == i).map (·.2)
def dTabF (at_ : List (Int × Int) → Int → Option Int) (tab : List (Int × Int)) (t : DE) : DE := fun σ O => (t σ O).bnd fun x O1 => match x with
  | .int i => match at_ tab i with
    | some v => .ok (.int v) O1
    | none => .bad
  | _ => .bad
def dTab : List (Int × Int) → DE → DE := dTabF tabAt
/-! ### a module's dict of ints -/
def entB : List DictEntry → List (Int × Int) → Bool
  | [], [] => true
  | e :: es, (k, v) :: r => (match e.key with | .int i _ => i == k | _ => false) && (e.hash == hashInt k) && (match e.val with | .int i _ => i == v | _ => false) && entB es r
  | _, _ => false
def tabB (o : Obj) (tab : List (Int × Int)) : Bool := (match o.cls with | .type n => n == "dict" | _ => false) && o.dict.isNone && o.slots.isEmpty && decide ((tab.map (·.1)).Nodup) && (match o.data with | .dict es _ => entB es.toList tab | _ => false)
structure GTab (K : PySem.W.Frag) (mg : Str → Option Value) (x : Str) (tab : List (Int × Int)) : Prop where
  ex : ∃ e o, mg x = some (.ref e) ∧ K.lookup e = some o ∧ tabB o tab = true ∧ (e == sysModules) = false
theorem entB_pairs {P : Program} {w : World} : ∀ {es : List DictEntry} {tab : List (Int × Int)}, entB es tab = true → ∃ kvs : List (Int × Value), Pairs (intKind P w) es kvs ∧ (∀ e ∈ es, ∃ k, (intKind P w).is k e.key = true ∧ e.hash = (intKind P w).hash k) ∧ kvs.map (·.1) = tab.map (·.1) ∧
    ∀ i, (valueAt kvs i).isSome = (tabAt tab i).isSome ∧ ∀ v, tabAt tab i = some v → ∃ t, valueAt kvs i = some (.int v t)
  | [], [], _ => ⟨[], .nil, by simp, rfl, fun i => ⟨rfl, fun v h => by cases h⟩⟩
  | [], _ :: _, h => by cases h
  | _ :: _, [], h => by cases h
  | e :: es, (k, v) :: r, h => by
    obtain ⟨hash, key, val⟩ := e
    unfold entB at h
    simp only [Bool.and_eq_true] at h
    obtain ⟨⟨⟨h1, h2⟩, h3⟩, h4⟩ := h
    split at h1
    · rename_i i t
      split at h3
      · rename_i j u
        have h1 : i = k := by simpa using h1
        have h2 : hash = hashInt k := by simpa using h2
        have h3 : j = v := by simpa using h3
        subst h1 h3
        obtain ⟨kvs, p, ks, em, at_⟩ := entB_pairs (P := P) (w := w) h4
        have isk : (intKind P w).is i (.int i t) = true := by show Value.isInt i (.int i t) = true; simp [Value.isInt]
        refine ⟨(i, .int j u) :: kvs, .cons isk rfl p, fun e he => ?_, by simp [em], fun q => ?_⟩
        · rcases List.mem_cons.mp he with rfl | he
          · exact ⟨i, isk, h2⟩
          · exact ks e he
        · unfold valueAt tabAt
          by_cases hq : i = q
          · subst hq
            simp
          · have f1 : (decide ((i, Value.int j u).1 = q)) = false := by simpa using hq
            have f2 : ((i, j).1 == q) = false := by simpa using hq
            rw [List.find?_cons, List.find?_cons, f1, f2]
            exact at_ q
      · cases h3
    · cases h1
theorem gtab_map {P : Program} {w : World} {o : Obj} {tab : List (Int × Int)} (h : tabB o tab = true) : ∃ f : Int → Option Value, (∀ (hp : Heap) (e : Addr), hp.get? e = some o → hp.MapOf (intKind P w) e f) ∧ ∀ i, (f i).isSome = (tabAt tab i).isSome ∧ ∀ v, tabAt tab i = some v → ∃ t, f i = some (.int v t) := by
  obtain ⟨cls, dict, data, slots⟩ := o
  unfold tabB at h
  simp only [Bool.and_eq_true, decide_eq_true_eq] at h
  obtain ⟨⟨⟨⟨h1, h2⟩, h3⟩, h4⟩, h5⟩ := h
  split at h1
  · rename_i n
    have h1 : n = "dict" := by simpa using h1
    split at h5
    · rename_i es ep
      obtain ⟨kvs, p, ks, em, at_⟩ := entB_pairs (P := P) (w := w) h5
      refine ⟨valueAt kvs, fun hp e he => ?_, at_⟩
      refine Heap.DictOf.mapOf (knd := intKind P w) ⟨_, es, ep, he, ⟨?_, ?_, ?_⟩, rfl, ?_, p, by rw [em]; exact h4⟩
      · show Value.type n = _; rw [h1]
      · simpa using h2
      · simpa using h3
      · intro e he
        exact ks e (by simpa using he)
    · cases h5
  · cases h1
theorem gtab_at {x : Str} {tab : List (Int × Int)} (h : GTab X.K X.mg x tab) : ∃ e, X.mg x = some (.ref e) ∧ (e == sysModules) = false ∧ ∃ f : Int → Option Value, (∀ (pins : List (Addr × Obj)) (σv : St) (H : Hp) (s : Shared), L2.Inv X pins σv H s → s.heap.MapOf (intKind X.prog X.w) e f) ∧
    ∀ i, (f i).isSome = (tabAt tab i).isSome ∧ ∀ v, tabAt tab i = some v → ∃ t, f i = some (.int v t) := by
  obtain ⟨e, o, h1, h2, h3, h4⟩ := h.ex
  obtain ⟨f, m, at_⟩ := gtab_map (P := X.prog) (w := X.w) h3
  exact ⟨e, h1, h4, f, fun pins σv H s I => m _ e (I.kIn e o h2), at_⟩
theorem isInt_self (i : Int) (t : Tok) {P : Program} {w : World} : (intKind P w).is i (.int i t) = true := by show Value.isInt i (.int i t) = true; simp [Value.isInt]
theorem pd_gtab {x : Str} {tab : List (Int × Int)} {p : Pos} (h : GTab X.K X.mg x tab) (hg : Gl X x) (hi : PD X Ex i ti) (hs : NoSl i) (hd : (x == ("__debug__" : Str)) = false := by decide) : PD X Ex (.Subscript (.Name x p) i pos) (dTab tab ti) := by
  obtain ⟨e, h1, h4, f, mp, at_⟩ := gtab_at h
  refine ⟨?_⟩
  rintro pins s σv H Q I ⟨hid, μ, σ, O, e1, c1, q⟩
  refine subD_of (T := "dict") PySem.F.slot_dict_getitem.lookup hs (pe_glob (v := .ref e) hg h1 rfl hd pins s σv H (fun v H1 => v = .ref e ∧ H1 = H) I ⟨rfl, rfl⟩ |> fun z => thn z fun u s1 ⟨v, H1, I1, ru, ev, eh⟩ => ?_)
  subst ev eh
  cases ru
  refine thn (hi.out pins s1 σv H1 _ I1 (rd.go e1 c1 q (Q1 := fun y H2 => ∃ hid μ2 O2 d, Cells X.K H2 hid μ2 O2 ∧ Dat X.K H2 hid μ2 d y ∧ postE Ex X.K H2 hid μ2 (match d with | .int i => (match tabAt tab i with | some v => .ok (.int v) O2 | none => .bad) | _ => .bad) Q)
    fun d O2 y H2 μ2 e2 x2 c2 r p2 => ⟨hid, μ2, O2, d, c2, r, p2⟩)) fun u s2 ⟨y, H2, I2, ru, hid, μ2, O2, d, c2, r, p2⟩ => ?_
  have M := mp pins σv H2 s2 I2
  cases d with
  | int j =>
    unfold Dat at r; subst r
    obtain ⟨t, rfl⟩ := ru
    have p2 : postE Ex X.K H2 hid μ2 (match tabAt tab j with | some v => .ok (.int v) O2 | none => .bad) Q := p2
    cases et : tabAt tab j with
    | none => rw [et] at p2; exact False.elim p2
    | some v =>
      rw [et] at p2
      obtain ⟨t', ht⟩ := (at_ j).2 v et
      exact ⟨M.typeIs, wpAny_getItem_of (isInt_self j t) M ht ⟨.int v, H2, I2.tok _, ⟨_, rfl⟩, post.here p2 c2 dat_int⟩⟩
  | _ => exact False.elim p2
def dInTab (neg : Bool) (tab : List (Int × Int)) (t : DE) : DE := fun σ O => (t σ O).bnd fun x O1 => match x with
  | .int i => .ok (.bl (if neg = true then !(tabAt tab i).isSome else (tabAt tab i).isSome)) O1
  | _ => .bad
theorem pc_inTab {x : Str} {tab : List (Int × Int)} {p : Pos} (neg : Bool) (h : GTab X.K X.mg x tab) (hg : Gl X x) (hi : PD X Ex i ti) (hd : (x == ("__debug__" : Str)) = false := by decide) : PC X (if neg = true then .NotIn else .In) i (.Name x p) (rd Ex X.K (dInTab neg tab ti)) := by
  obtain ⟨e, h1, h4, f, mp, at_⟩ := gtab_at h
  rintro pins s σv H Q I ⟨hid, μ, σ, O, e1, c1, q⟩
  refine thn (hi.out pins s σv H _ I (rd.go e1 c1 q (Q1 := fun y H2 => ∃ hid μ2 O2 d, Cells X.K H2 hid μ2 O2 ∧ Dat X.K H2 hid μ2 d y ∧ postE Ex X.K H2 hid μ2 (match d with | .int i => .ok (.bl (if neg = true then !(tabAt tab i).isSome else (tabAt tab i).isSome)) O2 | _ => .bad) Q)
    fun d O2 y H2 μ2 e2 x2 c2 r p2 => ⟨hid, μ2, O2, d, c2, r, p2⟩)) fun u s2 ⟨y, H2, I2, ru, hid, μ2, O2, d, c2, r, p2⟩ => ?_
  refine thn (pe_glob (v := .ref e) hg h1 rfl hd pins s2 σv H2 (fun v H1 => v = .ref e ∧ H1 = H2) I2 ⟨rfl, rfl⟩) fun w s3 ⟨v, H3, I3, rw', ev, eh⟩ => ?_
  subst ev eh
  cases rw'
  have M := mp pins σv H3 s3 I3
  cases d with
  | int j =>
    unfold Dat at r; subst r
    obtain ⟨t, rfl⟩ := ru
    have p2 : postE Ex X.K H3 hid μ2 (.ok (.bl (if neg = true then !(tabAt tab j).isSome else (tabAt tab j).isSome)) O2) Q := p2
    rw [← (at_ j).1] at p2
    cases neg with
    | false => exact wpAny_in_of (isInt_self j t) h4 M ⟨.bl _, H3, I3.tok _, rfl, post.here p2 c2 dat_bl⟩
    | true => exact wpAny_notIn_of (isInt_self j t) h4 M ⟨.bl _, H3, I3.tok _, rfl, post.here p2 c2 dat_bl⟩
  | _ => exact False.elim p2
theorem tB_of {td : DE} {hid μ : List Addr} {σ : Sg} {O : Ow} {σv : St} {H : Hp} {Q : Bool → Hp → Prop} (e1 : EnvOk X.K H hid μ σ σv) (c1 : Cells X.K H hid μ O) (q : postT Ex X.K H hid μ (dTst td σ O) Q) : tB (rd Ex X.K td) σv H Q :=
  tTest_of (X := X) (t := rd Ex X.K td) (td := td) (fun hid μ σ O σv H Q e1 c1 q => ⟨hid, μ, σ, O, e1, c1, q⟩) hid μ σ O σv H Q e1 c1 q
theorem pdt_nintab {x : Str} {tab : List (Int × Int)} {p : Pos} (h : GTab X.K X.mg x tab) (hg : Gl X x) (hi : PD X Ex i ti) (hd : (x == ("__debug__" : Str)) = false := by decide) (hm : behindInMarks .NotIn (.Name x p) = false := by rfl) : PDT X Ex (.Compare i [.NotIn] [.Name x p] pos) (dTst (dInTab true tab ti)) :=
  pdt_of (pt_cmp (pc_inTab true h hg hi hd) hm) fun hid μ σ O σv H Q e1 c1 q => tB_of e1 c1 q
end
end DL

namespace DL
open PySem L2 PyProof.Rows
/-! ### sorted(..) of a list of texts that is in order already, however long -/
section
variable {prog : Program} {w : World} {A : Around} {E : Value → Shared → Prop} {s : Shared} {a₀ : Array Keyed} {κ : PyProof.Rows.KeyKind}
end
section
variable {X : Cx} {Ex : Nat → Hp → Prop} {H : Hp} {hid μ : List Addr}
theorem bt_len : bootBuiltins "len" = some (.builtin "len") := by boot_by_name
theorem bt_all : bootBuiltins "all" = some (.builtin "all") := by boot_by_name
theorem bt_any : bootBuiltins "any" = some (.builtin "any") := by boot_by_name
theorem bt_int : bootBuiltins "int" = some (.type "int") := by boot_by_name
theorem bt_str : bootBuiltins "str" = some (.type "str") := by boot_by_name
theorem bt_tuple : bootBuiltins "tuple" = some (.type "tuple") := by boot_by_name
theorem bt_max : bootBuiltins "max" = some (.builtin "max") := by boot_by_name
theorem bt_min : bootBuiltins "min" = some (.builtin "min") := by boot_by_name
theorem bt_isinstance : bootBuiltins "isinstance" = some (.builtin "isinstance") := by boot_by_name
theorem bt_bool : bootBuiltins "bool" = some (.type "bool") := by boot_by_name
end
/-! ### an argument that is no star -/
theorem se_list {es r : List Expr} {pos : Pos} {env : Env} : starEach (.List es pos :: r) env = (false, eval (.List es pos) env) :: starEach r env := rfl
theorem se_comp {e : Expr} {gs} {sc : Scope} {r : List Expr} {pos : Pos} {env : Env} : starEach (.ListComp e gs sc pos :: r) env = (false, eval (.ListComp e gs sc pos) env) :: starEach r env := rfl
theorem se_call {f : Expr} {as kws} {r : List Expr} {pos : Pos} {env : Env} : starEach (.Call f as kws pos :: r) env = (false, eval (.Call f as kws pos) env) :: starEach r env := rfl
theorem se_sub {f g : Expr} {r : List Expr} {pos : Pos} {env : Env} : starEach (.Subscript f g pos :: r) env = (false, eval (.Subscript f g pos) env) :: starEach r env := rfl
theorem se_bin {f g : Expr} {o : Operator} {r : List Expr} {pos : Pos} {env : Env} : starEach (.BinOp f o g pos :: r) env = (false, eval (.BinOp f o g pos) env) :: starEach r env := rfl
theorem se_name {f : Str} {r : List Expr} {pos : Pos} {env : Env} : starEach (.Name f pos :: r) env = (false, eval (.Name f pos) env) :: starEach r env := rfl
theorem se_const {f} {k} {r : List Expr} {pos : Pos} {env : Env} : starEach (.Constant f k pos :: r) env = (false, eval (.Constant f k pos) env) :: starEach r env := rfl
theorem se_cmp {f : Expr} {os fs} {r : List Expr} {pos : Pos} {env : Env} : starEach (.Compare f os fs pos :: r) env = (false, eval (.Compare f os fs pos) env) :: starEach r env := rfl
/-! ### the law's own def, and its head -/
theorem fnD {P : Program} {w : World} {K : PySem.W.Frag} {mg : Str → Option Value} {base : Heap} {k : Nat} {x : Str} {st : Stmt} {N ps : List Str} {t : DS} {f : Addr} {fd : FuncData} (F : L2.Fun K x x st f fd) (S : FnScope N ps (defScope st))
    (hbody : ∀ (cdv : Value) (A : Around) (outer : List Env) (s : Shared) (H : Hp) (E : XK), Room k (A.deeper (PyProof.Rows.envOfC x (defScope st) s.heap.objs.size f cdv)) → PDSs (cx0 P w K mg base N x (defScope st) f cdv A outer s H E) Ex0 (defBody st) t) :
    FnOk P w K mg base CX0 (k + 1) f fd ps (DSp K Ec0 ps.length (runF N.length t)) := by
  obtain ⟨oc, od, kV, doc, pm, an, cdv, ct, osl, rfl, lk, hcd⟩ := F.ex
  exact fn_ok lk hcd S fun A outer s H E hr => hbody cdv A outer s H E hr
/-- the law's promise from its data -/
theorem sp_of {K : PySem.W.Frag} {F : List D → Ow → R D} {H : Hp} {a : Addr} {ns : List Int} (h : ∃ O, F [.lst (ns.map .int)] [] = .ok (.bl true) O) (sq : SqL K H a (ns.map V.int)) : DSp K Ec0 1 F [.ref a] H (fun v _ => v = .bl true) fun _ _ _ => False := by
  obtain ⟨O, h⟩ := h
  have dn : ∀ (l : List Int), Dats K H [] [] (l.map D.int) (l.map V.int) := fun l => by
    induction l with
    | nil => exact .nil
    | cons x r ih => exact .cons dat_int ih
  refine ⟨rfl, [], [], [.lst (ns.map .int)], [], .cons ?_ .nil, ⟨rfl, by simp, by simp, by simp, fun k a e => by simp at e⟩, ?_⟩
  · unfold Dat
    exact ⟨a, _, rfl, sq.imp (fun z => ⟨z, by simp, by simp⟩) id, dn ns⟩
  · rw [h]
    intro v H' μ' _ _ r
    unfold Dat at r
    exact r
theorem walkD' {l : PySem.W.OpenLaw} {q : Program} {loose : List Str} {XP : (Str → Option Value) → Heap → Prop} {YP : World → Heap → Prop} {d : DefRec} {K : Params → PySem.W.Frag} {k : Nat} {x : Str} {F : List D → Ow → R D} (hn : l.most = some 63) (hdf : d.params.defaults = []) (hr : Room k callerA)
    (hY : ∀ (w : World) (h : Heap), YP w h → (K w.params).In h)
    (hF : ∀ (w : World) (mg : Str → Option Value) (fa : Addr) (h : Heap), (K w.params).In h → h.Ns mainGlobals mg → mg d.name = some (.ref fa) →
      ∃ fd : FuncData, (∀ (s : Shared) (u : Value), BindsTo s fd ⟨[u], []⟩ [(x, u)]) ∧ ∀ base : Heap, (K w.params).In base → base.Ns mainGlobals mg → FnOk l.prog w (K w.params) mg base CX0 k fa fd [x] (DSp (K w.params) Ec0 1 F))
    (pure_ : ∀ ns : List Int, ns.length ≤ 63 → ∃ O, F [.lst (ns.map .int)] [] = .ok (.bl true) O) :
    PySem.W.WalkO q loose XP YP l.row.toRowW d [] (fun f vs => PySem.call f vs) :=
  L2.walk_of (n := 63) (k := k) (x := x) (CX := fun _ => CX0) (sp := fun w => DSp (K w.params) Ec0 1 F) hn (by decide) hdf hr hY hF (fun w H a ns hl _ hS => sp_of (pure_ ns hl) hS) fun _ _ _ _ _ z => z
end DL

namespace DL
/-! ### data alone: walks -/
theorem get_mid {α : Type} (pre ds : List α) (d : α) : (pre ++ d :: ds)[pre.length]? = some d := by simp
theorem walkD_val {step : D → Ow → List D → R (List D)} {O : Ow} {g : D → List D} : ∀ (ds pre acc : List D) (f : Nat), ds.length ≤ f → (∀ d ∈ ds, ∀ acc : List D, acc.length < 100000 → step d O acc = .ok (acc ++ g d) O) → acc.length + (ds.flatMap g).length + ds.length < 100000 →
    walkD (.val (pre ++ ds)) step f pre.length O acc = .ok (acc ++ ds.flatMap g) O
  | [], pre, acc, f, _, _, _ => by
    cases f <;> (unfold walkD; simp [Src.get])
  | d :: ds, pre, acc, 0, h, _, _ => by simp at h
  | d :: ds, pre, acc, f + 1, h, hs, hl => by
    unfold walkD
    have e : Src.get (.val (pre ++ d :: ds)) O pre.length = some d := get_mid pre ds d
    rw [e]
    simp only [List.flatMap_cons, List.length_append, List.length_cons] at hl
    show ((step d O acc).bnd fun acc' O' => walkD (.val (pre ++ d :: ds)) step f (pre.length + 1) O' acc') = _
    rw [hs d List.mem_cons_self acc (by omega)]
    show walkD (.val (pre ++ d :: ds)) step f (pre.length + 1) O (acc ++ g d) = _
    have := walkD_val ds (pre ++ [d]) (acc ++ g d) f (by simpa using h) (fun d' h' => hs d' (List.mem_cons_of_mem _ h')) (by rw [List.length_append]; omega)
    rw [List.append_assoc, List.singleton_append, List.length_append, List.length_singleton] at this
    rw [this]; simp
/-- one clause, one name, by value -/
theorem dComp_one {ext : Nat} {it0 : DI} {i : Nat} {ts : List DT} {te : DE} {σ : Sg} {O : Ow} {ds : List D} {p : D → Bool} {e : D → D} (hi : it0 σ O = .ok (.val ds) O) (hl : ds.length < 50000)
    (hp : ∀ d ∈ ds, dAll ts ((clr (clr (σ ++ List.replicate ext none) [i]) [i]).set i (some d)) O = .ok (p d) O) (he : ∀ d ∈ ds, p d = true → te ((clr (clr (σ ++ List.replicate ext none) [i]) [i]).set i (some d)) O = .ok (e d) O) (o : Bool) :
    dComp o ext it0 (.one i) ts [] te σ O = outC o (.ok ((ds.filter p).map e) O) := by
  unfold dComp compAll
  rw [hi]
  show outC o (noX (walkD (.val ds) _ ds.length 0 O [])) = _
  have step : ∀ d ∈ ds, ∀ acc : List D, acc.length < 100000 → stepD ⟨it0, .one i, ts⟩ [] te (clr (σ ++ List.replicate ext none) (slotsOf [⟨it0, .one i, ts⟩])) d O acc = .ok (acc ++ (if p d = true then [e d] else [])) O := by
    intro d hd acc ha
    show (match Tg.put (.one i) d (clr (clr (σ ++ List.replicate ext none) [i]) [i]) with | some σ1 => (dAll ts σ1 O).bnd fun b O3 => if b = true then compD [] te σ1 O3 acc else .ok acc O3 | none => .bad) = _
    show (dAll ts ((clr (clr (σ ++ List.replicate ext none) [i]) [i]).set i (some d)) O).bnd _ = _
    rw [hp d hd]
    show (if p d = true then compD [] te _ O acc else .ok acc O) = _
    by_cases hpd : p d = true
    · rw [if_pos hpd, if_pos hpd]
      unfold compD
      rw [he d hd hpd]
      show (if acc.length < 100000 then _ else _) = _
      rw [if_pos ha]
    · rw [if_neg hpd, if_neg hpd]; simp
  have hb : ∀ l : List D, (l.flatMap fun d => if p d = true then [e d] else []) = (l.filter p).map e := by
    intro l
    induction l with
    | nil => rfl
    | cons x l ih =>
      rw [List.flatMap_cons, ih, List.filter_cons]
      by_cases hx : p x = true
      · rw [if_pos hx, if_pos hx]; rfl
      · rw [if_neg hx, if_neg hx]; rfl
  have hlen : ((ds.filter p).map e).length ≤ ds.length := by rw [List.length_map]; exact List.length_filter_le _ _
  have w := walkD_val (O := O) (g := fun d => if p d = true then [e d] else []) ds [] [] ds.length (Nat.le_refl _) step (by rw [hb]; simp at hlen ⊢; omega)
  rw [List.nil_append, hb, List.nil_append] at w
  have w' : walkD (.val ds) (stepD ⟨it0, .one i, ts⟩ [] te (clr (σ ++ List.replicate ext none) (slotsOf [⟨it0, .one i, ts⟩]))) ds.length 0 O [] = .ok ((ds.filter p).map e) O := w
  rw [w']; rfl
/-! ### loops -/
theorem loopS_inv {ds : List D} {step : D → Sg → Ow → RS} (I : Nat → Sg → Ow → Prop) (h : ∀ i σ O d, I i σ O → ds[i]? = some d → ∃ σ' O', step d σ O = .nx σ' O' ∧ I (i + 1) σ' O') :
    ∀ (f i : Nat) (σ : Sg) (O : Ow), I i σ O → ds.length ≤ i + f → i ≤ ds.length → ∃ σ' O', loopS (.val ds) step f i σ O = .nx σ' O' ∧ I ds.length σ' O'
  | 0, i, σ, O, hI, h1, h2 => by
    have : i = ds.length := by omega
    subst this
    refine ⟨σ, O, ?_, hI⟩
    unfold loopS
    have e : Src.get (.val ds) O ds.length = none := by simp [Src.get]
    rw [e]
  | f + 1, i, σ, O, hI, h1, h2 => by
    unfold loopS
    have eg : Src.get (.val ds) O i = ds[i]? := rfl
    rw [eg]
    cases e : ds[i]? with
    | none =>
      have : i = ds.length := by have := List.getElem?_eq_none_iff.mp e; omega
      subst this
      exact ⟨σ, O, rfl, hI⟩
    | some d =>
      obtain ⟨σ', O', e1, e2⟩ := h i σ O d hI e
      dsimp only
      rw [e1]
      exact loopS_inv I h f (i + 1) σ' O' e2 (by omega) (by have := (List.getElem?_eq_some_iff.mp e).1; omega)
/-- a walk that may change the cells -/
theorem walkD_inv {ds : List D} {step : D → Ow → List D → R (List D)} (I : Nat → Ow → List D → Prop) (h : ∀ i O acc d, I i O acc → ds[i]? = some d → ∃ acc' O', step d O acc = .ok acc' O' ∧ I (i + 1) O' acc') :
    ∀ (f i : Nat) (O : Ow) (acc : List D), I i O acc → ds.length ≤ i + f → i ≤ ds.length → ∃ acc' O', walkD (.val ds) step f i O acc = .ok acc' O' ∧ I ds.length O' acc'
  | 0, i, O, acc, hI, h1, h2 => by
    have : i = ds.length := by omega
    subst this
    refine ⟨acc, O, ?_, hI⟩
    unfold walkD
    have e : Src.get (.val ds) O ds.length = none := by simp [Src.get]
    rw [e]
  | f + 1, i, O, acc, hI, h1, h2 => by
    unfold walkD
    have eg : Src.get (.val ds) O i = ds[i]? := rfl
    rw [eg]
    cases e : ds[i]? with
    | none =>
      have : i = ds.length := by have := List.getElem?_eq_none_iff.mp e; omega
      subst this
      exact ⟨acc, O, rfl, hI⟩
    | some d =>
      obtain ⟨acc', O', e1, e2⟩ := h i O acc d hI e
      dsimp only
      rw [e1]
      exact walkD_inv I h f (i + 1) O' acc' e2 (by omega) (by have := (List.getElem?_eq_some_iff.mp e).1; omega)
/-! ### cells that hold no lists by value -/
def flatD (n : Nat) : D → Bool
  | .own k => decide (k < n)
  | .lst _ => false
  | .tup _ => false
  | _ => true
def Flat (O : Ow) : Prop := ∀ c ∈ O, ∀ d ∈ c, flatD O.length d = true
theorem frz_flat {O : Ow} {n f : Nat} {d : D} (h : flatD n d = true) : frz O n f d = some d := by
  cases d with
  | own k =>
    have h : k < n := by simpa [flatD] using h
    cases f <;> (unfold frz; dsimp only; rw [if_pos h])
  | lst ds => cases h
  | tup ds => cases h
  | _ => cases f <;> rfl
theorem mapO_id {α : Type} {f : α → Option α} : ∀ {l : List α}, (∀ x ∈ l, f x = some x) → mapO f l = some l
  | [], _ => rfl
  | x :: l, h => by
    unfold mapO
    rw [h x List.mem_cons_self, mapO_id fun y hy => h y (List.mem_cons_of_mem _ hy)]
theorem frzR_flat {O' : Ow} {d : D} {cs : List D} (hO : ∀ c ∈ O', ∀ d ∈ c, flatD O'.length d = true) (X : Ow) (h : frz (O' ++ X) O'.length 8 d = some (.lst cs)) : frzR O'.length (.ok d (O' ++ X)) = .ok (.lst cs) O' := by
  unfold frzR
  dsimp only
  rw [h]
  have : (O' ++ X).take O'.length = O' := by simp
  rw [this, mapO_id fun c hc => mapO_id fun d hd => frz_flat (hO c hc d hd)]
/-! ### reading terms -/
section
variable {σ σ' : Sg} {O O1 O2 O3 : Ow} {t u ta tb : DE} {tA : DA} {x y : D} {b : Bool} {ds : List D}
theorem dCons1 (h : t σ O = .ok x O1) : dCons t dNil σ O = .ok [x] O1 := by show ((t σ O).bnd _) = _; rw [h]; rfl
theorem dCons2 (h1 : t σ O = .ok x O1) (h2 : u σ O1 = .ok y O2) : dCons t (dCons u dNil) σ O = .ok [x, y] O2 := by
  show ((t σ O).bnd _) = _
  rw [h1]
  show ((dCons u dNil σ O1).bnd _) = _
  rw [dCons1 h2]; rfl
theorem dCons_eq (h1 : t σ O = .ok x O1) (h2 : tA σ O1 = .ok ds O2) : dCons t tA σ O = .ok (x :: ds) O2 := by
  show ((t σ O).bnd _) = _
  rw [h1]
  show ((tA σ O1).bnd _) = _
  rw [h2]; rfl
theorem dFn_eq {n : Nat} {F : List D → Ow → R D} (h : tA σ O = .ok ds O1) (hn : ds.length = n) : dFn n F tA σ O = F ds O1 := by show ((tA σ O).bnd _) = _; rw [h]; show (if ds.length = n then _ else _) = _; rw [if_pos hn]
theorem dCall_eq {f : Ow → List D → R D} (h : tA σ O = .ok ds O1) : dCall f tA σ O = f O1 ds := by show ((tA σ O).bnd _) = _; rw [h]; rfl
theorem dOp_eq {f : Ow → D → D → R D} (h1 : ta σ O = .ok x O1) (h2 : tb σ O1 = .ok y O2) : dOp f ta tb σ O = f O2 x y := by
  show ((ta σ O).bnd _) = _
  rw [h1]
  show ((tb σ O1).bnd _) = _
  rw [h2]; rfl
theorem dTst_eq (h : t σ O = .ok (.bl b) O1) : dTst t σ O = .ok b O1 := by show ((t σ O).bnd _) = _; rw [h]; rfl
theorem dTru_bl (h : t σ O = .ok (.bl b) O1) : dTru t σ O = .ok b O1 := by show ((t σ O).bnd _) = _; rw [h]; rfl
theorem dNotT_eq {c : DT} (h : c σ O = .ok b O1) : dNotT c σ O = .ok (!b) O1 := by show ((c σ O).bnd _) = _; rw [h]; rfl
theorem dIt_lst (h : t σ O = .ok (.lst ds) O1) : dIt t σ O = .ok (.val ds) O1 := by show ((t σ O).bnd _) = _; rw [h]; rfl
theorem sSet_eq {i : Nat} (h : t σ O = .ok x O1) : sSet i t σ O = .nx (σ.set i (some x)) O1 := by show ((t σ O).bnS _) = _; rw [h]; rfl
theorem sRet_eq (h : t σ O = .ok x O1) : sRet t σ O = .rt x O1 := by show ((t σ O).bnS _) = _; rw [h]; rfl
theorem sDrop_eq (h : t σ O = .ok x O1) : sDrop t σ O = .nx σ O1 := by show ((t σ O).bnS _) = _; rw [h]; rfl
theorem sIf_eq {c : DT} {a d : DS} (h : c σ O = .ok b O1) : sIf c a d σ O = if b = true then a σ O1 else d σ O1 := by show ((c σ O).bnS _) = _; rw [h]; rfl
theorem sSeq_nx {a d : DS} (h : a σ O = .nx σ' O1) : sSeq a d σ O = d σ' O1 := by show (match a σ O with | .nx σ' O' => _ | r => r) = _; rw [h]
theorem sSeq_rt {a d : DS} (h : a σ O = .rt x O1) : sSeq a d σ O = .rt x O1 := by show (match a σ O with | .nx σ' O' => _ | r => r) = _; rw [h]
theorem sFor_eq {it : DI} {g : Tg} {body : DS} {src : Src} (h : it σ O = .ok src O1) : sFor it g body σ O = loopS src (fun d σ O => match g.put d σ with | some σ' => body σ' O | none => .bad) (src.size O1) 0 σ O1 := by show ((it σ O).bnS _) = _; rw [h]; rfl
theorem dRng1_eq {n : Nat} (h : tA σ O = .ok [.int (n : Nat)] O1) (hn : n < 100000) : dRng1 tA σ O = .ok (.val ((List.range n).map fun (i : Nat) => D.int (i : Int))) O1 := by
  have hc : -1000000 ≤ ((n : Nat) : Int) ∧ ((n : Nat) : Int) ≤ 1000000 := by constructor <;> omega
  unfold dRng1
  rw [h]
  dsimp only [R.bnd]
  rw [if_pos hc]
  unfold rngSrc
  have e2 : (((n : Nat) : Int) - 0).toNat = n := by omega
  rw [e2]
  congr 2
  refine List.map_congr_left fun i _ => ?_
  rw [Int.zero_add]
theorem fLen_str {cs : List Nat} (h : cs.length ≤ 100000) : fLen O [.str cs] = .ok (.int cs.length) O := by
  show (if cs.length ≤ 100000 then R.ok (D.int cs.length) O else R.bad) = _
  rw [if_pos h]
theorem fIx_str {cs : List Nat} {i : Nat} (h : cs.length ≤ 100000) (hi : i < cs.length) : fIx O (.str cs) (.int (i : Int)) = .ok (.str [cs[i]]) O := by
  show (if cs.length ≤ 100000 then (match L2.atI cs (i : Int) with | some ch => R.ok (D.str [ch]) O | none => R.bad) else R.bad) = _
  rw [if_pos h, L2.atI_nat (List.getElem?_eq_getElem hi)]
theorem fIx_tup {i : Nat} (hi : i < ds.length) : fIx O (.tup ds) (.int (i : Int)) = .ok ds[i] O := by
  show (match L2.atI ds (i : Int) with | some d => R.ok d O | none => R.bad) = _
  rw [L2.atI_nat (List.getElem?_eq_getElem hi)]
theorem fIx_lst {i : Nat} (hi : i < ds.length) : fIx O (.lst ds) (.int (i : Int)) = .ok ds[i] O := by
  show (match L2.atI ds (i : Int) with | some d => R.ok d O | none => R.bad) = _
  rw [L2.atI_nat (List.getElem?_eq_getElem hi)]
end
theorem mapO_int (O : Ow) (n : Nat) : ∀ l : List Int, mapO (toPy O n) (l.map D.int) = some (l.map PySem.PyData.int)
  | [] => rfl
  | x :: l => by
    have e : toPy O n (.int x) = some (.int x) := by cases n <;> rfl
    show mapO (toPy O n) (D.int x :: l.map D.int) = _
    unfold mapO
    rw [e, mapO_int O n l]; rfl
theorem eq_nil (O : Ow) (l : List Int) : fPy eqF O (.lst (l.map D.int)) (.lst []) = .ok (.bl l.isEmpty) O := by
  unfold fPy py
  have e : toPy O 8 (.lst (l.map D.int)) = some (.list (l.map PySem.PyData.int)) := by
    show (mapO (toPy O 7) (l.map D.int)).map PySem.PyData.list = _
    rw [mapO_int]; rfl
  rw [e]
  cases l <;> rfl
end DL

namespace DL
/-! ### comprehensions over lists of anything -/
theorem walkD_of {α : Type} {src : Src} {step : D → Ow → List D → R (List D)} {O : Ow} {inj : α → D} {g : α → List D} {all : List α} (hg : ∀ i, src.get O i = (all.map inj)[i]?) : ∀ (ds pre : List α) (acc : List D) (f : Nat), all = pre ++ ds → ds.length ≤ f →
    (∀ a ∈ ds, ∀ acc : List D, acc.length < 100000 → step (inj a) O acc = .ok (acc ++ g a) O) → acc.length + (ds.flatMap g).length + ds.length < 100000 → walkD src step f pre.length O acc = .ok (acc ++ ds.flatMap g) O
  | [], pre, acc, f, ha, _, _, _ => by
    have e : src.get O pre.length = none := by rw [hg, ha]; simp
    cases f <;> (unfold walkD; rw [e]; simp)
  | d :: ds, pre, acc, 0, _, h, _, _ => by simp at h
  | d :: ds, pre, acc, f + 1, ha, h, hs, hl => by
    unfold walkD
    have e : src.get O pre.length = some (inj d) := by rw [hg, ha]; simp
    rw [e]
    simp only [List.flatMap_cons, List.length_append, List.length_cons] at hl
    show ((step (inj d) O acc).bnd fun acc' O' => walkD src step f (pre.length + 1) O' acc') = _
    rw [hs d List.mem_cons_self acc (by omega)]
    show walkD src step f (pre.length + 1) O (acc ++ g d) = _
    have := walkD_of hg ds (pre ++ [d]) (acc ++ g d) f (by rw [ha]; simp) (by simpa using h) (fun d' h' => hs d' (List.mem_cons_of_mem _ h')) (by rw [List.length_append]; omega)
    rw [List.length_append, List.length_singleton] at this
    rw [this]; simp
theorem flat_filter {α β : Type} (p : α → Bool) (e : α → β) : ∀ l : List α, (l.flatMap fun d => if p d = true then [e d] else []) = (l.filter p).map e
  | [] => rfl
  | x :: l => by
    rw [List.flatMap_cons, flat_filter p e l, List.filter_cons]
    by_cases hx : p x = true
    · rw [if_pos hx, if_pos hx]; rfl
    · rw [if_neg hx, if_neg hx]; rfl
theorem comp_src {α : Type} {ext : Nat} {it0 : DI} {g : Tg} {ts : List DT} {te : DE} {σ : Sg} {O O0 : Ow} {src : Src} {l : List α} {inj : α → D} {p : α → Bool} {e : α → D} {τ : α → Sg} {o : Bool} (hi : it0 σ O0 = .ok src O) (hg : ∀ i, src.get O i = (l.map inj)[i]?) (hsz : src.size O = l.length) (hl : l.length < 50000)
    (hτ : ∀ a ∈ l, g.put (inj a) (clr (clr (σ ++ List.replicate ext none) (g.slots ++ [])) (g.slots ++ [])) = some (τ a)) (hp : ∀ a ∈ l, dAll ts (τ a) O = .ok (p a) O) (he : ∀ a ∈ l, p a = true → te (τ a) O = .ok (e a) O) :
    dComp o ext it0 g ts [] te σ O0 = outC o (.ok ((l.filter p).map e) O) := by
  unfold dComp compAll
  rw [hi]
  show outC o (noX (walkD src _ (src.size O) 0 O [])) = _
  have step : ∀ a ∈ l, ∀ acc : List D, acc.length < 100000 → stepD ⟨it0, g, ts⟩ [] te (clr (σ ++ List.replicate ext none) (slotsOf [⟨it0, g, ts⟩])) (inj a) O acc = .ok (acc ++ (if p a = true then [e a] else [])) O := by
    intro a ha acc hacc
    show (match g.put (inj a) (clr (clr (σ ++ List.replicate ext none) (g.slots ++ [])) (g.slots ++ [])) with | some σ1 => (dAll ts σ1 O).bnd fun b O3 => if b = true then compD [] te σ1 O3 acc else .ok acc O3 | none => .bad) = _
    rw [hτ a ha]
    show (dAll ts (τ a) O).bnd _ = _
    rw [hp a ha]
    show (if p a = true then compD [] te _ O acc else .ok acc O) = _
    by_cases hpd : p a = true
    · rw [if_pos hpd, if_pos hpd]
      unfold compD
      rw [he a ha hpd]
      show (if acc.length < 100000 then _ else _) = _
      rw [if_pos hacc]
    · rw [if_neg hpd, if_neg hpd]; simp
  have hlen : ((l.filter p).map e).length ≤ l.length := by rw [List.length_map]; exact List.length_filter_le _ _
  have w := walkD_of (O := O) (inj := inj) (g := fun d => if p d = true then [e d] else []) hg l [] [] l.length rfl (Nat.le_refl _) step (by rw [flat_filter]; simp at hlen ⊢; omega)
  rw [flat_filter, List.nil_append] at w
  have w' : walkD src (stepD ⟨it0, g, ts⟩ [] te (clr (σ ++ List.replicate ext none) (slotsOf [⟨it0, g, ts⟩]))) (src.size O) 0 O [] = .ok ((l.filter p).map e) O := by rw [hsz]; exact w
  rw [w']; rfl
section
variable {α : Type} {ext : Nat} {it0 : DI} {i : Nat} {t : DT} {te : DE} {σ : Sg} {O O0 : Ow} {l : List α} {inj : α → D} {p : α → Bool} {e : α → D} {τ : α → Sg} {o : Bool}
theorem dAll_one {σ : Sg} {O : Ow} {b : Bool} (h : t σ O = .ok b O) : dAll [t] σ O = .ok b O := by
  show ((t σ O).bnd _) = _
  rw [h]; cases b <;> rfl
/-- [e for x in l if p] -/
theorem comp1 (hi : it0 σ O0 = .ok (.val (l.map inj)) O) (hl : l.length < 50000) (hτ : ∀ a, (clr (clr (σ ++ List.replicate ext none) [i]) [i]).set i (some (inj a)) = τ a) (hp : ∀ a ∈ l, t (τ a) O = .ok (p a) O) (he : ∀ a ∈ l, p a = true → te (τ a) O = .ok (e a) O) :
    dComp o ext it0 (.one i) [t] [] te σ O0 = outC o (.ok ((l.filter p).map e) O) :=
  comp_src (g := .one i) hi (fun _ => rfl) (by show (l.map inj).length = _; simp) hl (fun a _ => congrArg some (hτ a)) (fun a ha => dAll_one (hp a ha)) he
/-- [e for x in l] -/
theorem comp0 (hi : it0 σ O0 = .ok (.val (l.map inj)) O) (hl : l.length < 50000) (hτ : ∀ a, (clr (clr (σ ++ List.replicate ext none) [i]) [i]).set i (some (inj a)) = τ a) (he : ∀ a ∈ l, te (τ a) O = .ok (e a) O) :
    dComp o ext it0 (.one i) [] [] te σ O0 = outC o (.ok (l.map e) O) := by
  have := comp_src (o := o) (g := .one i) (ts := []) (p := fun _ => true) (te := te) hi (fun _ => rfl) (by show (l.map inj).length = _; simp) hl (fun a _ => congrArg some (hτ a)) (fun a ha => rfl) fun a ha _ => he a ha
  rw [this, List.filter_eq_self.mpr (fun _ _ => rfl)]
end
/-- for x in l, whatever the cells -/
theorem for_of {α : Type} {it : DI} {i : Nat} {body : DS} {σ : Sg} {O0 O : Ow} {l : List α} {inj : α → D} (hi : it σ O0 = .ok (.val (l.map inj)) O) (I : Nat → Sg → Ow → Prop) (h : ∀ (k : Nat) a σ O, l[k]? = some a → I k σ O → ∃ σ' O', body (σ.set i (some (inj a))) O = .nx σ' O' ∧ I (k + 1) σ' O') (h0 : I 0 σ O) :
    ∃ σ' O', sFor it (.one i) body σ O0 = .nx σ' O' ∧ I l.length σ' O' := by
  obtain ⟨σ', O', l1, l2⟩ := loopS_inv (ds := l.map inj) (step := fun d σ O => match Tg.put (.one i) d σ with | some σ' => body σ' O | none => .bad) I (fun j σ O d hI hd => by
    rw [List.getElem?_map] at hd
    cases e : l[j]? with
    | none => rw [e] at hd; cases hd
    | some a =>
      rw [e] at hd; cases hd
      exact h j a σ O e hI) (l.map inj).length 0 σ O h0 (by simp) (Nat.zero_le _)
  rw [List.length_map] at l2
  exact ⟨σ', O', (sFor_eq hi).trans l1, l2⟩
theorem bls_map' : ∀ l : List Bool, bls (l.map D.bl) = some l
  | [] => rfl
  | x :: l => by
    show (bls (l.map D.bl)).map (x :: ·) = _
    rw [bls_map' l]; rfl
theorem fAny_map {α : Type} (O : Ow) (l : List α) (p : α → Bool) : fAny O [.lst (l.map fun a => D.bl (p a))] = .ok (.bl (l.any p)) O := by
  show (match bls (l.map fun a => D.bl (p a)) with | some bs => R.ok (D.bl (bs.any id)) O | none => R.bad) = _
  have : (l.map fun a => D.bl (p a)) = (l.map p).map D.bl := by rw [List.map_map]; rfl
  rw [this, bls_map']
  show R.ok (D.bl _) O = _
  rw [List.any_map]; rfl
theorem fAll_map' {α : Type} (O : Ow) (l : List α) (p : α → Bool) : fAll O [.lst (l.map fun a => D.bl (p a))] = .ok (.bl (l.all p)) O := by
  show (match bls (l.map fun a => D.bl (p a)) with | some bs => R.ok (D.bl (bs.all id)) O | none => R.bad) = _
  have : (l.map fun a => D.bl (p a)) = (l.map p).map D.bl := by rw [List.map_map]; rfl
  rw [this, bls_map']
  show R.ok (D.bl _) O = _
  rw [List.all_map]; rfl
end DL

namespace DL
open PySem L2
/-! ### an exception on its way: its object, and the head of its traceback; both younger than h0, neither tracked -/
structure XAt (h0 : Heap) (H : Hp) (h : Heap) (a : Addr) (C : Value) : Prop where
  ex : ∃ oe vs, h.get? a = some oe ∧ (oe.cls = C ∧ oe.dict = none) ∧ oe.data = .fields vs ∧ 1 < vs.size ∧ (vs[1]? = some .none ∨ ∃ T oT ts, vs[1]? = some (.ref T) ∧ T ≠ a ∧ h0.get? T = none ∧ H T = none ∧ h.get? T = some oT ∧ oT.data = .fields ts ∧ ts[3]? = some .none)
  new : h0.get? a = none
  free : H a = none
/-- what of the heap is kept when a frame is noted -/
structure Kp (h0 : Heap) (H : Hp) (fs : List Addr) (h h' : Heap) : Prop where
  keep : ∀ b o, h.get? b = some o → b ∉ fs → (H b ≠ none ∨ h0.get? b ≠ none) → h'.get? b = some o
  slot : ∀ b o, h.get? b = some o → b ∈ fs → ∃ sl, h'.get? b = some { o with slots := sl }
  there : ∀ b o, h.get? b = some o → ∃ o', h'.get? b = some o'
  size : h.objs.size ≤ h'.objs.size
section
variable {M : Model} {A : Around} {E : Value → Shared → Prop} {s : Shared} {base h0 : Heap} {H : Hp} {env : Env} {outer : List Env} {L a : Addr} {C : Value} {Q : Unit → Shared → Prop}
end
end DL

namespace DL
open PySem L2
open PyProof.Rows (AllBare)
/-! ### exceptions that leave a def: Cl names the classes by number -/
def CXr (P : Program) (w : World) (Cl : Nat → Value) : CXT := fun outer H s E e s' => ∃ a c H', e = .ref a ∧ s'.os = s.os ∧ AllBare s'.gens ∧ Un (frs outer) [] H H' s.heap s'.heap ∧ HOk P w H' s'.heap ∧ XAt s.heap H' s'.heap a (Cl c) ∧ E (Cl c) none H'
abbrev Xk (Cl : Nat → Value) (E : XK) : Nat → Hp → Prop := fun c H => E (Cl c) none H
section
variable {P : Program} {w : World} {K : PySem.W.Frag} {mg : Str → Option Value} {base : Heap} {N : List Str} {qual : Str} {scope : Scope} {f : Addr} {cd : Value} {A : Around} {outer : List Env} {s : Shared} {H : Hp} {E : XK} {Cl : Nat → Value}
end
section
variable {X : Cx} {Cl : Nat → Value} {E : XK}
end
end DL

namespace DL
open PySem L2
open PyProof.Rows (AllBare)
/-! ### raise of an own class over ValueError -/
section
variable {X : Cx} {Ex : Nat → Hp → Prop} {Cl : Nat → Value}
end
end DL

namespace DL
open PySem L2
open PyProof.Rows (AllBare)
/-! ### defs that may raise -/
structure CalleeX (Cl : Nat → Value) (P : Program) (w : World) (K : PySem.W.Frag) (mg : Str → Option Value) (base : Heap) (x : Str) (k n : Nat) (F : List D → Ow → R D) : Prop where
  ex : ∃ f fd ps, mg x = some (.ref f) ∧ PySem.W.keepIn K (.ref f) = true ∧ Binds K fd ps [] ∧ FnOk P w K mg base (CXr P w Cl) k f fd ps (DSp K (Xk Cl) n F)
section
variable {Cl : Nat → Value} {P : Program} {w : World} {K : PySem.W.Frag} {mg : Str → Option Value} {base : Heap} {k n : Nat} {x : Str} {F G : List D → Ow → R D}
end
end DL

namespace DL
open PySem L2
open PyProof.Rows (AllBare)
/-! ### isinstance(e, C): e None or an exception of an own class -/
section
variable {X : Cx} {Ex : Nat → Hp → Prop} {pos : Pos} {a : Expr} {ta : DE}
end
end DL

namespace DL
open PySem L2
open PyProof.Rows (AllBare IntsAre)
/-! ### a name that the text hasn't bears what is known of the table -/
section
variable {X : Cx} {pins : List (Addr × Obj)} {σ : St} {H : Hp} {s : Shared}
end
/-- what the making of a lambda needs of the base -/
structure LamOk (mg : Str → Option Value) (base : Heap) (c Pt : Addr) : Prop where
  hd : PySem.W.CodeHd base c Pt
  bl : base.BuiltinsAt mg Pt
end DL

namespace DL
open PySem L2
open PyProof.Rows (AllBare)
section
variable {X : Cx} {pins : List (Addr × Obj)} {σv : St} {H : Hp} {s : Shared} {E : Value → Shared → Prop}
end
end DL

namespace DL
open PySem L2
open PyProof.Rows (AllBare)
section
variable {prog : Program} {w : World} {A : Around} {s : Shared} {R : Result → Shared → Prop}
end
end DL

namespace DL
open PySem L2
open PyProof.Rows (AllBare)
/-! ### the context of a lambda's body -/
section
variable {CX : CXT} {P : Program} {w : World} {K : PySem.W.Frag} {mg : Str → Option Value} {base : Heap} {N : List Str} {A : Around} {outer : List Env} {s : Shared} {H : Hp} {E : XK} {Cl : Nat → Value} {q : Str} {scope : Scope} {lam : Addr} {cd : Value} {cl : List (Str × Addr)} {σ : St} {h' : Heap}
end
end DL

namespace DL
open PySem L2
open PyProof.Rows (AllBare)
section
variable {M : Model} {A : Around} {E : Value → Shared → Prop} {s : Shared} {base h0 : Heap} {H : Hp} {frames : List Env} {a : Addr} {C : Value} {Q : Unit → Shared → Prop}
theorem Kp.trans {h h1 h2 : Heap} {fs : List Addr} (x : Kp h0 H fs h h1) (y : Kp h0 H fs h1 h2) : Kp h0 H fs h h2 :=
  ⟨fun b o e n k => y.keep b o (x.keep b o e n k) n k, fun b o e n => by
    obtain ⟨sl, e1⟩ := x.slot b o e n
    obtain ⟨sl', e2⟩ := y.slot b _ e1 n
    exact ⟨sl', e2⟩, fun b o e => by
    obtain ⟨o1, e1⟩ := x.there b o e
    exact y.there b o1 e1, Nat.le_trans x.size y.size⟩
end
section
variable {X : Cx} {pins : List (Addr × Obj)} {σ : St} {H H1 : Hp} {s s1 : Shared}
end
end DL

namespace DL
open PySem L2
open PyProof.Rows (AllBare)
section
variable {X : Cx} {pins : List (Addr × Obj)} {σ : St} {H : Hp} {s : Shared} {M : Model} {A : Around} {E : Value → Shared → Prop}
end
end DL

namespace DL
open PySem L2
open PyProof.Rows (AllBare)
section
variable {X : Cx} {pins : List (Addr × Obj)} {σ : St} {H H1 : Hp} {s s1 : Shared}
end
end DL

namespace DL
open PySem L2
open PyProof.Rows (AllBare)
section
variable {X : Cx} {pins : List (Addr × Obj)} {σ : St} {H H1 : Hp} {s s1 : Shared}
end
end DL

namespace DL
open PySem L2
open PyProof.Rows (AllBare)
section
variable {X : Cx} {pins : List (Addr × Obj)} {σ : St} {H : Hp} {s : Shared}
end
end DL

namespace DL
open PySem L2
open PyProof.Rows (AllBare)
section
variable {X : Cx} {pins : List (Addr × Obj)} {σ : St} {H : Hp} {s : Shared}
end
end DL

namespace DL
open PySem L2
open PyProof.Rows (AllBare)
section
variable {X : Cx} {pins : List (Addr × Obj)} {σ : St} {H : Hp} {s s2 : Shared}
/-! ### what a lambda has captured -/
end
end DL

namespace DL
open PySem L2
open PyProof.Rows (AllBare)
/-! ### the rule: helper(lambda: E) -/
structure LamScope (out sc : Scope) : Prop where
  kind : sc.kind = .function
  co : sc.isCoroutine = false
  gen : sc.isGenerator = false
  nd : (sc.names.map (·.1)).Nodup
  cell : ∀ x ∈ sc.names, x.2 ≠ .cell
  loc : ∀ x ∈ sc.names, x.2 ≠ .local
  frees : ∀ y ∈ sc.names, y.2 = .free → out.names.lookup y.1 = some .cell ∨ out.names.lookup y.1 = some .free
section
variable {X : Cx} {Ex : Nat → Hp → Prop} {Cl : Nat → Value} {Ca : Nat → Nat}
end
end DL

namespace DL
open PySem L2
open PyProof.Rows (AllBare)
/-! ### the head of a law with lambdas -/
end DL

namespace DL
open PySem L2
open PyProof.Rows (AllBare)
/-! ### one sign times an int -/
section
variable {X : Cx} {Ex : Nat → Hp → Prop} {pos : Pos} {a b : Expr} {ta tb : DE}
end
end DL

namespace DL
open PySem L2
/-- an iterator that another one draws from -/
structure Inner (P : Program) (w : World) (ia : Addr) (fp : List Addr) (n : Nat) (Pv : Nat → Value → Prop) (Sx : Nat → Heap → Prop) : Prop where
  stab : ∀ i h h', Sx i h → (∀ b ∈ ia :: fp, ∀ o, h.get? b = some o → h'.get? b = some o) → Sx i h'
  item : ∀ (A : Around) (i : Nat) (s : Shared) (Q : Value → Shared → Prop) (E : Value → Shared → Prop), i < n → Sx i s.heap → (∀ v h' tk, Pv i v → Sx (i + 1) h' → Heap.SameBut ia s.heap h' → Q v { s with heap := h', toks := tk }) → wpAny (model P w) A (Builtin.SmallTypes.nextOf (.ref ia)) Q E s
  done : ∀ (A : Around) (i : Nat) (s : Shared) (Q : Value → Shared → Prop) (E : Value → Shared → Prop), A.handled = none → n ≤ i → Sx i s.heap → (∀ h' e, Heap.ExtBut ia s.heap h' → (∃ o, h'.get? e = some o ∧ o.cls = .type "StopIteration") → E (.ref e) { s with heap := h' }) → wpAny (model P w) A (Builtin.SmallTypes.nextOf (.ref ia)) Q E s
section
variable {P : Program} {w : World} {A : Around} {E : Value → Shared → Prop} {s : Shared}
/-- StopIteration is made and thrown -/
theorem stop_new {α : Type} {Q : α → Shared → Prop} (hh : A.handled = none) (h : ∀ h' e, (∀ b o, s.heap.get? b = some o → h'.get? b = some o) → (∃ o, h'.get? e = some o ∧ o.cls = .type "StopIteration") → E (.ref e) { s with heap := h' }) :
    wpAny (model P w) A (newExc (.type "StopIteration") [] >>= fun e => (raiseNew e : Sem α)) Q E s := by
  refine wpAny_bind ?_
  simp only [newExc, newTuple]
  refine wpAny_bind (wpAny_newObj_type (?_) (by size_fits))
  refine wpAny_bind (m := firstArgMember _ _) (wpAny_of_eq (a := .none) (by first | rfl | (simp only [firstArgMember]; rfl)) (wpAny_newObj_type ?_ (by size_fits)))
  simp only [raiseNew]
  refine wpAny_bind (wpAny_handled ?_); rw [hh]
  refine wpAny_bind (wpAny_pure (wpAny_throw (h _ _ (fun b o e => Heap.get?_push_of_some _ (Heap.get?_push_of_some _ e)) ⟨_, Heap.get?_push_size _ rfl, rfl⟩)))
theorem inner_tup (ia tt : Addr) (items : Array Value) (hne : tt ≠ ia) : Inner P w ia [tt] items.size (fun i v => items[i]? = some v) (fun i h => h.IsTupleIter ia tt i ∧ h.IsTuple tt items) where
  stab := by
    rintro i h h' ⟨⟨o, e, c, d⟩, ⟨o2, e2, r⟩⟩ k
    exact ⟨⟨o, k ia (by simp) o e, c, d⟩, ⟨o2, k tt (by simp) o2 e2, r⟩⟩
  item := by
    rintro A i s Q E hi ⟨hit, htt⟩ hq
    obtain ⟨ob, hob, hcl, hda⟩ := id hit
    obtain ⟨ol, hol, k1, nl, hdl⟩ := id htt
    have hxx : items[i]? = some items[i] := Array.getElem?_eq_getElem hi
    unfold Builtin.SmallTypes.nextOf
    refine wpAny_bind (wpAny_callSpecial?_slot (name := "__next__") hit.typeIs F.slot_tuple_iterator_next (wpAny_call_entry F.slot_tuple_iterator_next hit.typeIs F.entry_tuple_iterator_next ?_ (F.args_tuple_iterator_next_1 _)))
    show wpAny _ _ (field (.ref ia) 0 >>= _) _ _ s
    refine wpAny_bind (wpAny_field hob hda (x := .ref tt) rfl ?_)
    show wpAny _ _ (if (Value.ref tt == Value.none) = true then _ else _) _ _ s
    rw [if_neg (by exact Bool.false_ne_true)]
    show wpAny _ _ (field (.ref ia) 1 >>= _) _ _ s
    refine wpAny_bind (wpAny_field hob hda (x := .int i 0) rfl ?_)
    show wpAny _ _ (seqItems? (.ref tt) >>= _) _ _ s
    refine wpAny_bind (wpAny_seqItems hol hdl ?_)
    simp only [Int.toNat_natCast, hxx]
    refine wpAny_bind (wpAny_setField hob hda (by simp) (wpAny_pure ⟨_, rfl, wpAny_pure (hq _ _ s.toks hxx ⟨?_, ?_⟩ (Heap.SameBut.update ..))⟩))
    · exact ⟨_, Heap.get?_update_self _ hob (Obj.isFreed_of_fields (Obj.data_mapFields hda _)), (Obj.cls_mapFields ..).trans hcl, by rw [Obj.data_mapFields hda]; simp [rawInt]⟩
    · exact ⟨ol, (Heap.SameBut.update ..).extBut _ _ hne hol, k1, nl, hdl⟩
  done := by
    rintro A i s Q E hh hi ⟨hit, htt⟩ hq
    obtain ⟨ob, hob, hcl, hda⟩ := id hit
    obtain ⟨ol, hol, k1, nl, hdl⟩ := id htt
    have hxx : items[i]? = none := by simp [hi]
    unfold Builtin.SmallTypes.nextOf
    refine wpAny_bind (wpAny_callSpecial?_slot (name := "__next__") hit.typeIs F.slot_tuple_iterator_next (wpAny_call_entry F.slot_tuple_iterator_next hit.typeIs F.entry_tuple_iterator_next ?_ (F.args_tuple_iterator_next_1 _)))
    show wpAny _ _ (field (.ref ia) 0 >>= _) _ _ s
    refine wpAny_bind (wpAny_field hob hda (x := .ref tt) rfl ?_)
    show wpAny _ _ (if (Value.ref tt == Value.none) = true then _ else _) _ _ s
    rw [if_neg (by exact Bool.false_ne_true)]
    show wpAny _ _ (field (.ref ia) 1 >>= _) _ _ s
    refine wpAny_bind (wpAny_field hob hda (x := .int i 0) rfl ?_)
    show wpAny _ _ (seqItems? (.ref tt) >>= _) _ _ s
    refine wpAny_bind (wpAny_seqItems hol hdl ?_)
    simp only [Int.toNat_natCast, hxx]
    refine wpAny_bind (wpAny_rule (wpAny_bind (wpAny_setField hob hda (by simp) ?_)))
    refine stop_new (by first | exact hh | (show A.in1.handled = none; exact hh)) fun h' e k he => hq h' e (fun b o hb z => k b o ((Heap.SameBut.update ..).extBut _ _ hb z)) he
theorem inner_str (ia : Addr) (x : Str) (t : Tok) : Inner P w ia [] x.cps.size (fun i v => ∃ c tk, x.cps[i]? = some c ∧ v = .str ⟨#[c]⟩ tk) (fun i h => h.IsStrIter ia "str_ascii_iterator" x t i) where
  stab := by
    rintro i h h' ⟨o, e, c, d⟩ k
    exact ⟨o, k ia (by simp) o e, c, d⟩
  item := by
    rintro A i s Q E hi hit hq
    obtain ⟨ob, hob, hcl, hda⟩ := id hit
    have hxx : x.cps[i]? = some x.cps[i] := Array.getElem?_eq_getElem hi
    unfold Builtin.SmallTypes.nextOf
    refine wpAny_bind (wpAny_callSpecial?_slot (name := "__next__") hit.typeIs F.slot_str_ascii_iterator_next (wpAny_call_entry F.slot_str_ascii_iterator_next hit.typeIs F.entry_str_ascii_iterator_next ?_ (F.args_str_ascii_iterator_next_1 _)))
    show wpAny _ _ (field (.ref ia) 0 >>= _) _ _ s
    refine wpAny_bind (wpAny_field hob hda (x := .str x t) rfl ?_)
    show wpAny _ _ (field (.ref ia) 1 >>= _) _ _ s
    refine wpAny_bind (wpAny_field hob hda (x := .int i 0) rfl ?_)
    simp only [Int.toNat_natCast, hxx]
    refine wpAny_bind (wpAny_setField hob hda (by simp) (wpAny_bind (wpAny_mkStr (wpAny_pure ⟨_, rfl, wpAny_pure (hq _ _ _ ⟨_, _, hxx, rfl⟩ ?_ (Heap.SameBut.update ..))⟩) (by show 1 ≤ sizeLine; decide))))
    exact ⟨_, Heap.get?_update_self _ hob (Obj.isFreed_of_fields (Obj.data_mapFields hda _)), (Obj.cls_mapFields ..).trans hcl, by rw [Obj.data_mapFields hda]; simp [rawInt]⟩
  done := by
    rintro A i s Q E hh hi hit hq
    obtain ⟨ob, hob, hcl, hda⟩ := id hit
    have hxx : x.cps[i]? = none := by simp [hi]
    unfold Builtin.SmallTypes.nextOf
    refine wpAny_bind (wpAny_callSpecial?_slot (name := "__next__") hit.typeIs F.slot_str_ascii_iterator_next (wpAny_call_entry F.slot_str_ascii_iterator_next hit.typeIs F.entry_str_ascii_iterator_next ?_ (F.args_str_ascii_iterator_next_1 _)))
    show wpAny _ _ (field (.ref ia) 0 >>= _) _ _ s
    refine wpAny_bind (wpAny_field hob hda (x := .str x t) rfl ?_)
    show wpAny _ _ (field (.ref ia) 1 >>= _) _ _ s
    refine wpAny_bind (wpAny_field hob hda (x := .int i 0) rfl ?_)
    simp only [Int.toNat_natCast, hxx]
    refine wpAny_bind (wpAny_rule (wpAny_bind (wpAny_setField hob hda (by simp) (wpAny_bind (wpAny_letGo ?_)))))
    refine stop_new (by first | exact hh | (show A.in1.handled = none; exact hh)) fun h' e k he => hq h' e (fun b o hb z => k b o ((Heap.SameBut.update ..).extBut _ _ hb z)) he
theorem inner_lst (ia l : Addr) (items : Array Value) (hne : l ≠ ia) : Inner P w ia [l] items.size (fun i v => items[i]? = some v) (fun i h => h.IsListIter ia l i ∧ h.IsList l items) where
  stab := by
    rintro i h h' ⟨⟨o, e, c, d⟩, ⟨o2, e2, r⟩⟩ k
    exact ⟨⟨o, k ia (by simp) o e, c, d⟩, ⟨o2, k l (by simp) o2 e2, r⟩⟩
  item := by
    rintro A i s Q E hi ⟨hit, hl⟩ hq
    obtain ⟨ol, hol, r⟩ := id hl
    exact wpAny_nextOf_list_item hit hl (Array.getElem?_eq_getElem hi) fun h' st sb => hq _ h' s.toks (Array.getElem?_eq_getElem hi) ⟨st, ⟨ol, sb.extBut _ _ hne hol, r⟩⟩ sb
  done := by
    rintro A i s Q E hh hi ⟨hit, hl⟩ hq
    exact wpAny_nextOf_list_end hh hit hl (by simp [hi]) fun h' e eb he => hq h' e eb he
end
end DL

namespace DL
open PySem L2
/-- the parts of a zip lie apart -/
structure ZAp (z ti to : Addr) (i1 i2 : Addr) (fp1 fp2 : List Addr) : Prop where
  a1 : ti ≠ z
  a2 : to ≠ z
  a3 : ti ≠ to
  b1 : ∀ b ∈ i1 :: fp1, b ≠ z ∧ b ≠ to
  b2 : ∀ b ∈ i2 :: fp2, b ≠ z ∧ b ≠ to
  c1 : i1 ∉ i2 :: fp2
  c2 : i2 ∉ i1 :: fp1
  d1 : ti ≠ i1
  d2 : ti ≠ i2
section
variable {P : Program} {w : World} {A : Around} {E : Value → Shared → Prop} {s : Shared} {z ti to i1 i2 : Addr} {fp1 fp2 : List Addr} {n1 n2 k : Nat} {P1 P2 : Nat → Value → Prop} {S1 S2 : Nat → Heap → Prop} {a b : Value}
theorem Inner.but {ia c : Addr} {fp : List Addr} {n i : Nat} {Pv : Nat → Value → Prop} {Sx : Nat → Heap → Prop} {h h' : Heap} (J : Inner P w ia fp n Pv Sx) (x : Sx i h) (e : Heap.ExtBut c h h') (hc : ∀ b ∈ ia :: fp, b ≠ c) : Sx i h' := J.stab i h h' x fun b hb o z => e b o (hc b hb) z
theorem zipItem {Q : Value → Shared → Prop} (J1 : Inner P w i1 fp1 n1 P1 S1) (J2 : Inner P w i2 fp2 n2 P2 S2) (D : ZAp z ti to i1 i2 fp1 fp2) (hz : IsZip s.heap z ti to .none) (hti : IsPair s.heap ti (.ref i1) (.ref i2)) (hto : IsPair s.heap to a b) (h1 : S1 k s.heap) (h2 : S2 k s.heap) (l1 : k < n1) (l2 : k < n2)
    (hq : ∀ x y h' tk, P1 k x → P2 k y → IsZip h' z ti to (rawInt s.heap.objs.size) → IsPair h' to x y → S1 (k + 1) h' → S2 (k + 1) h' → IsPair h' s.heap.objs.size x y →
      (∀ c o, c ≠ z → c ≠ to → c ≠ i1 → c ≠ i2 → s.heap.get? c = some o → h'.get? c = some o) → Q (.ref s.heap.objs.size) { s with heap := h', toks := tk }) :
    wpAny (model P w) A (Builtin.«zip.__next__» ⟨[.ref z], []⟩) (fun f s' => ∃ v, f = .done (.ret v) ∧ Q v s') E s := by
  have ne1 : ∀ b ∈ i1 :: fp1, b ≠ z := fun b hb => (D.b1 b hb).1
  have ne2 : ∀ b ∈ i2 :: fp2, b ≠ z := fun b hb => (D.b2 b hb).1
  have no1 : ∀ b ∈ i1 :: fp1, b ≠ to := fun b hb => (D.b1 b hb).2
  have no2 : ∀ b ∈ i2 :: fp2, b ≠ to := fun b hb => (D.b2 b hb).2
  have n21 : ∀ b ∈ i2 :: fp2, b ≠ i1 := fun b hb e => D.c1 (e ▸ hb)
  have n12 : ∀ b ∈ i1 :: fp1, b ≠ i2 := fun b hb e => D.c2 (e ▸ hb)
  have m1 : i1 ∈ i1 :: fp1 := List.mem_cons_self
  have m2 : i2 ∈ i2 :: fp2 := List.mem_cons_self
  show wpAny _ _ (field (.ref z) 2 >>= _) _ _ s
  refine wpAny_bind (wpAny_field hz rfl (x := (.bool false)) rfl ?_)
  show wpAny _ _ (field (.ref z) 3 >>= _) _ _ s
  refine wpAny_bind (wpAny_field hz rfl (x := (.ref ti)) rfl (wpAny_bind (wpAny_seqItems hti rfl ?_)))
  show wpAny _ _ (Builtin.SmallTypes.ownedTupleIsFree (.ref z) >>= _) _ _ s
  refine wpAny_bind ?_; unfold Builtin.SmallTypes.ownedTupleIsFree
  refine wpAny_bind (wpAny_field hz rfl (x := (.none)) rfl (wpAny_pure ?_))
  simp only [if_true]; refine wpAny_bind (wpAny_rule (wpAny_bind (wpAny_field hz rfl (x := (.ref to)) rfl ?_)))
  refine wpAny_bind (wpAny_setField_rec hz (by simp) fun ha za sa => ?_)
  have za : IsZip ha z ti to .ellipsis := za
  refine wpAny_bind ?_; simp only [List.zipIdx_cons, List.zipIdx_nil, List.forIn_cons, List.forIn_nil]
  refine wpAny_bind (wpAny_bind (wpAny_onRaise ?_)); show wpAny _ _ (Builtin.SmallTypes.nextOf (.ref i1) >>= _) _ _ _
  refine wpAny_bind (J1.item _ k _ _ _ l1 (J1.but h1 sa.extBut ne1) fun x hb tk1 px sb1 sb => wpAny_pure ?_)
  have tob : IsPair hb to a b := sb.extBut _ _ (Ne.symm (no1 _ m1)) (sa.extBut _ _ D.a2 hto)
  refine wpAny_bind (wpAny_seqItems tob rfl (wpAny_bind (wpAny_updateSeq_pair tob fun hc toc sc => ?_)))
  have toc : IsPair hc to x b := toc
  refine wpAny_bind (wpAny_letGo (wpAny_pure (wpAny_bind (wpAny_bind (wpAny_onRaise ?_))))); show wpAny _ _ (Builtin.SmallTypes.nextOf (.ref i2) >>= _) _ _ _
  refine wpAny_bind (J2.item _ k _ _ _ l2 (J2.but (J2.but (J2.but h2 sa.extBut ne2) sb.extBut n21) sc.extBut no2) fun y hd tk2 py sd2 sd => wpAny_pure ?_)
  have tod : IsPair hd to x b := sd.extBut _ _ (Ne.symm (no2 _ m2)) toc
  refine wpAny_bind (wpAny_seqItems tod rfl (wpAny_bind (wpAny_updateSeq_pair tod fun he toe se => ?_)))
  have toe : IsPair he to x y := toe
  refine wpAny_bind (wpAny_letGo (wpAny_pure (wpAny_pure (wpAny_bind (wpAny_seqItems toe rfl (wpAny_bind (wpAny_newTuple ?_)))))))
  have hsz : he.objs.size = s.heap.objs.size := by rw [se.1, sd.1, sc.1, sb.1, sa.1]
  have ze : IsZip he z ti to .ellipsis := se.extBut _ _ (Ne.symm D.a2) (sd.extBut _ _ (Ne.symm (ne2 _ m2)) (sc.extBut _ _ (Ne.symm D.a2) (sb.extBut _ _ (Ne.symm (ne1 _ m1)) za)))
  have ke : ∀ c o, c ≠ z → c ≠ to → c ≠ i1 → c ≠ i2 → s.heap.get? c = some o → he.get? c = some o := fun c o q1 q2 q3 q4 e => se.extBut _ _ q2 (sd.extBut _ _ q4 (sc.extBut _ _ q2 (sb.extBut _ _ q3 (sa.extBut _ _ q1 e))))
  have s1e : S1 (k + 1) he := J1.but (J1.but (J1.but sb1 sc.extBut no1) sd.extBut n12) se.extBut no1
  have s2e : S2 (k + 1) he := J2.but sd2 se.extBut no2
  have zlt : z < he.objs.size := Heap.lt_size ze
  show wpAny _ _ (Builtin.SmallTypes.ownedTupleHandOut (.ref z) (.ref he.objs.size) >>= _) _ _ _
  refine wpAny_bind ?_; unfold Builtin.SmallTypes.ownedTupleHandOut
  have zf : IsZip (he.push { cls := .type "tuple", data := .seq #[x, y] }) z ti to .ellipsis := Heap.get?_push_of_some _ ze
  refine wpAny_bind (wpAny_setField_rec zf (by simp) fun hg zg sg => ?_)
  have zg : IsZip hg z ti to (rawInt he.objs.size) := zg
  refine wpAny_setField_rec zg (by simp) fun hi zi si => ?_
  have zi : IsZip hi z ti to (rawInt he.objs.size) := zi
  have up : ∀ c o, c ≠ z → he.get? c = some o → hi.get? c = some o := fun c o q e => si.extBut _ _ q (sg.extBut _ _ q (Heap.get?_push_of_some _ e))
  have pi : IsPair hi he.objs.size x y := si.extBut _ _ (Nat.ne_of_gt zlt) (sg.extBut _ _ (Nat.ne_of_gt zlt) (Heap.get?_push_size _ rfl))
  rw [hsz] at zi pi
  refine wpAny_pure ⟨_, rfl, ?_⟩
  show Q (.ref he.objs.size) _
  rw [hsz]
  exact hq x y hi _ px py zi (up _ _ D.a2 toe) (J1.stab _ _ _ s1e fun b hb o e => up b o (ne1 b hb) e) (J2.stab _ _ _ s2e fun b hb o e => up b o (ne2 b hb) e) pi fun c o q1 q2 q3 q4 e => up c o q1 (ke c o q1 q2 q3 q4 e)
theorem zipDone {Q : Fin → Shared → Prop} (hh : A.handled = none) (J1 : Inner P w i1 fp1 n1 P1 S1) (J2 : Inner P w i2 fp2 n2 P2 S2) (D : ZAp z ti to i1 i2 fp1 fp2) (hz : IsZip s.heap z ti to .none) (hti : IsPair s.heap ti (.ref i1) (.ref i2)) (hto : IsPair s.heap to a b) (h1 : S1 k s.heap) (h2 : S2 k s.heap) (hend : n1 ≤ k ∨ (k < n1 ∧ n2 ≤ k))
    (hE : ∀ h' tk e, (∀ c o, c ≠ z → c ≠ to → c ≠ i1 → c ≠ i2 → s.heap.get? c = some o → h'.get? c = some o) → (∃ o, h'.get? e = some o ∧ o.cls = .type "StopIteration") → E (.ref e) { s with heap := h', toks := tk }) :
    wpAny (model P w) A (Builtin.«zip.__next__» ⟨[.ref z], []⟩) Q E s := by
  have ne1 : ∀ b ∈ i1 :: fp1, b ≠ z := fun b hb => (D.b1 b hb).1
  have ne2 : ∀ b ∈ i2 :: fp2, b ≠ z := fun b hb => (D.b2 b hb).1
  have no1 : ∀ b ∈ i1 :: fp1, b ≠ to := fun b hb => (D.b1 b hb).2
  have no2 : ∀ b ∈ i2 :: fp2, b ≠ to := fun b hb => (D.b2 b hb).2
  have n21 : ∀ b ∈ i2 :: fp2, b ≠ i1 := fun b hb e => D.c1 (e ▸ hb)
  have m1 : i1 ∈ i1 :: fp1 := List.mem_cons_self
  have m2 : i2 ∈ i2 :: fp2 := List.mem_cons_self
  show wpAny _ _ (field (.ref z) 2 >>= _) _ _ s
  refine wpAny_bind (wpAny_field hz rfl (x := (.bool false)) rfl ?_)
  show wpAny _ _ (field (.ref z) 3 >>= _) _ _ s
  refine wpAny_bind (wpAny_field hz rfl (x := (.ref ti)) rfl (wpAny_bind (wpAny_seqItems hti rfl ?_)))
  show wpAny _ _ (Builtin.SmallTypes.ownedTupleIsFree (.ref z) >>= _) _ _ s
  refine wpAny_bind ?_; unfold Builtin.SmallTypes.ownedTupleIsFree
  refine wpAny_bind (wpAny_field hz rfl (x := (.none)) rfl (wpAny_pure ?_))
  simp only [if_true]; refine wpAny_bind (wpAny_rule (wpAny_bind (wpAny_field hz rfl (x := (.ref to)) rfl ?_)))
  refine wpAny_bind (wpAny_setField_rec hz (by simp) fun ha za sa => ?_)
  have za : IsZip ha z ti to .ellipsis := za
  refine wpAny_bind ?_; simp only [List.zipIdx_cons, List.zipIdx_nil, List.forIn_cons, List.forIn_nil]
  refine wpAny_bind (wpAny_bind (wpAny_onRaise ?_)); show wpAny _ _ (Builtin.SmallTypes.nextOf (.ref i1) >>= _) _ _ _
  have far : ∀ {h : Heap} {e : Addr}, IsZip h z ti to .ellipsis → (∃ o, h.get? e = some o ∧ o.cls = .type "StopIteration") → e ≠ z := fun {h e} hz ⟨o, ho, hc⟩ q => by subst q; rw [hz] at ho; cases ho; simp at hc
  rcases hend with hend | ⟨l1, hend⟩
  · refine wpAny_bind (J1.done _ k _ _ _ hh hend (J1.but h1 sa.extBut ne1) fun hb e eb he => ?_)
    have zb : IsZip hb z ti to .ellipsis := eb _ _ (Ne.symm (ne1 _ m1)) za
    have nz := far zb he
    obtain ⟨oe, hoe, hce⟩ := he
    exact wpAny_setField_rec zb (by simp) fun hc _ sc => hE hc _ e (fun c o q1 _ q3 _ x => sc.extBut _ _ q1 (eb _ _ q3 (sa.extBut _ _ q1 x))) ⟨oe, sc.extBut _ _ nz hoe, hce⟩
  · refine wpAny_bind (J1.item _ k _ _ _ l1 (J1.but h1 sa.extBut ne1) fun x hb tk1 px sb1 sb => wpAny_pure ?_)
    have tob : IsPair hb to a b := sb.extBut _ _ (Ne.symm (no1 _ m1)) (sa.extBut _ _ D.a2 hto)
    refine wpAny_bind (wpAny_seqItems tob rfl (wpAny_bind (wpAny_updateSeq_pair tob fun hc toc sc => ?_)))
    refine wpAny_bind (wpAny_letGo (wpAny_pure (wpAny_bind (wpAny_bind (wpAny_onRaise ?_))))); show wpAny _ _ (Builtin.SmallTypes.nextOf (.ref i2) >>= _) _ _ _
    refine wpAny_bind (J2.done _ k _ _ _ hh hend (J2.but (J2.but (J2.but h2 sa.extBut ne2) sb.extBut n21) sc.extBut no2) fun hd e eb he => ?_)
    have zd : IsZip hd z ti to .ellipsis := eb _ _ (Ne.symm (ne2 _ m2)) (sc.extBut _ _ (Ne.symm D.a2) (sb.extBut _ _ (Ne.symm (ne1 _ m1)) za))
    have nz := far zd he
    obtain ⟨oe, hoe, hce⟩ := he
    exact wpAny_setField_rec zd (by simp) fun hf _ sf => hE hf _ e (fun c o q1 q2 q3 q4 x => sf.extBut _ _ q1 (eb _ _ q4 (sc.extBut _ _ q2 (sb.extBut _ _ q3 (sa.extBut _ _ q1 x))))) ⟨oe, sf.extBut _ _ nz hoe, hce⟩
theorem nextZip {Q : Option Value → Shared → Prop} (J1 : Inner P w i1 fp1 n1 P1 S1) (J2 : Inner P w i2 fp2 n2 P2 S2) (D : ZAp z ti to i1 i2 fp1 fp2) (hz : IsZip s.heap z ti to .none) (hti : IsPair s.heap ti (.ref i1) (.ref i2)) (hto : IsPair s.heap to a b) (h1 : S1 k s.heap) (h2 : S2 k s.heap) (l1 : k < n1) (l2 : k < n2)
    (hq : ∀ x y h' tk, P1 k x → P2 k y → IsZip h' z ti to (rawInt s.heap.objs.size) → IsPair h' to x y → S1 (k + 1) h' → S2 (k + 1) h' → IsPair h' s.heap.objs.size x y →
      (∀ c o, c ≠ z → c ≠ to → c ≠ i1 → c ≠ i2 → s.heap.get? c = some o → h'.get? c = some o) → Q (some (.ref s.heap.objs.size)) { s with heap := h', toks := tk }) : wpAny (model P w) A (pyNext (.ref z)) Q E s := by
  have ht : s.TypeIs (.ref z) "zip" := ⟨_, hz, rfl⟩
  unfold pyNext
  exact wpAny_bind (wpAny_attempt (wpAny_callSpecial?_slot (name := "__next__") ht F.slot_zip_next (wpAny_call_entry F.slot_zip_next ht F.entry_zip_next (zipItem J1 J2 D hz hti hto h1 h2 l1 l2 fun x y h' tk q1 q2 q3 q4 q5 q6 q7 q8 => wpAny_pure (hq x y h' tk q1 q2 q3 q4 q5 q6 q7 q8)) (F.args_zip_next_1 _))))
theorem endZip {Q : Option Value → Shared → Prop} (hh : A.handled = none) (J1 : Inner P w i1 fp1 n1 P1 S1) (J2 : Inner P w i2 fp2 n2 P2 S2) (D : ZAp z ti to i1 i2 fp1 fp2) (hz : IsZip s.heap z ti to .none) (hti : IsPair s.heap ti (.ref i1) (.ref i2)) (hto : IsPair s.heap to a b) (h1 : S1 k s.heap) (h2 : S2 k s.heap) (hend : n1 ≤ k ∨ (k < n1 ∧ n2 ≤ k))
    (hq : ∀ h' tk, (∀ c o, c ≠ z → c ≠ to → c ≠ i1 → c ≠ i2 → s.heap.get? c = some o → h'.get? c = some o) → Q none { s with heap := h', toks := tk }) : wpAny (model P w) A (pyNext (.ref z)) Q E s := by
  have ht : s.TypeIs (.ref z) "zip" := ⟨_, hz, rfl⟩
  unfold pyNext
  refine wpAny_bind (wpAny_attempt (wpAny_callSpecial?_slot (name := "__next__") ht F.slot_zip_next (wpAny_call_entry F.slot_zip_next ht F.entry_zip_next (zipDone hh J1 J2 D hz hti hto h1 h2 hend fun h' tk e hk he => ?_) (F.args_zip_next_1 _))))
  obtain ⟨oe, ho, hc⟩ := he
  exact wpAny_bind (wpAny_isInstance (T := "StopIteration") (b := true) ⟨oe, ho, hc⟩ isSubtype_stop (wpAny_pure (hq _ tk hk)))
end
end DL

namespace DL
open PySem L2
/-! ### what a zip is made of -/
inductive ZK where
  | tup (t : Addr) (items : Array Value)
  | str (x : Str) (t : Tok)
  | lst (l : Addr) (items : Array Value)
def ZK.val : ZK → Value
  | .tup t _ => .ref t
  | .str x t => .str x t
  | .lst l _ => .ref l
def ZK.obj : ZK → Obj
  | .tup t _ => { cls := .type "tuple_iterator", data := .fields #[.ref t, .int 0 0] }
  | .str x t => { cls := .type "str_ascii_iterator", data := .fields #[.str x t, .int 0 0] }
  | .lst l _ => { cls := .type "list_iterator", data := .fields #[.ref l, .int 0 0] }
def ZK.pre (h : Heap) : ZK → Prop
  | .tup t items => h.IsTuple t items
  | .str x _ => x.cps.all (· < 128) = true
  | .lst l items => h.IsList l items
theorem ZK.keep {h h' : Heap} (k : ∀ b o, h.get? b = some o → h'.get? b = some o) : ∀ (q : ZK), q.pre h → q.pre h'
  | .tup t items, ⟨o, e, r⟩ => ⟨o, k _ _ e, r⟩
  | .str x t, e => e
  | .lst l items, ⟨o, e, r⟩ => ⟨o, k _ _ e, r⟩
theorem ZK.iter {P : Program} {w : World} {A : Around} {E : Value → Shared → Prop} {s : Shared} {Q : Value → Shared → Prop} (q : ZK) (h : q.pre s.heap) (hq : Q (.ref s.heap.objs.size) { s with heap := s.heap.push q.obj }) : wpAny (model P w) A (pyIter q.val) Q E s := by
  cases q with
  | tup t items => exact wpAny_pyIter_tuple h hq
  | str x t => exact wpAny_pyIter_ascii h hq
  | lst l items => exact wpAny_pyIter_list h hq
abbrev zH (h : Heap) (a b : ZK) : Heap := (((((h.push a.obj).push b.obj).push { cls := .type "tuple", data := .seq #[.ref h.objs.size, .ref (h.push a.obj).objs.size] }).push { cls := .type "tuple", data := .seq #[.none, .none] }).push
  { cls := .type "zip", data := .fields #[.none, .bool false, .bool false, .ref ((h.push a.obj).push b.obj).objs.size, .ref (((h.push a.obj).push b.obj).push { cls := .type "tuple", data := .seq #[.ref h.objs.size, .ref (h.push a.obj).objs.size] }).objs.size] })
abbrev zA (h : Heap) (a b : ZK) : Addr := ((((h.push a.obj).push b.obj).push { cls := .type "tuple", data := .seq #[.ref h.objs.size, .ref (h.push a.obj).objs.size] }).push { cls := .type "tuple", data := .seq #[.none, .none] }).objs.size
theorem zip_new (a b : ZK) (va vb : Value) (ea : a.val = va) (eb : b.val = vb) : Meets (Builtin.«zip.__new__» ⟨[.type "zip", va, vb], []⟩) (fun _ R s => a.pre s.heap ∧ b.pre s.heap ∧ R (.ok (.ret (.ref (zA s.heap a b)))) { s with heap := zH s.heap a b }) :=
  .of_wp fun P w A R s h => by
    obtain ⟨hp, g, d, tk, os⟩ := s; obtain ⟨h1, h2, h⟩ := h
    have hsub := sub_zip
    have i1 : ∀ {E : Value → Shared → Prop} {Q : Value → Shared → Prop}, Q (.ref hp.objs.size) ⟨hp.push a.obj, g, d, tk, os⟩ → wpAny (model P w) A.in1 (pyIter va) Q E ⟨hp, g, d, tk, os⟩ := fun {E Q} hq => by rw [← ea]; exact a.iter (s := ⟨hp, g, d, tk, os⟩) h1 hq
    have h2' : b.pre (hp.push a.obj) := b.keep (fun c o e => Heap.get?_push_of_some _ e) h2
    have i2 : ∀ {E : Value → Shared → Prop} {Q : Value → Shared → Prop}, Q (.ref (hp.push a.obj).objs.size) ⟨(hp.push a.obj).push b.obj, g, d, tk, os⟩ → wpAny (model P w) A.in1 (pyIter vb) Q E ⟨hp.push a.obj, g, d, tk, os⟩ := fun {E Q} hq => by rw [← eb]; exact b.iter (s := ⟨hp.push a.obj, g, d, tk, os⟩) h2' hq
    wp_walk using i1, i2
    exact ⟨_, rfl, h⟩
section
variable {P : Program} {w : World} {A : Around} {E : Value → Shared → Prop} {s : Shared}
theorem call_zipK (a b : ZK) {Q : Value → Shared → Prop} (ha : a.pre s.heap) (hb : b.pre s.heap)
    (h : ∀ h', IsZip h' (s.heap.objs.size + 4) (s.heap.objs.size + 2) (s.heap.objs.size + 3) .none → IsPair h' (s.heap.objs.size + 2) (.ref s.heap.objs.size) (.ref (s.heap.objs.size + 1)) → IsPair h' (s.heap.objs.size + 3) .none .none →
      h'.get? s.heap.objs.size = some a.obj → h'.get? (s.heap.objs.size + 1) = some b.obj → (∀ c o, s.heap.get? c = some o → h'.get? c = some o) → Q (.ref (s.heap.objs.size + 4)) { s with heap := h' }) :
    wpAny (model P w) A (call (.type "zip") [a.val, b.val]) Q E s := by
  refine callType_new F.called_zip (by decide) (F.typeCall_zip_2 _ _) (F.newCall_zip_2 _ _) (fun obj => F.args_object_init_3 obj _ _) F.entry_zip_new (zip_new a b _ _ rfl rfl) ⟨ha, hb, ?_⟩
  have fa : a.obj.isFreed = false := by cases a <;> rfl
  have fb : b.obj.isFreed = false := by cases b <;> rfl
  have e1 : (s.heap.push a.obj).objs.size = s.heap.objs.size + 1 := Heap.size_push ..
  have e2 : ((s.heap.push a.obj).push b.obj).objs.size = s.heap.objs.size + 2 := by rw [Heap.size_push, e1]
  have e3 : (((s.heap.push a.obj).push b.obj).push { cls := .type "tuple", data := .seq #[.ref s.heap.objs.size, .ref (s.heap.push a.obj).objs.size] }).objs.size = s.heap.objs.size + 3 := by rw [Heap.size_push, e2]
  have e4 : zA s.heap a b = s.heap.objs.size + 4 := by show Array.size _ = _; rw [Heap.size_push, e3]
  have g5 : (zH s.heap a b).get? (zA s.heap a b) = some _ := Heap.get?_push_size _ rfl
  have g4 : (zH s.heap a b).get? (((s.heap.push a.obj).push b.obj).push { cls := .type "tuple", data := .seq #[.ref s.heap.objs.size, .ref (s.heap.push a.obj).objs.size] }).objs.size = some _ := Heap.get?_push_of_some _ (Heap.get?_push_size _ rfl)
  have g3 : (zH s.heap a b).get? ((s.heap.push a.obj).push b.obj).objs.size = some _ := Heap.get?_push_of_some _ (Heap.get?_push_of_some _ (Heap.get?_push_size _ rfl))
  have g2 : (zH s.heap a b).get? (s.heap.push a.obj).objs.size = some _ := Heap.get?_push_of_some _ (Heap.get?_push_of_some _ (Heap.get?_push_of_some _ (Heap.get?_push_size _ fb)))
  have g1 : (zH s.heap a b).get? s.heap.objs.size = some _ := Heap.get?_push_of_some _ (Heap.get?_push_of_some _ (Heap.get?_push_of_some _ (Heap.get?_push_of_some _ (Heap.get?_push_size _ fa))))
  show _ ∧ _
  rw [e2, e3, e4] at g5
  rw [e3] at g4
  rw [e1, e2] at g3
  rw [e1] at g2
  rw [e4]
  exact ⟨⟨_, g5, rfl⟩, h _ g5 g3 g4 g1 g2 fun c o x => Heap.get?_push_of_some _ (Heap.get?_push_of_some _ (Heap.get?_push_of_some _ (Heap.get?_push_of_some _ (Heap.get?_push_of_some _ x))))⟩
end
end DL

namespace DL
open PySem L2
/-- an object that the state knows, no iterator -/
def Held (X : Cx) (H : Hp) (h : Heap) (b : Addr) : Prop := H b ≠ none ∨ ∃ o, X.base.get? b = some o
theorem Held.far {X : Cx} {pins : List (Addr × Obj)} {σ : St} {H : Hp} {s : Shared} {b q : Addr} (I : L2.Inv X pins σ H s) (x : Held X H s.heap b) (f : FpOk X pins H q) : b ≠ q := by
  rintro rfl
  rcases x with x | ⟨o, e⟩
  · exact x f.1
  · rcases f.2.2.2.1 with z | z
    · exact I.ok.noex b o e z
    · exact absurd (Nat.lt_of_lt_of_le (Heap.lt_size e) I.ok.bsz) (Nat.not_lt.mpr z)
structure InIt (P : Program) (w : World) (K : PySem.W.Frag) (J : It) (ia : Addr) (S : Nat → Heap → Prop) : Prop where
  obj : ∀ i h, S i h → ∃ o, h.get? ia = some o ∧ ∀ v, o.data ≠ .cell v
  keep : ∀ i h h', S i h → (∀ o, h.get? ia = some o → h'.get? ia = some o) → S i h'
  got : ∀ (X : Cx), X.prog = P → X.w = w → X.K = K → ∀ (i : Nat) (pins : List (Addr × Obj)) (s : Shared) (σ : St) (H : Hp), L2.Inv X pins σ H s → FpOk X pins H ia → S i s.heap → (J.go i H ∨ J.stop i H) →
    ∃ fp n Pv Sx, Inner P w ia fp n Pv Sx ∧ Sx i s.heap ∧ (∀ j h, Sx j h → S j h) ∧ (J.go i H → i < n) ∧ (J.stop i H → n ≤ i) ∧ (∀ v, Pv i v → ∃ x, RelV x v ∧ J.yld i H x H) ∧ ∀ b ∈ fp, Held X H s.heap b
section
variable {P : Program} {w : World} {K : PySem.W.Frag}
theorem held_t {X : Cx} {pins : List (Addr × Obj)} {σ : St} {H : Hp} {s : Shared} {a : Addr} {xs : List V} (I : L2.Inv X pins σ H s) (h : SqT X.K H a xs) : Held X H s.heap a := by
  rcases h with h | ⟨o, its, n, hk, _⟩
  · exact .inl (by rcases h with h | ⟨_, h⟩ <;> (rw [h]; simp))
  · exact .inr ⟨o, I.ok.mod.kin a o hk⟩
theorem held_l {X : Cx} {pins : List (Addr × Obj)} {σ : St} {H : Hp} {s : Shared} {a : Addr} {xs : List V} (I : L2.Inv X pins σ H s) (h : SqL X.K H a xs) : Held X H s.heap a := by
  rcases h with h | ⟨o, its, n, hk, _⟩
  · exact .inl (by rcases h with h | ⟨_, h⟩ <;> (rw [h]; simp))
  · exact .inr ⟨o, I.ok.mod.kin a o hk⟩
theorem vals_getR {xs : List V} {its : List Value} {i : Nat} {v : Value} (r : Vals xs its) (e : its[i]? = some v) : ∃ x, xs[i]? = some x ∧ RelV x v := by
  have hl := r.length
  have hi : i < xs.length := by have := (List.getElem?_eq_some_iff.mp e).1; omega
  obtain ⟨u, g1, g2⟩ := r.get (List.getElem?_eq_getElem hi)
  rw [e] at g1; cases g1
  exact ⟨_, List.getElem?_eq_getElem hi, g2⟩
theorem in_tup (a ia : Addr) : InIt P w K (Itt K a) ia (fun i h => h.IsTupleIter ia a i) where
  obj := fun i h ⟨o, e, c, d⟩ => ⟨o, e, fun v z => by rw [d] at z; cases z⟩
  keep := fun i h h' ⟨o, e, c, d⟩ k => ⟨o, k o e, c, d⟩
  got := by
    intro X hP hw hK i pins s σ H I hf st hg
    subst hP hw hK
    have hs : ∃ xs, SqT X.K H a xs := by
      rcases hg with ⟨xs, x, h, _⟩ | ⟨xs, h, _⟩ <;> exact ⟨xs, h⟩
    obtain ⟨xs, hq⟩ := hs
    obtain ⟨its, rv, p, hz⟩ := I.tuple hq
    have hl := rv.length
    refine ⟨[a], _, _, _, inner_tup ia a its.toArray ((held_t I hq).far I hf), ⟨st, p⟩, fun j h z => z.1, fun ⟨ys, y, h1, h2⟩ => ?_, fun ⟨ys, h1, h2⟩ => ?_, fun v hv => ?_, fun b hb => ?_⟩
    · have e := I.tuple_inj h1 hq; subst e
      have := (List.getElem?_eq_some_iff.mp h2).1
      simp; omega
    · have e := I.tuple_inj h1 hq; subst e
      simp; omega
    · have hv' : its[i]? = some v := by simpa using hv
      obtain ⟨x, e1, r1⟩ := vals_getR rv hv'
      exact ⟨x, r1, rfl, fun ys hy => by rw [I.tuple_inj hy hq]; exact e1⟩
    · have : b = a := by simpa using hb
      subst this; exact held_t I hq
theorem in_lst (a ia : Addr) : InIt P w K (Itl K a) ia (fun i h => h.IsListIter ia a i) where
  obj := fun i h ⟨o, e, c, d⟩ => ⟨o, e, fun v z => by rw [d] at z; cases z⟩
  keep := fun i h h' ⟨o, e, c, d⟩ k => ⟨o, k o e, c, d⟩
  got := by
    intro X hP hw hK i pins s σ H I hf st hg
    subst hP hw hK
    have hs : ∃ xs, SqL X.K H a xs := by
      rcases hg with ⟨xs, x, h, _⟩ | ⟨xs, h, _⟩ <;> exact ⟨xs, h⟩
    obtain ⟨xs, hq⟩ := hs
    obtain ⟨its, rv, p, hz⟩ := I.list hq
    have hl := rv.length
    refine ⟨[a], _, _, _, inner_lst ia a its.toArray ((held_l I hq).far I hf), ⟨st, p.isList⟩, fun j h z => z.1, fun ⟨ys, y, h1, h2⟩ => ?_, fun ⟨ys, h1, h2⟩ => ?_, fun v hv => ?_, fun b hb => ?_⟩
    · have e := I.list_inj h1 hq; subst e
      have := (List.getElem?_eq_some_iff.mp h2).1
      simp; omega
    · have e := I.list_inj h1 hq; subst e
      simp; omega
    · have hv' : its[i]? = some v := by simpa using hv
      obtain ⟨x, e1, r1⟩ := vals_getR rv hv'
      exact ⟨x, r1, rfl, fun ys hy => by rw [I.list_inj hy hq]; exact e1⟩
    · have : b = a := by simpa using hb
      subst this; exact held_l I hq
theorem in_str (x : Str) (t : Tok) (ia : Addr) : InIt P w K (Its x) ia (fun i h => h.IsStrIter ia "str_ascii_iterator" x t i) where
  obj := fun i h ⟨o, e, c, d⟩ => ⟨o, e, fun v z => by rw [d] at z; cases z⟩
  keep := fun i h h' ⟨o, e, c, d⟩ k => ⟨o, k o e, c, d⟩
  got := by
    intro X hP hw hK i pins s σ H I hf st hg
    subst hP hw hK
    refine ⟨[], _, _, _, inner_str ia x t, st, fun j h z => z, fun z => z, fun z => z, fun v ⟨c, tk, e, hv⟩ => ?_, fun b hb => by cases hb⟩
    subst hv
    exact ⟨.str ⟨#[c]⟩, ⟨_, rfl⟩, rfl, c, e, rfl⟩
end
/-- two iterators, side by side -/
def Itw (J1 J2 : It) : It :=
  ⟨fun i H => J1.go i H ∧ J2.go i H, fun i H v H' => ∃ p x y, H p = none ∧ v = .ref p ∧ J1.yld i H x H ∧ J2.yld i H y H ∧ H' = upd H p (.tup [x, y]), fun i H => J1.stop i H ∧ (J2.go i H ∨ J2.stop i H) ∨ J1.go i H ∧ J2.stop i H⟩
def ZwSt (z t o i j : Addr) (S1 S2 : Nat → Heap → Prop) (n : Nat) (h : Heap) : Prop := IsZip h z t o .none ∧ IsPair h t (.ref i) (.ref j) ∧ (∃ a b, IsPair h o a b) ∧ S1 n h ∧ S2 n h
theorem turn_zipW {P : Program} {w : World} {K : PySem.W.Frag} {J1 J2 : It} {S1 S2 : Nat → Heap → Prop} {es : List Expr} {kt} {pt : Pos} (z t o i j : Addr) (ap : [z, t, o, i, j].Nodup) (N1 : InIt P w K J1 i S1) (N2 : InIt P w K J2 j S2) : Turn P w K (.Tuple es kt pt) (Itw J1 J2) [z, t, o, i, j] z (ZwSt z t o i j S1 S2) := by
  simp only [List.nodup_cons, List.mem_cons, List.not_mem_nil, or_false, not_or, List.nodup_nil, and_true] at ap
  obtain ⟨⟨a1, a2, a3, a4⟩, ⟨b1, b2, b3⟩, ⟨c1, c2⟩, d1, _⟩ := ap
  have zap : ∀ {X : Cx} {pins : List (Addr × Obj)} {s : Shared} {σ : St} {H : Hp} {fp1 fp2 : List Addr}, L2.Inv X pins σ H s → (∀ b ∈ [z, t, o, i, j], FpOk X pins H b) → (∀ b ∈ fp1, Held X H s.heap b) → (∀ b ∈ fp2, Held X H s.heap b) → ZAp z t o i j fp1 fp2 := fun {X pins s σ H fp1 fp2} I hf h1 h2 =>
    ⟨Ne.symm a1, Ne.symm a2, b1, fun b hb => (List.mem_cons.mp hb).elim (fun e => by rw [e]; exact ⟨Ne.symm a3, Ne.symm c1⟩) fun hb => ⟨(h1 b hb).far I (hf z (by simp)), (h1 b hb).far I (hf o (by simp))⟩,
      fun b hb => (List.mem_cons.mp hb).elim (fun e => by rw [e]; exact ⟨Ne.symm a4, Ne.symm c2⟩) fun hb => ⟨(h2 b hb).far I (hf z (by simp)), (h2 b hb).far I (hf o (by simp))⟩,
      fun hb => (List.mem_cons.mp hb).elim d1 fun hb => (h2 i hb).far I (hf i (by simp)) rfl, fun hb => (List.mem_cons.mp hb).elim (Ne.symm d1) fun hb => (h1 j hb).far I (hf j (by simp)) rfl, b2, b3⟩
  refine ⟨by simp, fun n h st b hb => ?_, fun n h h' st k => ?_, ?_, ?_, fun A n s Q E st q => wpAny_pyIter_zip st.1 q⟩
  · obtain ⟨hz, ht, ⟨a, b', ho⟩, hi, hj⟩ := st
    simp only [List.mem_cons, List.not_mem_nil, or_false] at hb
    rcases hb with rfl | rfl | rfl | rfl | rfl
    · exact ⟨_, hz, fun v e => by cases e⟩
    · exact ⟨_, ht, fun v e => by cases e⟩
    · exact ⟨_, ho, fun v e => by cases e⟩
    · exact N1.obj n h hi
    · exact N2.obj n h hj
  · obtain ⟨hz, ht, ⟨a, b', ho⟩, hi, hj⟩ := st
    exact ⟨k z (by simp) _ hz, k t (by simp) _ ht, ⟨a, b', k o (by simp) _ ho⟩, N1.keep n h h' hi (k i (by simp)), N2.keep n h h' hj (k j (by simp))⟩
  · intro X hP hw hK hc n pins s σ H E I hf st hg
    obtain ⟨g1, g2⟩ := hg
    obtain ⟨hz, ht, ⟨a, b, ho⟩, hi, hj⟩ := st
    obtain ⟨fp1, n1, P1, T1, Z1, s1, u1, go1, st1, y1, f1⟩ := N1.got X hP hw hK n pins s σ H I (hf i (by simp)) hi (.inl g1)
    obtain ⟨fp2, n2, P2, T2, Z2, s2, u2, go2, st2, y2, f2⟩ := N2.got X hP hw hK n pins s σ H I (hf j (by simp)) hj (.inl g2)
    have D := zap I hf f1 f2
    subst hP hw hK
    refine nextZip Z1 Z2 D hz ht ho s1 s2 (go1 g1) (go2 g2) fun x y h' tk px py q1 q2 q3 q4 q5 hk => ⟨_, rfl, ?_⟩
    obtain ⟨vx, rx, yx⟩ := y1 x px
    obtain ⟨vy, ry, yy⟩ := y2 y py
    refine wpAny_letOwnedTupleGo_zip q1 fun h'' e1 e2 => ?_
    have nb : ∀ q ∈ [z, t, o, i, j], s.heap.objs.size ≠ q := fun q hq e => by
      have : ∃ ob, s.heap.get? q = some ob := by
        simp only [List.mem_cons, List.not_mem_nil, or_false] at hq
        rcases hq with rfl | rfl | rfl | rfl | rfl
        · exact ⟨_, hz⟩
        · exact ⟨_, ht⟩
        · exact ⟨_, ho⟩
        · obtain ⟨ob, g, _⟩ := N1.obj n _ hi; exact ⟨_, g⟩
        · obtain ⟨ob, g, _⟩ := N2.obj n _ hj; exact ⟨_, g⟩
      obtain ⟨ob, g⟩ := this
      exact absurd (Heap.lt_size g) (by rw [e]; exact Nat.lt_irrefl _)
    have keep : ∀ c ob, c ∉ [z, t, o, i, j] → s.heap.get? c = some ob → h''.get? c = some ob := fun c ob hc e => by
      simp only [List.mem_cons, List.not_mem_nil, or_false, not_or] at hc
      exact e2.extBut _ _ hc.1 (hk c ob hc.1 hc.2.2.1 hc.2.2.2.1 hc.2.2.2.2 e)
    have I1 : L2.Inv X pins σ H { s with heap := h'', toks := tk } := Inv.turns [z, t, o, i, j] I keep hf
    have hnew : h''.get? s.heap.objs.size = some { cls := .type "tuple", data := .seq #[x, y] } := e2.extBut _ _ (nb z (by simp)) q5
    have fr : H s.heap.objs.size = none := I.hok.fresh (Nat.le_refl _)
    have I2 : L2.Inv X pins σ (upd H s.heap.objs.size (.tup [vx, vy])) { s with heap := h'', toks := tk } := by
      have un : Un (frs X.stack) [z, t, o, i, j] H (upd H s.heap.objs.size (.tup [vx, vy])) s.heap h'' := by
        refine ⟨fun c ob e _ _ hc => keep c ob hc e, fun c ob e _ _ hc => ⟨ob.slots, keep c ob hc e⟩, fun c ob e hn _ => ?_, fun c ob e hc => ⟨ob, keep c ob hc e⟩, fun c zs e => ?_, fun c ob u e => ?_, fun c ps e => ⟨#[], ?_⟩⟩
        · rw [upd_ne (Nat.ne_of_lt (Heap.lt_size e))]; exact hn
        · rw [upd_ne (ne_of_none e fr)]; exact e
        · rw [upd_ne (ne_of_none e fr)]; exact e
        · rw [upd_ne (ne_of_none e fr), e]; simp
      have hok : HOk X.prog X.w (upd H s.heap.objs.size (.tup [vx, vy])) h'' := by
        intro c u' e
        by_cases hc : c = s.heap.objs.size
        · subst hc
          rw [upd_same] at e; cases e
          exact ⟨by show 2 ≤ sizeLine; decide, [x, y], .cons rx (.cons ry .nil), ⟨_, hnew, rfl, _, rfl⟩⟩
        · rw [upd_ne hc] at e
          refine (I1.hok c u' e).stay (fun _ _ _ q => q) (fun p q => ?_) fun p zs q => ?_
          · by_cases hp : p = s.heap.objs.size
            · subst hp; rw [fr] at q; cases q
            · rw [upd_ne hp]; exact q
          · by_cases hp : p = s.heap.objs.size
            · subst hp; rw [fr] at q; cases q
            · rw [upd_ne hp]; exact q
      exact I.call (t' := tk) (d' := s.drawn) un hok I.bare fun b hb => let ⟨_, f1, _, f3, f4, f5⟩ := hf b hb; ⟨f3, f1, f4, f5⟩
    refine ⟨.ref s.heap.objs.size, _, I2, rfl, ⟨_, vx, vy, fr, rfl, yx, yy, rfl⟩, ⟨e1, ?_, ⟨_, _, e2.extBut _ _ D.a2 q2⟩, ?_, ?_⟩, fun b hb => ?_⟩
    · exact e2.extBut _ _ D.a1 (hk _ _ D.a1 D.a3 D.d1 D.d2 ht)
    · exact u1 _ _ (Z1.but q3 e2.extBut fun b hb => (D.b1 b hb).1)
    · exact u2 _ _ (Z2.but q4 e2.extBut fun b hb => (D.b2 b hb).1)
    · rw [upd_ne (Ne.symm (nb b hb))]; exact (hf b hb).1
  · intro X hP hw hK hc n pins s σ H E I hf st hg
    obtain ⟨hz, ht, ⟨a, b, ho⟩, hi, hj⟩ := st
    have k1 : J1.go n H ∨ J1.stop n H := hg.elim (fun z => .inr z.1) fun z => .inl z.1
    have k2 : J2.go n H ∨ J2.stop n H := hg.elim (fun z => z.2) fun z => .inr z.2
    obtain ⟨fp1, n1, P1, T1, Z1, s1, u1, go1, st1, y1, f1⟩ := N1.got X hP hw hK n pins s σ H I (hf i (by simp)) hi k1
    obtain ⟨fp2, n2, P2, T2, Z2, s2, u2, go2, st2, y2, f2⟩ := N2.got X hP hw hK n pins s σ H I (hf j (by simp)) hj k2
    have D := zap I hf f1 f2
    subst hP hw hK
    refine endZip (I.ok.hd hc) Z1 Z2 D hz ht ho s1 s2 (hg.elim (fun q => .inl (st1 q.1)) fun q => .inr ⟨go1 q.1, st2 q.2⟩) fun h' tk hk => ⟨rfl, ?_⟩
    refine Inv.turns (t' := tk) [z, t, o, i, j] I (fun c ob hc e => ?_) hf
    simp only [List.mem_cons, List.not_mem_nil, or_false, not_or] at hc
    exact hk c ob hc.1 hc.2.2.1 hc.2.2.2.1 hc.2.2.2.2 e
end DL

namespace DL
open PySem L2
/-- zip: what is walked side by side -/
def zkD : D → Option Src
  | .lst ds => some (.val ds)
  | .own k => some (.own k)
  | .tup ds => some (.val ds)
  | .str cs => if cs.all (· < 128) = true then some (.val (cs.map fun c => .str [c])) else none
  | _ => none
def dZipW (t : DA) : DI := fun σ O => (t σ O).bnd fun xs O1 => match xs with
  | [x, y] => match zkD x, zkD y with
    | some p, some q => .ok (.zip p q) O1
    | _, _ => .bad
  | _ => .bad
theorem SrcAt.zipW {K : PySem.W.Frag} {J1 J2 : It} {s1 s2 : Src} {H : Hp} {hid μ : List Addr} (h1 : SrcAt K J1 s1 H hid μ) (h2 : SrcAt K J2 s2 H hid μ) : SrcAt K (Itw J1 J2) (.zip s1 s2) H hid μ := by
  intro hid' H' μ' O' m c i
  have q1 := h1 hid' H' μ' O' m c i
  have q2 := h2 hid' H' μ' O' m c i
  show match (match s1.get O' i, s2.get O' i with | some x, some y => some (D.tup [x, y]) | _, _ => none) with | some d => _ | none => _
  cases e1 : s1.get O' i with
  | none =>
    rw [e1] at q1
    refine .inl ⟨q1, ?_⟩
    cases e2 : s2.get O' i with
    | none => rw [e2] at q2; exact .inr q2
    | some d => rw [e2] at q2; exact .inl q2.1
  | some d1 =>
    rw [e1] at q1
    cases e2 : s2.get O' i with
    | none => rw [e2] at q2; exact .inr ⟨q1.1, q2⟩
    | some d2 =>
      rw [e2] at q2
      refine ⟨⟨q1.1, q2.1⟩, fun v H'' yl => ?_⟩
      obtain ⟨p, x, y, hp, rfl, y1, y2, rfl⟩ := yl
      exact ⟨.laid hp, c.laid hp, Dat.newT c hp (.cons (q1.2 x H' y1).2.2 (.cons (q2.2 y H' y2).2.2 .nil))⟩
section
variable {X : Cx} {Ex : Nat → Hp → Prop} {pos : Pos} {a b c e o : Expr} {ta tb tc te to : DE} {pins : List (Addr × Obj)} {σv : St} {H : Hp} {s : Shared} {hid μ : List Addr} {O : Ow}
theorem zk_at {d : D} {v : V} {u : Value} {src : Src} (I : L2.Inv X pins σv H s) (c : Cells X.K H hid μ O) (h : Dat X.K H hid μ d v) (r : RelV v u) (e : zkD d = some src) :
    ∃ (k : ZK) (J : It), k.val = u ∧ k.pre s.heap ∧ SrcAt X.K J src H hid μ ∧ ∀ ia, ∃ S, InIt X.prog X.w X.K J ia S ∧ ∀ h : Heap, h.get? ia = some k.obj → S 0 h := by
  cases d with
  | lst ds =>
    unfold Dat at h
    obtain ⟨q, vs, rfl, l, dd⟩ := h
    cases e; cases r
    obtain ⟨its, _, p, _⟩ := I.list l.sq
    exact ⟨.lst q its.toArray, _, rfl, p.isList, .val l dd, fun ia => ⟨_, in_lst q ia, fun h z => ⟨_, z, rfl, rfl⟩⟩⟩
  | own k =>
    unfold Dat at h
    obtain ⟨q, rfl, hk⟩ := h
    cases e; cases r
    obtain ⟨ds, vs, h1, h2, h3⟩ := c.at_ k q hk
    obtain ⟨its, _, p, _⟩ := I.list (a := q) (xs := vs) (.of h2)
    exact ⟨.lst q its.toArray, _, rfl, p.isList, .own hk, fun ia => ⟨_, in_lst q ia, fun h z => ⟨_, z, rfl, rfl⟩⟩⟩
  | tup ds =>
    unfold Dat at h
    obtain ⟨q, vs, rfl, l, dd⟩ := h
    cases e; cases r
    obtain ⟨its, _, p, _⟩ := I.tuple l.sq
    exact ⟨.tup q its.toArray, _, rfl, p, .tup l dd, fun ia => ⟨_, in_tup q ia, fun h z => ⟨_, z, rfl, rfl⟩⟩⟩
  | str cs =>
    unfold Dat at h
    subst h
    obtain ⟨t, rfl⟩ := r
    have e' : (if cs.all (· < 128) = true then some (Src.val (cs.map fun c => D.str [c])) else none) = some src := e
    by_cases ha : cs.all (· < 128) = true
    · rw [if_pos ha] at e'
      cases e'
      refine ⟨.str ⟨cs.toArray⟩ t, _, rfl, ?_, .str, fun ia => ⟨_, in_str _ t ia, fun h z => ⟨_, z, rfl, rfl⟩⟩⟩
      show cs.toArray.all (· < 128) = true
      simpa using ha
    · rw [if_neg ha] at e'; cases e'
  | _ => cases e
theorem pdi_zipW {es' : List Expr} {kt} {pt : Pos} {t : DA} {p : Pos} (hg : Gl X "zip") (hm : X.mg "zip" = none) (ha : PDA X Ex [a, b] t) (hs : starEach [a, b] X.env = [(false, eval a X.env), (false, eval b X.env)] := by rfl) (hs2 : starEach [b] X.env = [(false, eval b X.env)] := by rfl) :
    PDI X Ex (.Tuple es' kt pt) (.Call (.Name "zip" p) [a, b] [] pos) (dZipW t) := by
  refine ⟨?_⟩
  rintro pins s σv H Rr I ⟨hid, μ, σ, O, e1, c1, q⟩
  refine PyProof.Rows.Call_ (ld_blt I hg hm boot_zip (PyProof.Rows.callWith_type1 (thn (ha.out pos pins s σv H _ I (rdA.go e1 c1 q (Q1 := fun vs H1 => ∃ hid μ1 O1 ds, Cells X.K H1 hid μ1 O1 ∧ Dats X.K H1 hid μ1 ds vs ∧
      post Ex X.K (fun H' μ' s J => SrcAt X.K J s H' hid μ') H1 hid μ1 (match ds with | [x, y] => (match zkD x, zkD y with | some p, some q => .ok (.zip p q) O1 | _, _ => .bad) | _ => .bad) Rr)
    fun ds O1 vs H1 μ1 e2 x cl d p => ⟨hid, μ1, O1, ds, cl, d, p⟩)) fun us s1 ⟨vs, H1, I1, r1, hid, μ1, O1, ds, cl, d, p⟩ => ?_) (by rw [hs, hs2]) (by rw [hs2]; rfl)))
  split at p
  · rename_i x y
    split at p
    · rename_i sp sq e1 e2
      obtain ⟨v, w, rfl, dx, dy⟩ := dats2 d
      obtain ⟨u1, u2, rfl, ru1, ru2⟩ := vals2 r1
      obtain ⟨k1, J1, v1, p1, t1, i1⟩ := zk_at I1 cl dx ru1 e1
      obtain ⟨k2, J2, v2, p2, t2, i2⟩ := zk_at I1 cl dy ru2 e2
      rw [← v1, ← v2]
      refine call_zipK k1 k2 p1 p2 fun h' g5 g3 g4 g1 g2 hk => ?_
      refine wpAny_pyIter_zip g5 ?_
      have I2 : L2.Inv X pins σv H1 { s1 with heap := h', toks := s1.toks } := I1.kept hk
      obtain ⟨S1, N1, z1⟩ := i1 s1.heap.objs.size
      obtain ⟨S2, N2, z2⟩ := i2 (s1.heap.objs.size + 1)
      refine ⟨s1.heap.objs.size + 4, [s1.heap.objs.size + 4, s1.heap.objs.size + 2, s1.heap.objs.size + 3, s1.heap.objs.size, s1.heap.objs.size + 1], _, _, H1, rfl, I2, turn_zipW _ _ _ _ _ ?_ N1 N2, ⟨g5, g3, ⟨_, _, g4⟩, z1 _ g1, z2 _ g2⟩, fun b hb => ?_, post.here p cl (.zipW t1 t2)⟩
      · have nn : ∀ (n : Addr), [n + 4, n + 2, n + 3, n, n + 1].Nodup := fun n => by
          simp only [List.nodup_cons, List.mem_cons, List.not_mem_nil, or_false, not_or, List.nodup_nil, and_true]
          refine ⟨⟨?_, ?_, ?_, ?_⟩, ⟨?_, ?_, ?_⟩, ⟨?_, ?_⟩, ?_, not_false⟩ <;> simp [Addr] at * <;> omega
        exact nn _
      · have hb' : s1.heap.objs.size ≤ b := by
          simp only [List.mem_cons, List.not_mem_nil, or_false] at hb
          rcases hb with rfl | rfl | rfl | rfl | rfl <;> omega
        exact I1.fpOk (H' := H1) hb' (I1.hok.fresh hb')
    · exact False.elim p
  · exact False.elim p
end
end DL

namespace DL
open PySem L2
open AutoSeq1 (wpAny_loadPart')
/-! ### enumerate -/
set_option maxHeartbeats 1000000 in
theorem enum_newT (tt : Addr) (items : Array Value) (nn : Nat) (dct : Option Addr) (sl : Array (Option Value)) :
    Meets (Builtin.«enumerate.__new__» ⟨[.type "enumerate", .ref tt], []⟩) (fun _ R s => s.heap.get? tt = some { cls := .type "tuple", dict := dct, data := .seq items nn, slots := sl } ∧
      R (.ok (.ret (.ref (s.heap.push (ZK.tup tt items).obj).objs.size))) { s with heap := (s.heap.push (ZK.tup tt items).obj).push { cls := .type "enumerate", data := .fields #[.none, .bool false, .ref s.heap.objs.size, rawInt 0, .none, .none] } }) :=
  .of_wp fun P w A R s h => by
    obtain ⟨hp, g, d, tk, os⟩ := s; obtain ⟨hl, h⟩ := h
    have hsub := sub_enumerate
    have hT : Heap.IsTuple (Shared.heap ⟨hp, g, d, tk, os⟩) tt items := ⟨_, hl, rfl, nn, rfl⟩
    wp_walk using wpAny_loadPart' hl
    refine wpAny_stack_any fun st => wpAny_pure (?_)
    split
    · rename_i cc _ _ _ _ _
      cases (cc == Value.type "enumerate")
      · wp_walk using wpAny_loadPart' hl, wpAny_pyIter_tuple hT
        exact ⟨_, rfl, h⟩
      · wp_walk using wpAny_loadPart' hl, wpAny_pyIter_tuple hT
        exact ⟨_, rfl, h⟩
    · wp_walk using wpAny_loadPart' hl, wpAny_pyIter_tuple hT
      exact ⟨_, rfl, h⟩
section
variable {P : Program} {w : World} {A : Around} {E : Value → Shared → Prop} {s : Shared}
theorem call_enumT {tt : Addr} {items : Array Value} {Q : Value → Shared → Prop} (hT : s.heap.IsTuple tt items)
    (h : ∀ h', IsEnum h' (s.heap.objs.size + 1) s.heap.objs.size 0 .none → h'.get? s.heap.objs.size = some (ZK.tup tt items).obj → (∀ b o, s.heap.get? b = some o → h'.get? b = some o) → Q (.ref (s.heap.objs.size + 1)) { s with heap := h' }) :
    wpAny (model P w) A (call (.type "enumerate") [.ref tt]) Q E s := by
  obtain ⟨⟨cc, dct, dt, sl⟩, hl, hc, nn, hd⟩ := hT
  have hc : cc = .type "tuple" := hc
  have hd : dt = .seq items nn := hd
  subst hc; subst hd
  refine callType_new F.called_enumerate (by decide) (F.typeCall_enumerate_1 _) (F.newCall_enumerate_1 _) (fun obj => F.args_object_init_2 obj _) F.entry_enumerate_new (enum_newT tt items nn dct sl) ⟨hl, ?_⟩
  have hz : (s.heap.push (ZK.tup tt items).obj).objs.size = s.heap.objs.size + 1 := Heap.size_push ..
  show _ ∧ _
  rw [hz]
  have he : IsEnum ((s.heap.push (ZK.tup tt items).obj).push { cls := .type "enumerate", data := .fields #[.none, .bool false, .ref s.heap.objs.size, rawInt 0, .none, .none] }) (s.heap.objs.size + 1) s.heap.objs.size 0 .none := by
    have q := Heap.get?_push_size (s.heap.push (ZK.tup tt items).obj) (o := { cls := .type "enumerate", data := .fields #[.none, .bool false, .ref s.heap.objs.size, rawInt 0, .none, .none] }) rfl
    rw [hz] at q; exact q
  exact ⟨⟨_, he, rfl⟩, h _ he (Heap.get?_push_of_some _ (Heap.get?_push_size _ rfl)) fun b o x => Heap.get?_push_of_some _ (Heap.get?_push_of_some _ x)⟩
variable {ea ia : Addr} {fp : List Addr} {n k : Nat} {Pv : Nat → Value → Prop} {Sx : Nat → Heap → Prop} {old : Value}
theorem nextEnum {Q : Option Value → Shared → Prop} (J : Inner P w ia fp n Pv Sx) (he : IsEnum s.heap ea ia (k : Nat) old) (hx : Sx k s.heap) (hk : k < n) (ne : ∀ b ∈ ia :: fp, b ≠ ea)
    (hq : ∀ x h' tk ti, Pv k x → IsEnumOut h' ea ia ((k : Int) + 1) x s.heap.objs.size → Sx (k + 1) h' → h'.get? s.heap.objs.size = some { cls := .type "tuple", data := .seq #[.int (k : Nat) ti, x] } → (∀ b o, b ≠ ea → b ≠ ia → s.heap.get? b = some o → h'.get? b = some o) → Q (some (.ref s.heap.objs.size)) { s with heap := h', toks := tk }) :
    wpAny (model P w) A (pyNext (.ref ea)) Q E s := by
  have ht : s.TypeIs (.ref ea) "enumerate" := ⟨_, he, rfl⟩
  have nia : ea ≠ ia := Ne.symm (ne ia List.mem_cons_self)
  unfold pyNext
  refine wpAny_bind (wpAny_attempt (wpAny_callSpecial?_slot (name := "__next__") ht F.slot_enumerate_next (wpAny_call_entry F.slot_enumerate_next ht F.entry_enumerate_next ?_ (F.args_enumerate_next_1 _))))
  obtain ⟨hp, g, d, tk, os⟩ := s
  show wpAny _ _ (field (.ref ea) 2 >>= _) _ _ _
  refine wpAny_bind (wpAny_field he rfl (x := .ref ia) rfl (wpAny_bind (J.item _ k _ _ _ hk hx fun x h1 tk1 px sx1 s1 => ?_)))
  have s1 : Heap.SameBut ia hp h1 := s1
  have e1 : IsEnum h1 ea ia (k : Nat) old := (s1.2 ea nia).trans he
  show wpAny _ _ (field (.ref ea) 3 >>= _) _ _ ⟨h1, g, d, tk1, os⟩
  refine wpAny_bind (wpAny_field e1 rfl (x := rawInt (k : Nat)) rfl ?_)
  show wpAny _ _ (field (.ref ea) 4 >>= _) _ _ ⟨h1, g, d, tk1, os⟩
  refine wpAny_bind (wpAny_field e1 rfl (x := (.none)) rfl ?_)
  show wpAny _ _ (mkInt (k : Nat) >>= _) _ _ ⟨h1, g, d, tk1, os⟩
  refine wpAny_bind (wpAny_mkInt ?_)
  show wpAny _ _ (setField (.ref ea) 3 (rawInt ((k : Int) + 1)) >>= _) _ _ ⟨h1, g, d, tk1 + 1, os⟩
  refine wpAny_bind (wpAny_setField_rec e1 (by simp) fun h2 e2 s2 => ?_)
  have s2 : Heap.SameBut ea h1 h2 := s2
  have e2 : IsEnum h2 ea ia ((k : Int) + 1) old := e2
  show wpAny _ _ (setField (.ref ea) 4 .none >>= _) _ _ ⟨h2, g, d, tk1 + 1, os⟩
  refine wpAny_bind (wpAny_setField_rec e2 (by simp) fun h3 e3 s3 => ?_)
  have s3 : Heap.SameBut ea h2 h3 := s3
  have e3 : IsEnum h3 ea ia ((k : Int) + 1) old := e3
  show wpAny _ _ (newTuple [.int (k : Nat) tk1, x] >>= _) _ _ ⟨h3, g, d, tk1 + 1, os⟩
  refine wpAny_bind (wpAny_newTuple ?_)
  have e4 : IsEnum (h3.push { cls := .type "tuple", data := .seq #[.int (k : Nat) tk1, x] }) ea ia ((k : Int) + 1) old := Heap.get?_push_of_some _ e3
  have hsz : h3.objs.size = hp.objs.size := by rw [s3.1, s2.1, s1.1]
  have hel : ea < hp.objs.size := Heap.lt_size he
  have t4 : (h3.push { cls := .type "tuple", data := .seq #[.int (k : Nat) tk1, x] }).get? hp.objs.size = some { cls := .type "tuple", data := .seq #[.int (k : Nat) tk1, x] } := by rw [← hsz]; exact Heap.get?_push_size _ rfl
  have k4 : ∀ b o, b ≠ ea → b ≠ ia → hp.get? b = some o → (h3.push { cls := .type "tuple", data := .seq #[.int (k : Nat) tk1, x] }).get? b = some o := fun b o q1 q2 z => Heap.get?_push_of_some _ (s3.extBut b o q1 (s2.extBut b o q1 (s1.extBut b o q2 z)))
  have x4 : Sx (k + 1) (h3.push { cls := .type "tuple", data := .seq #[.int (k : Nat) tk1, x] }) := J.stab _ _ _ (J.but (J.but sx1 s2.extBut ne) s3.extBut ne) fun b _ o z => Heap.get?_push_of_some _ z
  generalize h3.push { cls := .type "tuple", data := .seq #[.int (k : Nat) tk1, x] } = h4 at e4 t4 k4 x4
  show wpAny _ _ (Builtin.SmallTypes.ownedTupleIsFree (.ref ea) >>= _) _ _ ⟨h4, g, d, tk1 + 1, os⟩
  rw [hsz]
  refine wpAny_bind ?_; unfold Builtin.SmallTypes.ownedTupleIsFree
  refine wpAny_bind (wpAny_field e4 rfl (x := (.none)) rfl (wpAny_pure ?_))
  simp only [if_true]; refine wpAny_bind (wpAny_rule (wpAny_bind (wpAny_field e4 rfl (x := old) rfl (wpAny_bind (wpAny_setField_rec e4 (by simp) fun h5 e5 s5 => ?_)))))
  have s5 : Heap.SameBut ea h4 h5 := s5
  have e5 : IsEnum h5 ea ia ((k : Int) + 1) x := e5
  show wpAny _ _ (Builtin.SmallTypes.ownedTupleHandOut (.ref ea) (.ref hp.objs.size) >>= _) _ _ ⟨h5, g, d, tk1 + 1, os⟩
  refine wpAny_bind ?_; unfold Builtin.SmallTypes.ownedTupleHandOut
  refine wpAny_bind (wpAny_setField_rec e5 (by simp) fun h6 e6 s6 => ?_)
  have s6 : Heap.SameBut ea h5 h6 := s6
  have e6 : IsEnumOut h6 ea ia ((k : Int) + 1) x hp.objs.size := e6
  refine wpAny_setField_rec e6 (by simp) fun h7 e7 s7 => ?_
  have s7 : Heap.SameBut ea h6 h7 := s7
  have e7 : IsEnumOut h7 ea ia ((k : Int) + 1) x hp.objs.size := e7
  refine wpAny_bind (wpAny_letGo (wpAny_pure ⟨_, rfl, wpAny_pure (hq x h7 _ tk1 px e7 (J.but (J.but (J.but x4 s5.extBut ne) s6.extBut ne) s7.extBut ne) ?_ fun b o q1 q2 z => s7.extBut b o q1 (s6.extBut b o q1 (s5.extBut b o q1 (k4 b o q1 q2 z))))⟩))
  exact s7.extBut _ _ (Nat.ne_of_gt hel) (s6.extBut _ _ (Nat.ne_of_gt hel) (s5.extBut _ _ (Nat.ne_of_gt hel) t4))
theorem endEnum {Q : Option Value → Shared → Prop} (hh : A.handled = none) (J : Inner P w ia fp n Pv Sx) (he : IsEnum s.heap ea ia (k : Nat) old) (hx : Sx k s.heap) (hk : n ≤ k) (hq : ∀ h', Heap.ExtBut ia s.heap h' → Q none { s with heap := h' }) : wpAny (model P w) A (pyNext (.ref ea)) Q E s := by
  have ht : s.TypeIs (.ref ea) "enumerate" := ⟨_, he, rfl⟩
  unfold pyNext
  refine wpAny_bind (wpAny_attempt (wpAny_callSpecial?_slot (name := "__next__") ht F.slot_enumerate_next (wpAny_call_entry F.slot_enumerate_next ht F.entry_enumerate_next ?_ (F.args_enumerate_next_1 _))))
  show wpAny _ _ (field (.ref ea) 2 >>= _) _ _ _
  refine wpAny_bind (wpAny_field he rfl (x := .ref ia) rfl (wpAny_bind (J.done _ k _ _ _ hh hk hx fun h' e eb hs => ?_)))
  obtain ⟨oe, ho, hc⟩ := hs
  exact wpAny_bind (wpAny_isInstance (T := "StopIteration") (b := true) ⟨oe, ho, hc⟩ isSubtype_stop (wpAny_pure (hq _ eb)))
end
end DL

namespace DL
open PySem L2
def Ite (J : It) : It := ⟨J.go, fun i H v H' => ∃ p x, H p = none ∧ v = .ref p ∧ J.yld i H x H ∧ H' = upd H p (.tup [.int (i : Nat), x]), J.stop⟩
def EnSt (ea ia : Addr) (S : Nat → Heap → Prop) (n : Nat) (h : Heap) : Prop := (∃ old, IsEnum h ea ia (n : Nat) old) ∧ S n h
theorem turn_enum {P : Program} {w : World} {K : PySem.W.Frag} {J : It} {S : Nat → Heap → Prop} {es : List Expr} {kt} {pt : Pos} (ea ia : Addr) (ap : ea ≠ ia) (N : InIt P w K J ia S) (hself : ∀ (A : Around) (n : Nat) (s : Shared) (Q E : Value → Shared → Prop), (∃ old, IsEnum s.heap ea ia (n : Nat) old) → Q (.ref ea) s → wpAny (model P w) A (pyIter (.ref ea)) Q E s) : Turn P w K (.Tuple es kt pt) (Ite J) [ea, ia] ea (EnSt ea ia S) := by
  refine ⟨by simp, fun n h st b hb => ?_, fun n h h' st k => ?_, ?_, ?_, fun A n s Q E st q => hself A n s Q E st.1 q⟩
  · obtain ⟨⟨old, he⟩, hi⟩ := st
    simp only [List.mem_cons, List.not_mem_nil, or_false] at hb
    rcases hb with rfl | rfl
    · exact ⟨_, he, fun v e => by cases e⟩
    · exact N.obj n h hi
  · obtain ⟨⟨old, he⟩, hi⟩ := st
    exact ⟨⟨old, k ea (by simp) _ he⟩, N.keep n h h' hi (k ia (by simp))⟩
  · intro X hP hw hK hc n pins s σ H E I hf st hg
    have hg : J.go n H := hg
    obtain ⟨⟨old, he⟩, hi⟩ := st
    obtain ⟨fp, m, Pv, T, Z, s1, u1, go1, st1, y1, f1⟩ := N.got X hP hw hK n pins s σ H I (hf ia (by simp)) hi (.inl hg)
    subst hP hw hK
    have ne : ∀ b ∈ ia :: fp, b ≠ ea := fun b hb => (List.mem_cons.mp hb).elim (fun e => by rw [e]; exact Ne.symm ap) fun hb => (f1 b hb).far I (hf ea (by simp))
    refine nextEnum Z he s1 (go1 hg) ne fun x h' tk tki px q1 q2 q3 hk => ⟨_, rfl, ?_⟩
    obtain ⟨vx, rx, yx⟩ := y1 x px
    refine wpAny_letOwnedTupleGo_enum q1 fun h'' e1 e2 => ?_
    have nb : ∀ q ∈ [ea, ia], s.heap.objs.size ≠ q := fun q hq e => by
      have : ∃ ob, s.heap.get? q = some ob := by
        simp only [List.mem_cons, List.not_mem_nil, or_false] at hq
        rcases hq with rfl | rfl
        · exact ⟨_, he⟩
        · obtain ⟨ob, g, _⟩ := N.obj n _ hi; exact ⟨_, g⟩
      obtain ⟨ob, g⟩ := this
      exact absurd (Heap.lt_size g) (by rw [e]; exact Nat.lt_irrefl _)
    have keep : ∀ c ob, c ∉ [ea, ia] → s.heap.get? c = some ob → h''.get? c = some ob := fun c ob hc e => by
      simp only [List.mem_cons, List.not_mem_nil, or_false, not_or] at hc
      exact e2.extBut _ _ hc.1 (hk c ob hc.1 hc.2 e)
    have I1 : L2.Inv X pins σ H { s with heap := h'', toks := tk } := Inv.turns [ea, ia] I keep hf
    have hnew : h''.get? s.heap.objs.size = some { cls := .type "tuple", data := .seq #[.int (n : Nat) tki, x] } := e2.extBut _ _ (nb ea (by simp)) q3
    have fr : H s.heap.objs.size = none := I.hok.fresh (Nat.le_refl _)
    have I2 : L2.Inv X pins σ (upd H s.heap.objs.size (.tup [.int (n : Nat), vx])) { s with heap := h'', toks := tk } := by
      have un : Un (frs X.stack) [ea, ia] H (upd H s.heap.objs.size (.tup [.int (n : Nat), vx])) s.heap h'' := by
        refine ⟨fun c ob e _ _ hc => keep c ob hc e, fun c ob e _ _ hc => ⟨ob.slots, keep c ob hc e⟩, fun c ob e hn _ => ?_, fun c ob e hc => ⟨ob, keep c ob hc e⟩, fun c zs e => ?_, fun c ob u e => ?_, fun c ps e => ⟨#[], ?_⟩⟩
        · rw [upd_ne (Nat.ne_of_lt (Heap.lt_size e))]; exact hn
        · rw [upd_ne (ne_of_none e fr)]; exact e
        · rw [upd_ne (ne_of_none e fr)]; exact e
        · rw [upd_ne (ne_of_none e fr), e]; simp
      have hok : HOk X.prog X.w (upd H s.heap.objs.size (.tup [.int (n : Nat), vx])) h'' := by
        intro c u' e
        by_cases hc : c = s.heap.objs.size
        · subst hc
          rw [upd_same] at e; cases e
          exact ⟨by show 2 ≤ sizeLine; decide, [.int (n : Nat) tki, x], .cons ⟨_, rfl⟩ (.cons rx .nil), ⟨_, hnew, rfl, _, rfl⟩⟩
        · rw [upd_ne hc] at e
          refine (I1.hok c u' e).stay (fun _ _ _ q => q) (fun p q => ?_) fun p zs q => ?_
          · by_cases hp : p = s.heap.objs.size
            · subst hp; rw [fr] at q; cases q
            · rw [upd_ne hp]; exact q
          · by_cases hp : p = s.heap.objs.size
            · subst hp; rw [fr] at q; cases q
            · rw [upd_ne hp]; exact q
      exact I.call (t' := tk) (d' := s.drawn) un hok I.bare fun b hb => let ⟨_, f1, _, f3, f4, f5⟩ := hf b hb; ⟨f3, f1, f4, f5⟩
    refine ⟨.ref s.heap.objs.size, _, I2, rfl, ⟨_, vx, fr, rfl, yx, rfl⟩, ⟨⟨_, by exact_mod_cast e1⟩, ?_⟩, fun b hb => ?_⟩
    · exact u1 _ _ (Z.but q2 e2.extBut ne)
    · rw [upd_ne (Ne.symm (nb b hb))]; exact (hf b hb).1
  · intro X hP hw hK hc n pins s σ H E I hf st hg
    have hg : J.stop n H := hg
    obtain ⟨⟨old, he⟩, hi⟩ := st
    obtain ⟨fp, m, Pv, T, Z, s1, u1, go1, st1, y1, f1⟩ := N.got X hP hw hK n pins s σ H I (hf ia (by simp)) hi (.inr hg)
    subst hP hw hK
    refine endEnum (I.ok.hd hc) Z he s1 (st1 hg) fun h' eb => ⟨rfl, ?_⟩
    refine Inv.turns (t' := s.toks) [ea, ia] I (fun c ob hc e => ?_) hf
    simp only [List.mem_cons, List.not_mem_nil, or_false, not_or] at hc
    exact eb c ob hc.2 e
def enumL (ds : List D) : List D := ds.zipIdx.map fun q => .tup [.int (q.2 : Nat), q.1]
theorem enumL_get (ds : List D) (i : Nat) : (enumL ds)[i]? = (ds[i]?).map fun d => D.tup [.int (i : Nat), d] := by
  unfold enumL
  rw [List.getElem?_map, List.getElem?_zipIdx]
  cases ds[i]? <;> simp
theorem SrcAt.enum {K : PySem.W.Frag} {J : It} {ds : List D} {H : Hp} {hid μ : List Addr} (h1 : SrcAt K J (.val ds) H hid μ) : SrcAt K (Ite J) (.val (enumL ds)) H hid μ := by
  intro hid' H' μ' O' m c i
  have q1 : match ds[i]? with | some d => J.go i H' ∧ ∀ x H'', J.yld i H' x H'' → Ext H' μ' H'' μ' ∧ Cells K H'' hid' μ' O' ∧ Dat K H'' hid' μ' d x | none => J.stop i H' := h1 hid' H' μ' O' m c i
  show match (enumL ds)[i]? with | some d => _ | none => _
  rw [enumL_get]
  cases e1 : ds[i]? with
  | none => rw [e1] at q1; exact q1
  | some d1 =>
    rw [e1] at q1
    refine ⟨q1.1, fun v H'' yl => ?_⟩
    obtain ⟨p, x, hp, rfl, y1, rfl⟩ := yl
    exact ⟨.laid hp, c.laid hp, Dat.newT c hp (.cons dat_int (.cons (q1.2 x H' y1).2.2 .nil))⟩
/-- enumerate of a tuple -/
def dEnumT (t : DA) : DI := fun σ O => (t σ O).bnd fun xs O1 => match xs with
  | [.tup ds] => .ok (.val (enumL ds)) O1
  | _ => .bad
section
variable {X : Cx} {Ex : Nat → Hp → Prop} {pos : Pos} {a b c e o : Expr} {ta tb tc te to : DE} {pins : List (Addr × Obj)} {σv : St} {H : Hp} {s : Shared} {hid μ : List Addr} {O : Ow}
theorem boot_enum : bootBuiltins "enumerate" = some (.type "enumerate") := by boot_by_name
theorem iter_enum {P : Program} {w : World} (ea ia : Addr) (A : Around) (n : Nat) (s : Shared) (Q E : Value → Shared → Prop) (h : ∃ old, IsEnum s.heap ea ia (n : Nat) old) (q : Q (.ref ea) s) : wpAny (model P w) A (pyIter (.ref ea)) Q E s := by
  obtain ⟨old, h⟩ := h
  have ht : s.TypeIs (.ref ea) "enumerate" := ⟨_, h, rfl⟩
  refine wpAny_pyIter_slot ht F.slot_enumerate_iter (wpAny_call_entry F.slot_enumerate_iter ht F.entry_enumerate_iter ?_ (F.args_enumerate_iter_1 _))
  show wpAny _ _ (ret (.ref ea)) _ _ s
  exact wpAny_pure ⟨_, rfl, "enumerate", _, ht, F.slot_enumerate_next.lookup, q⟩
theorem pdi_enumT {es' : List Expr} {kt} {pt : Pos} {t : DA} {p : Pos} (hg : Gl X "enumerate") (hm : X.mg "enumerate" = none) (ha : PDA X Ex [a] t) (hs : starEach [a] X.env = [(false, eval a X.env)] := by rfl) :
    PDI X Ex (.Tuple es' kt pt) (.Call (.Name "enumerate" p) [a] [] pos) (dEnumT t) := by
  refine ⟨?_⟩
  rintro pins s σv H Rr I ⟨hid, μ, σ, O, e1, c1, q⟩
  refine PyProof.Rows.Call_ (ld_blt I hg hm boot_enum (PyProof.Rows.callWith_type1 (thn (ha.out pos pins s σv H _ I (rdA.go e1 c1 q (Q1 := fun vs H1 => ∃ hid μ1 O1 ds, Cells X.K H1 hid μ1 O1 ∧ Dats X.K H1 hid μ1 ds vs ∧
      post Ex X.K (fun H' μ' s J => SrcAt X.K J s H' hid μ') H1 hid μ1 (match ds with | [.tup ds] => .ok (.val (enumL ds)) O1 | _ => .bad) Rr)
    fun ds O1 vs H1 μ1 e2 x cl d p => ⟨hid, μ1, O1, ds, cl, d, p⟩)) fun us s1 ⟨vs, H1, I1, r1, hid, μ1, O1, ds, cl, d, p⟩ => ?_) (by rw [hs]; rfl) (by rfl)))
  split at p
  · rename_i ts
    unfold Dats at d
    obtain ⟨v, r, rfl, dx, dn⟩ := d
    unfold Dats at dn
    subst dn
    unfold Dat at dx
    obtain ⟨tt, vs1, rfl, l, dd⟩ := dx
    obtain ⟨u1, rfl, ru1⟩ := vals1 r1
    cases ru1
    obtain ⟨its, _, pT, _⟩ := I1.tuple l.sq
    refine call_enumT pT fun h' g1 g2 hk => ?_
    refine iter_enum (s1.heap.objs.size + 1) s1.heap.objs.size _ 0 _ _ _ ⟨_, g1⟩ ?_
    have I2 : L2.Inv X pins σv H1 { s1 with heap := h', toks := s1.toks } := I1.kept hk
    refine ⟨s1.heap.objs.size + 1, [s1.heap.objs.size + 1, s1.heap.objs.size], _, _, H1, rfl, I2, turn_enum _ _ (Nat.succ_ne_self _) (in_tup tt _) (iter_enum _ _), ⟨⟨_, g1⟩, ⟨_, g2, rfl, rfl⟩⟩, fun b hb => ?_, post.here p cl (.enum (.tup l dd))⟩
    have hb' : s1.heap.objs.size ≤ b := by
      simp only [List.mem_cons, List.not_mem_nil, or_false] at hb
      rcases hb with rfl | rfl <;> omega
    exact I1.fpOk (H' := H1) hb' (I1.hok.fresh hb')
  · exact False.elim p
end
end DL

namespace DL
open PySem L2
open PyProof.Rows hiding St
section
variable {X : Cx} {Ex : Nat → Hp → Prop} {pos : Pos} {a b c e o : Expr} {ta tb tc te to : DE} {pins : List (Addr × Obj)} {σv : L2.St} {H : Hp} {s : Shared} {hid μ : List Addr} {O : Ow}
/-! ### is True, is not True -/
def fIsB : Ow → D → D → R D := fun O x y => match x, y with
  | .bl p, .bl q => .ok (.bl (p == q)) O
  | _, _ => .bad
theorem beq_bool (p q : Bool) : (Value.bool p == Value.bool q) = (p == q) := by cases p <;> cases q <;> decide
theorem op_isB : OpR X (compareOp .Is) (fun x y H Q => ∃ p q, x = .bl p ∧ y = .bl q ∧ Q (.bl (p == q)) H) := by
  intro pins s σ H x y v u Q I rx ry h
  obtain ⟨p, q, rfl, rfl, hq⟩ := h
  cases rx; cases ry
  exact wpAny_is_plain (by rfl) ⟨.bl (p == q), H, I, by rw [beq_bool]; rfl, hq⟩
theorem opd_isB : OpD X Ex (fun x y H Q => ∃ p q, x = .bl p ∧ y = .bl q ∧ Q (.bl (p == q)) H) fIsB := by
  intro H hid μ O x y v w Q c dx dy q
  unfold fIsB at q
  split at q
  · unfold Dat at dx dy; subst dx; subst dy
    exact ⟨_, _, rfl, rfl, post.here q c dat_bl⟩
  · exact False.elim q
/-! ### tuples put together, the first one perhaps empty -/
def rCat0 (K : PySem.W.Frag) : R2 := fun x y H Q => ∃ a b ys, x = .ref a ∧ y = .ref b ∧ SqT K H a [] ∧ SqT K H b ys ∧ Q (.ref b) H
theorem op_cat0 : OpR X (binaryOp .Add) (rCat0 X.K) := by
  intro pins s σ H x y v u Q I rx ry h
  obtain ⟨p, q, ys, rfl, rfl, ha, hb, hq⟩ := h
  cases rx; cases ry
  obtain ⟨its, r1, ⟨⟨c1, d1, dt1, l1⟩, g1, k1, n1, e1⟩, _⟩ := I.tuple ha
  obtain ⟨its2, r2, ⟨⟨c2, d2, dt2, l2⟩, g2, k2, n2, e2⟩, _⟩ := I.tuple hb
  have hz : its = [] := by cases r1; rfl
  subst hz
  have k1 : c1 = .type "tuple" := k1
  have k2 : c2 = .type "tuple" := k2
  have e1 : dt1 = .seq #[] n1 := e1
  have e2 : dt2 = .seq its2.toArray n2 := e2
  subst k1; subst k2; subst e1; subst e2
  exact concat_meets ⟨_, g1, rfl⟩ ⟨_, g2, rfl⟩ noFill_tuple_add seq_tuple_add PySem.F.slot_tuple_add PySem.F.entry_tuple_add (PySem.F.args_tuple_add_2 _ _) (PyProof.Rows.tuple_addW0 p q #[] its2.toArray n1 n2 d1 d2 l1 l2 rfl) ⟨g1, g2, ⟨.ref q, H, I, rfl, hq⟩⟩
def fAddA : Ow → D → D → R D := fun O x y => match x, y with
  | .tup [], .tup ys => .ok (.tup ys) O
  | x, y => fAdd O x y
theorem opd_addA : OpD X Ex (fun x y H Q => rCat0 X.K x y H Q ∨ rAdd' X.K x y H Q) fAddA := by
  intro H hid μ O x y v w Q c dx dy q
  unfold fAddA at q
  split at q
  · rename_i ys
    have dy' := dy
    unfold Dat at dx dy
    obtain ⟨p, vs, rfl, l, d1⟩ := dx
    obtain ⟨p2, vs2, rfl, l2, d2⟩ := dy
    unfold Dats at d1; subst d1
    exact .inl ⟨p, p2, vs2, rfl, rfl, l.sq, l2.sq, post.here q c dy'⟩
  · exact .inr (opd_add H hid μ O _ _ v w Q c dx dy q)
theorem pd_addA (ha : PD X Ex a ta) (hb : PD X Ex b tb) : PD X Ex (.BinOp a .Add b pos) (dOp fAddA ta tb) := pd_op (OpR.or op_cat0 op_addA) opd_addA ha hb
/-! ### the whole of a tuple, sliced -/
def rSlW (K : PySem.W.Frag) : V → Option Int → Option Int → Hp → VK → Prop := fun x lo hi H Q => ∃ a xs, x = .ref a ∧ SqT K H a xs ∧ (HT.sIx xs.length 0 lo = 0 ∧ HT.sIx xs.length xs.length hi = xs.length) ∧ Q (.ref a) H
theorem getItem_whole {P : Program} {w : World} {A : Around} {E : Value → Shared → Prop} {s : Shared} {t sl : Addr} {items : Array Value} {vl vu : Value} {lo hi : Option Int} {Q : Value → Shared → Prop} (ht : IsTup s.heap t items) (hs : s.heap.IsSliceOf sl vl vu .none) (pl : IsPart vl lo) (pu : IsPart vu hi)
    (hw : HT.sIx items.size 0 lo = 0 ∧ HT.sIx items.size items.size hi = items.size) (h : Q (.ref t) s) : wpAny (model P w) A (getItem (.ref t) (.ref sl)) Q E s := by
  obtain ⟨ob, hob, hcb, hdb⟩ := id hs
  have hTs : s.TypeIs (.ref sl) "slice" := ⟨ob, hob, hcb⟩
  unfold getItem
  try with_reducible refine wpAny_holding ?_
  first | refine wpAny_bind (wpAny_pure ?_) | skip
  refine wpAny_bind (wpAny_sequenceKey ht.typeIs (by decide) (wpAny_bind (wpAny_callSpecial?_slot (name := "__getitem__") ht.typeIs PyProof.Rows.slot_tuple_getitem (wpAny_call_entry PyProof.Rows.slot_tuple_getitem ht.typeIs entry_tuple_getitem ?_ (args_tuple_getitem _ _)))))
  show wpAny _ _ (Builtin.Tuple.tupleItemsOf (.ref t) >>= _) _ _ s
  refine wpAny_bind (tupleItemsOf_ ht (wpAny_bind (wpAny_typeOf hTs ?_)))
  rw [if_pos (by decide)]
  refine wpAny_bind (HT.sliceApplied_gen hs pl pu ?_)
  have hyes : (((HT.sIx items.size 0 lo : Nat) : Int) == 0 && (1 : Int) == 1 && (HT.sIx items.size items.size hi - HT.sIx items.size 0 lo) == items.size) = true := by
    rw [hw.1, hw.2]; simp
  show wpAny _ _ (if (((HT.sIx items.size 0 lo : Nat) : Int) == 0 && (1 : Int) == 1 && (HT.sIx items.size items.size hi - HT.sIx items.size 0 lo) == items.size) = true then _ else _) _ _ s
  rw [if_pos hyes]
  refine wpAny_bind (m := Builtin.Tuple.tupleIsExact (.ref t)) ?_
  unfold Builtin.Tuple.tupleIsExact
  refine wpAny_bind (wpAny_typeOf ht.typeIs (wpAny_pure ?_))
  rw [if_pos (by decide)]
  exact wpAny_bind (wpAny_rule (wpAny_pure ⟨_, rfl, wpAny_pure h⟩))
theorem sl_whole : SlR X (rSlW X.K) := by
  intro pins s σ H x v vl vu lo hi sl Q I rx hs pl pu h
  obtain ⟨p, xs, rfl, hx, hw, q⟩ := h
  cases rx
  obtain ⟨its, r, ht, hz⟩ := I.tuple hx
  have hlen : its.toArray.size = xs.length := by rw [List.size_toArray]; exact r.length.symm
  exact ⟨"tuple", _, PyProof.Rows.slot_tuple_getitem.lookup, ht.typeIs, getItem_whole ht hs pl pu (by rw [hlen]; exact hw) ⟨.ref p, H, I, rfl, q⟩⟩
def fSlA (O : Ow) (x : D) (lo hi : Option Int) : R D := match x with
  | .tup ds => if HT.sIx ds.length 0 lo = 0 ∧ HT.sIx ds.length ds.length hi = ds.length then .ok (.tup ds) O else .ok (.tup (cutD ds lo hi)) O
  | x => fSl O x lo hi
def dSlA (te : DE) (tl th : DO) : DE := fun σ O => (te σ O).bnd fun x O1 => (tl σ O1).bnd fun lo O2 => (th σ O2).bnd fun hi O3 => fSlA O3 x lo hi
theorem pd_slA {lo hi : Option Expr} {tl th : DO} {p2 : Pos} (he : PD X Ex e te) (hl : PDO X Ex lo tl) (hu : PDO X Ex hi th) : PD X Ex (.Subscript e (.Slice lo hi none p2) pos) (dSlA te tl th) :=
  pd_of (pe_slice (r := fun x lo hi H Q => rSlW X.K x lo hi H Q ∨ rSlA X.K x lo hi H Q) (SlR.or sl_whole (SlR.or sl_str (SlR.or sl_tup sl_list))) he.out hl.out hu.out) fun hid μ σ O σv H Q e1 c1 q => rd.go e1 c1 q fun d O1 v H1 μ1 e2 x cl r p => rdO.go e2 cl p fun l O2 H2 μ2 e3 x3 c3 p3 => rdO.go e3 c3 p3 fun u O3 H3 μ3 e4 x4 c4 p4 => by
    have r' := (r.ext x3).ext x4
    cases d with
    | tup ds =>
      have rr := r'
      unfold Dat at r'
      obtain ⟨pa, vs, rfl, la, q1⟩ := r'
      have p4' : postE Ex X.K H3 hid μ3 (if HT.sIx ds.length 0 l = 0 ∧ HT.sIx ds.length ds.length u = ds.length then .ok (.tup ds) O3 else .ok (.tup (cutD ds l u)) O3) Q := p4
      split at p4'
      · rename_i hw
        exact .inl ⟨pa, vs, rfl, la.sq, by rw [← q1.length]; exact hw, post.here p4' c4 rr⟩
      · rename_i hw
        exact .inr (.inr (.inl ⟨pa, vs, rfl, la.sq, by rw [← q1.length]; exact hw, fun l' hl' => post.ok p4' (.laid hl') (c4.laid hl') (Dat.newT c4 hl' (dats_cut q1 l u))⟩))
    | str i =>
      unfold Dat at r'; subst r'
      have p4' : postE Ex X.K H3 hid μ3 (if i.length ≤ 100000 then .ok (.str (Txt.slice ⟨i.toArray⟩ l u).cps.toList) O3 else .bad) Q := p4
      obtain ⟨hll, p4'⟩ := post.ite p4'
      refine .inr (.inl ⟨_, rfl, ?_, post.here p4' c4 ?_⟩)
      · show i.toArray.size ≤ _
        rw [List.size_toArray]; exact small_line hll
      · unfold Dat; rw [str_eta]
    | lst ds =>
      have p4' : postE Ex X.K H3 hid μ3 (.ok (.lst (cutD ds l u)) O3) Q := p4
      obtain ⟨pa, vs, rfl, sq, q1⟩ := lsV_at c4 r' (show lsV O3 (.lst ds) = some ds from rfl)
      exact .inr (.inr (.inr ⟨pa, vs, rfl, sq, fun l' hl' => post.ok p4' (.laid hl') (c4.laid hl') (Dat.newL c4 hl' (dats_cut q1 l u))⟩))
    | own k =>
      have p4' : postE Ex X.K H3 hid μ3 (match O3[k]? with | some ds => .ok (.lst (cutD ds l u)) O3 | none => .bad) Q := p4
      split at p4'
      · rename_i ds eds
        obtain ⟨pa, vs, rfl, sq, q1⟩ := lsV_at c4 r' (show lsV O3 (.own k) = some ds from eds)
        exact .inr (.inr (.inr ⟨pa, vs, rfl, sq, fun l' hl' => post.ok p4' (.laid hl') (c4.laid hl') (Dat.newL c4 hl' (dats_cut q1 l u))⟩))
      · exact False.elim p4'
    | _ => exact False.elim p4
end
end DL

namespace DL
open PySem L2
section
variable {X : Cx} {Ex : Nat → Hp → Prop}
/-- less, of ints or of texts -/
def fLtA : Ow → D → D → R D := fun O x y => match x, y with
  | .int i, .int j => .ok (.bl (decide (i < j))) O
  | .str p, .str q => .ok (.bl (decide (p < q))) O
  | _, _ => .bad
theorem op_ltA : OpR X (compareOp .Lt) (fun x y H Q => (∃ i j, x = .str i ∧ y = .str j ∧ Q (.bl (decide (i.cps.toList < j.cps.toList))) H) ∨ rI0 (fun i j => .bl (decide (i < j))) x y H Q) := OpR.or op_lt_str op_lt
theorem opd_ltA : OpD X Ex (fun x y H Q => (∃ i j, x = .str i ∧ y = .str j ∧ Q (.bl (decide (i.cps.toList < j.cps.toList))) H) ∨ rI0 (fun i j => .bl (decide (i < j))) x y H Q) fLtA := by
  intro H hid μ O x y v w Q c dx dy q
  unfold fLtA at q
  split at q
  · rename_i i j
    exact .inr (opd_lt H hid μ O (.int i) (.int j) v w Q c dx dy q)
  · unfold Dat at dx dy; subst dx; subst dy
    exact .inl ⟨_, _, rfl, rfl, post.here q c dat_bl⟩
  · exact False.elim q
end
end DL

set_option maxHeartbeats 400000
namespace K07
open PySem L2 DL
def top (i : Nat) : Stmt := PySem.Challenge.pw_leastterms_k07_whole_greatest_terms.main.body.getD i (.Pass ⟨0, 0, 0, 0⟩)
def t_SWITCHES_BY_POINTS : List (Int × Int) := [(2, 1), (4, 2), (8, 3), (16, 4)]
structure Txt (K : PySem.W.Frag) (mg : Str → Option Value) : Prop where
  d_is_whole : FunAt K mg "is_whole" (top 5)
  d_is_whole_within : FunAt K mg "is_whole_within" (top 6)
  d_is_rising : FunAt K mg "is_rising" (top 7)
  d_is_answer : FunAt K mg "is_answer" (top 10)
  d_is_function : FunAt K mg "is_function" (top 11)
  d_need_function : FunAt K mg "need_function" (top 12)
  d_switches_of : FunAt K mg "switches_of" (top 13)
  d_points_with : FunAt K mg "points_with" (top 14)
  d_has_term_signs : FunAt K mg "has_term_signs" (top 17)
  d_need_term : FunAt K mg "need_term" (top 18)
  d_has_rising_terms : FunAt K mg "has_rising_terms" (top 19)
  d_all_terms : FunAt K mg "all_terms" (top 20)
  d_bits_of : FunAt K mg "bits_of" (top 21)
  d_points_of : FunAt K mg "points_of" (top 22)
  d_lies_in : FunAt K mg "lies_in" (top 23)
  d_with_sign : FunAt K mg "with_sign" (top 24)
  d_terms_holding : FunAt K mg "terms_holding" (top 25)
  d_holds_no_nought : FunAt K mg "holds_no_nought" (top 27)
  d_holds_a_one : FunAt K mg "holds_a_one" (top 28)
  d_is_good : FunAt K mg "is_good" (top 29)
  d_good_terms : FunAt K mg "good_terms" (top 30)
  d_can_widen_at : FunAt K mg "can_widen_at" (top 31)
  d_is_widest : FunAt K mg "is_widest" (top 32)
  d_greatest : FunAt K mg "greatest" (top 33)
  d_widened : FunAt K mg "widened" (top 34)
  d_is_form : FunAt K mg "is_form" (top 36)
  d__law_cell_at : FunAt K mg "_law_cell_at" (top 38)
  d__law_state : FunAt K mg "_law_state" (top 39)
  d__law_take : FunAt K mg "_law_take" (top 40)
  d__law_term : FunAt K mg "_law_term" (top 41)
  d__law_bits : FunAt K mg "_law_bits" (top 42)
  d__law_points : FunAt K mg "_law_points" (top 43)
  d__law_function : FunAt K mg "_law_function" (top 44)
  d__law_answered : FunAt K mg "_law_answered" (top 45)
  d__law_has_one : FunAt K mg "_law_has_one" (top 46)
  d__law_right : FunAt K mg "_law_right" (top 47)
  d_law : FunAt K mg "law" (top 48)
  b_all : mg "all" = none
  b_any : mg "any" = none
  b_bool : mg "bool" = none
  b_enumerate : mg "enumerate" = none
  b_int : mg "int" = none
  b_isinstance : mg "isinstance" = none
  b_len : mg "len" = none
  b_max : mg "max" = none
  b_min : mg "min" = none
  b_range : mg "range" = none
  b_str : mg "str" = none
  b_tuple : mg "tuple" = none
  b_zip : mg "zip" = none
  c_SIGNS : GStr mg "SIGNS" [45, 48, 49]
  k_SWITCHES_BY_POINTS : GTab K mg "SWITCHES_BY_POINTS" t_SWITCHES_BY_POINTS
theorem nd_0 : (["things", "one", "other"] : List Str).Nodup := by decide +kernel
theorem nd_1 : (["thing", "answer"] : List Str).Nodup := by decide +kernel
theorem nd_2 : (["function", "answer", "point", "told"] : List Str).Nodup := by decide +kernel
theorem nd_3 : (["n", "thing", "sign"] : List Str).Nodup := by decide +kernel
theorem nd_4 : (["n", "thing", "term"] : List Str).Nodup := by decide +kernel
theorem nd_5 : (["n", "terms", "switch"] : List Str).Nodup := by decide +kernel
theorem nd_6 : (["n", "terms", "switch", "term", "sign"] : List Str).Nodup := by decide +kernel
theorem nd_7 : (["term", "points", "sign"] : List Str).Nodup := by decide +kernel
theorem nd_8 : (["term", "points", "sign", "point", "bit"] : List Str).Nodup := by decide +kernel
theorem nd_9 : (["one", "other", "sign", "wide"] : List Str).Nodup := by decide +kernel
theorem nd_10 : (["terms", "point", "term"] : List Str).Nodup := by decide +kernel
theorem nd_11 : (["function", "term", "point"] : List Str).Nodup := by decide +kernel
theorem nd_12 : (["function", "term"] : List Str).Nodup := by decide +kernel
theorem nd_13 : (["function", "term", "switch"] : List Str).Nodup := by decide +kernel
theorem nd_14 : (["function", "term", "wide", "switch"] : List Str).Nodup := by decide +kernel
theorem nd_15 : (["function", "thing", "term"] : List Str).Nodup := by decide +kernel
theorem nd_16 : (["function", "thing", "point"] : List Str).Nodup := by decide +kernel
theorem nd_17 : (["_law_script", "_law_k", "_law_cell"] : List Str).Nodup := by decide +kernel
theorem nd_18 : (["_law_state_here", "_law_many", "_law_found", "_law_stirred"] : List Str).Nodup := by decide +kernel
theorem nd_19 : (["_law_state_here", "_law_n", "_law_k"] : List Str).Nodup := by decide +kernel
theorem nd_20 : (["_law_n", "_law_point", "_law_found", "_law_k"] : List Str).Nodup := by decide +kernel
theorem nd_21 : (["_law_term_here", "_law_found", "_law_point", "_law_bits_here"] : List Str).Nodup := by decide +kernel
theorem nd_22 : (["_law_term_here", "_law_found", "_law_point", "_law_bits_here", "_law_k"] : List Str).Nodup := by decide +kernel
theorem nd_23 : (["_law_state_here", "_law_n", "_law_way", "_law_some", "_law_held", "_law_turn", "_law_found"] : List Str).Nodup := by decide +kernel
theorem nd_24 : (["_law_state_here", "_law_n", "_law_way", "_law_some", "_law_held", "_law_turn", "_law_found", "_law_point"] : List Str).Nodup := by decide +kernel
theorem nd_25 : (["_law_state_here", "_law_function_here", "_law_some", "_law_at"] : List Str).Nodup := by decide +kernel
theorem nd_26 : (["_law_function_here", "_law_term_here", "_law_point"] : List Str).Nodup := by decide +kernel
theorem nd_27 : (["_law_function_here", "_law_some", "_law_fine", "_law_term_here", "_law_wider"] : List Str).Nodup := by decide +kernel
theorem nd_28 : (["_law_function_here", "_law_some", "_law_fine", "_law_term_here", "_law_wider", "_law_other"] : List Str).Nodup := by decide +kernel
theorem nd_29 : (["_law_script", "_law_k", "_law_state_here", "_law_function_here", "_law_other", "_law_later", "_law_term_here"] : List Str).Nodup := by decide +kernel
theorem nd_30 : (["_law_script", "_law_k", "_law_state_here", "_law_function_here", "_law_other", "_law_later", "_law_term_here", "_law_wider"] : List Str).Nodup := by decide +kernel
section
variable {P : Program} {w : World} {K : PySem.W.Frag} {mg : Str → Option Value} {base : Heap}
/-! ### is_whole -/
def B_is_whole : DS :=
  (sRet (dAnd (dIsi "int" (dVar 0)) (dNot (dIsi "bool" (dVar 0)))))
def F_is_whole : List D → Ow → R D := (runF 1 B_is_whole)
theorem sc_is_whole : FnScope ["thing"] ["thing"] (defScope (top 5)) := ⟨rfl, rfl, rfl, by decide +kernel, rfl, by decide +kernel, by decide +kernel⟩
theorem ok_is_whole (T : Txt K mg) : Callee P w K mg base "is_whole" 1 1 F_is_whole :=
  Callee.self (fnC (k := 0) T.d_is_whole sc_is_whole (fun _ _ _ _ _ _ us hl => match us, hl with | [_], _ => rfl) fun f cdv A outer s H E hr =>
    (pdss_one (pds_ret (pd_and (pd_isi (n := "int") (pd_var (i := 0) rfl (.inl rfl)) (by decide) rfl T.b_isinstance bt_isinstance rfl T.b_int bt_int) (pd_one (pd_not (pd_isi (n := "bool") (pd_var (i := 0) rfl (.inl rfl)) (by decide) rfl T.b_isinstance bt_isinstance rfl T.b_bool bt_bool)))))))
/-! ### is_rising -/
def B_is_rising : DS :=
  (sRet (dCall fAll (dCons (dComp false 2 (dZipW (dCons (dVar 0) (dCons (dSlA (dVar 0) (oSome (dC (.int 1))) oNone) dNil))) (.two 1 2) [] [] (dOp fLtA (dVar 1) (dVar 2))) dNil)))
def F_is_rising : List D → Ow → R D := (runF 1 B_is_rising)
theorem sc_is_rising : FnScope ["things"] ["things"] (defScope (top 7)) := ⟨rfl, rfl, rfl, by decide +kernel, rfl, by decide +kernel, by decide +kernel⟩
theorem ok_is_rising (T : Txt K mg) : Callee P w K mg base "is_rising" 1 1 F_is_rising :=
  Callee.self (fnC (k := 0) T.d_is_rising sc_is_rising (fun _ _ _ _ _ _ us hl => match us, hl with | [_], _ => rfl) fun f cdv A outer s H E hr =>
    (pdss_one (pds_ret (pd_callB (call_allB rfl) cd_all rfl T.b_all bt_all (pda_cons (pd_comp false ["one", "other"] rfl (pdi_zipW rfl T.b_zip (pda_cons (pd_var (i := 0) rfl (.inl rfl)) (pda_cons (pd_slA (pd_var (i := 0) rfl (.inl rfl)) (pdo_some pd_int) pdo_none) pda_nil se_sub) se_name)) (bok_of (by kernel_rfl)) (fun _ _ _ _ _ => ⟨(pg_two (i := 1) (j := 2) rfl nd_0 rfl rfl (.inl rfl) (.inl rfl) (.inr rfl) (.inr rfl)), .nil, .nil, (pd_cmp op_ltA opd_ltA (pd_var (i := 1) rfl (.inl rfl)) (pd_var (i := 2) rfl (.inl rfl)) (nomark _))⟩)) pda_nil se_comp)))))
/-! ### switches_of -/
def B_switches_of : DS :=
  (sRet (dTab t_SWITCHES_BY_POINTS (dCall fLen (dCons (dVar 0) dNil))))
def F_switches_of : List D → Ow → R D := (runF 1 B_switches_of)
theorem sc_switches_of : FnScope ["function"] ["function"] (defScope (top 13)) := ⟨rfl, rfl, rfl, by decide +kernel, rfl, by decide +kernel, by decide +kernel⟩
theorem ok_switches_of (T : Txt K mg) : Callee P w K mg base "switches_of" 1 1 F_switches_of :=
  Callee.self (fnC (k := 0) T.d_switches_of sc_switches_of (fun _ _ _ _ _ _ us hl => match us, hl with | [_], _ => rfl) fun f cdv A outer s H E hr =>
    (pdss_one (pds_ret (pd_gtab T.k_SWITCHES_BY_POINTS rfl (pd_callB call_len cd_len rfl T.b_len bt_len (pda_cons (pd_var (i := 0) rfl (.inl rfl)) pda_nil se_name)) (fun _ _ => rfl)))))
/-! ### points_with -/
def B_points_with : DS :=
  (sRet (dComp false 2 (dEnumT (dCons (dVar 0) dNil)) (.two 2 3) [(dTst (dOp (fPy eqF) (dVar 3) (dVar 1)))] [] (dVar 2)))
def F_points_with : List D → Ow → R D := (runF 2 B_points_with)
theorem sc_points_with : FnScope ["function", "answer"] ["function", "answer"] (defScope (top 14)) := ⟨rfl, rfl, rfl, by decide +kernel, rfl, by decide +kernel, by decide +kernel⟩
theorem ok_points_with (T : Txt K mg) : Callee P w K mg base "points_with" 1 2 F_points_with :=
  Callee.self (fnC (k := 0) T.d_points_with sc_points_with (fun _ _ _ _ _ _ us hl => match us, hl with | [_, _], _ => rfl) fun f cdv A outer s H E hr =>
    (pdss_one (pds_ret (pd_comp false ["point", "told"] rfl (pdi_enumT rfl T.b_enumerate (pda_cons (pd_var (i := 0) rfl (.inl rfl)) pda_nil se_name)) (bok_of (by kernel_rfl)) (fun _ _ _ _ _ => ⟨(pg_two (i := 2) (j := 3) rfl nd_2 rfl rfl (.inl rfl) (.inl rfl) (.inr rfl) (.inr rfl)), (.cons (pdt_cmp (op_eqPy hr.units) opd_py (pd_var (i := 3) rfl (.inl rfl)) (pd_var (i := 1) rfl (.inr (.inl rfl))) (nomark _)) .nil), .nil, (pd_var (i := 2) rfl (.inl rfl))⟩)))))
/-! ### has_term_signs -/
def B_has_term_signs : DS :=
  (sSeq (sIf (dOrT (dNotT (dTru (dIsi "str" (dVar 1)))) (dTst (dOp (fPy neF) (dCall fLen (dCons (dVar 1) dNil)) (dVar 0)))) (sRet (dC (.bl false))) sNil) (sRet (dCall fAll (dCons (dComp false 1 (dIt (dVar 1)) (.one 2) [] [] (dOp fIn (dVar 2) (dC (.str [45, 48, 49])))) dNil))))
def F_has_term_signs : List D → Ow → R D := (runF 2 B_has_term_signs)
theorem sc_has_term_signs : FnScope ["n", "thing"] ["n", "thing"] (defScope (top 17)) := ⟨rfl, rfl, rfl, by decide +kernel, rfl, by decide +kernel, by decide +kernel⟩
theorem ok_has_term_signs (T : Txt K mg) : Callee P w K mg base "has_term_signs" 1 2 F_has_term_signs :=
  Callee.self (fnC (k := 0) T.d_has_term_signs sc_has_term_signs (fun _ _ _ _ _ _ us hl => match us, hl with | [_, _], _ => rfl) fun f cdv A outer s H E hr =>
    (pdss_cons (pds_if (PDW.pt (pwd_or (pdt_not (pdt_tru (pd_isi (n := "str") (pd_var (i := 1) rfl (.inl rfl)) (by decide) rfl T.b_isinstance bt_isinstance rfl T.b_str bt_str) (fun _ => rfl))) (pwd_or1 (pdt_cmp (op_nePy hr.units) opd_py (pd_callB call_len cd_len rfl T.b_len bt_len (pda_cons (pd_var (i := 1) rfl (.inl rfl)) pda_nil se_name)) (pd_var (i := 0) rfl (.inl rfl)) (nomark _))))) (pdss_one (pds_ret pd_bl)) pdss_nil) (pdss_one (pds_ret (pd_callB (call_allB rfl) cd_all rfl T.b_all bt_all (pda_cons (pd_comp false ["sign"] rfl (pdi_seq (pd_var (i := 1) rfl (.inl rfl))) (bok_of (by kernel_rfl)) (fun _ _ _ _ _ => ⟨(pg_one (i := 2) nd_3 rfl (.inl rfl) (.inr rfl)), .nil, .nil, (pd_cmp (op_inA hr.units) opd_in (pd_var (i := 2) rfl (.inl rfl)) (pd_gstr T.c_SIGNS) rfl)⟩)) pda_nil se_comp))))))
/-! ### all_terms -/
def B_all_terms : DS :=
  (sSeq (sSet 1 (dLst (dCons (dC (.str [])) dNil))) (sSeq (sFor (dRng1 (dCons (dVar 0) dNil)) (.one 2) (sSet 1 (dComp false 2 (dIt (dVar 1)) (.one 3) [] (⟨(dIt (dC (.str [45, 48, 49]))), (.one 4), []⟩ :: []) (dOp fAdd (dVar 3) (dVar 4))))) (sRet (dVar 1))))
def F_all_terms : List D → Ow → R D := (runF 3 B_all_terms)
theorem sc_all_terms : FnScope ["n", "terms", "switch"] ["n"] (defScope (top 20)) := ⟨rfl, rfl, rfl, by decide +kernel, rfl, by decide +kernel, by decide +kernel⟩
theorem ok_all_terms (T : Txt K mg) : Callee P w K mg base "all_terms" 1 1 F_all_terms :=
  Callee.self (fnC (k := 0) T.d_all_terms sc_all_terms (fun _ _ _ _ _ _ us hl => match us, hl with | [_], _ => rfl) fun f cdv A outer s H E hr =>
    (pdss_cons (pds_set (i := 1) nd_5 rfl (.inl rfl) (pd_lst (pda_cons (pd_str [] rfl) pda_nil se_const))) (pdss_cons (pds_for PassesOwn.never rfl (pdi_range1 rfl T.b_range (pda_cons (pd_var (i := 0) rfl (.inl rfl)) pda_nil se_name)) (pg_one (i := 2) nd_5 rfl (.inl rfl) (.inl rfl)) (pdss_one (pds_setComp (i := 1) false ["term", "sign"] rfl nd_5 rfl rfl (pdi_seq (pd_var (i := 1) rfl (.inl rfl))) (bok_of (by kernel_rfl)) (fun _ _ _ _ _ => ⟨(pg_one (i := 3) nd_6 rfl (.inl rfl) (.inr rfl)), .nil, (ClsOk.cons (c := ⟨(dIt (dC (.str [45, 48, 49]))), (.one 4), []⟩) (pdi_seq (pd_gstr T.c_SIGNS)) (fun _ => rfl) (pg_one (i := 4) nd_6 rfl (.inl rfl) (.inr rfl)) .nil .nil), (pd_add (pd_var (i := 3) rfl (.inl rfl)) (pd_var (i := 4) rfl (.inl rfl)))⟩) rfl))) (pdss_one (pds_ret (pd_var (i := 1) rfl (.inl rfl)))))))
/-! ### bits_of -/
def B_bits_of : DS :=
  (sSeq (sIf (dTst (dOp (fPy eqF) (dVar 0) (dC (.str [45])))) (sRet (dLst (dCons (dC (.int 0)) (dCons (dC (.int 1)) dNil)))) sNil) (sRet (dLst (dCons (dCall fIntA (dCons (dVar 0) dNil)) dNil))))
def F_bits_of : List D → Ow → R D := (runF 1 B_bits_of)
theorem sc_bits_of : FnScope ["sign"] ["sign"] (defScope (top 21)) := ⟨rfl, rfl, rfl, by decide +kernel, rfl, by decide +kernel, by decide +kernel⟩
theorem ok_bits_of (T : Txt K mg) : Callee P w K mg base "bits_of" 1 1 F_bits_of :=
  Callee.self (fnC (k := 0) T.d_bits_of sc_bits_of (fun _ _ _ _ _ _ us hl => match us, hl with | [_], _ => rfl) fun f cdv A outer s H E hr =>
    (pdss_cons (pds_if (pdt_cmp (op_eqPy hr.units) opd_py (pd_var (i := 0) rfl (.inl rfl)) (pd_str [45] rfl) (nomark _)) (pdss_one (pds_ret (pd_lst (pda_cons pd_int (pda_cons pd_int pda_nil se_const) se_const)))) pdss_nil) (pdss_one (pds_ret (pd_lst (pda_cons (pd_callTy call_intA cd_intA rfl T.b_int bt_int (pda_cons (pd_var (i := 0) rfl (.inl rfl)) pda_nil se_name)) pda_nil se_call))))))
/-! ### lies_in -/
def B_lies_in : DS :=
  (sRet (dCall fAll (dCons (dComp false 2 (dZipW (dCons (dVar 0) (dCons (dVar 1) dNil))) (.two 2 3) [] [] (dOr (dOp (fPy eqF) (dVar 3) (dC (.str [45]))) (dOp (fPy eqF) (dVar 3) (dVar 2)))) dNil)))
def F_lies_in : List D → Ow → R D := (runF 2 B_lies_in)
theorem sc_lies_in : FnScope ["one", "other"] ["one", "other"] (defScope (top 23)) := ⟨rfl, rfl, rfl, by decide +kernel, rfl, by decide +kernel, by decide +kernel⟩
theorem ok_lies_in (T : Txt K mg) : Callee P w K mg base "lies_in" 1 2 F_lies_in :=
  Callee.self (fnC (k := 0) T.d_lies_in sc_lies_in (fun _ _ _ _ _ _ us hl => match us, hl with | [_, _], _ => rfl) fun f cdv A outer s H E hr =>
    (pdss_one (pds_ret (pd_callB (call_allB rfl) cd_all rfl T.b_all bt_all (pda_cons (pd_comp false ["sign", "wide"] rfl (pdi_zipW rfl T.b_zip (pda_cons (pd_var (i := 0) rfl (.inl rfl)) (pda_cons (pd_var (i := 1) rfl (.inl rfl)) pda_nil se_name) se_name)) (bok_of (by kernel_rfl)) (fun _ _ _ _ _ => ⟨(pg_two (i := 2) (j := 3) rfl nd_9 rfl rfl (.inl rfl) (.inl rfl) (.inr rfl) (.inr rfl)), .nil, .nil, (pd_or (pd_cmp (op_eqPy hr.units) opd_py (pd_var (i := 3) rfl (.inl rfl)) (pd_str [45] rfl) (nomark _)) (pd_one (pd_cmp (op_eqPy hr.units) opd_py (pd_var (i := 3) rfl (.inl rfl)) (pd_var (i := 2) rfl (.inl rfl)) (nomark _))))⟩)) pda_nil se_comp)))))
/-! ### with_sign -/
def B_with_sign : DS :=
  (sRet (dOp fAdd (dOp fAdd (dSl (dVar 0) oNone (oSome (dVar 1))) (dVar 2)) (dSl (dVar 0) (oSome (dOp fAdd (dVar 1) (dC (.int 1)))) oNone)))
def F_with_sign : List D → Ow → R D := (runF 3 B_with_sign)
theorem sc_with_sign : FnScope ["term", "switch", "sign"] ["term", "switch", "sign"] (defScope (top 24)) := ⟨rfl, rfl, rfl, by decide +kernel, rfl, by decide +kernel, by decide +kernel⟩
theorem ok_with_sign (T : Txt K mg) : Callee P w K mg base "with_sign" 1 3 F_with_sign :=
  Callee.self (fnC (k := 0) T.d_with_sign sc_with_sign (fun _ _ _ _ _ _ us hl => match us, hl with | [_, _, _], _ => rfl) fun f cdv A outer s H E hr =>
    (pdss_one (pds_ret (pd_add (pd_add (pd_sl (pd_var (i := 0) rfl (.inl rfl)) pdo_none (pdo_some (pd_var (i := 1) rfl (.inl rfl)))) (pd_var (i := 2) rfl (.inl rfl))) (pd_sl (pd_var (i := 0) rfl (.inl rfl)) (pdo_some (pd_add (pd_var (i := 1) rfl (.inl rfl)) pd_int)) pdo_none)))))
/-! ### _law_cell_at -/
def B__law_cell_at : DS :=
  (sSeq (sIf (dTst (dOp fLt (dVar 1) (dCall fLen (dCons (dVar 0) dNil)))) (sRet (dOp fIx (dVar 0) (dVar 1))) sNil) (sRet (dC (.int 0))))
def F__law_cell_at : List D → Ow → R D := (runF 2 B__law_cell_at)
theorem sc__law_cell_at : FnScope ["_law_script", "_law_k"] ["_law_script", "_law_k"] (defScope (top 38)) := ⟨rfl, rfl, rfl, by decide +kernel, rfl, by decide +kernel, by decide +kernel⟩
theorem ok__law_cell_at (T : Txt K mg) : Callee P w K mg base "_law_cell_at" 1 2 F__law_cell_at :=
  Callee.self (fnC (k := 0) T.d__law_cell_at sc__law_cell_at (fun _ _ _ _ _ _ us hl => match us, hl with | [_, _], _ => rfl) fun f cdv A outer s H E hr =>
    (pdss_cons (pds_if (pdt_cmp op_lt opd_lt (pd_var (i := 1) rfl (.inl rfl)) (pd_callB call_len cd_len rfl T.b_len bt_len (pda_cons (pd_var (i := 0) rfl (.inl rfl)) pda_nil se_name)) (nomark _)) (pdss_one (pds_ret (pd_ix (pd_var (i := 0) rfl (.inl rfl)) (pd_var (i := 1) rfl (.inl rfl)) (fun _ _ => rfl)))) pdss_nil) (pdss_one (pds_ret pd_int))))
/-! ### _law_take -/
def B__law_take : DS :=
  (sSeq (sIf (dTru (dOp fIx (dVar 0) (dC (.int 1)))) (sSeq (sSet 2 (dOp (fI gMod) (dOp fIx (dVar 0) (dC (.int 0))) (dVar 1))) (sSeq (sPut (dOp (fI gDiv) (dOp fIx (dVar 0) (dC (.int 0))) (dVar 1)) (dVar 0) (dC (.int 0))) (sRet (dVar 2)))) sNil) (sSeq (sPut (dOp (fI gMod) (dOp fAdd (dOp (fI gMul) (dOp fIx (dVar 0) (dC (.int 0))) (dC (.int 48271))) (dC (.int 29))) (dC (.int 2147483647))) (dVar 0) (dC (.int 0))) (sSeq (sSet 3 (dOp (fI gMod) (dOp fAdd (dOp fAdd (dOp (fI gMul) (dOp fIx (dVar 0) (dC (.int 0))) (dOp fIx (dVar 0) (dC (.int 0)))) (dOp (fI gMul) (dC (.int 39373)) (dOp fIx (dVar 0) (dC (.int 0))))) (dC (.int 7))) (dC (.int 2147483629)))) (sSeq (sSet 3 (dOp (fI gMod) (dOp fAdd (dOp (fI gMul) (dVar 3) (dVar 3)) (dOp (fI gMul) (dC (.int 16807)) (dVar 3))) (dC (.int 2147483587)))) (sRet (dOp (fI gMod) (dOp (fI gDiv) (dVar 3) (dC (.int 8))) (dVar 1)))))))
def F__law_take : List D → Ow → R D := (runF 4 B__law_take)
theorem sc__law_take : FnScope ["_law_state_here", "_law_many", "_law_found", "_law_stirred"] ["_law_state_here", "_law_many"] (defScope (top 40)) := ⟨rfl, rfl, rfl, by decide +kernel, rfl, by decide +kernel, by decide +kernel⟩
theorem ok__law_take (T : Txt K mg) : Callee P w K mg base "_law_take" 1 2 F__law_take :=
  Callee.self (fnC (k := 0) T.d__law_take sc__law_take (fun _ _ _ _ _ _ us hl => match us, hl with | [_, _], _ => rfl) fun f cdv A outer s H E hr =>
    (pdss_cons (pds_if (pdt_tru (pd_ix (pd_var (i := 0) rfl (.inl rfl)) pd_int (fun _ _ => rfl)) (fun _ => rfl)) (pdss_cons (pds_set (i := 2) nd_18 rfl (.inl rfl) (pd_op op_mod opd_mod (pd_ix (pd_var (i := 0) rfl (.inl rfl)) pd_int (fun _ _ => rfl)) (pd_var (i := 1) rfl (.inl rfl)))) (pdss_cons (pds_put (pd_op op_fdiv opd_div (pd_ix (pd_var (i := 0) rfl (.inl rfl)) pd_int (fun _ _ => rfl)) (pd_var (i := 1) rfl (.inl rfl))) (pd_var (i := 0) rfl (.inl rfl)) pd_int) (pdss_one (pds_ret (pd_var (i := 2) rfl (.inl rfl)))))) pdss_nil) (pdss_cons (pds_put (pd_op op_mod opd_mod (pd_add (pd_op op_mul opd_mul (pd_ix (pd_var (i := 0) rfl (.inl rfl)) pd_int (fun _ _ => rfl)) pd_int) pd_int) pd_int) (pd_var (i := 0) rfl (.inl rfl)) pd_int) (pdss_cons (pds_set (i := 3) nd_18 rfl (.inl rfl) (pd_op op_mod opd_mod (pd_add (pd_add (pd_op op_mul opd_mul (pd_ix (pd_var (i := 0) rfl (.inl rfl)) pd_int (fun _ _ => rfl)) (pd_ix (pd_var (i := 0) rfl (.inl rfl)) pd_int (fun _ _ => rfl))) (pd_op op_mul opd_mul pd_int (pd_ix (pd_var (i := 0) rfl (.inl rfl)) pd_int (fun _ _ => rfl)))) pd_int) pd_int)) (pdss_cons (pds_set (i := 3) nd_18 rfl (.inl rfl) (pd_op op_mod opd_mod (pd_add (pd_op op_mul opd_mul (pd_var (i := 3) rfl (.inl rfl)) (pd_var (i := 3) rfl (.inl rfl))) (pd_op op_mul opd_mul pd_int (pd_var (i := 3) rfl (.inl rfl)))) pd_int)) (pdss_one (pds_ret (pd_op op_mod opd_mod (pd_op op_fdiv opd_div (pd_var (i := 3) rfl (.inl rfl)) pd_int) (pd_var (i := 1) rfl (.inl rfl))))))))))
/-! ### _law_bits -/
def B__law_bits : DS :=
  (sSeq (sSet 2 (dC (.str []))) (sSeq (sFor (dRng1 (dCons (dVar 0) dNil)) (.one 3) (sSeq (sSet 2 (dOp fAdd (dCall fStrI (dCons (dOp (fI gMod) (dVar 1) (dC (.int 2))) dNil)) (dVar 2))) (sSet 1 (dOp (fI gDiv) (dVar 1) (dC (.int 2)))))) (sRet (dVar 2))))
def F__law_bits : List D → Ow → R D := (runF 4 B__law_bits)
theorem sc__law_bits : FnScope ["_law_n", "_law_point", "_law_found", "_law_k"] ["_law_n", "_law_point"] (defScope (top 42)) := ⟨rfl, rfl, rfl, by decide +kernel, rfl, by decide +kernel, by decide +kernel⟩
theorem ok__law_bits (T : Txt K mg) : Callee P w K mg base "_law_bits" 1 2 F__law_bits :=
  Callee.self (fnC (k := 0) T.d__law_bits sc__law_bits (fun _ _ _ _ _ _ us hl => match us, hl with | [_, _], _ => rfl) fun f cdv A outer s H E hr =>
    (pdss_cons (pds_set (i := 2) nd_20 rfl (.inl rfl) (pd_str [] rfl)) (pdss_cons (pds_for PassesOwn.never rfl (pdi_range1 rfl T.b_range (pda_cons (pd_var (i := 0) rfl (.inl rfl)) pda_nil se_name)) (pg_one (i := 3) nd_20 rfl (.inl rfl) (.inl rfl)) (pdss_cons (pds_set (i := 2) nd_20 rfl (.inl rfl) (pd_add (pd_callTy call_str_int cd_strI rfl T.b_str bt_str (pda_cons (pd_op op_mod opd_mod (pd_var (i := 1) rfl (.inl rfl)) pd_int) pda_nil se_bin)) (pd_var (i := 2) rfl (.inl rfl)))) (pdss_one (pds_set (i := 1) nd_20 rfl (.inl rfl) (pd_op op_fdiv opd_div (pd_var (i := 1) rfl (.inl rfl)) pd_int))))) (pdss_one (pds_ret (pd_var (i := 2) rfl (.inl rfl)))))))
/-! ### is_whole_within -/
def B_is_whole_within : DS :=
  (sRet (dAnd (dFn 1 F_is_whole (dCons (dVar 0) dNil)) (dChain fLe fLe (dVar 1) (dVar 0) (dVar 2))))
def F_is_whole_within : List D → Ow → R D := (runF 3 B_is_whole_within)
theorem sc_is_whole_within : FnScope ["thing", "least", "most"] ["thing", "least", "most"] (defScope (top 6)) := ⟨rfl, rfl, rfl, by decide +kernel, rfl, by decide +kernel, by decide +kernel⟩
theorem ok_is_whole_within (T : Txt K mg) (c_is_whole : Callee P w K mg base "is_whole" 1 1 F_is_whole) : Callee P w K mg base "is_whole_within" 2 3 F_is_whole_within :=
  Callee.self (fnC (k := 1) T.d_is_whole_within sc_is_whole_within (fun _ _ _ _ _ _ us hl => match us, hl with | [_, _, _], _ => rfl) fun f cdv A outer s H E hr =>
    (pdss_one (pds_ret (pd_and (pd_fnC c_is_whole hr (by decide) rfl (pda_cons (pd_var (i := 0) rfl (.inl rfl)) pda_nil se_name)) (pd_one (pd_chain op_le opd_le op_le opd_le (pd_var (i := 1) rfl (.inl rfl)) (pd_var (i := 0) rfl (.inl rfl)) (pd_var (i := 2) rfl (.inl rfl))))))))
/-! ### need_term -/
def B_need_term : DS :=
  (sIf (dNotT (dTru (dFn 2 F_has_term_signs (dCons (dVar 0) (dCons (dVar 1) dNil))))) sBad sNil)
def F_need_term : List D → Ow → R D := (runF 2 B_need_term)
theorem sc_need_term : FnScope ["n", "thing"] ["n", "thing"] (defScope (top 18)) := ⟨rfl, rfl, rfl, by decide +kernel, rfl, by decide +kernel, by decide +kernel⟩
theorem ok_need_term (T : Txt K mg) (c_has_term_signs : Callee P w K mg base "has_term_signs" 1 2 F_has_term_signs) : Callee P w K mg base "need_term" 2 2 F_need_term :=
  Callee.self (fnC (k := 1) T.d_need_term sc_need_term (fun _ _ _ _ _ _ us hl => match us, hl with | [_, _], _ => rfl) fun f cdv A outer s H E hr =>
    (pdss_one (pds_if (pdt_not (pdt_tru (pd_fnC c_has_term_signs hr (by decide) rfl (pda_cons (pd_var (i := 0) rfl (.inl rfl)) (pda_cons (pd_var (i := 1) rfl (.inl rfl)) pda_nil se_name) se_name)) (fun _ => rfl))) pdss_bad pdss_nil)))
/-! ### has_rising_terms -/
def B_has_rising_terms : DS :=
  (sSeq (sIf (dNotT (dTru (dIsi "tuple" (dVar 1)))) (sRet (dC (.bl false))) sNil) (sRet (dAnd (dCall fAll (dCons (dComp false 1 (dIt (dVar 1)) (.one 2) [] [] (dFn 2 F_has_term_signs (dCons (dVar 0) (dCons (dVar 2) dNil)))) dNil)) (dFn 1 F_is_rising (dCons (dVar 1) dNil)))))
def F_has_rising_terms : List D → Ow → R D := (runF 2 B_has_rising_terms)
theorem sc_has_rising_terms : FnScope ["n", "thing"] ["n", "thing"] (defScope (top 19)) := ⟨rfl, rfl, rfl, by decide +kernel, rfl, by decide +kernel, by decide +kernel⟩
theorem ok_has_rising_terms (T : Txt K mg) (c_has_term_signs : Callee P w K mg base "has_term_signs" 1 2 F_has_term_signs) (c_is_rising : Callee P w K mg base "is_rising" 1 1 F_is_rising) : Callee P w K mg base "has_rising_terms" 2 2 F_has_rising_terms :=
  Callee.self (fnC (k := 1) T.d_has_rising_terms sc_has_rising_terms (fun _ _ _ _ _ _ us hl => match us, hl with | [_, _], _ => rfl) fun f cdv A outer s H E hr =>
    (pdss_cons (pds_if (pdt_not (pdt_tru (pd_isi (n := "tuple") (pd_var (i := 1) rfl (.inl rfl)) (by decide) rfl T.b_isinstance bt_isinstance rfl T.b_tuple bt_tuple) (fun _ => rfl))) (pdss_one (pds_ret pd_bl)) pdss_nil) (pdss_one (pds_ret (pd_and (pd_callB (call_allB rfl) cd_all rfl T.b_all bt_all (pda_cons (pd_comp false ["term"] rfl (pdi_seq (pd_var (i := 1) rfl (.inl rfl))) (bok_of (by kernel_rfl)) (fun _ _ _ _ _ => ⟨(pg_one (i := 2) nd_4 rfl (.inl rfl) (.inr rfl)), .nil, .nil, (pd_fnC c_has_term_signs hr (by decide) rfl (pda_cons (pd_var (i := 0) rfl (.inr (.inl rfl))) (pda_cons (pd_var (i := 2) rfl (.inl rfl)) pda_nil se_name) se_name))⟩)) pda_nil se_comp)) (pd_one (pd_fnC c_is_rising hr (by decide) rfl (pda_cons (pd_var (i := 1) rfl (.inl rfl)) pda_nil se_name))))))))
/-! ### points_of -/
def B_points_of : DS :=
  (sSeq (sSet 1 (dLst (dCons (dC (.int 0)) dNil))) (sSeq (sFor (dIt (dVar 0)) (.one 2) (sSet 1 (dComp false 2 (dIt (dVar 1)) (.one 3) [] (⟨(dIt (dFn 1 F_bits_of (dCons (dVar 2) dNil))), (.one 4), []⟩ :: []) (dOp fAdd (dOp (fI gMul) (dC (.int 2)) (dVar 3)) (dVar 4))))) (sRet (dVar 1))))
def F_points_of : List D → Ow → R D := (runF 3 B_points_of)
theorem sc_points_of : FnScope ["term", "points", "sign"] ["term"] (defScope (top 22)) := ⟨rfl, rfl, rfl, by decide +kernel, rfl, by decide +kernel, by decide +kernel⟩
theorem ok_points_of (T : Txt K mg) (c_bits_of : Callee P w K mg base "bits_of" 1 1 F_bits_of) : Callee P w K mg base "points_of" 2 1 F_points_of :=
  Callee.self (fnC (k := 1) T.d_points_of sc_points_of (fun _ _ _ _ _ _ us hl => match us, hl with | [_], _ => rfl) fun f cdv A outer s H E hr =>
    (pdss_cons (pds_set (i := 1) nd_7 rfl (.inl rfl) (pd_lst (pda_cons pd_int pda_nil se_const))) (pdss_cons (pds_for PassesOwn.never rfl (pdi_seq (pd_var (i := 0) rfl (.inl rfl))) (pg_one (i := 2) nd_7 rfl (.inr rfl) (.inl rfl)) (pdss_one (pds_setComp (i := 1) false ["point", "bit"] rfl nd_7 rfl rfl (pdi_seq (pd_var (i := 1) rfl (.inl rfl))) (bok_of (by kernel_rfl)) (fun _ _ _ _ _ => ⟨(pg_one (i := 3) nd_8 rfl (.inl rfl) (.inr rfl)), .nil, (ClsOk.cons (c := ⟨(dIt (dFn 1 F_bits_of (dCons (dVar 2) dNil))), (.one 4), []⟩) (pdi_seq (pd_fnC c_bits_of hr (by decide) rfl (pda_cons (pd_var (i := 2) rfl (.inr (.inl rfl))) pda_nil se_name))) (fun _ => rfl) (pg_one (i := 4) nd_8 rfl (.inl rfl) (.inr rfl)) .nil .nil), (pd_add (pd_op op_mul opd_mul pd_int (pd_var (i := 3) rfl (.inl rfl))) (pd_var (i := 4) rfl (.inl rfl)))⟩) rfl))) (pdss_one (pds_ret (pd_var (i := 1) rfl (.inl rfl)))))))
/-! ### _law_state -/
def B__law_state : DS :=
  (sSeq (sSet 2 (dFn 2 F__law_cell_at (dCons (dVar 0) (dCons (dVar 1) dNil)))) (sSeq (sIf (dTst (dOp fGe (dVar 2) (dOp (fI gPow) (dC (.int 10)) (dC (.int 18))))) (sRet (dLstO (dCons (dOp (fI gSub) (dVar 2) (dOp (fI gPow) (dC (.int 10)) (dC (.int 18)))) (dCons (dC (.bl true)) dNil)))) sNil) (sRet (dLstO (dCons (dOp (fI gMod) (dVar 2) (dC (.int 2147483647))) (dCons (dC (.bl false)) dNil))))))
def F__law_state : List D → Ow → R D := (runF 3 B__law_state)
theorem sc__law_state : FnScope ["_law_script", "_law_k", "_law_cell"] ["_law_script", "_law_k"] (defScope (top 39)) := ⟨rfl, rfl, rfl, by decide +kernel, rfl, by decide +kernel, by decide +kernel⟩
theorem ok__law_state (T : Txt K mg) (c__law_cell_at : Callee P w K mg base "_law_cell_at" 1 2 F__law_cell_at) : Callee P w K mg base "_law_state" 2 2 F__law_state :=
  Callee.self (fnC (k := 1) T.d__law_state sc__law_state (fun _ _ _ _ _ _ us hl => match us, hl with | [_, _], _ => rfl) fun f cdv A outer s H E hr =>
    (pdss_cons (pds_set (i := 2) nd_17 rfl (.inl rfl) (pd_fnC c__law_cell_at hr (by decide) rfl (pda_cons (pd_var (i := 0) rfl (.inl rfl)) (pda_cons (pd_var (i := 1) rfl (.inl rfl)) pda_nil se_name) se_name))) (pdss_cons (pds_if (pdt_cmp op_ge opd_ge (pd_var (i := 2) rfl (.inl rfl)) (pd_op op_pow opd_pow pd_int pd_int) (nomark _)) (pdss_one (pds_ret (pd_lstO (pda_cons (pd_op op_sub opd_sub (pd_var (i := 2) rfl (.inl rfl)) (pd_op op_pow opd_pow pd_int pd_int)) (pda_cons pd_bl pda_nil se_const) se_bin)))) pdss_nil) (pdss_one (pds_ret (pd_lstO (pda_cons (pd_op op_mod opd_mod (pd_var (i := 2) rfl (.inl rfl)) pd_int) (pda_cons pd_bl pda_nil se_const) se_bin)))))))
/-! ### _law_term -/
def B__law_term : DS :=
  (sRet (dJoin (dC (.str [])) (dCons (dComp false 1 (dRng1 (dCons (dVar 1) dNil)) (.one 2) [] [] (dOp fIx (dC (.str [48, 49, 45, 45])) (dFn 2 F__law_take (dCons (dVar 0) (dCons (dC (.int 4)) dNil))))) dNil)))
def F__law_term : List D → Ow → R D := (runF 2 B__law_term)
theorem sc__law_term : FnScope ["_law_state_here", "_law_n"] ["_law_state_here", "_law_n"] (defScope (top 41)) := ⟨rfl, rfl, rfl, by decide +kernel, rfl, by decide +kernel, by decide +kernel⟩
theorem ok__law_term (T : Txt K mg) (c__law_take : Callee P w K mg base "_law_take" 1 2 F__law_take) : Callee P w K mg base "_law_term" 2 2 F__law_term :=
  Callee.self (fnC (k := 1) T.d__law_term sc__law_term (fun _ _ _ _ _ _ us hl => match us, hl with | [_, _], _ => rfl) fun f cdv A outer s H E hr =>
    (pdss_one (pds_ret (pd_join (pd_str [] rfl) (pda_cons (pd_comp false ["_law_k"] rfl (pdi_range1 rfl T.b_range (pda_cons (pd_var (i := 1) rfl (.inl rfl)) pda_nil se_name)) (bok_of (by kernel_rfl)) (fun _ _ _ _ _ => ⟨(pg_one (i := 2) nd_19 rfl (.inl rfl) (.inr rfl)), .nil, .nil, (pd_ix (pd_str [48, 49, 45, 45] rfl) (pd_fnC c__law_take hr (by decide) rfl (pda_cons (pd_var (i := 0) rfl (.inr (.inl rfl))) (pda_cons pd_int pda_nil se_const) se_name)) (fun _ _ => rfl))⟩)) pda_nil se_comp)))))
/-! ### _law_points -/
def B__law_points : DS :=
  (sSeq (sSet 1 (dLstO dNil)) (sSeq (sFor (dRng1 (dCons (dOp (fI gShl) (dC (.int 1)) (dCall fLen (dCons (dVar 0) dNil))) dNil)) (.one 2) (sSeq (sSet 3 (dFn 2 F__law_bits (dCons (dCall fLen (dCons (dVar 0) dNil)) (dCons (dVar 2) dNil)))) (sIf (dTst (dOp (fPy eqF) (dComp false 1 (dRng1 (dCons (dCall fLen (dCons (dVar 0) dNil)) dNil)) (.one 4) [(dTst (dOp fNin (dOp fIx (dVar 0) (dVar 4)) (dTup (dCons (dC (.str [45])) (dCons (dOp fIx (dVar 3) (dVar 4)) dNil)))))] [] (dVar 4)) (dLst dNil))) (sDrop (dApp (dVar 1) (dCons (dVar 2) dNil))) sNil))) (sRet (dVar 1))))
def F__law_points : List D → Ow → R D := frzF (runF 4 B__law_points)
theorem sc__law_points : FnScope ["_law_term_here", "_law_found", "_law_point", "_law_bits_here"] ["_law_term_here"] (defScope (top 43)) := ⟨rfl, rfl, rfl, by decide +kernel, rfl, by decide +kernel, by decide +kernel⟩
theorem ok__law_points (T : Txt K mg) (c__law_bits : Callee P w K mg base "_law_bits" 1 2 F__law_bits) : Callee P w K mg base "_law_points" 2 1 F__law_points :=
  Callee.frz (fnC (k := 1) T.d__law_points sc__law_points (fun _ _ _ _ _ _ us hl => match us, hl with | [_], _ => rfl) fun f cdv A outer s H E hr =>
    (pdss_cons (pds_set (i := 1) nd_21 rfl (.inl rfl) (pd_lstO pda_nil)) (pdss_cons (pds_for PassesOwn.never rfl (pdi_range1 rfl T.b_range (pda_cons (pd_op op_shl opd_shl pd_int (pd_callB call_len cd_len rfl T.b_len bt_len (pda_cons (pd_var (i := 0) rfl (.inr (.inl rfl))) pda_nil se_name))) pda_nil se_bin)) (pg_one (i := 2) nd_21 rfl (.inl rfl) (.inl rfl)) (pdss_cons (pds_set (i := 3) nd_21 rfl (.inr rfl) (pd_fnC c__law_bits hr (by decide) rfl (pda_cons (pd_callB call_len cd_len rfl T.b_len bt_len (pda_cons (pd_var (i := 0) rfl (.inr (.inl rfl))) pda_nil se_name)) (pda_cons (pd_var (i := 2) rfl (.inl rfl)) pda_nil se_name) se_call))) (pdss_one (pds_if (pdt_cmp (op_eqPy hr.units) opd_py (pd_comp false ["_law_k"] rfl (pdi_range1 rfl T.b_range (pda_cons (pd_callB call_len cd_len rfl T.b_len bt_len (pda_cons (pd_var (i := 0) rfl (.inr (.inl rfl))) pda_nil se_name)) pda_nil se_call)) (bok_of (by kernel_rfl)) (fun _ _ _ _ _ => ⟨(pg_one (i := 4) nd_22 rfl (.inl rfl) (.inr rfl)), (.cons (pdt_cmp (op_ninA hr.units) opd_nin (pd_ix (pd_var (i := 0) rfl (.inr (.inl rfl))) (pd_var (i := 4) rfl (.inl rfl)) (fun _ _ => rfl)) (pd_tup (pda_cons (pd_str [45] rfl) (pda_cons (pd_ix (pd_var (i := 3) rfl (.inr (.inl rfl))) (pd_var (i := 4) rfl (.inl rfl)) (fun _ _ => rfl)) pda_nil se_sub) se_const)) rfl) .nil), .nil, (pd_var (i := 4) rfl (.inl rfl))⟩)) (pd_lst pda_nil) (nomark _)) (pdss_one (pds_expr (pd_append (pd_var (i := 1) rfl (.inl rfl)) (pda_cons (pd_var (i := 2) rfl (.inl rfl)) pda_nil se_name)))) pdss_nil)))) (pdss_one (pds_ret (pd_var (i := 1) rfl (.inl rfl)))))))
/-! ### _law_answered -/
def B__law_answered : DS :=
  (sSeq (sSet 3 (dFn 2 F__law_take (dCons (dVar 0) (dCons (dCall fLen (dCons (dVar 1) dNil)) dNil)))) (sRet (dOp fAddA (dOp fAddA (dSlA (dVar 1) oNone (oSome (dVar 3))) (dTup (dCons (dOp fIx (dVar 2) (dFn 2 F__law_take (dCons (dVar 0) (dCons (dCall fLen (dCons (dVar 2) dNil)) dNil)))) dNil))) (dSlA (dVar 1) (oSome (dOp fAddA (dVar 3) (dC (.int 1)))) oNone))))
def F__law_answered : List D → Ow → R D := (runF 4 B__law_answered)
theorem sc__law_answered : FnScope ["_law_state_here", "_law_function_here", "_law_some", "_law_at"] ["_law_state_here", "_law_function_here", "_law_some"] (defScope (top 45)) := ⟨rfl, rfl, rfl, by decide +kernel, rfl, by decide +kernel, by decide +kernel⟩
theorem ok__law_answered (T : Txt K mg) (c__law_take : Callee P w K mg base "_law_take" 1 2 F__law_take) : Callee P w K mg base "_law_answered" 2 3 F__law_answered :=
  Callee.self (fnC (k := 1) T.d__law_answered sc__law_answered (fun _ _ _ _ _ _ us hl => match us, hl with | [_, _, _], _ => rfl) fun f cdv A outer s H E hr =>
    (pdss_cons (pds_set (i := 3) nd_25 rfl (.inl rfl) (pd_fnC c__law_take hr (by decide) rfl (pda_cons (pd_var (i := 0) rfl (.inl rfl)) (pda_cons (pd_callB call_len cd_len rfl T.b_len bt_len (pda_cons (pd_var (i := 1) rfl (.inl rfl)) pda_nil se_name)) pda_nil se_call) se_name))) (pdss_one (pds_ret (pd_addA (pd_addA (pd_slA (pd_var (i := 1) rfl (.inl rfl)) pdo_none (pdo_some (pd_var (i := 3) rfl (.inl rfl)))) (pd_tup (pda_cons (pd_ix (pd_var (i := 2) rfl (.inl rfl)) (pd_fnC c__law_take hr (by decide) rfl (pda_cons (pd_var (i := 0) rfl (.inl rfl)) (pda_cons (pd_callB call_len cd_len rfl T.b_len bt_len (pda_cons (pd_var (i := 2) rfl (.inl rfl)) pda_nil se_name)) pda_nil se_call) se_name)) (fun _ _ => rfl)) pda_nil se_sub))) (pd_slA (pd_var (i := 1) rfl (.inl rfl)) (pdo_some (pd_addA (pd_var (i := 3) rfl (.inl rfl)) pd_int)) pdo_none))))))
/-! ### is_answer -/
def B_is_answer : DS :=
  (sRet (dOr (dOp fIsN (dVar 0) (dC .non)) (dFn 3 F_is_whole_within (dCons (dVar 0) (dCons (dC (.int 0)) (dCons (dC (.int 1)) dNil))))))
def F_is_answer : List D → Ow → R D := (runF 1 B_is_answer)
theorem sc_is_answer : FnScope ["thing"] ["thing"] (defScope (top 10)) := ⟨rfl, rfl, rfl, by decide +kernel, rfl, by decide +kernel, by decide +kernel⟩
theorem ok_is_answer (T : Txt K mg) (c_is_whole_within : Callee P w K mg base "is_whole_within" 2 3 F_is_whole_within) : Callee P w K mg base "is_answer" 3 1 F_is_answer :=
  Callee.self (fnC (k := 2) T.d_is_answer sc_is_answer (fun _ _ _ _ _ _ us hl => match us, hl with | [_], _ => rfl) fun f cdv A outer s H E hr =>
    (pdss_one (pds_ret (pd_or (pd_cmp op_isN opd_isN (pd_var (i := 0) rfl (.inl rfl)) pd_non (nomark _)) (pd_one (pd_fnC c_is_whole_within hr (by decide) rfl (pda_cons (pd_var (i := 0) rfl (.inl rfl)) (pda_cons pd_int (pda_cons pd_int pda_nil se_const) se_const) se_name)))))))
/-! ### terms_holding -/
def B_terms_holding : DS :=
  (sRet (dComp false 1 (dIt (dVar 0)) (.one 2) [(dTst (dOp fIn (dVar 1) (dFn 1 F_points_of (dCons (dVar 2) dNil))))] [] (dVar 2)))
def F_terms_holding : List D → Ow → R D := (runF 2 B_terms_holding)
theorem sc_terms_holding : FnScope ["terms", "point"] ["terms", "point"] (defScope (top 25)) := ⟨rfl, rfl, rfl, by decide +kernel, rfl, by decide +kernel, by decide +kernel⟩
theorem ok_terms_holding (T : Txt K mg) (c_points_of : Callee P w K mg base "points_of" 2 1 F_points_of) : Callee P w K mg base "terms_holding" 3 2 F_terms_holding :=
  Callee.self (fnC (k := 2) T.d_terms_holding sc_terms_holding (fun _ _ _ _ _ _ us hl => match us, hl with | [_, _], _ => rfl) fun f cdv A outer s H E hr =>
    (pdss_one (pds_ret (pd_comp false ["term"] rfl (pdi_seq (pd_var (i := 0) rfl (.inl rfl))) (bok_of (by kernel_rfl)) (fun _ _ _ _ _ => ⟨(pg_one (i := 2) nd_10 rfl (.inl rfl) (.inr rfl)), (.cons (pdt_cmp (op_inA hr.units) opd_in (pd_var (i := 1) rfl (.inr (.inl rfl))) (pd_fnC c_points_of hr (by decide) rfl (pda_cons (pd_var (i := 2) rfl (.inl rfl)) pda_nil se_name)) rfl) .nil), .nil, (pd_var (i := 2) rfl (.inl rfl))⟩)))))
/-! ### holds_no_nought -/
def B_holds_no_nought : DS :=
  (sRet (dCall fAll (dCons (dComp false 1 (dIt (dFn 1 F_points_of (dCons (dVar 1) dNil))) (.one 2) [] [] (dOp (fPy neF) (dOp fIx (dVar 0) (dVar 2)) (dC (.int 0)))) dNil)))
def F_holds_no_nought : List D → Ow → R D := (runF 2 B_holds_no_nought)
theorem sc_holds_no_nought : FnScope ["function", "term"] ["function", "term"] (defScope (top 27)) := ⟨rfl, rfl, rfl, by decide +kernel, rfl, by decide +kernel, by decide +kernel⟩
theorem ok_holds_no_nought (T : Txt K mg) (c_points_of : Callee P w K mg base "points_of" 2 1 F_points_of) : Callee P w K mg base "holds_no_nought" 3 2 F_holds_no_nought :=
  Callee.self (fnC (k := 2) T.d_holds_no_nought sc_holds_no_nought (fun _ _ _ _ _ _ us hl => match us, hl with | [_, _], _ => rfl) fun f cdv A outer s H E hr =>
    (pdss_one (pds_ret (pd_callB (call_allB rfl) cd_all rfl T.b_all bt_all (pda_cons (pd_comp false ["point"] rfl (pdi_seq (pd_fnC c_points_of hr (by decide) rfl (pda_cons (pd_var (i := 1) rfl (.inl rfl)) pda_nil se_name))) (bok_of (by kernel_rfl)) (fun _ _ _ _ _ => ⟨(pg_one (i := 2) nd_11 rfl (.inl rfl) (.inr rfl)), .nil, .nil, (pd_cmp (op_nePy hr.units) opd_py (pd_ix (pd_var (i := 0) rfl (.inr (.inl rfl))) (pd_var (i := 2) rfl (.inl rfl)) (fun _ _ => rfl)) pd_int (nomark _))⟩)) pda_nil se_comp)))))
/-! ### holds_a_one -/
def B_holds_a_one : DS :=
  (sRet (dCall fAny (dCons (dComp false 1 (dIt (dFn 1 F_points_of (dCons (dVar 1) dNil))) (.one 2) [] [] (dOp (fPy eqF) (dOp fIx (dVar 0) (dVar 2)) (dC (.int 1)))) dNil)))
def F_holds_a_one : List D → Ow → R D := (runF 2 B_holds_a_one)
theorem sc_holds_a_one : FnScope ["function", "term"] ["function", "term"] (defScope (top 28)) := ⟨rfl, rfl, rfl, by decide +kernel, rfl, by decide +kernel, by decide +kernel⟩
theorem ok_holds_a_one (T : Txt K mg) (c_points_of : Callee P w K mg base "points_of" 2 1 F_points_of) : Callee P w K mg base "holds_a_one" 3 2 F_holds_a_one :=
  Callee.self (fnC (k := 2) T.d_holds_a_one sc_holds_a_one (fun _ _ _ _ _ _ us hl => match us, hl with | [_, _], _ => rfl) fun f cdv A outer s H E hr =>
    (pdss_one (pds_ret (pd_callB (call_anyB rfl) cd_any rfl T.b_any bt_any (pda_cons (pd_comp false ["point"] rfl (pdi_seq (pd_fnC c_points_of hr (by decide) rfl (pda_cons (pd_var (i := 1) rfl (.inl rfl)) pda_nil se_name))) (bok_of (by kernel_rfl)) (fun _ _ _ _ _ => ⟨(pg_one (i := 2) nd_11 rfl (.inl rfl) (.inr rfl)), .nil, .nil, (pd_cmp (op_eqPy hr.units) opd_py (pd_ix (pd_var (i := 0) rfl (.inr (.inl rfl))) (pd_var (i := 2) rfl (.inl rfl)) (fun _ _ => rfl)) pd_int (nomark _))⟩)) pda_nil se_comp)))))
/-! ### _law_function -/
def B__law_function : DS :=
  (sSeq (sSet 1 (dOp fIx (dLst (dCons (dC (.int 4)) (dCons (dC (.int 3)) (dCons (dC (.int 3)) (dCons (dC (.int 2)) (dCons (dC (.int 4)) (dCons (dC (.int 3)) (dCons (dC (.int 4)) (dCons (dC (.int 1)) dNil))))))))) (dFn 2 F__law_take (dCons (dVar 0) (dCons (dC (.int 8)) dNil))))) (sSeq (sSet 2 (dFn 2 F__law_take (dCons (dVar 0) (dCons (dC (.int 6)) dNil)))) (sSeq (sIf (dTst (dOp fLt (dVar 2) (dC (.int 4)))) (sSeq (sSet 3 (dOp fIx (dLst (dCons (dLst (dCons (dC (.int 0)) (dCons (dC (.int 1)) dNil))) (dCons (dLst (dCons (dC (.int 0)) (dCons (dC (.int 1)) (dCons (dC .non) dNil)))) (dCons (dLst (dCons (dC (.int 0)) (dCons (dC (.int 0)) (dCons (dC (.int 0)) (dCons (dC (.int 1)) (dCons (dC .non) dNil)))))) (dCons (dLst (dCons (dC (.int 1)) (dCons (dC (.int 1)) (dCons (dC (.int 1)) (dCons (dC (.int 0)) (dCons (dC .non) dNil)))))) dNil))))) (dVar 2))) (sRet (dCall fTuple (dCons (dComp false 1 (dRng1 (dCons (dOp (fI gShl) (dC (.int 1)) (dVar 1)) dNil)) (.one 7) [] [] (dOp fIx (dVar 3) (dFn 2 F__law_take (dCons (dVar 0) (dCons (dCall fLen (dCons (dVar 3) dNil)) dNil))))) dNil)))) sNil) (sSeq (sSet 4 (dLst dNil)) (sSeq (sFor (dRng1 (dCons (dOp fAdd (dC (.int 1)) (dFn 2 F__law_take (dCons (dVar 0) (dCons (dC (.int 5)) dNil)))) dNil)) (.one 5) (sSet 4 (dOp fAdd (dVar 4) (dFn 1 F__law_points (dCons (dFn 2 F__law_term (dCons (dVar 0) (dCons (dVar 1) dNil))) dNil))))) (sSeq (sSet 6 (dComp true 1 (dRng1 (dCons (dOp (fI gShl) (dC (.int 1)) (dVar 1)) dNil)) (.one 7) [] [] (dCall fIntA (dCons (dOp fIn (dVar 7) (dVar 4)) dNil)))) (sSeq (sIf (dTst (dOp (fPy eqF) (dVar 2) (dC (.int 5)))) (sPut (dC .non) (dVar 6) (dFn 2 F__law_take (dCons (dVar 0) (dCons (dOp (fI gShl) (dC (.int 1)) (dVar 1)) dNil)))) sNil) (sRet (dCall fTuple (dCons (dVar 6) dNil))))))))))
def F__law_function : List D → Ow → R D := frzF (runF 7 B__law_function)
theorem sc__law_function : FnScope ["_law_state_here", "_law_n", "_law_way", "_law_some", "_law_held", "_law_turn", "_law_found"] ["_law_state_here"] (defScope (top 44)) := ⟨rfl, rfl, rfl, by decide +kernel, rfl, by decide +kernel, by decide +kernel⟩
theorem ok__law_function (T : Txt K mg) (c__law_points : Callee P w K mg base "_law_points" 2 1 F__law_points) (c__law_take : Callee P w K mg base "_law_take" 1 2 F__law_take) (c__law_term : Callee P w K mg base "_law_term" 2 2 F__law_term) : Callee P w K mg base "_law_function" 3 1 F__law_function :=
  Callee.frz (fnC (k := 2) T.d__law_function sc__law_function (fun _ _ _ _ _ _ us hl => match us, hl with | [_], _ => rfl) fun f cdv A outer s H E hr =>
    (pdss_cons (pds_set (i := 1) nd_23 rfl (.inl rfl) (pd_ix (pd_lst (pda_cons pd_int (pda_cons pd_int (pda_cons pd_int (pda_cons pd_int (pda_cons pd_int (pda_cons pd_int (pda_cons pd_int (pda_cons pd_int pda_nil se_const) se_const) se_const) se_const) se_const) se_const) se_const) se_const)) (pd_fnC c__law_take hr (by decide) rfl (pda_cons (pd_var (i := 0) rfl (.inr (.inl rfl))) (pda_cons pd_int pda_nil se_const) se_name)) (fun _ _ => rfl))) (pdss_cons (pds_set (i := 2) nd_23 rfl (.inl rfl) (pd_fnC c__law_take hr (by decide) rfl (pda_cons (pd_var (i := 0) rfl (.inr (.inl rfl))) (pda_cons pd_int pda_nil se_const) se_name))) (pdss_cons (pds_if (pdt_cmp op_lt opd_lt (pd_var (i := 2) rfl (.inl rfl)) pd_int (nomark _)) (pdss_cons (pds_set (i := 3) nd_23 rfl (.inr rfl) (pd_ix (pd_lst (pda_cons (pd_lst (pda_cons pd_int (pda_cons pd_int pda_nil se_const) se_const)) (pda_cons (pd_lst (pda_cons pd_int (pda_cons pd_int (pda_cons pd_non pda_nil se_const) se_const) se_const)) (pda_cons (pd_lst (pda_cons pd_int (pda_cons pd_int (pda_cons pd_int (pda_cons pd_int (pda_cons pd_non pda_nil se_const) se_const) se_const) se_const) se_const)) (pda_cons (pd_lst (pda_cons pd_int (pda_cons pd_int (pda_cons pd_int (pda_cons pd_int (pda_cons pd_non pda_nil se_const) se_const) se_const) se_const) se_const)) pda_nil se_list) se_list) se_list) se_list)) (pd_var (i := 2) rfl (.inl rfl)) (fun _ _ => rfl))) (pdss_one (pds_ret (pd_callTy call_tuple_of cd_tuple rfl T.b_tuple bt_tuple (pda_cons (pd_comp false ["_law_point"] rfl (pdi_range1 rfl T.b_range (pda_cons (pd_op op_shl opd_shl pd_int (pd_var (i := 1) rfl (.inl rfl))) pda_nil se_bin)) (bok_of (by kernel_rfl)) (fun _ _ _ _ _ => ⟨(pg_one (i := 7) nd_24 rfl (.inl rfl) (.inr rfl)), .nil, .nil, (pd_ix (pd_var (i := 3) rfl (.inr (.inl rfl))) (pd_fnC c__law_take hr (by decide) rfl (pda_cons (pd_var (i := 0) rfl (.inr (.inl rfl))) (pda_cons (pd_callB call_len cd_len rfl T.b_len bt_len (pda_cons (pd_var (i := 3) rfl (.inr (.inl rfl))) pda_nil se_name)) pda_nil se_call) se_name)) (fun _ _ => rfl))⟩)) pda_nil se_comp))))) pdss_nil) (pdss_cons (pds_set (i := 4) nd_23 rfl (.inr rfl) (pd_lst pda_nil)) (pdss_cons (pds_for PassesOwn.never rfl (pdi_range1 rfl T.b_range (pda_cons (pd_add pd_int (pd_fnC c__law_take hr (by decide) rfl (pda_cons (pd_var (i := 0) rfl (.inr (.inl rfl))) (pda_cons pd_int pda_nil se_const) se_name))) pda_nil se_bin)) (pg_one (i := 5) nd_23 rfl (.inl rfl) (.inl rfl)) (pdss_one (pds_set (i := 4) nd_23 rfl (.inr rfl) (pd_add (pd_var (i := 4) rfl (.inr (.inl rfl))) (pd_fnC c__law_points hr (by decide) rfl (pda_cons (pd_fnC c__law_term hr (by decide) rfl (pda_cons (pd_var (i := 0) rfl (.inr (.inl rfl))) (pda_cons (pd_var (i := 1) rfl (.inl rfl)) pda_nil se_name) se_name)) pda_nil se_call)))))) (pdss_cons (pds_setComp (i := 6) true ["_law_point"] rfl nd_23 rfl rfl (pdi_range1 rfl T.b_range (pda_cons (pd_op op_shl opd_shl pd_int (pd_var (i := 1) rfl (.inl rfl))) pda_nil se_bin)) (bok_of (by kernel_rfl)) (fun _ _ _ _ _ => ⟨(pg_one (i := 7) nd_24 rfl (.inl rfl) (.inr rfl)), .nil, .nil, (pd_callTy call_intA cd_intA rfl T.b_int bt_int (pda_cons (pd_cmp (op_inA hr.units) opd_in (pd_var (i := 7) rfl (.inl rfl)) (pd_var (i := 4) rfl (.inr (.inl rfl))) rfl) pda_nil se_cmp))⟩) rfl) (pdss_cons (pds_if (pdt_cmp (op_eqPy hr.units) opd_py (pd_var (i := 2) rfl (.inl rfl)) pd_int (nomark _)) (pdss_one (pds_put pd_non (pd_var (i := 6) rfl (.inl rfl)) (pd_fnC c__law_take hr (by decide) rfl (pda_cons (pd_var (i := 0) rfl (.inr (.inl rfl))) (pda_cons (pd_op op_shl opd_shl pd_int (pd_var (i := 1) rfl (.inl rfl))) pda_nil se_bin) se_name)))) pdss_nil) (pdss_one (pds_ret (pd_callTy call_tuple_of cd_tuple rfl T.b_tuple bt_tuple (pda_cons (pd_var (i := 6) rfl (.inl rfl)) pda_nil se_name))))))))))))
/-! ### _law_has_one -/
def B__law_has_one : DS :=
  (sRet (dOp (fPy neF) (dComp false 1 (dIt (dFn 1 F_points_of (dCons (dVar 1) dNil))) (.one 2) [(dTst (dOp (fPy eqF) (dOp fIx (dVar 0) (dVar 2)) (dC (.int 1))))] [] (dVar 2)) (dLst dNil)))
def F__law_has_one : List D → Ow → R D := (runF 2 B__law_has_one)
theorem sc__law_has_one : FnScope ["_law_function_here", "_law_term_here"] ["_law_function_here", "_law_term_here"] (defScope (top 46)) := ⟨rfl, rfl, rfl, by decide +kernel, rfl, by decide +kernel, by decide +kernel⟩
theorem ok__law_has_one (T : Txt K mg) (c_points_of : Callee P w K mg base "points_of" 2 1 F_points_of) : Callee P w K mg base "_law_has_one" 3 2 F__law_has_one :=
  Callee.self (fnC (k := 2) T.d__law_has_one sc__law_has_one (fun _ _ _ _ _ _ us hl => match us, hl with | [_, _], _ => rfl) fun f cdv A outer s H E hr =>
    (pdss_one (pds_ret (pd_cmp (op_nePy hr.units) opd_py (pd_comp false ["_law_point"] rfl (pdi_seq (pd_fnC c_points_of hr (by decide) rfl (pda_cons (pd_var (i := 1) rfl (.inl rfl)) pda_nil se_name))) (bok_of (by kernel_rfl)) (fun _ _ _ _ _ => ⟨(pg_one (i := 2) nd_26 rfl (.inl rfl) (.inr rfl)), (.cons (pdt_cmp (op_eqPy hr.units) opd_py (pd_ix (pd_var (i := 0) rfl (.inr (.inl rfl))) (pd_var (i := 2) rfl (.inl rfl)) (fun _ _ => rfl)) pd_int (nomark _)) .nil), .nil, (pd_var (i := 2) rfl (.inl rfl))⟩)) (pd_lst pda_nil) (nomark _)))))
/-! ### is_function -/
def B_is_function : DS :=
  (sSeq (sIf (dOrT (dNotT (dTru (dIsi "tuple" (dVar 0)))) (dTst (dInTab true t_SWITCHES_BY_POINTS (dCall fLen (dCons (dVar 0) dNil))))) (sRet (dC (.bl false))) sNil) (sRet (dCall fAll (dCons (dComp false 1 (dIt (dVar 0)) (.one 1) [] [] (dFn 1 F_is_answer (dCons (dVar 1) dNil))) dNil))))
def F_is_function : List D → Ow → R D := (runF 1 B_is_function)
theorem sc_is_function : FnScope ["thing"] ["thing"] (defScope (top 11)) := ⟨rfl, rfl, rfl, by decide +kernel, rfl, by decide +kernel, by decide +kernel⟩
theorem ok_is_function (T : Txt K mg) (c_is_answer : Callee P w K mg base "is_answer" 3 1 F_is_answer) : Callee P w K mg base "is_function" 4 1 F_is_function :=
  Callee.self (fnC (k := 3) T.d_is_function sc_is_function (fun _ _ _ _ _ _ us hl => match us, hl with | [_], _ => rfl) fun f cdv A outer s H E hr =>
    (pdss_cons (pds_if (PDW.pt (pwd_or (pdt_not (pdt_tru (pd_isi (n := "tuple") (pd_var (i := 0) rfl (.inl rfl)) (by decide) rfl T.b_isinstance bt_isinstance rfl T.b_tuple bt_tuple) (fun _ => rfl))) (pwd_or1 (pdt_nintab T.k_SWITCHES_BY_POINTS rfl (pd_callB call_len cd_len rfl T.b_len bt_len (pda_cons (pd_var (i := 0) rfl (.inl rfl)) pda_nil se_name)))))) (pdss_one (pds_ret pd_bl)) pdss_nil) (pdss_one (pds_ret (pd_callB (call_allB rfl) cd_all rfl T.b_all bt_all (pda_cons (pd_comp false ["answer"] rfl (pdi_seq (pd_var (i := 0) rfl (.inl rfl))) (bok_of (by kernel_rfl)) (fun _ _ _ _ _ => ⟨(pg_one (i := 1) nd_1 rfl (.inl rfl) (.inr rfl)), .nil, .nil, (pd_fnC c_is_answer hr (by decide) rfl (pda_cons (pd_var (i := 1) rfl (.inl rfl)) pda_nil se_name))⟩)) pda_nil se_comp))))))
/-! ### can_widen_at -/
def B_can_widen_at : DS :=
  (sRet (dAnd (dOp (fPy neF) (dOp fIx (dVar 1) (dVar 2)) (dC (.str [45]))) (dFn 2 F_holds_no_nought (dCons (dVar 0) (dCons (dFn 3 F_with_sign (dCons (dVar 1) (dCons (dVar 2) (dCons (dC (.str [45])) dNil)))) dNil)))))
def F_can_widen_at : List D → Ow → R D := (runF 3 B_can_widen_at)
theorem sc_can_widen_at : FnScope ["function", "term", "switch"] ["function", "term", "switch"] (defScope (top 31)) := ⟨rfl, rfl, rfl, by decide +kernel, rfl, by decide +kernel, by decide +kernel⟩
theorem ok_can_widen_at (T : Txt K mg) (c_holds_no_nought : Callee P w K mg base "holds_no_nought" 3 2 F_holds_no_nought) (c_with_sign : Callee P w K mg base "with_sign" 1 3 F_with_sign) : Callee P w K mg base "can_widen_at" 4 3 F_can_widen_at :=
  Callee.self (fnC (k := 3) T.d_can_widen_at sc_can_widen_at (fun _ _ _ _ _ _ us hl => match us, hl with | [_, _, _], _ => rfl) fun f cdv A outer s H E hr =>
    (pdss_one (pds_ret (pd_and (pd_cmp (op_nePy hr.units) opd_py (pd_ix (pd_var (i := 1) rfl (.inl rfl)) (pd_var (i := 2) rfl (.inl rfl)) (fun _ _ => rfl)) (pd_str [45] rfl) (nomark _)) (pd_one (pd_fnC c_holds_no_nought hr (by decide) rfl (pda_cons (pd_var (i := 0) rfl (.inl rfl)) (pda_cons (pd_fnC c_with_sign hr (by decide) rfl (pda_cons (pd_var (i := 1) rfl (.inl rfl)) (pda_cons (pd_var (i := 2) rfl (.inl rfl)) (pda_cons (pd_str [45] rfl) pda_nil se_const) se_name) se_name)) pda_nil se_call) se_name)))))))
/-! ### need_function -/
def B_need_function : DS :=
  (sIf (dNotT (dTru (dFn 1 F_is_function (dCons (dVar 0) dNil)))) sBad sNil)
def F_need_function : List D → Ow → R D := (runF 1 B_need_function)
theorem sc_need_function : FnScope ["thing"] ["thing"] (defScope (top 12)) := ⟨rfl, rfl, rfl, by decide +kernel, rfl, by decide +kernel, by decide +kernel⟩
theorem ok_need_function (T : Txt K mg) (c_is_function : Callee P w K mg base "is_function" 4 1 F_is_function) : Callee P w K mg base "need_function" 5 1 F_need_function :=
  Callee.self (fnC (k := 4) T.d_need_function sc_need_function (fun _ _ _ _ _ _ us hl => match us, hl with | [_], _ => rfl) fun f cdv A outer s H E hr =>
    (pdss_one (pds_if (pdt_not (pdt_tru (pd_fnC c_is_function hr (by decide) rfl (pda_cons (pd_var (i := 0) rfl (.inl rfl)) pda_nil se_name)) (fun _ => rfl))) pdss_bad pdss_nil)))
/-! ### is_widest -/
def B_is_widest : DS :=
  (sRet (dNot (dCall fAny (dCons (dComp false 1 (dRng1 (dCons (dCall fLen (dCons (dVar 1) dNil)) dNil)) (.one 2) [] [] (dFn 3 F_can_widen_at (dCons (dVar 0) (dCons (dVar 1) (dCons (dVar 2) dNil))))) dNil))))
def F_is_widest : List D → Ow → R D := (runF 2 B_is_widest)
theorem sc_is_widest : FnScope ["function", "term"] ["function", "term"] (defScope (top 32)) := ⟨rfl, rfl, rfl, by decide +kernel, rfl, by decide +kernel, by decide +kernel⟩
theorem ok_is_widest (T : Txt K mg) (c_can_widen_at : Callee P w K mg base "can_widen_at" 4 3 F_can_widen_at) : Callee P w K mg base "is_widest" 5 2 F_is_widest :=
  Callee.self (fnC (k := 4) T.d_is_widest sc_is_widest (fun _ _ _ _ _ _ us hl => match us, hl with | [_, _], _ => rfl) fun f cdv A outer s H E hr =>
    (pdss_one (pds_ret (pd_not (pd_callB (call_anyB rfl) cd_any rfl T.b_any bt_any (pda_cons (pd_comp false ["switch"] rfl (pdi_range1 rfl T.b_range (pda_cons (pd_callB call_len cd_len rfl T.b_len bt_len (pda_cons (pd_var (i := 1) rfl (.inr (.inl rfl))) pda_nil se_name)) pda_nil se_call)) (bok_of (by kernel_rfl)) (fun _ _ _ _ _ => ⟨(pg_one (i := 2) nd_13 rfl (.inl rfl) (.inr rfl)), .nil, .nil, (pd_fnC c_can_widen_at hr (by decide) rfl (pda_cons (pd_var (i := 0) rfl (.inr (.inl rfl))) (pda_cons (pd_var (i := 1) rfl (.inr (.inl rfl))) (pda_cons (pd_var (i := 2) rfl (.inl rfl)) pda_nil se_name) se_name) se_name))⟩)) pda_nil se_comp))))))
/-! ### is_good -/
def B_is_good : DS :=
  (sSeq (sDrop (dFn 1 F_need_function (dCons (dVar 0) dNil))) (sSeq (sDrop (dFn 2 F_need_term (dCons (dFn 1 F_switches_of (dCons (dVar 0) dNil)) (dCons (dVar 1) dNil)))) (sRet (dFn 2 F_holds_no_nought (dCons (dVar 0) (dCons (dVar 1) dNil))))))
def F_is_good : List D → Ow → R D := (runF 2 B_is_good)
theorem sc_is_good : FnScope ["function", "term"] ["function", "term"] (defScope (top 29)) := ⟨rfl, rfl, rfl, by decide +kernel, rfl, by decide +kernel, by decide +kernel⟩
theorem ok_is_good (T : Txt K mg) (c_holds_no_nought : Callee P w K mg base "holds_no_nought" 3 2 F_holds_no_nought) (c_need_function : Callee P w K mg base "need_function" 5 1 F_need_function) (c_need_term : Callee P w K mg base "need_term" 2 2 F_need_term) (c_switches_of : Callee P w K mg base "switches_of" 1 1 F_switches_of) : Callee P w K mg base "is_good" 6 2 F_is_good :=
  Callee.self (fnC (k := 5) T.d_is_good sc_is_good (fun _ _ _ _ _ _ us hl => match us, hl with | [_, _], _ => rfl) fun f cdv A outer s H E hr =>
    (pdss_cons (pds_expr (pd_fnC c_need_function hr (by decide) rfl (pda_cons (pd_var (i := 0) rfl (.inl rfl)) pda_nil se_name))) (pdss_cons (pds_expr (pd_fnC c_need_term hr (by decide) rfl (pda_cons (pd_fnC c_switches_of hr (by decide) rfl (pda_cons (pd_var (i := 0) rfl (.inl rfl)) pda_nil se_name)) (pda_cons (pd_var (i := 1) rfl (.inl rfl)) pda_nil se_name) se_call))) (pdss_one (pds_ret (pd_fnC c_holds_no_nought hr (by decide) rfl (pda_cons (pd_var (i := 0) rfl (.inl rfl)) (pda_cons (pd_var (i := 1) rfl (.inl rfl)) pda_nil se_name) se_name)))))))
/-! ### good_terms -/
def B_good_terms : DS :=
  (sSeq (sDrop (dFn 1 F_need_function (dCons (dVar 0) dNil))) (sRet (dComp false 1 (dIt (dFn 1 F_all_terms (dCons (dFn 1 F_switches_of (dCons (dVar 0) dNil)) dNil))) (.one 1) [(dTru (dFn 2 F_holds_no_nought (dCons (dVar 0) (dCons (dVar 1) dNil))))] [] (dVar 1))))
def F_good_terms : List D → Ow → R D := (runF 1 B_good_terms)
theorem sc_good_terms : FnScope ["function"] ["function"] (defScope (top 30)) := ⟨rfl, rfl, rfl, by decide +kernel, rfl, by decide +kernel, by decide +kernel⟩
theorem ok_good_terms (T : Txt K mg) (c_all_terms : Callee P w K mg base "all_terms" 1 1 F_all_terms) (c_holds_no_nought : Callee P w K mg base "holds_no_nought" 3 2 F_holds_no_nought) (c_need_function : Callee P w K mg base "need_function" 5 1 F_need_function) (c_switches_of : Callee P w K mg base "switches_of" 1 1 F_switches_of) : Callee P w K mg base "good_terms" 6 1 F_good_terms :=
  Callee.self (fnC (k := 5) T.d_good_terms sc_good_terms (fun _ _ _ _ _ _ us hl => match us, hl with | [_], _ => rfl) fun f cdv A outer s H E hr =>
    (pdss_cons (pds_expr (pd_fnC c_need_function hr (by decide) rfl (pda_cons (pd_var (i := 0) rfl (.inr (.inl rfl))) pda_nil se_name))) (pdss_one (pds_ret (pd_comp false ["term"] rfl (pdi_seq (pd_fnC c_all_terms hr (by decide) rfl (pda_cons (pd_fnC c_switches_of hr (by decide) rfl (pda_cons (pd_var (i := 0) rfl (.inr (.inl rfl))) pda_nil se_name)) pda_nil se_call))) (bok_of (by kernel_rfl)) (fun _ _ _ _ _ => ⟨(pg_one (i := 1) nd_12 rfl (.inl rfl) (.inr rfl)), (.cons (pdt_tru (pd_fnC c_holds_no_nought hr (by decide) rfl (pda_cons (pd_var (i := 0) rfl (.inr (.inl rfl))) (pda_cons (pd_var (i := 1) rfl (.inl rfl)) pda_nil se_name) se_name)) (fun _ => rfl)) .nil), .nil, (pd_var (i := 1) rfl (.inl rfl))⟩))))))
/-! ### is_form -/
def B_is_form : DS :=
  (sSeq (sDrop (dFn 1 F_need_function (dCons (dVar 0) dNil))) (sSeq (sIf (dNotT (dTru (dFn 2 F_has_rising_terms (dCons (dFn 1 F_switches_of (dCons (dVar 0) dNil)) (dCons (dVar 1) dNil))))) (sRet (dC (.bl false))) sNil) (sSeq (sIf (dNotT (dTru (dCall fAll (dCons (dComp false 1 (dIt (dVar 1)) (.one 2) [] [] (dFn 2 F_holds_no_nought (dCons (dVar 0) (dCons (dVar 2) dNil)))) dNil)))) (sRet (dC (.bl false))) sNil) (sRet (dCall fAll (dCons (dComp false 1 (dIt (dFn 2 F_points_with (dCons (dVar 0) (dCons (dC (.int 1)) dNil)))) (.one 2) [] [] (dOp (fPy neF) (dFn 2 F_terms_holding (dCons (dVar 1) (dCons (dVar 2) dNil))) (dLst dNil))) dNil))))))
def F_is_form : List D → Ow → R D := (runF 2 B_is_form)
theorem sc_is_form : FnScope ["function", "thing"] ["function", "thing"] (defScope (top 36)) := ⟨rfl, rfl, rfl, by decide +kernel, rfl, by decide +kernel, by decide +kernel⟩
theorem ok_is_form (T : Txt K mg) (c_has_rising_terms : Callee P w K mg base "has_rising_terms" 2 2 F_has_rising_terms) (c_holds_no_nought : Callee P w K mg base "holds_no_nought" 3 2 F_holds_no_nought) (c_need_function : Callee P w K mg base "need_function" 5 1 F_need_function) (c_points_with : Callee P w K mg base "points_with" 1 2 F_points_with) (c_switches_of : Callee P w K mg base "switches_of" 1 1 F_switches_of) (c_terms_holding : Callee P w K mg base "terms_holding" 3 2 F_terms_holding) : Callee P w K mg base "is_form" 6 2 F_is_form :=
  Callee.self (fnC (k := 5) T.d_is_form sc_is_form (fun _ _ _ _ _ _ us hl => match us, hl with | [_, _], _ => rfl) fun f cdv A outer s H E hr =>
    (pdss_cons (pds_expr (pd_fnC c_need_function hr (by decide) rfl (pda_cons (pd_var (i := 0) rfl (.inr (.inl rfl))) pda_nil se_name))) (pdss_cons (pds_if (pdt_not (pdt_tru (pd_fnC c_has_rising_terms hr (by decide) rfl (pda_cons (pd_fnC c_switches_of hr (by decide) rfl (pda_cons (pd_var (i := 0) rfl (.inr (.inl rfl))) pda_nil se_name)) (pda_cons (pd_var (i := 1) rfl (.inr (.inl rfl))) pda_nil se_name) se_call)) (fun _ => rfl))) (pdss_one (pds_ret pd_bl)) pdss_nil) (pdss_cons (pds_if (pdt_not (pdt_tru (pd_callB (call_allB rfl) cd_all rfl T.b_all bt_all (pda_cons (pd_comp false ["term"] rfl (pdi_seq (pd_var (i := 1) rfl (.inr (.inl rfl)))) (bok_of (by kernel_rfl)) (fun _ _ _ _ _ => ⟨(pg_one (i := 2) nd_15 rfl (.inl rfl) (.inr rfl)), .nil, .nil, (pd_fnC c_holds_no_nought hr (by decide) rfl (pda_cons (pd_var (i := 0) rfl (.inr (.inl rfl))) (pda_cons (pd_var (i := 2) rfl (.inl rfl)) pda_nil se_name) se_name))⟩)) pda_nil se_comp)) (fun _ => rfl))) (pdss_one (pds_ret pd_bl)) pdss_nil) (pdss_one (pds_ret (pd_callB (call_allB rfl) cd_all rfl T.b_all bt_all (pda_cons (pd_comp false ["point"] rfl (pdi_seq (pd_fnC c_points_with hr (by decide) rfl (pda_cons (pd_var (i := 0) rfl (.inr (.inl rfl))) (pda_cons pd_int pda_nil se_const) se_name))) (bok_of (by kernel_rfl)) (fun _ _ _ _ _ => ⟨(pg_one (i := 2) nd_16 rfl (.inl rfl) (.inr rfl)), .nil, .nil, (pd_cmp (op_nePy hr.units) opd_py (pd_fnC c_terms_holding hr (by decide) rfl (pda_cons (pd_var (i := 1) rfl (.inr (.inl rfl))) (pda_cons (pd_var (i := 2) rfl (.inl rfl)) pda_nil se_name) se_name)) (pd_lst pda_nil) (nomark _))⟩)) pda_nil se_comp))))))))
/-! ### greatest -/
def B_greatest : DS :=
  (sRet (dComp false 1 (dIt (dFn 1 F_good_terms (dCons (dVar 0) dNil))) (.one 1) [(dAndT (dTru (dFn 2 F_holds_a_one (dCons (dVar 0) (dCons (dVar 1) dNil)))) (dTru (dFn 2 F_is_widest (dCons (dVar 0) (dCons (dVar 1) dNil)))))] [] (dVar 1)))
def F_greatest : List D → Ow → R D := (runF 1 B_greatest)
theorem sc_greatest : FnScope ["function"] ["function"] (defScope (top 33)) := ⟨rfl, rfl, rfl, by decide +kernel, rfl, by decide +kernel, by decide +kernel⟩
theorem ok_greatest (T : Txt K mg) (c_good_terms : Callee P w K mg base "good_terms" 6 1 F_good_terms) (c_holds_a_one : Callee P w K mg base "holds_a_one" 3 2 F_holds_a_one) (c_is_widest : Callee P w K mg base "is_widest" 5 2 F_is_widest) : Callee P w K mg base "greatest" 7 1 F_greatest :=
  Callee.self (fnC (k := 6) T.d_greatest sc_greatest (fun _ _ _ _ _ _ us hl => match us, hl with | [_], _ => rfl) fun f cdv A outer s H E hr =>
    (pdss_one (pds_ret (pd_comp false ["term"] rfl (pdi_seq (pd_fnC c_good_terms hr (by decide) rfl (pda_cons (pd_var (i := 0) rfl (.inr (.inl rfl))) pda_nil se_name))) (bok_of (by kernel_rfl)) (fun _ _ _ _ _ => ⟨(pg_one (i := 1) nd_12 rfl (.inl rfl) (.inr rfl)), (.cons (PDW.pt (pwd_and (pdt_tru (pd_fnC c_holds_a_one hr (by decide) rfl (pda_cons (pd_var (i := 0) rfl (.inr (.inl rfl))) (pda_cons (pd_var (i := 1) rfl (.inl rfl)) pda_nil se_name) se_name)) (fun _ => rfl)) (pwd_and1 (pdt_tru (pd_fnC c_is_widest hr (by decide) rfl (pda_cons (pd_var (i := 0) rfl (.inr (.inl rfl))) (pda_cons (pd_var (i := 1) rfl (.inl rfl)) pda_nil se_name) se_name)) (fun _ => rfl))))) .nil), .nil, (pd_var (i := 1) rfl (.inl rfl))⟩)))))
/-! ### widened -/
def B_widened : DS :=
  (sSeq (sIf (dNotT (dTru (dFn 2 F_is_good (dCons (dVar 0) (dCons (dVar 1) dNil))))) sBad sNil) (sSeq (sSet 2 (dVar 1)) (sSeq (sFor (dRng1 (dCons (dCall fLen (dCons (dVar 1) dNil)) dNil)) (.one 3) (sIf (dTru (dFn 3 F_can_widen_at (dCons (dVar 0) (dCons (dVar 2) (dCons (dVar 3) dNil))))) (sSet 2 (dFn 3 F_with_sign (dCons (dVar 2) (dCons (dVar 3) (dCons (dC (.str [45])) dNil))))) sNil)) (sRet (dVar 2)))))
def F_widened : List D → Ow → R D := (runF 4 B_widened)
theorem sc_widened : FnScope ["function", "term", "wide", "switch"] ["function", "term"] (defScope (top 34)) := ⟨rfl, rfl, rfl, by decide +kernel, rfl, by decide +kernel, by decide +kernel⟩
theorem ok_widened (T : Txt K mg) (c_can_widen_at : Callee P w K mg base "can_widen_at" 4 3 F_can_widen_at) (c_is_good : Callee P w K mg base "is_good" 6 2 F_is_good) (c_with_sign : Callee P w K mg base "with_sign" 1 3 F_with_sign) : Callee P w K mg base "widened" 7 2 F_widened :=
  Callee.self (fnC (k := 6) T.d_widened sc_widened (fun _ _ _ _ _ _ us hl => match us, hl with | [_, _], _ => rfl) fun f cdv A outer s H E hr =>
    (pdss_cons (pds_if (pdt_not (pdt_tru (pd_fnC c_is_good hr (by decide) rfl (pda_cons (pd_var (i := 0) rfl (.inl rfl)) (pda_cons (pd_var (i := 1) rfl (.inl rfl)) pda_nil se_name) se_name)) (fun _ => rfl))) pdss_bad pdss_nil) (pdss_cons (pds_set (i := 2) nd_14 rfl (.inl rfl) (pd_var (i := 1) rfl (.inl rfl))) (pdss_cons (pds_for PassesOwn.never rfl (pdi_range1 rfl T.b_range (pda_cons (pd_callB call_len cd_len rfl T.b_len bt_len (pda_cons (pd_var (i := 1) rfl (.inl rfl)) pda_nil se_name)) pda_nil se_call)) (pg_one (i := 3) nd_14 rfl (.inl rfl) (.inl rfl)) (pdss_one (pds_if (pdt_tru (pd_fnC c_can_widen_at hr (by decide) rfl (pda_cons (pd_var (i := 0) rfl (.inl rfl)) (pda_cons (pd_var (i := 2) rfl (.inl rfl)) (pda_cons (pd_var (i := 3) rfl (.inl rfl)) pda_nil se_name) se_name) se_name)) (fun _ => rfl)) (pdss_one (pds_set (i := 2) nd_14 rfl (.inl rfl) (pd_fnC c_with_sign hr (by decide) rfl (pda_cons (pd_var (i := 2) rfl (.inl rfl)) (pda_cons (pd_var (i := 3) rfl (.inl rfl)) (pda_cons (pd_str [45] rfl) pda_nil se_const) se_name) se_name)))) pdss_nil))) (pdss_one (pds_ret (pd_var (i := 2) rfl (.inl rfl))))))))
/-! ### _law_right -/
def B__law_right : DS :=
  (sSeq (sPar 1 2 (dCons (dFn 1 F_greatest (dCons (dVar 0) dNil)) (dCons (dFn 1 F_good_terms (dCons (dVar 0) dNil)) dNil))) (sSeq (sFor (dIt (dVar 1)) (.one 3) (sSeq (sIf (dOrT (dTst (dOp fNin (dVar 3) (dVar 2))) (dNotT (dTru (dFn 2 F__law_has_one (dCons (dVar 0) (dCons (dVar 3) dNil)))))) (sRet (dC (.bl false))) sNil) (sSeq (sIf (dTst (dOp (fPy neF) (dFn 2 F_widened (dCons (dVar 0) (dCons (dVar 3) dNil))) (dVar 3))) (sRet (dC (.bl false))) sNil) (sIf (dTst (dOp (fPy neF) (dComp false 1 (dIt (dVar 1)) (.one 5) [(dAndT (dTst (dOp (fPy neF) (dVar 5) (dVar 3))) (dTru (dFn 2 F_lies_in (dCons (dVar 3) (dCons (dVar 5) dNil)))))] [] (dVar 5)) (dLst dNil))) (sRet (dC (.bl false))) sNil)))) (sSeq (sFor (dIt (dVar 2)) (.one 3) (sSeq (sSet 4 (dFn 2 F_widened (dCons (dVar 0) (dCons (dVar 3) dNil)))) (sSeq (sIf (dOrT (dNotT (dTru (dFn 2 F_lies_in (dCons (dVar 3) (dCons (dVar 4) dNil))))) (dNotT (dTru (dFn 2 F_is_good (dCons (dVar 0) (dCons (dVar 4) dNil)))))) (sRet (dC (.bl false))) sNil) (sIf (dTst (dOp (fPy neF) (dOp fIn (dVar 4) (dVar 1)) (dFn 2 F__law_has_one (dCons (dVar 0) (dCons (dVar 4) dNil))))) (sRet (dC (.bl false))) sNil)))) (sRet (dOp fIsB (dFn 2 F_is_form (dCons (dVar 0) (dCons (dCall fTuple (dCons (dVar 1) dNil)) dNil))) (dC (.bl true)))))))
def F__law_right : List D → Ow → R D := (runF 5 B__law_right)
theorem sc__law_right : FnScope ["_law_function_here", "_law_some", "_law_fine", "_law_term_here", "_law_wider"] ["_law_function_here"] (defScope (top 47)) := ⟨rfl, rfl, rfl, by decide +kernel, rfl, by decide +kernel, by decide +kernel⟩
theorem ok__law_right (T : Txt K mg) (c__law_has_one : Callee P w K mg base "_law_has_one" 3 2 F__law_has_one) (c_good_terms : Callee P w K mg base "good_terms" 6 1 F_good_terms) (c_greatest : Callee P w K mg base "greatest" 7 1 F_greatest) (c_is_form : Callee P w K mg base "is_form" 6 2 F_is_form) (c_is_good : Callee P w K mg base "is_good" 6 2 F_is_good) (c_lies_in : Callee P w K mg base "lies_in" 1 2 F_lies_in) (c_widened : Callee P w K mg base "widened" 7 2 F_widened) : Callee P w K mg base "_law_right" 8 1 F__law_right :=
  Callee.self (fnC (k := 7) T.d__law_right sc__law_right (fun _ _ _ _ _ _ us hl => match us, hl with | [_], _ => rfl) fun f cdv A outer s H E hr =>
    (pdss_cons (pds_par (i := 1) (j := 2) rfl nd_27 rfl rfl (by decide) rfl rfl (pda_cons (pd_fnC c_greatest hr (by decide) rfl (pda_cons (pd_var (i := 0) rfl (.inl rfl)) pda_nil se_name)) (pda_cons (pd_fnC c_good_terms hr (by decide) rfl (pda_cons (pd_var (i := 0) rfl (.inl rfl)) pda_nil se_name)) pda_nil se_call) se_call) rfl) (pdss_cons (pds_for PassesOwn.never rfl (pdi_seq (pd_var (i := 1) rfl (.inl rfl))) (pg_one (i := 3) nd_27 rfl (.inr rfl) (.inl rfl)) (pdss_cons (pds_if (PDW.pt (pwd_or (pdt_cmp (op_ninA hr.units) opd_nin (pd_var (i := 3) rfl (.inr (.inl rfl))) (pd_var (i := 2) rfl (.inl rfl)) rfl) (pwd_or1 (pdt_not (pdt_tru (pd_fnC c__law_has_one hr (by decide) rfl (pda_cons (pd_var (i := 0) rfl (.inl rfl)) (pda_cons (pd_var (i := 3) rfl (.inr (.inl rfl))) pda_nil se_name) se_name)) (fun _ => rfl)))))) (pdss_one (pds_ret pd_bl)) pdss_nil) (pdss_cons (pds_if (pdt_cmp (op_nePy hr.units) opd_py (pd_fnC c_widened hr (by decide) rfl (pda_cons (pd_var (i := 0) rfl (.inl rfl)) (pda_cons (pd_var (i := 3) rfl (.inr (.inl rfl))) pda_nil se_name) se_name)) (pd_var (i := 3) rfl (.inr (.inl rfl))) (nomark _)) (pdss_one (pds_ret pd_bl)) pdss_nil) (pdss_one (pds_if (pdt_cmp (op_nePy hr.units) opd_py (pd_comp false ["_law_other"] rfl (pdi_seq (pd_var (i := 1) rfl (.inl rfl))) (bok_of (by kernel_rfl)) (fun _ _ _ _ _ => ⟨(pg_one (i := 5) nd_28 rfl (.inl rfl) (.inr rfl)), (.cons (PDW.pt (pwd_and (pdt_cmp (op_nePy hr.units) opd_py (pd_var (i := 5) rfl (.inl rfl)) (pd_var (i := 3) rfl (.inr (.inl rfl))) (nomark _)) (pwd_and1 (pdt_tru (pd_fnC c_lies_in hr (by decide) rfl (pda_cons (pd_var (i := 3) rfl (.inr (.inl rfl))) (pda_cons (pd_var (i := 5) rfl (.inl rfl)) pda_nil se_name) se_name)) (fun _ => rfl))))) .nil), .nil, (pd_var (i := 5) rfl (.inl rfl))⟩)) (pd_lst pda_nil) (nomark _)) (pdss_one (pds_ret pd_bl)) pdss_nil))))) (pdss_cons (pds_for PassesOwn.never rfl (pdi_seq (pd_var (i := 2) rfl (.inl rfl))) (pg_one (i := 3) nd_27 rfl (.inr rfl) (.inl rfl)) (pdss_cons (pds_set (i := 4) nd_27 rfl (.inl rfl) (pd_fnC c_widened hr (by decide) rfl (pda_cons (pd_var (i := 0) rfl (.inl rfl)) (pda_cons (pd_var (i := 3) rfl (.inr (.inl rfl))) pda_nil se_name) se_name))) (pdss_cons (pds_if (PDW.pt (pwd_or (pdt_not (pdt_tru (pd_fnC c_lies_in hr (by decide) rfl (pda_cons (pd_var (i := 3) rfl (.inr (.inl rfl))) (pda_cons (pd_var (i := 4) rfl (.inl rfl)) pda_nil se_name) se_name)) (fun _ => rfl))) (pwd_or1 (pdt_not (pdt_tru (pd_fnC c_is_good hr (by decide) rfl (pda_cons (pd_var (i := 0) rfl (.inl rfl)) (pda_cons (pd_var (i := 4) rfl (.inl rfl)) pda_nil se_name) se_name)) (fun _ => rfl)))))) (pdss_one (pds_ret pd_bl)) pdss_nil) (pdss_one (pds_if (pdt_cmp (op_nePy hr.units) opd_py (pd_cmp (op_inA hr.units) opd_in (pd_var (i := 4) rfl (.inl rfl)) (pd_var (i := 1) rfl (.inl rfl)) rfl) (pd_fnC c__law_has_one hr (by decide) rfl (pda_cons (pd_var (i := 0) rfl (.inl rfl)) (pda_cons (pd_var (i := 4) rfl (.inl rfl)) pda_nil se_name) se_name)) (nomark _)) (pdss_one (pds_ret pd_bl)) pdss_nil))))) (pdss_one (pds_ret (pd_cmp op_isB opd_isB (pd_fnC c_is_form hr (by decide) rfl (pda_cons (pd_var (i := 0) rfl (.inl rfl)) (pda_cons (pd_callTy call_tuple_of cd_tuple rfl T.b_tuple bt_tuple (pda_cons (pd_var (i := 1) rfl (.inl rfl)) pda_nil se_name)) pda_nil se_call) se_name)) pd_bl (nomark _))))))))
/-! ### law -/
def B_law : DS :=
  (sSeq (sFor (dRng1 (dCons (dCall fMax2 (dCons (dC (.int 1)) (dCons (dCall fMin2 (dCons (dCall fLen (dCons (dVar 0) dNil)) (dCons (dC (.int 6)) dNil))) dNil))) dNil)) (.one 1) (sSeq (sSet 2 (dFn 2 F__law_state (dCons (dVar 0) (dCons (dVar 1) dNil)))) (sSeq (sSet 3 (dFn 1 F__law_function (dCons (dVar 2) dNil))) (sSeq (sSet 4 (dFn 3 F__law_answered (dCons (dVar 2) (dCons (dVar 3) (dCons (dLst (dCons (dC .non) dNil)) dNil))))) (sSeq (sIf (dOrT (dNotT (dTru (dFn 1 F__law_right (dCons (dVar 3) dNil)))) (dNotT (dTru (dFn 1 F__law_right (dCons (dVar 4) dNil))))) (sRet (dC (.bl false))) sNil) (sSeq (sSet 5 (dFn 1 F_greatest (dCons (dVar 4) dNil))) (sFor (dIt (dFn 1 F_greatest (dCons (dVar 3) dNil))) (.one 6) (sIf (dAndT (dTst (dOp (fPy eqF) (dComp false 1 (dIt (dVar 5)) (.one 7) [(dTru (dFn 2 F_lies_in (dCons (dVar 6) (dCons (dVar 7) dNil))))] [] (dVar 7)) (dLst dNil))) (dTru (dFn 2 F__law_has_one (dCons (dVar 4) (dCons (dVar 6) dNil))))) (sRet (dC (.bl false))) sNil)))))))) (sRet (dC (.bl true))))
def F_law : List D → Ow → R D := (runF 7 B_law)
theorem sc_law : FnScope ["_law_script", "_law_k", "_law_state_here", "_law_function_here", "_law_other", "_law_later", "_law_term_here"] ["_law_script"] (defScope (top 48)) := ⟨rfl, rfl, rfl, by decide +kernel, rfl, by decide +kernel, by decide +kernel⟩
theorem fn_law {f : Addr} {fd : FuncData} (hF : L2.Fun K "law" "law" (top 48) f fd) (T : Txt K mg) (c__law_answered : Callee P w K mg base "_law_answered" 2 3 F__law_answered) (c__law_function : Callee P w K mg base "_law_function" 3 1 F__law_function) (c__law_has_one : Callee P w K mg base "_law_has_one" 3 2 F__law_has_one) (c__law_right : Callee P w K mg base "_law_right" 8 1 F__law_right) (c__law_state : Callee P w K mg base "_law_state" 2 2 F__law_state) (c_greatest : Callee P w K mg base "greatest" 7 1 F_greatest) (c_lies_in : Callee P w K mg base "lies_in" 1 2 F_lies_in) : FnOk P w K mg base CX0 9 f fd ["_law_script"] (DSp K Ec0 1 F_law) :=
  fnD (k := 8) hF sc_law fun cdv A outer s H E hr =>
    (pdss_cons (pds_for PassesOwn.never rfl (pdi_range1 rfl T.b_range (pda_cons (pd_callB (call_max2 rfl) cd_max2 rfl T.b_max bt_max (pda_cons pd_int (pda_cons (pd_callB (call_min2 rfl) cd_min2 rfl T.b_min bt_min (pda_cons (pd_callB call_len cd_len rfl T.b_len bt_len (pda_cons (pd_var (i := 0) rfl (.inl rfl)) pda_nil se_name)) (pda_cons pd_int pda_nil se_const) se_call)) pda_nil se_call) se_const)) pda_nil se_call)) (pg_one (i := 1) nd_29 rfl (.inl rfl) (.inl rfl)) (pdss_cons (pds_set (i := 2) nd_29 rfl (.inl rfl) (pd_fnC c__law_state hr (by decide) rfl (pda_cons (pd_var (i := 0) rfl (.inl rfl)) (pda_cons (pd_var (i := 1) rfl (.inl rfl)) pda_nil se_name) se_name))) (pdss_cons (pds_set (i := 3) nd_29 rfl (.inl rfl) (pd_fnC c__law_function hr (by decide) rfl (pda_cons (pd_var (i := 2) rfl (.inl rfl)) pda_nil se_name))) (pdss_cons (pds_set (i := 4) nd_29 rfl (.inl rfl) (pd_fnC c__law_answered hr (by decide) rfl (pda_cons (pd_var (i := 2) rfl (.inl rfl)) (pda_cons (pd_var (i := 3) rfl (.inl rfl)) (pda_cons (pd_lst (pda_cons pd_non pda_nil se_const)) pda_nil se_list) se_name) se_name))) (pdss_cons (pds_if (PDW.pt (pwd_or (pdt_not (pdt_tru (pd_fnC c__law_right hr (by decide) rfl (pda_cons (pd_var (i := 3) rfl (.inl rfl)) pda_nil se_name)) (fun _ => rfl))) (pwd_or1 (pdt_not (pdt_tru (pd_fnC c__law_right hr (by decide) rfl (pda_cons (pd_var (i := 4) rfl (.inl rfl)) pda_nil se_name)) (fun _ => rfl)))))) (pdss_one (pds_ret pd_bl)) pdss_nil) (pdss_cons (pds_set (i := 5) nd_29 rfl (.inl rfl) (pd_fnC c_greatest hr (by decide) rfl (pda_cons (pd_var (i := 4) rfl (.inl rfl)) pda_nil se_name))) (pdss_one (pds_for PassesOwn.never rfl (pdi_seq (pd_fnC c_greatest hr (by decide) rfl (pda_cons (pd_var (i := 3) rfl (.inl rfl)) pda_nil se_name))) (pg_one (i := 6) nd_29 rfl (.inr rfl) (.inl rfl)) (pdss_one (pds_if (PDW.pt (pwd_and (pdt_cmp (op_eqPy hr.units) opd_py (pd_comp false ["_law_wider"] rfl (pdi_seq (pd_var (i := 5) rfl (.inl rfl))) (bok_of (by kernel_rfl)) (fun _ _ _ _ _ => ⟨(pg_one (i := 7) nd_30 rfl (.inl rfl) (.inr rfl)), (.cons (pdt_tru (pd_fnC c_lies_in hr (by decide) rfl (pda_cons (pd_var (i := 6) rfl (.inr (.inl rfl))) (pda_cons (pd_var (i := 7) rfl (.inl rfl)) pda_nil se_name) se_name)) (fun _ => rfl)) .nil), .nil, (pd_var (i := 7) rfl (.inl rfl))⟩)) (pd_lst pda_nil) (nomark _)) (pwd_and1 (pdt_tru (pd_fnC c__law_has_one hr (by decide) rfl (pda_cons (pd_var (i := 4) rfl (.inl rfl)) (pda_cons (pd_var (i := 6) rfl (.inr (.inl rfl))) pda_nil se_name) se_name)) (fun _ => rfl))))) (pdss_one (pds_ret pd_bl)) pdss_nil)))))))))) (pdss_one (pds_ret pd_bl)))
theorem ok_all {f : Addr} {fd : FuncData} (hF : L2.Fun K "law" "law" (top 48) f fd) (T : Txt K mg) : FnOk P w K mg base CX0 9 f fd ["_law_script"] (DSp K Ec0 1 F_law) :=
  have c_is_whole := ok_is_whole (P := P) (w := w) (base := base) T
  have c_is_rising := ok_is_rising (P := P) (w := w) (base := base) T
  have c_switches_of := ok_switches_of (P := P) (w := w) (base := base) T
  have c_points_with := ok_points_with (P := P) (w := w) (base := base) T
  have c_has_term_signs := ok_has_term_signs (P := P) (w := w) (base := base) T
  have c_all_terms := ok_all_terms (P := P) (w := w) (base := base) T
  have c_bits_of := ok_bits_of (P := P) (w := w) (base := base) T
  have c_lies_in := ok_lies_in (P := P) (w := w) (base := base) T
  have c_with_sign := ok_with_sign (P := P) (w := w) (base := base) T
  have c__law_cell_at := ok__law_cell_at (P := P) (w := w) (base := base) T
  have c__law_take := ok__law_take (P := P) (w := w) (base := base) T
  have c__law_bits := ok__law_bits (P := P) (w := w) (base := base) T
  have c_is_whole_within := ok_is_whole_within (P := P) (w := w) (base := base) T c_is_whole
  have c_need_term := ok_need_term (P := P) (w := w) (base := base) T c_has_term_signs
  have c_has_rising_terms := ok_has_rising_terms (P := P) (w := w) (base := base) T c_has_term_signs c_is_rising
  have c_points_of := ok_points_of (P := P) (w := w) (base := base) T c_bits_of
  have c__law_state := ok__law_state (P := P) (w := w) (base := base) T c__law_cell_at
  have c__law_term := ok__law_term (P := P) (w := w) (base := base) T c__law_take
  have c__law_points := ok__law_points (P := P) (w := w) (base := base) T c__law_bits
  have c__law_answered := ok__law_answered (P := P) (w := w) (base := base) T c__law_take
  have c_is_answer := ok_is_answer (P := P) (w := w) (base := base) T c_is_whole_within
  have c_terms_holding := ok_terms_holding (P := P) (w := w) (base := base) T c_points_of
  have c_holds_no_nought := ok_holds_no_nought (P := P) (w := w) (base := base) T c_points_of
  have c_holds_a_one := ok_holds_a_one (P := P) (w := w) (base := base) T c_points_of
  have c__law_function := ok__law_function (P := P) (w := w) (base := base) T c__law_points c__law_take c__law_term
  have c__law_has_one := ok__law_has_one (P := P) (w := w) (base := base) T c_points_of
  have c_is_function := ok_is_function (P := P) (w := w) (base := base) T c_is_answer
  have c_can_widen_at := ok_can_widen_at (P := P) (w := w) (base := base) T c_holds_no_nought c_with_sign
  have c_need_function := ok_need_function (P := P) (w := w) (base := base) T c_is_function
  have c_is_widest := ok_is_widest (P := P) (w := w) (base := base) T c_can_widen_at
  have c_is_good := ok_is_good (P := P) (w := w) (base := base) T c_holds_no_nought c_need_function c_need_term c_switches_of
  have c_good_terms := ok_good_terms (P := P) (w := w) (base := base) T c_all_terms c_holds_no_nought c_need_function c_switches_of
  have c_is_form := ok_is_form (P := P) (w := w) (base := base) T c_has_rising_terms c_holds_no_nought c_need_function c_points_with c_switches_of c_terms_holding
  have c_greatest := ok_greatest (P := P) (w := w) (base := base) T c_good_terms c_holds_a_one c_is_widest
  have c_widened := ok_widened (P := P) (w := w) (base := base) T c_can_widen_at c_is_good c_with_sign
  have c__law_right := ok__law_right (P := P) (w := w) (base := base) T c__law_has_one c_good_terms c_greatest c_is_form c_is_good c_lies_in c_widened
  fn_law hF T c__law_answered c__law_function c__law_has_one c__law_right c__law_state c_greatest c_lies_in
end
theorem txt_mk {K : PySem.W.Frag} {h : Heap} {mg : Str → Option Value} (X : K.In h) (G : h.Ns mainGlobals mg)
    {f0 : Addr} {od0 an0 : Option Addr} {sl0 : Array (Option Value)} {oc0 kV0 dc0 pm0 ct0 : Value} {cd0 : Value} (a0 : PySem.W.nsIn K mainGlobals "is_whole" = some (some (.ref f0)))
    (l0 : K.lookup f0 = some ⟨oc0, od0, .func (PySem.W.fnOf "is_whole" "is_whole" (defArgs (top 5)) (defBody (top 5)) (defScope (top 5)) .none kV0 dc0 pm0 an0 cd0 ct0), sl0⟩) (q0 : PySem.W.codeIn K cd0 "is_whole" = true) (k0 : PySem.W.keepIn K (.ref f0) = true)
    {f1 : Addr} {od1 an1 : Option Addr} {sl1 : Array (Option Value)} {oc1 kV1 dc1 pm1 ct1 : Value} {cd1 : Value} (a1 : PySem.W.nsIn K mainGlobals "is_whole_within" = some (some (.ref f1)))
    (l1 : K.lookup f1 = some ⟨oc1, od1, .func (PySem.W.fnOf "is_whole_within" "is_whole_within" (defArgs (top 6)) (defBody (top 6)) (defScope (top 6)) .none kV1 dc1 pm1 an1 cd1 ct1), sl1⟩) (q1 : PySem.W.codeIn K cd1 "is_whole_within" = true) (k1 : PySem.W.keepIn K (.ref f1) = true)
    {f2 : Addr} {od2 an2 : Option Addr} {sl2 : Array (Option Value)} {oc2 kV2 dc2 pm2 ct2 : Value} {cd2 : Value} (a2 : PySem.W.nsIn K mainGlobals "is_rising" = some (some (.ref f2)))
    (l2 : K.lookup f2 = some ⟨oc2, od2, .func (PySem.W.fnOf "is_rising" "is_rising" (defArgs (top 7)) (defBody (top 7)) (defScope (top 7)) .none kV2 dc2 pm2 an2 cd2 ct2), sl2⟩) (q2 : PySem.W.codeIn K cd2 "is_rising" = true) (k2 : PySem.W.keepIn K (.ref f2) = true)
    {f3 : Addr} {od3 an3 : Option Addr} {sl3 : Array (Option Value)} {oc3 kV3 dc3 pm3 ct3 : Value} {cd3 : Value} (a3 : PySem.W.nsIn K mainGlobals "is_answer" = some (some (.ref f3)))
    (l3 : K.lookup f3 = some ⟨oc3, od3, .func (PySem.W.fnOf "is_answer" "is_answer" (defArgs (top 10)) (defBody (top 10)) (defScope (top 10)) .none kV3 dc3 pm3 an3 cd3 ct3), sl3⟩) (q3 : PySem.W.codeIn K cd3 "is_answer" = true) (k3 : PySem.W.keepIn K (.ref f3) = true)
    {f4 : Addr} {od4 an4 : Option Addr} {sl4 : Array (Option Value)} {oc4 kV4 dc4 pm4 ct4 : Value} {cd4 : Value} (a4 : PySem.W.nsIn K mainGlobals "is_function" = some (some (.ref f4)))
    (l4 : K.lookup f4 = some ⟨oc4, od4, .func (PySem.W.fnOf "is_function" "is_function" (defArgs (top 11)) (defBody (top 11)) (defScope (top 11)) .none kV4 dc4 pm4 an4 cd4 ct4), sl4⟩) (q4 : PySem.W.codeIn K cd4 "is_function" = true) (k4 : PySem.W.keepIn K (.ref f4) = true)
    {f5 : Addr} {od5 an5 : Option Addr} {sl5 : Array (Option Value)} {oc5 kV5 dc5 pm5 ct5 : Value} {cd5 : Value} (a5 : PySem.W.nsIn K mainGlobals "need_function" = some (some (.ref f5)))
    (l5 : K.lookup f5 = some ⟨oc5, od5, .func (PySem.W.fnOf "need_function" "need_function" (defArgs (top 12)) (defBody (top 12)) (defScope (top 12)) .none kV5 dc5 pm5 an5 cd5 ct5), sl5⟩) (q5 : PySem.W.codeIn K cd5 "need_function" = true) (k5 : PySem.W.keepIn K (.ref f5) = true)
    {f6 : Addr} {od6 an6 : Option Addr} {sl6 : Array (Option Value)} {oc6 kV6 dc6 pm6 ct6 : Value} {cd6 : Value} (a6 : PySem.W.nsIn K mainGlobals "switches_of" = some (some (.ref f6)))
    (l6 : K.lookup f6 = some ⟨oc6, od6, .func (PySem.W.fnOf "switches_of" "switches_of" (defArgs (top 13)) (defBody (top 13)) (defScope (top 13)) .none kV6 dc6 pm6 an6 cd6 ct6), sl6⟩) (q6 : PySem.W.codeIn K cd6 "switches_of" = true) (k6 : PySem.W.keepIn K (.ref f6) = true)
    {f7 : Addr} {od7 an7 : Option Addr} {sl7 : Array (Option Value)} {oc7 kV7 dc7 pm7 ct7 : Value} {cd7 : Value} (a7 : PySem.W.nsIn K mainGlobals "points_with" = some (some (.ref f7)))
    (l7 : K.lookup f7 = some ⟨oc7, od7, .func (PySem.W.fnOf "points_with" "points_with" (defArgs (top 14)) (defBody (top 14)) (defScope (top 14)) .none kV7 dc7 pm7 an7 cd7 ct7), sl7⟩) (q7 : PySem.W.codeIn K cd7 "points_with" = true) (k7 : PySem.W.keepIn K (.ref f7) = true)
    {f8 : Addr} {od8 an8 : Option Addr} {sl8 : Array (Option Value)} {oc8 kV8 dc8 pm8 ct8 : Value} {cd8 : Value} (a8 : PySem.W.nsIn K mainGlobals "has_term_signs" = some (some (.ref f8)))
    (l8 : K.lookup f8 = some ⟨oc8, od8, .func (PySem.W.fnOf "has_term_signs" "has_term_signs" (defArgs (top 17)) (defBody (top 17)) (defScope (top 17)) .none kV8 dc8 pm8 an8 cd8 ct8), sl8⟩) (q8 : PySem.W.codeIn K cd8 "has_term_signs" = true) (k8 : PySem.W.keepIn K (.ref f8) = true)
    {f9 : Addr} {od9 an9 : Option Addr} {sl9 : Array (Option Value)} {oc9 kV9 dc9 pm9 ct9 : Value} {cd9 : Value} (a9 : PySem.W.nsIn K mainGlobals "need_term" = some (some (.ref f9)))
    (l9 : K.lookup f9 = some ⟨oc9, od9, .func (PySem.W.fnOf "need_term" "need_term" (defArgs (top 18)) (defBody (top 18)) (defScope (top 18)) .none kV9 dc9 pm9 an9 cd9 ct9), sl9⟩) (q9 : PySem.W.codeIn K cd9 "need_term" = true) (k9 : PySem.W.keepIn K (.ref f9) = true)
    {f10 : Addr} {od10 an10 : Option Addr} {sl10 : Array (Option Value)} {oc10 kV10 dc10 pm10 ct10 : Value} {cd10 : Value} (a10 : PySem.W.nsIn K mainGlobals "has_rising_terms" = some (some (.ref f10)))
    (l10 : K.lookup f10 = some ⟨oc10, od10, .func (PySem.W.fnOf "has_rising_terms" "has_rising_terms" (defArgs (top 19)) (defBody (top 19)) (defScope (top 19)) .none kV10 dc10 pm10 an10 cd10 ct10), sl10⟩) (q10 : PySem.W.codeIn K cd10 "has_rising_terms" = true) (k10 : PySem.W.keepIn K (.ref f10) = true)
    {f11 : Addr} {od11 an11 : Option Addr} {sl11 : Array (Option Value)} {oc11 kV11 dc11 pm11 ct11 : Value} {cd11 : Value} (a11 : PySem.W.nsIn K mainGlobals "all_terms" = some (some (.ref f11)))
    (l11 : K.lookup f11 = some ⟨oc11, od11, .func (PySem.W.fnOf "all_terms" "all_terms" (defArgs (top 20)) (defBody (top 20)) (defScope (top 20)) .none kV11 dc11 pm11 an11 cd11 ct11), sl11⟩) (q11 : PySem.W.codeIn K cd11 "all_terms" = true) (k11 : PySem.W.keepIn K (.ref f11) = true)
    {f12 : Addr} {od12 an12 : Option Addr} {sl12 : Array (Option Value)} {oc12 kV12 dc12 pm12 ct12 : Value} {cd12 : Value} (a12 : PySem.W.nsIn K mainGlobals "bits_of" = some (some (.ref f12)))
    (l12 : K.lookup f12 = some ⟨oc12, od12, .func (PySem.W.fnOf "bits_of" "bits_of" (defArgs (top 21)) (defBody (top 21)) (defScope (top 21)) .none kV12 dc12 pm12 an12 cd12 ct12), sl12⟩) (q12 : PySem.W.codeIn K cd12 "bits_of" = true) (k12 : PySem.W.keepIn K (.ref f12) = true)
    {f13 : Addr} {od13 an13 : Option Addr} {sl13 : Array (Option Value)} {oc13 kV13 dc13 pm13 ct13 : Value} {cd13 : Value} (a13 : PySem.W.nsIn K mainGlobals "points_of" = some (some (.ref f13)))
    (l13 : K.lookup f13 = some ⟨oc13, od13, .func (PySem.W.fnOf "points_of" "points_of" (defArgs (top 22)) (defBody (top 22)) (defScope (top 22)) .none kV13 dc13 pm13 an13 cd13 ct13), sl13⟩) (q13 : PySem.W.codeIn K cd13 "points_of" = true) (k13 : PySem.W.keepIn K (.ref f13) = true)
    {f14 : Addr} {od14 an14 : Option Addr} {sl14 : Array (Option Value)} {oc14 kV14 dc14 pm14 ct14 : Value} {cd14 : Value} (a14 : PySem.W.nsIn K mainGlobals "lies_in" = some (some (.ref f14)))
    (l14 : K.lookup f14 = some ⟨oc14, od14, .func (PySem.W.fnOf "lies_in" "lies_in" (defArgs (top 23)) (defBody (top 23)) (defScope (top 23)) .none kV14 dc14 pm14 an14 cd14 ct14), sl14⟩) (q14 : PySem.W.codeIn K cd14 "lies_in" = true) (k14 : PySem.W.keepIn K (.ref f14) = true)
    {f15 : Addr} {od15 an15 : Option Addr} {sl15 : Array (Option Value)} {oc15 kV15 dc15 pm15 ct15 : Value} {cd15 : Value} (a15 : PySem.W.nsIn K mainGlobals "with_sign" = some (some (.ref f15)))
    (l15 : K.lookup f15 = some ⟨oc15, od15, .func (PySem.W.fnOf "with_sign" "with_sign" (defArgs (top 24)) (defBody (top 24)) (defScope (top 24)) .none kV15 dc15 pm15 an15 cd15 ct15), sl15⟩) (q15 : PySem.W.codeIn K cd15 "with_sign" = true) (k15 : PySem.W.keepIn K (.ref f15) = true)
    {f16 : Addr} {od16 an16 : Option Addr} {sl16 : Array (Option Value)} {oc16 kV16 dc16 pm16 ct16 : Value} {cd16 : Value} (a16 : PySem.W.nsIn K mainGlobals "terms_holding" = some (some (.ref f16)))
    (l16 : K.lookup f16 = some ⟨oc16, od16, .func (PySem.W.fnOf "terms_holding" "terms_holding" (defArgs (top 25)) (defBody (top 25)) (defScope (top 25)) .none kV16 dc16 pm16 an16 cd16 ct16), sl16⟩) (q16 : PySem.W.codeIn K cd16 "terms_holding" = true) (k16 : PySem.W.keepIn K (.ref f16) = true)
    {f17 : Addr} {od17 an17 : Option Addr} {sl17 : Array (Option Value)} {oc17 kV17 dc17 pm17 ct17 : Value} {cd17 : Value} (a17 : PySem.W.nsIn K mainGlobals "holds_no_nought" = some (some (.ref f17)))
    (l17 : K.lookup f17 = some ⟨oc17, od17, .func (PySem.W.fnOf "holds_no_nought" "holds_no_nought" (defArgs (top 27)) (defBody (top 27)) (defScope (top 27)) .none kV17 dc17 pm17 an17 cd17 ct17), sl17⟩) (q17 : PySem.W.codeIn K cd17 "holds_no_nought" = true) (k17 : PySem.W.keepIn K (.ref f17) = true)
    {f18 : Addr} {od18 an18 : Option Addr} {sl18 : Array (Option Value)} {oc18 kV18 dc18 pm18 ct18 : Value} {cd18 : Value} (a18 : PySem.W.nsIn K mainGlobals "holds_a_one" = some (some (.ref f18)))
    (l18 : K.lookup f18 = some ⟨oc18, od18, .func (PySem.W.fnOf "holds_a_one" "holds_a_one" (defArgs (top 28)) (defBody (top 28)) (defScope (top 28)) .none kV18 dc18 pm18 an18 cd18 ct18), sl18⟩) (q18 : PySem.W.codeIn K cd18 "holds_a_one" = true) (k18 : PySem.W.keepIn K (.ref f18) = true)
    {f19 : Addr} {od19 an19 : Option Addr} {sl19 : Array (Option Value)} {oc19 kV19 dc19 pm19 ct19 : Value} {cd19 : Value} (a19 : PySem.W.nsIn K mainGlobals "is_good" = some (some (.ref f19)))
    (l19 : K.lookup f19 = some ⟨oc19, od19, .func (PySem.W.fnOf "is_good" "is_good" (defArgs (top 29)) (defBody (top 29)) (defScope (top 29)) .none kV19 dc19 pm19 an19 cd19 ct19), sl19⟩) (q19 : PySem.W.codeIn K cd19 "is_good" = true) (k19 : PySem.W.keepIn K (.ref f19) = true)
    {f20 : Addr} {od20 an20 : Option Addr} {sl20 : Array (Option Value)} {oc20 kV20 dc20 pm20 ct20 : Value} {cd20 : Value} (a20 : PySem.W.nsIn K mainGlobals "good_terms" = some (some (.ref f20)))
    (l20 : K.lookup f20 = some ⟨oc20, od20, .func (PySem.W.fnOf "good_terms" "good_terms" (defArgs (top 30)) (defBody (top 30)) (defScope (top 30)) .none kV20 dc20 pm20 an20 cd20 ct20), sl20⟩) (q20 : PySem.W.codeIn K cd20 "good_terms" = true) (k20 : PySem.W.keepIn K (.ref f20) = true)
    {f21 : Addr} {od21 an21 : Option Addr} {sl21 : Array (Option Value)} {oc21 kV21 dc21 pm21 ct21 : Value} {cd21 : Value} (a21 : PySem.W.nsIn K mainGlobals "can_widen_at" = some (some (.ref f21)))
    (l21 : K.lookup f21 = some ⟨oc21, od21, .func (PySem.W.fnOf "can_widen_at" "can_widen_at" (defArgs (top 31)) (defBody (top 31)) (defScope (top 31)) .none kV21 dc21 pm21 an21 cd21 ct21), sl21⟩) (q21 : PySem.W.codeIn K cd21 "can_widen_at" = true) (k21 : PySem.W.keepIn K (.ref f21) = true)
    {f22 : Addr} {od22 an22 : Option Addr} {sl22 : Array (Option Value)} {oc22 kV22 dc22 pm22 ct22 : Value} {cd22 : Value} (a22 : PySem.W.nsIn K mainGlobals "is_widest" = some (some (.ref f22)))
    (l22 : K.lookup f22 = some ⟨oc22, od22, .func (PySem.W.fnOf "is_widest" "is_widest" (defArgs (top 32)) (defBody (top 32)) (defScope (top 32)) .none kV22 dc22 pm22 an22 cd22 ct22), sl22⟩) (q22 : PySem.W.codeIn K cd22 "is_widest" = true) (k22 : PySem.W.keepIn K (.ref f22) = true)
    {f23 : Addr} {od23 an23 : Option Addr} {sl23 : Array (Option Value)} {oc23 kV23 dc23 pm23 ct23 : Value} {cd23 : Value} (a23 : PySem.W.nsIn K mainGlobals "greatest" = some (some (.ref f23)))
    (l23 : K.lookup f23 = some ⟨oc23, od23, .func (PySem.W.fnOf "greatest" "greatest" (defArgs (top 33)) (defBody (top 33)) (defScope (top 33)) .none kV23 dc23 pm23 an23 cd23 ct23), sl23⟩) (q23 : PySem.W.codeIn K cd23 "greatest" = true) (k23 : PySem.W.keepIn K (.ref f23) = true)
    {f24 : Addr} {od24 an24 : Option Addr} {sl24 : Array (Option Value)} {oc24 kV24 dc24 pm24 ct24 : Value} {cd24 : Value} (a24 : PySem.W.nsIn K mainGlobals "widened" = some (some (.ref f24)))
    (l24 : K.lookup f24 = some ⟨oc24, od24, .func (PySem.W.fnOf "widened" "widened" (defArgs (top 34)) (defBody (top 34)) (defScope (top 34)) .none kV24 dc24 pm24 an24 cd24 ct24), sl24⟩) (q24 : PySem.W.codeIn K cd24 "widened" = true) (k24 : PySem.W.keepIn K (.ref f24) = true)
    {f25 : Addr} {od25 an25 : Option Addr} {sl25 : Array (Option Value)} {oc25 kV25 dc25 pm25 ct25 : Value} {cd25 : Value} (a25 : PySem.W.nsIn K mainGlobals "is_form" = some (some (.ref f25)))
    (l25 : K.lookup f25 = some ⟨oc25, od25, .func (PySem.W.fnOf "is_form" "is_form" (defArgs (top 36)) (defBody (top 36)) (defScope (top 36)) .none kV25 dc25 pm25 an25 cd25 ct25), sl25⟩) (q25 : PySem.W.codeIn K cd25 "is_form" = true) (k25 : PySem.W.keepIn K (.ref f25) = true)
    {f26 : Addr} {od26 an26 : Option Addr} {sl26 : Array (Option Value)} {oc26 kV26 dc26 pm26 ct26 : Value} {cd26 : Value} (a26 : PySem.W.nsIn K mainGlobals "_law_cell_at" = some (some (.ref f26)))
    (l26 : K.lookup f26 = some ⟨oc26, od26, .func (PySem.W.fnOf "_law_cell_at" "_law_cell_at" (defArgs (top 38)) (defBody (top 38)) (defScope (top 38)) .none kV26 dc26 pm26 an26 cd26 ct26), sl26⟩) (q26 : PySem.W.codeIn K cd26 "_law_cell_at" = true) (k26 : PySem.W.keepIn K (.ref f26) = true)
    {f27 : Addr} {od27 an27 : Option Addr} {sl27 : Array (Option Value)} {oc27 kV27 dc27 pm27 ct27 : Value} {cd27 : Value} (a27 : PySem.W.nsIn K mainGlobals "_law_state" = some (some (.ref f27)))
    (l27 : K.lookup f27 = some ⟨oc27, od27, .func (PySem.W.fnOf "_law_state" "_law_state" (defArgs (top 39)) (defBody (top 39)) (defScope (top 39)) .none kV27 dc27 pm27 an27 cd27 ct27), sl27⟩) (q27 : PySem.W.codeIn K cd27 "_law_state" = true) (k27 : PySem.W.keepIn K (.ref f27) = true)
    {f28 : Addr} {od28 an28 : Option Addr} {sl28 : Array (Option Value)} {oc28 kV28 dc28 pm28 ct28 : Value} {cd28 : Value} (a28 : PySem.W.nsIn K mainGlobals "_law_take" = some (some (.ref f28)))
    (l28 : K.lookup f28 = some ⟨oc28, od28, .func (PySem.W.fnOf "_law_take" "_law_take" (defArgs (top 40)) (defBody (top 40)) (defScope (top 40)) .none kV28 dc28 pm28 an28 cd28 ct28), sl28⟩) (q28 : PySem.W.codeIn K cd28 "_law_take" = true) (k28 : PySem.W.keepIn K (.ref f28) = true)
    {f29 : Addr} {od29 an29 : Option Addr} {sl29 : Array (Option Value)} {oc29 kV29 dc29 pm29 ct29 : Value} {cd29 : Value} (a29 : PySem.W.nsIn K mainGlobals "_law_term" = some (some (.ref f29)))
    (l29 : K.lookup f29 = some ⟨oc29, od29, .func (PySem.W.fnOf "_law_term" "_law_term" (defArgs (top 41)) (defBody (top 41)) (defScope (top 41)) .none kV29 dc29 pm29 an29 cd29 ct29), sl29⟩) (q29 : PySem.W.codeIn K cd29 "_law_term" = true) (k29 : PySem.W.keepIn K (.ref f29) = true)
    {f30 : Addr} {od30 an30 : Option Addr} {sl30 : Array (Option Value)} {oc30 kV30 dc30 pm30 ct30 : Value} {cd30 : Value} (a30 : PySem.W.nsIn K mainGlobals "_law_bits" = some (some (.ref f30)))
    (l30 : K.lookup f30 = some ⟨oc30, od30, .func (PySem.W.fnOf "_law_bits" "_law_bits" (defArgs (top 42)) (defBody (top 42)) (defScope (top 42)) .none kV30 dc30 pm30 an30 cd30 ct30), sl30⟩) (q30 : PySem.W.codeIn K cd30 "_law_bits" = true) (k30 : PySem.W.keepIn K (.ref f30) = true)
    {f31 : Addr} {od31 an31 : Option Addr} {sl31 : Array (Option Value)} {oc31 kV31 dc31 pm31 ct31 : Value} {cd31 : Value} (a31 : PySem.W.nsIn K mainGlobals "_law_points" = some (some (.ref f31)))
    (l31 : K.lookup f31 = some ⟨oc31, od31, .func (PySem.W.fnOf "_law_points" "_law_points" (defArgs (top 43)) (defBody (top 43)) (defScope (top 43)) .none kV31 dc31 pm31 an31 cd31 ct31), sl31⟩) (q31 : PySem.W.codeIn K cd31 "_law_points" = true) (k31 : PySem.W.keepIn K (.ref f31) = true)
    {f32 : Addr} {od32 an32 : Option Addr} {sl32 : Array (Option Value)} {oc32 kV32 dc32 pm32 ct32 : Value} {cd32 : Value} (a32 : PySem.W.nsIn K mainGlobals "_law_function" = some (some (.ref f32)))
    (l32 : K.lookup f32 = some ⟨oc32, od32, .func (PySem.W.fnOf "_law_function" "_law_function" (defArgs (top 44)) (defBody (top 44)) (defScope (top 44)) .none kV32 dc32 pm32 an32 cd32 ct32), sl32⟩) (q32 : PySem.W.codeIn K cd32 "_law_function" = true) (k32 : PySem.W.keepIn K (.ref f32) = true)
    {f33 : Addr} {od33 an33 : Option Addr} {sl33 : Array (Option Value)} {oc33 kV33 dc33 pm33 ct33 : Value} {cd33 : Value} (a33 : PySem.W.nsIn K mainGlobals "_law_answered" = some (some (.ref f33)))
    (l33 : K.lookup f33 = some ⟨oc33, od33, .func (PySem.W.fnOf "_law_answered" "_law_answered" (defArgs (top 45)) (defBody (top 45)) (defScope (top 45)) .none kV33 dc33 pm33 an33 cd33 ct33), sl33⟩) (q33 : PySem.W.codeIn K cd33 "_law_answered" = true) (k33 : PySem.W.keepIn K (.ref f33) = true)
    {f34 : Addr} {od34 an34 : Option Addr} {sl34 : Array (Option Value)} {oc34 kV34 dc34 pm34 ct34 : Value} {cd34 : Value} (a34 : PySem.W.nsIn K mainGlobals "_law_has_one" = some (some (.ref f34)))
    (l34 : K.lookup f34 = some ⟨oc34, od34, .func (PySem.W.fnOf "_law_has_one" "_law_has_one" (defArgs (top 46)) (defBody (top 46)) (defScope (top 46)) .none kV34 dc34 pm34 an34 cd34 ct34), sl34⟩) (q34 : PySem.W.codeIn K cd34 "_law_has_one" = true) (k34 : PySem.W.keepIn K (.ref f34) = true)
    {f35 : Addr} {od35 an35 : Option Addr} {sl35 : Array (Option Value)} {oc35 kV35 dc35 pm35 ct35 : Value} {cd35 : Value} (a35 : PySem.W.nsIn K mainGlobals "_law_right" = some (some (.ref f35)))
    (l35 : K.lookup f35 = some ⟨oc35, od35, .func (PySem.W.fnOf "_law_right" "_law_right" (defArgs (top 47)) (defBody (top 47)) (defScope (top 47)) .none kV35 dc35 pm35 an35 cd35 ct35), sl35⟩) (q35 : PySem.W.codeIn K cd35 "_law_right" = true) (k35 : PySem.W.keepIn K (.ref f35) = true)
    {f36 : Addr} {od36 an36 : Option Addr} {sl36 : Array (Option Value)} {oc36 kV36 dc36 pm36 ct36 : Value} {cd36 : Value} (a36 : PySem.W.nsIn K mainGlobals "law" = some (some (.ref f36)))
    (l36 : K.lookup f36 = some ⟨oc36, od36, .func (PySem.W.fnOf "law" "law" (defArgs (top 48)) (defBody (top 48)) (defScope (top 48)) .none kV36 dc36 pm36 an36 cd36 ct36), sl36⟩) (q36 : PySem.W.codeIn K cd36 "law" = true) (k36 : PySem.W.keepIn K (.ref f36) = true)
    (z_all : PySem.W.nsIn K mainGlobals "all" = some none)
    (z_any : PySem.W.nsIn K mainGlobals "any" = some none)
    (z_bool : PySem.W.nsIn K mainGlobals "bool" = some none)
    (z_enumerate : PySem.W.nsIn K mainGlobals "enumerate" = some none)
    (z_int : PySem.W.nsIn K mainGlobals "int" = some none)
    (z_isinstance : PySem.W.nsIn K mainGlobals "isinstance" = some none)
    (z_len : PySem.W.nsIn K mainGlobals "len" = some none)
    (z_max : PySem.W.nsIn K mainGlobals "max" = some none)
    (z_min : PySem.W.nsIn K mainGlobals "min" = some none)
    (z_range : PySem.W.nsIn K mainGlobals "range" = some none)
    (z_str : PySem.W.nsIn K mainGlobals "str" = some none)
    (z_tuple : PySem.W.nsIn K mainGlobals "tuple" = some none)
    (z_zip : PySem.W.nsIn K mainGlobals "zip" = some none)
    {t_SIGNS : Tok} (s_SIGNS : PySem.W.nsIn K mainGlobals "SIGNS" = some (some (.str ⟨([45, 48, 49] : List Nat).toArray⟩ t_SIGNS)))
    {e_SWITCHES_BY_POINTS : Addr} {w_SWITCHES_BY_POINTS : Obj} (d_SWITCHES_BY_POINTS : PySem.W.nsIn K mainGlobals "SWITCHES_BY_POINTS" = some (some (.ref e_SWITCHES_BY_POINTS))) (u_SWITCHES_BY_POINTS : K.lookup e_SWITCHES_BY_POINTS = some w_SWITCHES_BY_POINTS) (v_SWITCHES_BY_POINTS : tabB w_SWITCHES_BY_POINTS t_SWITCHES_BY_POINTS = true) (y_SWITCHES_BY_POINTS : (e_SWITCHES_BY_POINTS == sysModules) = false)
    : Txt K mg ∧ mg "law" = some (.ref f36) ∧ L2.Fun K "law" "law" (top 48) f36 (PySem.W.fnOf "law" "law" (defArgs (top 48)) (defBody (top 48)) (defScope (top 48)) .none kV36 dc36 pm36 an36 cd36 ct36) :=
  ⟨⟨⟨f0, _, PySem.W.mg_of X G a0, fun_mk l0 q0 k0⟩, ⟨f1, _, PySem.W.mg_of X G a1, fun_mk l1 q1 k1⟩, ⟨f2, _, PySem.W.mg_of X G a2, fun_mk l2 q2 k2⟩, ⟨f3, _, PySem.W.mg_of X G a3, fun_mk l3 q3 k3⟩, ⟨f4, _, PySem.W.mg_of X G a4, fun_mk l4 q4 k4⟩, ⟨f5, _, PySem.W.mg_of X G a5, fun_mk l5 q5 k5⟩, ⟨f6, _, PySem.W.mg_of X G a6, fun_mk l6 q6 k6⟩, ⟨f7, _, PySem.W.mg_of X G a7, fun_mk l7 q7 k7⟩, ⟨f8, _, PySem.W.mg_of X G a8, fun_mk l8 q8 k8⟩, ⟨f9, _, PySem.W.mg_of X G a9, fun_mk l9 q9 k9⟩, ⟨f10, _, PySem.W.mg_of X G a10, fun_mk l10 q10 k10⟩, ⟨f11, _, PySem.W.mg_of X G a11, fun_mk l11 q11 k11⟩, ⟨f12, _, PySem.W.mg_of X G a12, fun_mk l12 q12 k12⟩, ⟨f13, _, PySem.W.mg_of X G a13, fun_mk l13 q13 k13⟩, ⟨f14, _, PySem.W.mg_of X G a14, fun_mk l14 q14 k14⟩, ⟨f15, _, PySem.W.mg_of X G a15, fun_mk l15 q15 k15⟩, ⟨f16, _, PySem.W.mg_of X G a16, fun_mk l16 q16 k16⟩, ⟨f17, _, PySem.W.mg_of X G a17, fun_mk l17 q17 k17⟩, ⟨f18, _, PySem.W.mg_of X G a18, fun_mk l18 q18 k18⟩, ⟨f19, _, PySem.W.mg_of X G a19, fun_mk l19 q19 k19⟩, ⟨f20, _, PySem.W.mg_of X G a20, fun_mk l20 q20 k20⟩, ⟨f21, _, PySem.W.mg_of X G a21, fun_mk l21 q21 k21⟩, ⟨f22, _, PySem.W.mg_of X G a22, fun_mk l22 q22 k22⟩, ⟨f23, _, PySem.W.mg_of X G a23, fun_mk l23 q23 k23⟩, ⟨f24, _, PySem.W.mg_of X G a24, fun_mk l24 q24 k24⟩, ⟨f25, _, PySem.W.mg_of X G a25, fun_mk l25 q25 k25⟩, ⟨f26, _, PySem.W.mg_of X G a26, fun_mk l26 q26 k26⟩, ⟨f27, _, PySem.W.mg_of X G a27, fun_mk l27 q27 k27⟩, ⟨f28, _, PySem.W.mg_of X G a28, fun_mk l28 q28 k28⟩, ⟨f29, _, PySem.W.mg_of X G a29, fun_mk l29 q29 k29⟩, ⟨f30, _, PySem.W.mg_of X G a30, fun_mk l30 q30 k30⟩, ⟨f31, _, PySem.W.mg_of X G a31, fun_mk l31 q31 k31⟩, ⟨f32, _, PySem.W.mg_of X G a32, fun_mk l32 q32 k32⟩, ⟨f33, _, PySem.W.mg_of X G a33, fun_mk l33 q33 k33⟩, ⟨f34, _, PySem.W.mg_of X G a34, fun_mk l34 q34 k34⟩, ⟨f35, _, PySem.W.mg_of X G a35, fun_mk l35 q35 k35⟩, ⟨f36, _, PySem.W.mg_of X G a36, fun_mk l36 q36 k36⟩, PySem.W.mg_none_of X G z_all, PySem.W.mg_none_of X G z_any, PySem.W.mg_none_of X G z_bool, PySem.W.mg_none_of X G z_enumerate, PySem.W.mg_none_of X G z_int, PySem.W.mg_none_of X G z_isinstance, PySem.W.mg_none_of X G z_len, PySem.W.mg_none_of X G z_max, PySem.W.mg_none_of X G z_min, PySem.W.mg_none_of X G z_range, PySem.W.mg_none_of X G z_str, PySem.W.mg_none_of X G z_tuple, PySem.W.mg_none_of X G z_zip, ⟨_, PySem.W.mg_of X G s_SIGNS⟩, ⟨_, _, PySem.W.mg_of X G d_SWITCHES_BY_POINTS, u_SWITCHES_BY_POINTS, v_SWITCHES_BY_POINTS, y_SWITCHES_BY_POINTS⟩⟩, PySem.W.mg_of X G a36, fun_mk l36 q36 k36⟩
theorem all_mk {P : Program} {w : World} {K : PySem.W.Frag} {h : Heap} {mg : Str → Option Value} {fa : Addr} (X : K.In h) (G : h.Ns mainGlobals mg) (hfa : mg "law" = some (.ref fa))
    {f0 : Addr} {od0 an0 : Option Addr} {sl0 : Array (Option Value)} {oc0 kV0 dc0 pm0 ct0 : Value} {cd0 : Value} (a0 : PySem.W.nsIn K mainGlobals "is_whole" = some (some (.ref f0)))
    (l0 : K.lookup f0 = some ⟨oc0, od0, .func (PySem.W.fnOf "is_whole" "is_whole" (defArgs (top 5)) (defBody (top 5)) (defScope (top 5)) .none kV0 dc0 pm0 an0 cd0 ct0), sl0⟩) (q0 : PySem.W.codeIn K cd0 "is_whole" = true) (k0 : PySem.W.keepIn K (.ref f0) = true)
    {f1 : Addr} {od1 an1 : Option Addr} {sl1 : Array (Option Value)} {oc1 kV1 dc1 pm1 ct1 : Value} {cd1 : Value} (a1 : PySem.W.nsIn K mainGlobals "is_whole_within" = some (some (.ref f1)))
    (l1 : K.lookup f1 = some ⟨oc1, od1, .func (PySem.W.fnOf "is_whole_within" "is_whole_within" (defArgs (top 6)) (defBody (top 6)) (defScope (top 6)) .none kV1 dc1 pm1 an1 cd1 ct1), sl1⟩) (q1 : PySem.W.codeIn K cd1 "is_whole_within" = true) (k1 : PySem.W.keepIn K (.ref f1) = true)
    {f2 : Addr} {od2 an2 : Option Addr} {sl2 : Array (Option Value)} {oc2 kV2 dc2 pm2 ct2 : Value} {cd2 : Value} (a2 : PySem.W.nsIn K mainGlobals "is_rising" = some (some (.ref f2)))
    (l2 : K.lookup f2 = some ⟨oc2, od2, .func (PySem.W.fnOf "is_rising" "is_rising" (defArgs (top 7)) (defBody (top 7)) (defScope (top 7)) .none kV2 dc2 pm2 an2 cd2 ct2), sl2⟩) (q2 : PySem.W.codeIn K cd2 "is_rising" = true) (k2 : PySem.W.keepIn K (.ref f2) = true)
    {f3 : Addr} {od3 an3 : Option Addr} {sl3 : Array (Option Value)} {oc3 kV3 dc3 pm3 ct3 : Value} {cd3 : Value} (a3 : PySem.W.nsIn K mainGlobals "is_answer" = some (some (.ref f3)))
    (l3 : K.lookup f3 = some ⟨oc3, od3, .func (PySem.W.fnOf "is_answer" "is_answer" (defArgs (top 10)) (defBody (top 10)) (defScope (top 10)) .none kV3 dc3 pm3 an3 cd3 ct3), sl3⟩) (q3 : PySem.W.codeIn K cd3 "is_answer" = true) (k3 : PySem.W.keepIn K (.ref f3) = true)
    {f4 : Addr} {od4 an4 : Option Addr} {sl4 : Array (Option Value)} {oc4 kV4 dc4 pm4 ct4 : Value} {cd4 : Value} (a4 : PySem.W.nsIn K mainGlobals "is_function" = some (some (.ref f4)))
    (l4 : K.lookup f4 = some ⟨oc4, od4, .func (PySem.W.fnOf "is_function" "is_function" (defArgs (top 11)) (defBody (top 11)) (defScope (top 11)) .none kV4 dc4 pm4 an4 cd4 ct4), sl4⟩) (q4 : PySem.W.codeIn K cd4 "is_function" = true) (k4 : PySem.W.keepIn K (.ref f4) = true)
    {f5 : Addr} {od5 an5 : Option Addr} {sl5 : Array (Option Value)} {oc5 kV5 dc5 pm5 ct5 : Value} {cd5 : Value} (a5 : PySem.W.nsIn K mainGlobals "need_function" = some (some (.ref f5)))
    (l5 : K.lookup f5 = some ⟨oc5, od5, .func (PySem.W.fnOf "need_function" "need_function" (defArgs (top 12)) (defBody (top 12)) (defScope (top 12)) .none kV5 dc5 pm5 an5 cd5 ct5), sl5⟩) (q5 : PySem.W.codeIn K cd5 "need_function" = true) (k5 : PySem.W.keepIn K (.ref f5) = true)
    {f6 : Addr} {od6 an6 : Option Addr} {sl6 : Array (Option Value)} {oc6 kV6 dc6 pm6 ct6 : Value} {cd6 : Value} (a6 : PySem.W.nsIn K mainGlobals "switches_of" = some (some (.ref f6)))
    (l6 : K.lookup f6 = some ⟨oc6, od6, .func (PySem.W.fnOf "switches_of" "switches_of" (defArgs (top 13)) (defBody (top 13)) (defScope (top 13)) .none kV6 dc6 pm6 an6 cd6 ct6), sl6⟩) (q6 : PySem.W.codeIn K cd6 "switches_of" = true) (k6 : PySem.W.keepIn K (.ref f6) = true)
    {f7 : Addr} {od7 an7 : Option Addr} {sl7 : Array (Option Value)} {oc7 kV7 dc7 pm7 ct7 : Value} {cd7 : Value} (a7 : PySem.W.nsIn K mainGlobals "points_with" = some (some (.ref f7)))
    (l7 : K.lookup f7 = some ⟨oc7, od7, .func (PySem.W.fnOf "points_with" "points_with" (defArgs (top 14)) (defBody (top 14)) (defScope (top 14)) .none kV7 dc7 pm7 an7 cd7 ct7), sl7⟩) (q7 : PySem.W.codeIn K cd7 "points_with" = true) (k7 : PySem.W.keepIn K (.ref f7) = true)
    {f8 : Addr} {od8 an8 : Option Addr} {sl8 : Array (Option Value)} {oc8 kV8 dc8 pm8 ct8 : Value} {cd8 : Value} (a8 : PySem.W.nsIn K mainGlobals "has_term_signs" = some (some (.ref f8)))
    (l8 : K.lookup f8 = some ⟨oc8, od8, .func (PySem.W.fnOf "has_term_signs" "has_term_signs" (defArgs (top 17)) (defBody (top 17)) (defScope (top 17)) .none kV8 dc8 pm8 an8 cd8 ct8), sl8⟩) (q8 : PySem.W.codeIn K cd8 "has_term_signs" = true) (k8 : PySem.W.keepIn K (.ref f8) = true)
    {f9 : Addr} {od9 an9 : Option Addr} {sl9 : Array (Option Value)} {oc9 kV9 dc9 pm9 ct9 : Value} {cd9 : Value} (a9 : PySem.W.nsIn K mainGlobals "need_term" = some (some (.ref f9)))
    (l9 : K.lookup f9 = some ⟨oc9, od9, .func (PySem.W.fnOf "need_term" "need_term" (defArgs (top 18)) (defBody (top 18)) (defScope (top 18)) .none kV9 dc9 pm9 an9 cd9 ct9), sl9⟩) (q9 : PySem.W.codeIn K cd9 "need_term" = true) (k9 : PySem.W.keepIn K (.ref f9) = true)
    {f10 : Addr} {od10 an10 : Option Addr} {sl10 : Array (Option Value)} {oc10 kV10 dc10 pm10 ct10 : Value} {cd10 : Value} (a10 : PySem.W.nsIn K mainGlobals "has_rising_terms" = some (some (.ref f10)))
    (l10 : K.lookup f10 = some ⟨oc10, od10, .func (PySem.W.fnOf "has_rising_terms" "has_rising_terms" (defArgs (top 19)) (defBody (top 19)) (defScope (top 19)) .none kV10 dc10 pm10 an10 cd10 ct10), sl10⟩) (q10 : PySem.W.codeIn K cd10 "has_rising_terms" = true) (k10 : PySem.W.keepIn K (.ref f10) = true)
    {f11 : Addr} {od11 an11 : Option Addr} {sl11 : Array (Option Value)} {oc11 kV11 dc11 pm11 ct11 : Value} {cd11 : Value} (a11 : PySem.W.nsIn K mainGlobals "all_terms" = some (some (.ref f11)))
    (l11 : K.lookup f11 = some ⟨oc11, od11, .func (PySem.W.fnOf "all_terms" "all_terms" (defArgs (top 20)) (defBody (top 20)) (defScope (top 20)) .none kV11 dc11 pm11 an11 cd11 ct11), sl11⟩) (q11 : PySem.W.codeIn K cd11 "all_terms" = true) (k11 : PySem.W.keepIn K (.ref f11) = true)
    {f12 : Addr} {od12 an12 : Option Addr} {sl12 : Array (Option Value)} {oc12 kV12 dc12 pm12 ct12 : Value} {cd12 : Value} (a12 : PySem.W.nsIn K mainGlobals "bits_of" = some (some (.ref f12)))
    (l12 : K.lookup f12 = some ⟨oc12, od12, .func (PySem.W.fnOf "bits_of" "bits_of" (defArgs (top 21)) (defBody (top 21)) (defScope (top 21)) .none kV12 dc12 pm12 an12 cd12 ct12), sl12⟩) (q12 : PySem.W.codeIn K cd12 "bits_of" = true) (k12 : PySem.W.keepIn K (.ref f12) = true)
    {f13 : Addr} {od13 an13 : Option Addr} {sl13 : Array (Option Value)} {oc13 kV13 dc13 pm13 ct13 : Value} {cd13 : Value} (a13 : PySem.W.nsIn K mainGlobals "points_of" = some (some (.ref f13)))
    (l13 : K.lookup f13 = some ⟨oc13, od13, .func (PySem.W.fnOf "points_of" "points_of" (defArgs (top 22)) (defBody (top 22)) (defScope (top 22)) .none kV13 dc13 pm13 an13 cd13 ct13), sl13⟩) (q13 : PySem.W.codeIn K cd13 "points_of" = true) (k13 : PySem.W.keepIn K (.ref f13) = true)
    {f14 : Addr} {od14 an14 : Option Addr} {sl14 : Array (Option Value)} {oc14 kV14 dc14 pm14 ct14 : Value} {cd14 : Value} (a14 : PySem.W.nsIn K mainGlobals "lies_in" = some (some (.ref f14)))
    (l14 : K.lookup f14 = some ⟨oc14, od14, .func (PySem.W.fnOf "lies_in" "lies_in" (defArgs (top 23)) (defBody (top 23)) (defScope (top 23)) .none kV14 dc14 pm14 an14 cd14 ct14), sl14⟩) (q14 : PySem.W.codeIn K cd14 "lies_in" = true) (k14 : PySem.W.keepIn K (.ref f14) = true)
    {f15 : Addr} {od15 an15 : Option Addr} {sl15 : Array (Option Value)} {oc15 kV15 dc15 pm15 ct15 : Value} {cd15 : Value} (a15 : PySem.W.nsIn K mainGlobals "with_sign" = some (some (.ref f15)))
    (l15 : K.lookup f15 = some ⟨oc15, od15, .func (PySem.W.fnOf "with_sign" "with_sign" (defArgs (top 24)) (defBody (top 24)) (defScope (top 24)) .none kV15 dc15 pm15 an15 cd15 ct15), sl15⟩) (q15 : PySem.W.codeIn K cd15 "with_sign" = true) (k15 : PySem.W.keepIn K (.ref f15) = true)
    {f16 : Addr} {od16 an16 : Option Addr} {sl16 : Array (Option Value)} {oc16 kV16 dc16 pm16 ct16 : Value} {cd16 : Value} (a16 : PySem.W.nsIn K mainGlobals "terms_holding" = some (some (.ref f16)))
    (l16 : K.lookup f16 = some ⟨oc16, od16, .func (PySem.W.fnOf "terms_holding" "terms_holding" (defArgs (top 25)) (defBody (top 25)) (defScope (top 25)) .none kV16 dc16 pm16 an16 cd16 ct16), sl16⟩) (q16 : PySem.W.codeIn K cd16 "terms_holding" = true) (k16 : PySem.W.keepIn K (.ref f16) = true)
    {f17 : Addr} {od17 an17 : Option Addr} {sl17 : Array (Option Value)} {oc17 kV17 dc17 pm17 ct17 : Value} {cd17 : Value} (a17 : PySem.W.nsIn K mainGlobals "holds_no_nought" = some (some (.ref f17)))
    (l17 : K.lookup f17 = some ⟨oc17, od17, .func (PySem.W.fnOf "holds_no_nought" "holds_no_nought" (defArgs (top 27)) (defBody (top 27)) (defScope (top 27)) .none kV17 dc17 pm17 an17 cd17 ct17), sl17⟩) (q17 : PySem.W.codeIn K cd17 "holds_no_nought" = true) (k17 : PySem.W.keepIn K (.ref f17) = true)
    {f18 : Addr} {od18 an18 : Option Addr} {sl18 : Array (Option Value)} {oc18 kV18 dc18 pm18 ct18 : Value} {cd18 : Value} (a18 : PySem.W.nsIn K mainGlobals "holds_a_one" = some (some (.ref f18)))
    (l18 : K.lookup f18 = some ⟨oc18, od18, .func (PySem.W.fnOf "holds_a_one" "holds_a_one" (defArgs (top 28)) (defBody (top 28)) (defScope (top 28)) .none kV18 dc18 pm18 an18 cd18 ct18), sl18⟩) (q18 : PySem.W.codeIn K cd18 "holds_a_one" = true) (k18 : PySem.W.keepIn K (.ref f18) = true)
    {f19 : Addr} {od19 an19 : Option Addr} {sl19 : Array (Option Value)} {oc19 kV19 dc19 pm19 ct19 : Value} {cd19 : Value} (a19 : PySem.W.nsIn K mainGlobals "is_good" = some (some (.ref f19)))
    (l19 : K.lookup f19 = some ⟨oc19, od19, .func (PySem.W.fnOf "is_good" "is_good" (defArgs (top 29)) (defBody (top 29)) (defScope (top 29)) .none kV19 dc19 pm19 an19 cd19 ct19), sl19⟩) (q19 : PySem.W.codeIn K cd19 "is_good" = true) (k19 : PySem.W.keepIn K (.ref f19) = true)
    {f20 : Addr} {od20 an20 : Option Addr} {sl20 : Array (Option Value)} {oc20 kV20 dc20 pm20 ct20 : Value} {cd20 : Value} (a20 : PySem.W.nsIn K mainGlobals "good_terms" = some (some (.ref f20)))
    (l20 : K.lookup f20 = some ⟨oc20, od20, .func (PySem.W.fnOf "good_terms" "good_terms" (defArgs (top 30)) (defBody (top 30)) (defScope (top 30)) .none kV20 dc20 pm20 an20 cd20 ct20), sl20⟩) (q20 : PySem.W.codeIn K cd20 "good_terms" = true) (k20 : PySem.W.keepIn K (.ref f20) = true)
    {f21 : Addr} {od21 an21 : Option Addr} {sl21 : Array (Option Value)} {oc21 kV21 dc21 pm21 ct21 : Value} {cd21 : Value} (a21 : PySem.W.nsIn K mainGlobals "can_widen_at" = some (some (.ref f21)))
    (l21 : K.lookup f21 = some ⟨oc21, od21, .func (PySem.W.fnOf "can_widen_at" "can_widen_at" (defArgs (top 31)) (defBody (top 31)) (defScope (top 31)) .none kV21 dc21 pm21 an21 cd21 ct21), sl21⟩) (q21 : PySem.W.codeIn K cd21 "can_widen_at" = true) (k21 : PySem.W.keepIn K (.ref f21) = true)
    {f22 : Addr} {od22 an22 : Option Addr} {sl22 : Array (Option Value)} {oc22 kV22 dc22 pm22 ct22 : Value} {cd22 : Value} (a22 : PySem.W.nsIn K mainGlobals "is_widest" = some (some (.ref f22)))
    (l22 : K.lookup f22 = some ⟨oc22, od22, .func (PySem.W.fnOf "is_widest" "is_widest" (defArgs (top 32)) (defBody (top 32)) (defScope (top 32)) .none kV22 dc22 pm22 an22 cd22 ct22), sl22⟩) (q22 : PySem.W.codeIn K cd22 "is_widest" = true) (k22 : PySem.W.keepIn K (.ref f22) = true)
    {f23 : Addr} {od23 an23 : Option Addr} {sl23 : Array (Option Value)} {oc23 kV23 dc23 pm23 ct23 : Value} {cd23 : Value} (a23 : PySem.W.nsIn K mainGlobals "greatest" = some (some (.ref f23)))
    (l23 : K.lookup f23 = some ⟨oc23, od23, .func (PySem.W.fnOf "greatest" "greatest" (defArgs (top 33)) (defBody (top 33)) (defScope (top 33)) .none kV23 dc23 pm23 an23 cd23 ct23), sl23⟩) (q23 : PySem.W.codeIn K cd23 "greatest" = true) (k23 : PySem.W.keepIn K (.ref f23) = true)
    {f24 : Addr} {od24 an24 : Option Addr} {sl24 : Array (Option Value)} {oc24 kV24 dc24 pm24 ct24 : Value} {cd24 : Value} (a24 : PySem.W.nsIn K mainGlobals "widened" = some (some (.ref f24)))
    (l24 : K.lookup f24 = some ⟨oc24, od24, .func (PySem.W.fnOf "widened" "widened" (defArgs (top 34)) (defBody (top 34)) (defScope (top 34)) .none kV24 dc24 pm24 an24 cd24 ct24), sl24⟩) (q24 : PySem.W.codeIn K cd24 "widened" = true) (k24 : PySem.W.keepIn K (.ref f24) = true)
    {f25 : Addr} {od25 an25 : Option Addr} {sl25 : Array (Option Value)} {oc25 kV25 dc25 pm25 ct25 : Value} {cd25 : Value} (a25 : PySem.W.nsIn K mainGlobals "is_form" = some (some (.ref f25)))
    (l25 : K.lookup f25 = some ⟨oc25, od25, .func (PySem.W.fnOf "is_form" "is_form" (defArgs (top 36)) (defBody (top 36)) (defScope (top 36)) .none kV25 dc25 pm25 an25 cd25 ct25), sl25⟩) (q25 : PySem.W.codeIn K cd25 "is_form" = true) (k25 : PySem.W.keepIn K (.ref f25) = true)
    {f26 : Addr} {od26 an26 : Option Addr} {sl26 : Array (Option Value)} {oc26 kV26 dc26 pm26 ct26 : Value} {cd26 : Value} (a26 : PySem.W.nsIn K mainGlobals "_law_cell_at" = some (some (.ref f26)))
    (l26 : K.lookup f26 = some ⟨oc26, od26, .func (PySem.W.fnOf "_law_cell_at" "_law_cell_at" (defArgs (top 38)) (defBody (top 38)) (defScope (top 38)) .none kV26 dc26 pm26 an26 cd26 ct26), sl26⟩) (q26 : PySem.W.codeIn K cd26 "_law_cell_at" = true) (k26 : PySem.W.keepIn K (.ref f26) = true)
    {f27 : Addr} {od27 an27 : Option Addr} {sl27 : Array (Option Value)} {oc27 kV27 dc27 pm27 ct27 : Value} {cd27 : Value} (a27 : PySem.W.nsIn K mainGlobals "_law_state" = some (some (.ref f27)))
    (l27 : K.lookup f27 = some ⟨oc27, od27, .func (PySem.W.fnOf "_law_state" "_law_state" (defArgs (top 39)) (defBody (top 39)) (defScope (top 39)) .none kV27 dc27 pm27 an27 cd27 ct27), sl27⟩) (q27 : PySem.W.codeIn K cd27 "_law_state" = true) (k27 : PySem.W.keepIn K (.ref f27) = true)
    {f28 : Addr} {od28 an28 : Option Addr} {sl28 : Array (Option Value)} {oc28 kV28 dc28 pm28 ct28 : Value} {cd28 : Value} (a28 : PySem.W.nsIn K mainGlobals "_law_take" = some (some (.ref f28)))
    (l28 : K.lookup f28 = some ⟨oc28, od28, .func (PySem.W.fnOf "_law_take" "_law_take" (defArgs (top 40)) (defBody (top 40)) (defScope (top 40)) .none kV28 dc28 pm28 an28 cd28 ct28), sl28⟩) (q28 : PySem.W.codeIn K cd28 "_law_take" = true) (k28 : PySem.W.keepIn K (.ref f28) = true)
    {f29 : Addr} {od29 an29 : Option Addr} {sl29 : Array (Option Value)} {oc29 kV29 dc29 pm29 ct29 : Value} {cd29 : Value} (a29 : PySem.W.nsIn K mainGlobals "_law_term" = some (some (.ref f29)))
    (l29 : K.lookup f29 = some ⟨oc29, od29, .func (PySem.W.fnOf "_law_term" "_law_term" (defArgs (top 41)) (defBody (top 41)) (defScope (top 41)) .none kV29 dc29 pm29 an29 cd29 ct29), sl29⟩) (q29 : PySem.W.codeIn K cd29 "_law_term" = true) (k29 : PySem.W.keepIn K (.ref f29) = true)
    {f30 : Addr} {od30 an30 : Option Addr} {sl30 : Array (Option Value)} {oc30 kV30 dc30 pm30 ct30 : Value} {cd30 : Value} (a30 : PySem.W.nsIn K mainGlobals "_law_bits" = some (some (.ref f30)))
    (l30 : K.lookup f30 = some ⟨oc30, od30, .func (PySem.W.fnOf "_law_bits" "_law_bits" (defArgs (top 42)) (defBody (top 42)) (defScope (top 42)) .none kV30 dc30 pm30 an30 cd30 ct30), sl30⟩) (q30 : PySem.W.codeIn K cd30 "_law_bits" = true) (k30 : PySem.W.keepIn K (.ref f30) = true)
    {f31 : Addr} {od31 an31 : Option Addr} {sl31 : Array (Option Value)} {oc31 kV31 dc31 pm31 ct31 : Value} {cd31 : Value} (a31 : PySem.W.nsIn K mainGlobals "_law_points" = some (some (.ref f31)))
    (l31 : K.lookup f31 = some ⟨oc31, od31, .func (PySem.W.fnOf "_law_points" "_law_points" (defArgs (top 43)) (defBody (top 43)) (defScope (top 43)) .none kV31 dc31 pm31 an31 cd31 ct31), sl31⟩) (q31 : PySem.W.codeIn K cd31 "_law_points" = true) (k31 : PySem.W.keepIn K (.ref f31) = true)
    {f32 : Addr} {od32 an32 : Option Addr} {sl32 : Array (Option Value)} {oc32 kV32 dc32 pm32 ct32 : Value} {cd32 : Value} (a32 : PySem.W.nsIn K mainGlobals "_law_function" = some (some (.ref f32)))
    (l32 : K.lookup f32 = some ⟨oc32, od32, .func (PySem.W.fnOf "_law_function" "_law_function" (defArgs (top 44)) (defBody (top 44)) (defScope (top 44)) .none kV32 dc32 pm32 an32 cd32 ct32), sl32⟩) (q32 : PySem.W.codeIn K cd32 "_law_function" = true) (k32 : PySem.W.keepIn K (.ref f32) = true)
    {f33 : Addr} {od33 an33 : Option Addr} {sl33 : Array (Option Value)} {oc33 kV33 dc33 pm33 ct33 : Value} {cd33 : Value} (a33 : PySem.W.nsIn K mainGlobals "_law_answered" = some (some (.ref f33)))
    (l33 : K.lookup f33 = some ⟨oc33, od33, .func (PySem.W.fnOf "_law_answered" "_law_answered" (defArgs (top 45)) (defBody (top 45)) (defScope (top 45)) .none kV33 dc33 pm33 an33 cd33 ct33), sl33⟩) (q33 : PySem.W.codeIn K cd33 "_law_answered" = true) (k33 : PySem.W.keepIn K (.ref f33) = true)
    {f34 : Addr} {od34 an34 : Option Addr} {sl34 : Array (Option Value)} {oc34 kV34 dc34 pm34 ct34 : Value} {cd34 : Value} (a34 : PySem.W.nsIn K mainGlobals "_law_has_one" = some (some (.ref f34)))
    (l34 : K.lookup f34 = some ⟨oc34, od34, .func (PySem.W.fnOf "_law_has_one" "_law_has_one" (defArgs (top 46)) (defBody (top 46)) (defScope (top 46)) .none kV34 dc34 pm34 an34 cd34 ct34), sl34⟩) (q34 : PySem.W.codeIn K cd34 "_law_has_one" = true) (k34 : PySem.W.keepIn K (.ref f34) = true)
    {f35 : Addr} {od35 an35 : Option Addr} {sl35 : Array (Option Value)} {oc35 kV35 dc35 pm35 ct35 : Value} {cd35 : Value} (a35 : PySem.W.nsIn K mainGlobals "_law_right" = some (some (.ref f35)))
    (l35 : K.lookup f35 = some ⟨oc35, od35, .func (PySem.W.fnOf "_law_right" "_law_right" (defArgs (top 47)) (defBody (top 47)) (defScope (top 47)) .none kV35 dc35 pm35 an35 cd35 ct35), sl35⟩) (q35 : PySem.W.codeIn K cd35 "_law_right" = true) (k35 : PySem.W.keepIn K (.ref f35) = true)
    {f36 : Addr} {od36 an36 : Option Addr} {sl36 : Array (Option Value)} {oc36 kV36 dc36 pm36 ct36 : Value} {cd36 : Value} (a36 : PySem.W.nsIn K mainGlobals "law" = some (some (.ref f36)))
    (l36 : K.lookup f36 = some ⟨oc36, od36, .func (PySem.W.fnOf "law" "law" (defArgs (top 48)) (defBody (top 48)) (defScope (top 48)) .none kV36 dc36 pm36 an36 cd36 ct36), sl36⟩) (q36 : PySem.W.codeIn K cd36 "law" = true) (k36 : PySem.W.keepIn K (.ref f36) = true)
    (z_all : PySem.W.nsIn K mainGlobals "all" = some none)
    (z_any : PySem.W.nsIn K mainGlobals "any" = some none)
    (z_bool : PySem.W.nsIn K mainGlobals "bool" = some none)
    (z_enumerate : PySem.W.nsIn K mainGlobals "enumerate" = some none)
    (z_int : PySem.W.nsIn K mainGlobals "int" = some none)
    (z_isinstance : PySem.W.nsIn K mainGlobals "isinstance" = some none)
    (z_len : PySem.W.nsIn K mainGlobals "len" = some none)
    (z_max : PySem.W.nsIn K mainGlobals "max" = some none)
    (z_min : PySem.W.nsIn K mainGlobals "min" = some none)
    (z_range : PySem.W.nsIn K mainGlobals "range" = some none)
    (z_str : PySem.W.nsIn K mainGlobals "str" = some none)
    (z_tuple : PySem.W.nsIn K mainGlobals "tuple" = some none)
    (z_zip : PySem.W.nsIn K mainGlobals "zip" = some none)
    {t_SIGNS : Tok} (s_SIGNS : PySem.W.nsIn K mainGlobals "SIGNS" = some (some (.str ⟨([45, 48, 49] : List Nat).toArray⟩ t_SIGNS)))
    {e_SWITCHES_BY_POINTS : Addr} {w_SWITCHES_BY_POINTS : Obj} (d_SWITCHES_BY_POINTS : PySem.W.nsIn K mainGlobals "SWITCHES_BY_POINTS" = some (some (.ref e_SWITCHES_BY_POINTS))) (u_SWITCHES_BY_POINTS : K.lookup e_SWITCHES_BY_POINTS = some w_SWITCHES_BY_POINTS) (v_SWITCHES_BY_POINTS : tabB w_SWITCHES_BY_POINTS t_SWITCHES_BY_POINTS = true) (y_SWITCHES_BY_POINTS : (e_SWITCHES_BY_POINTS == sysModules) = false)
    : ∃ fd : FuncData, (∀ (s : Shared) (u : Value), BindsTo s fd ⟨[u], []⟩ [("_law_script", u)]) ∧ ∀ base : Heap, K.In base → base.Ns mainGlobals mg → FnOk P w K mg base CX0 9 fa fd ["_law_script"] (DSp K Ec0 1 F_law) := by
  obtain ⟨T, hm, hF⟩ := txt_mk X G a0 l0 q0 k0 a1 l1 q1 k1 a2 l2 q2 k2 a3 l3 q3 k3 a4 l4 q4 k4 a5 l5 q5 k5 a6 l6 q6 k6 a7 l7 q7 k7 a8 l8 q8 k8 a9 l9 q9 k9 a10 l10 q10 k10 a11 l11 q11 k11 a12 l12 q12 k12 a13 l13 q13 k13 a14 l14 q14 k14 a15 l15 q15 k15 a16 l16 q16 k16 a17 l17 q17 k17 a18 l18 q18 k18 a19 l19 q19 k19 a20 l20 q20 k20 a21 l21 q21 k21 a22 l22 q22 k22 a23 l23 q23 k23 a24 l24 q24 k24 a25 l25 q25 k25 a26 l26 q26 k26 a27 l27 q27 k27 a28 l28 q28 k28 a29 l29 q29 k29 a30 l30 q30 k30 a31 l31 q31 k31 a32 l32 q32 k32 a33 l33 q33 k33 a34 l34 q34 k34 a35 l35 q35 k35 a36 l36 q36 k36 z_all z_any z_bool z_enumerate z_int z_isinstance z_len z_max z_min z_range z_str z_tuple z_zip s_SIGNS d_SWITCHES_BY_POINTS u_SWITCHES_BY_POINTS v_SWITCHES_BY_POINTS y_SWITCHES_BY_POINTS
  have e := hfa.symm.trans hm
  cases e
  exact ⟨_, fun s u => .of_eq rfl, fun base _ _ => ok_all hF T⟩
end K07
-- DEPTH 9

namespace K07
open PySem DL
def terms : Nat → List (List Nat)
  | 0 => [[]]
  | n + 1 => (terms n).flatMap fun t => [t ++ [45], t ++ [48], t ++ [49]]
def bitsOf : Nat → List Nat
  | 45 => [0, 1]
  | 49 => [1]
  | _ => [0]
def pts (cs : List Nat) : List Nat := cs.foldl (fun ps c => ps.flatMap fun p => (bitsOf c).map (2 * p + ·)) [0]
def dInts (l : List Nat) : List D := l.map fun (p : Nat) => D.int (p : Int)
theorem all_terms_eq1 (O : Ow) : F_all_terms [.int 1] O = .ok (.lst ((terms 1).map .str)) O := by kernel_rfl
theorem all_terms_eq2 (O : Ow) : F_all_terms [.int 2] O = .ok (.lst ((terms 2).map .str)) O := by kernel_rfl
theorem all_terms_eq3 (O : Ow) : F_all_terms [.int 3] O = .ok (.lst ((terms 3).map .str)) O := by kernel_rfl
theorem all_terms_eq4 (O : Ow) : F_all_terms [.int 4] O = .ok (.lst ((terms 4).map .str)) O := by kernel_rfl
def allT : List (List Nat) := terms 1 ++ terms 2 ++ terms 3 ++ terms 4
theorem pts_all (O : Ow) : (allT.map fun cs => F_points_of [.str cs] O) = allT.map fun cs => R.ok (.lst (dInts (pts cs))) O := by kernel_rfl

def bitsL : Nat → Nat → List Nat
  | 0, _ => []
  | n + 1, p => bitsL n (p / 2) ++ [48 + p % 2]
def allP : List (List Nat × Nat) := allT.flatMap fun cs => (List.range (2 ^ cs.length)).map fun p => (cs, p)
def allN : List (Nat × Nat) := [1, 2, 3, 4].flatMap fun n => (List.range (2 ^ n)).map fun p => (n, p)
theorem bits_all (O : Ow) : (allN.map fun q => F__law_bits [.int (q.1 : Nat), .int (q.2 : Nat)] O) = allN.map fun q => R.ok (.str (bitsL q.1 q.2)) O := by kernel_rfl
theorem mem_allN {n p : Nat} (h1 : 1 ≤ n) (h4 : n ≤ 4) (hp : p < 2 ^ n) : (n, p) ∈ allN := by
  unfold allN
  rw [List.mem_flatMap]
  refine ⟨n, ?_, List.mem_map.mpr ⟨p, List.mem_range.mpr hp, rfl⟩⟩
  have : n = 1 ∨ n = 2 ∨ n = 3 ∨ n = 4 := by omega
  rcases this with rfl | rfl | rfl | rfl <;> simp
def testP : DT := dTst (dOp (fPy eqF) (dComp false 1 (dRng1 (dCons (dCall fLen (dCons (dVar 0) dNil)) dNil)) (.one 4) [(dTst (dOp fNin (dOp fIx (dVar 0) (dVar 4)) (dTup (dCons (dC (.str [45])) (dCons (dOp fIx (dVar 3) (dVar 4)) dNil)))))] [] (dVar 4)) (dLst dNil))
/-- cs holds the point whose signs are bs -/
def matchB (cs bs : List Nat) : Bool := (List.range cs.length).all fun i => cs.getD i 0 == 45 || cs.getD i 0 == bs.getD i 1
def sgn (c : Nat) : Bool := c == 45 || c == 48 || c == 49
def bit (c : Nat) : Bool := c == 48 || c == 49
theorem nin_eq (O : Ow) {c b : Nat} (hc : sgn c = true) (hb : bit b = true) : fNin O (.str [c]) (.tup [.str [45], .str [b]]) = .ok (.bl (!(c == 45 || c == b))) O := by
  unfold sgn at hc
  unfold bit at hb
  simp only [Bool.or_eq_true, beq_iff_eq] at hc hb
  rcases hc with (rfl | rfl) | rfl <;> rcases hb with rfl | rfl <;> kernel_rfl
theorem match_pts : (allP.all fun q => matchB q.1 (bitsL q.1.length q.2) == (pts q.1).contains q.2 && (bitsL q.1.length q.2).length == q.1.length && (bitsL q.1.length q.2).all bit && q.1.all sgn) = true := by decide +kernel
theorem range_pts : (allT.all fun cs => decide ((List.range (2 ^ cs.length)).filter (fun p => (pts cs).contains p) = pts cs)) = true := by decide +kernel
theorem mem_allP {cs : List Nat} {p : Nat} (h : cs ∈ allT) (hp : p < 2 ^ cs.length) : (cs, p) ∈ allP := by
  unfold allP
  rw [List.mem_flatMap]
  exact ⟨cs, h, List.mem_map.mpr ⟨p, List.mem_range.mpr hp, rfl⟩⟩
theorem len1_allT : (allT.all fun cs => decide (1 ≤ cs.length)) = true := by decide +kernel
theorem len_allT : (allT.all fun cs => decide (cs.length ≤ 4)) = true := by decide +kernel
theorem points_of_eq {cs : List Nat} (h : cs ∈ allT) (O : Ow) : F_points_of [.str cs] O = .ok (.lst (dInts (pts cs))) O := List.map_inj_left.mp (pts_all O) cs h
end K07

namespace K07
open PySem DL
theorem testP_eq {cs bs : List Nat} {O : Ow} {k : Nat} {x : Option D} (hl : bs.length = cs.length) (h4 : cs.length ≤ 4) (hc : ∀ c ∈ cs, sgn c = true) (hb : ∀ b ∈ bs, bit b = true) :
    testP [some (.str cs), some (.own k), x, some (.str bs)] O = .ok (matchB cs bs) O := by
  let p : D → Bool := fun d => match d with | .int i => !(cs.getD i.toNat 0 == 45 || cs.getD i.toNat 0 == bs.getD i.toNat 1) | _ => false
  have hi : dRng1 (dCons (dCall fLen (dCons (dVar 0) dNil)) dNil) [some (.str cs), some (.own k), x, some (.str bs)] O = .ok (.val ((List.range cs.length).map fun (i : Nat) => D.int (i : Int))) O :=
    dRng1_eq (dCons1 ((dCall_eq (dCons1 rfl)).trans (fLen_str (by omega)))) (by omega)
  have hcomp := dComp_one (ext := 1) (i := 4) (ts := [(dTst (dOp fNin (dOp fIx (dVar 0) (dVar 4)) (dTup (dCons (dC (.str [45])) (dCons (dOp fIx (dVar 3) (dVar 4)) dNil)))))]) (te := dVar 4) (p := p) (e := fun d => d) hi (by simp; omega) (fun d hd => by
    obtain ⟨i, hi, rfl⟩ := List.mem_map.mp hd
    have hi : i < cs.length := List.mem_range.mp hi
    have hib : i < bs.length := by omega
    have hp : p (.int (i : Int)) = !(cs[i] == 45 || cs[i] == bs[i]) := by
      show (!(cs.getD (i : Int).toNat 0 == 45 || cs.getD (i : Int).toNat 0 == bs.getD (i : Int).toNat 1)) = _
      have : ((i : Int)).toNat = i := by omega
      rw [this, List.getD_eq_getElem?_getD, List.getD_eq_getElem?_getD, List.getElem?_eq_getElem hi, List.getElem?_eq_getElem hib]; rfl
    rw [hp]
    have tt : dTst (dOp fNin (dOp fIx (dVar 0) (dVar 4)) (dTup (dCons (dC (.str [45])) (dCons (dOp fIx (dVar 3) (dVar 4)) dNil)))) [some (.str cs), some (.own k), x, some (.str bs), some (.int (i : Int))] O = .ok (!(cs[i] == 45 || cs[i] == bs[i])) O := by
      refine dTst_eq ((dOp_eq ((dOp_eq rfl rfl).trans (fIx_str (by omega) hi)) ?_).trans (nin_eq O (hc _ (List.getElem_mem hi)) (hb _ (List.getElem_mem hib))))
      show ((dCons (dC (.str [45])) (dCons (dOp fIx (dVar 3) (dVar 4)) dNil) _ O).bnd _) = _
      rw [dCons2 rfl ((dOp_eq rfl rfl).trans (fIx_str (by omega) hib))]
      rfl
    show ((dTst (dOp fNin (dOp fIx (dVar 0) (dVar 4)) (dTup (dCons (dC (.str [45])) (dCons (dOp fIx (dVar 3) (dVar 4)) dNil)))) [some (.str cs), some (.own k), x, some (.str bs), some (.int (i : Int))] O).bnd _) = _
    rw [tt]
    cases (!(cs[i] == 45 || cs[i] == bs[i])) <;> rfl) (fun d hd _ => rfl) false
  have e2 : (((List.range cs.length).map fun (i : Nat) => D.int (i : Int)).filter p).map (fun d => d) = (((List.range cs.length).filter fun i => !(cs.getD i 0 == 45 || cs.getD i 0 == bs.getD i 1)).map fun (i : Nat) => ((i : Nat) : Int)).map D.int := by
    rw [List.map_id', List.filter_map, List.map_map]
    rfl
  rw [e2] at hcomp
  have fin : dOp (fPy eqF) (dComp false 1 (dRng1 (dCons (dCall fLen (dCons (dVar 0) dNil)) dNil)) (.one 4) [(dTst (dOp fNin (dOp fIx (dVar 0) (dVar 4)) (dTup (dCons (dC (.str [45])) (dCons (dOp fIx (dVar 3) (dVar 4)) dNil)))))] [] (dVar 4)) (dLst dNil) [some (.str cs), some (.own k), x, some (.str bs)] O = .ok (.bl (matchB cs bs)) O := by
    refine (dOp_eq hcomp rfl).trans ((eq_nil O _).trans ?_)
    congr 2
    unfold matchB
    rw [Bool.eq_iff_iff, List.isEmpty_iff, List.map_eq_nil_iff, List.filter_eq_nil_iff, List.all_eq_true]
    simp [Decidable.or_iff_not_imp_left]
  exact dTst_eq fin
theorem test_all {cs : List Nat} {p : Nat} (h : (cs, p) ∈ allP) (h4 : cs.length ≤ 4) (O : Ow) (k : Nat) (x : Option D) : testP [some (.str cs), some (.own k), x, some (.str (bitsL cs.length p))] O = .ok ((pts cs).contains p) O := by
  have := List.all_eq_true.mp match_pts _ h
  simp only [Bool.and_eq_true, beq_iff_eq] at this
  obtain ⟨⟨⟨h1, h2⟩, h3⟩, h5⟩ := this
  rw [testP_eq h2 h4 (fun c hc => List.all_eq_true.mp h5 c hc) (fun c hc => List.all_eq_true.mp h3 c hc), h1]
theorem law_points_eq {cs : List Nat} (h : cs ∈ allT) {O : Ow} (hO : Flat O) : F__law_points [.str cs] O = .ok (.lst (dInts (pts cs))) O := by
  have h4 : cs.length ≤ 4 := by simpa using List.all_eq_true.mp len_allT cs h
  have h1 : 1 ≤ cs.length := by simpa using List.all_eq_true.mp len1_allT cs h
  have hpw : 2 ^ cs.length ≤ 16 := Nat.le_trans (Nat.pow_le_pow_right (by decide) h4) (by decide)
  unfold F__law_points frzF runF B__law_points
  let n := O.length
  let body : DS := sSeq (sSet 3 (dFn 2 F__law_bits (dCons (dCall fLen (dCons (dVar 0) dNil)) (dCons (dVar 2) dNil)))) (sIf testP (sDrop (dApp (dVar 1) (dCons (dVar 2) dNil))) sNil)
  have step : ∀ i σ O' d, (∃ y z, σ = [some (.str cs), some (.own O.length), y, z] ∧ O' = O ++ [dInts ((List.range i).filter fun p => (pts cs).contains p)]) → ((List.range (2 ^ cs.length)).map fun (i : Nat) => D.int (i : Int))[i]? = some d →
      ∃ σ' O2, (match Tg.put (.one 2) d σ with | some σ' => body σ' O' | none => .bad) = .nx σ' O2 ∧ (∃ y z, σ' = [some (.str cs), some (.own O.length), y, z] ∧ O2 = O ++ [dInts ((List.range (i + 1)).filter fun p => (pts cs).contains p)]) := by
    rintro i σ O' d ⟨y, z, rfl, rfl⟩ hd
    rw [List.getElem?_map] at hd
    have hi : i < 2 ^ cs.length := by
      by_cases hi : i < 2 ^ cs.length
      · exact hi
      · rw [List.getElem?_eq_none_iff.mpr (by simpa using hi)] at hd; cases hd
    rw [List.getElem?_range hi] at hd
    cases hd
    have hm := mem_allP h hi
    generalize hOO : (O ++ [dInts ((List.range i).filter fun p => (pts cs).contains p)]) = OO
    have hb := List.map_inj_left.mp (bits_all OO) _ (mem_allN h1 h4 hi)
    have ht := test_all hm h4 OO O.length (some (D.int (i : Nat)))
    dsimp only at hb
    have e1 : sSet 3 (dFn 2 F__law_bits (dCons (dCall fLen (dCons (dVar 0) dNil)) (dCons (dVar 2) dNil))) [some (.str cs), some (.own O.length), some (.int (i : Nat)), z] OO = .nx [some (.str cs), some (.own O.length), some (.int (i : Nat)), some (.str (bitsL cs.length i))] OO :=
      sSet_eq ((dFn_eq (dCons2 ((dCall_eq (dCons1 rfl)).trans (fLen_str (by omega))) rfl) rfl).trans hb)
    show ∃ σ' O2, (match sSet 3 (dFn 2 F__law_bits (dCons (dCall fLen (dCons (dVar 0) dNil)) (dCons (dVar 2) dNil))) [some (.str cs), some (.own O.length), some (.int (i : Nat)), z] OO with | .nx σ' O' => sIf testP (sDrop (dApp (dVar 1) (dCons (dVar 2) dNil))) sNil σ' O' | r => r) = .nx σ' O2 ∧ _
    rw [e1]
    dsimp only
    unfold sIf
    rw [ht]
    dsimp only [R.bnS]
    subst hOO
    by_cases hc : (pts cs).contains i = true
    · rw [if_pos hc]
      have hf : (List.range (i + 1)).filter (fun p => (pts cs).contains p) = (List.range i).filter (fun p => (pts cs).contains p) ++ [i] := by
        rw [List.range_succ, List.filter_append, List.filter_cons, List.filter_nil, if_pos hc]
      have hll : ((List.range i).filter fun p => (pts cs).contains p).length ≤ i := by
        have := List.length_filter_le (fun p => (pts cs).contains p) (List.range i)
        simpa using this
      refine ⟨[some (.str cs), some (.own O.length), some (.int (i : Nat)), some (.str (bitsL cs.length i))], O ++ [dInts ((List.range (i + 1)).filter fun p => (pts cs).contains p)], ?_, _, _, rfl, rfl⟩
      unfold sDrop dApp dVar
      dsimp only [List.getElem?_cons_succ, List.getElem?_cons_zero, R.bnd, dCons, dNil]
      have hk : (O ++ [dInts ((List.range i).filter fun p => (pts cs).contains p)])[O.length]? = some (dInts ((List.range i).filter fun p => (pts cs).contains p)) := by simp
      rw [hk]
      dsimp only
      rw [if_pos (by unfold dInts; rw [List.length_map]; omega)]
      dsimp only [R.bnS]
      rw [List.set_append_right _ _ (Nat.le_refl _), Nat.sub_self, List.set_cons_zero, hf]
      unfold dInts
      rw [List.map_append]
      rfl
    · rw [if_neg hc]
      refine ⟨_, _, rfl, _, _, rfl, ?_⟩
      rw [List.range_succ, List.filter_append, List.filter_cons, List.filter_nil, if_neg hc, List.append_nil]
  have e0 : sSet 1 (dLstO dNil) [some (.str cs), none, none, none] O = .nx [some (.str cs), some (.own O.length), none, none] (O ++ [[]]) := rfl
  have hr : dRng1 (dCons (dOp (fI gShl) (dC (.int 1)) (dCall fLen (dCons (dVar 0) dNil))) dNil) [some (.str cs), some (.own O.length), none, none] (O ++ [[]]) = .ok (.val ((List.range (2 ^ cs.length)).map fun (i : Nat) => D.int (i : Int))) (O ++ [[]]) := by
    refine dRng1_eq (dCons1 ((dOp_eq rfl ((dCall_eq (dCons1 rfl)).trans (fLen_str (by omega)))).trans ?_)) (by omega)
    have : cs.length = 1 ∨ cs.length = 2 ∨ cs.length = 3 ∨ cs.length = 4 := by omega
    rcases this with e | e | e | e <;> rw [e] <;> rfl
  obtain ⟨σ', O2, f1, y, z, rfl, rfl⟩ := loopS_inv (fun i σ O' => ∃ y z, σ = [some (.str cs), some (.own O.length), y, z] ∧ O' = O ++ [dInts ((List.range i).filter fun p => (pts cs).contains p)]) step (2 ^ cs.length) 0 [some (.str cs), some (.own O.length), none, none] (O ++ [[]]) ⟨none, none, rfl, rfl⟩ (by simp) (Nat.zero_le _)
  have hl : ((List.range (2 ^ cs.length)).map fun (i : Nat) => D.int (i : Int)).length = 2 ^ cs.length := by simp
  rw [hl] at f1
  have hpts : (List.range (2 ^ cs.length)).filter (fun p => (pts cs).contains p) = pts cs := by simpa using List.all_eq_true.mp range_pts cs h
  rw [hpts] at f1
  show frzR O.length (fin (sSeq (sSet 1 (dLstO dNil)) _ [some (.str cs), none, none, none] O)) = _
  rw [sSeq_nx e0, sSeq_nx ((sFor_eq hr).trans (by
    show loopS _ _ ((List.range (2 ^ cs.length)).map fun (i : Nat) => D.int (i : Int)).length 0 _ _ = _
    rw [hl]; exact f1)), sRet_eq (x := .own O.length) rfl]
  refine frzR_flat hO [dInts (pts cs)] ?_
  unfold frz
  dsimp only
  rw [if_neg (Nat.lt_irrefl _)]
  have hk : (O ++ [dInts (pts cs)])[O.length]? = some (dInts (pts cs)) := by simp
  rw [hk]
  dsimp only
  rw [mapO_id fun d hd => ?_]
  · rfl
  · obtain ⟨q, _, rfl⟩ := List.mem_map.mp hd
    exact frz_flat rfl
end K07

namespace K07
open PySem DL
def Ans (d : D) : Prop := d = .int 0 ∨ d = .int 1 ∨ d = .non
def isZ : D → Bool
  | .int i => i == 0
  | _ => false
structure Fn (n : Nat) (f : List D) : Prop where
  n1 : 1 ≤ n
  n4 : n ≤ 4
  len : f.length = 2 ^ n
  ans : ∀ d ∈ f, Ans d
def goodB (f : List D) (cs : List Nat) : Bool := (pts cs).all fun p => !isZ (f.getD p .non)
theorem ne0 (O : Ow) {d : D} (h : Ans d) : fPy neF O d (.int 0) = .ok (.bl (!isZ d)) O := by rcases h with rfl | rfl | rfl <;> kernel_rfl
theorem four {n : Nat} (h1 : 1 ≤ n) (h4 : n ≤ 4) : n = 1 ∨ n = 2 ∨ n = 3 ∨ n = 4 := by omega
theorem terms_in {n : Nat} (h1 : 1 ≤ n) (h4 : n ≤ 4) {cs : List Nat} (h : cs ∈ terms n) : cs ∈ allT := by
  unfold allT
  rcases four h1 h4 with rfl | rfl | rfl | rfl <;> simp [h]
theorem terms_len_all : ([1, 2, 3, 4].all fun n => (terms n).all fun cs => cs.length == n) = true := by decide +kernel
theorem terms_len {n : Nat} (h1 : 1 ≤ n) (h4 : n ≤ 4) {cs : List Nat} (h : cs ∈ terms n) : cs.length = n := by
  have := List.all_eq_true.mp terms_len_all n (by rcases four h1 h4 with rfl | rfl | rfl | rfl <;> simp)
  simpa using List.all_eq_true.mp this cs h
theorem pts_lt_all : (allT.all fun cs => (pts cs).all fun p => decide (p < 2 ^ cs.length)) = true := by decide +kernel
theorem pts_lt {cs : List Nat} (h : cs ∈ allT) {p : Nat} (hp : p ∈ pts cs) : p < 2 ^ cs.length := by
  have := List.all_eq_true.mp pts_lt_all cs h
  simpa using List.all_eq_true.mp this p hp
theorem pts_len_all : (allT.all fun cs => decide ((pts cs).length ≤ 16)) = true := by decide +kernel
theorem pts_len {cs : List Nat} (h : cs ∈ allT) : (pts cs).length ≤ 16 := by simpa using List.all_eq_true.mp pts_len_all cs h
theorem bls_map : ∀ l : List Bool, bls (l.map D.bl) = some l
  | [] => rfl
  | b :: l => by
    show (bls (l.map D.bl)).map (b :: ·) = _
    rw [bls_map l]; rfl
theorem fAll_map (O : Ow) (l : List Bool) : fAll O [.lst (l.map D.bl)] = .ok (.bl (l.all id)) O := by
  show (match bls (l.map D.bl) with | some bs => R.ok (D.bl (bs.all id)) O | none => R.bad) = _
  rw [bls_map]
theorem getD_of {f : List D} {p : Nat} (h : p < f.length) : f.getD p .non = f[p] := by
  rw [List.getD_eq_getElem?_getD, List.getElem?_eq_getElem h]; rfl
theorem filter_true {α : Type} (l : List α) : l.filter (fun _ => true) = l := by simp
theorem holds_eq {n : Nat} {f : List D} (hf : Fn n f) {cs : List Nat} (h : cs ∈ terms n) (O : Ow) : F_holds_no_nought [.tup f, .str cs] O = .ok (.bl (goodB f cs)) O := by
  have hA := terms_in hf.n1 hf.n4 h
  have hl := terms_len hf.n1 hf.n4 h
  have hit : dIt (dFn 1 F_points_of (dCons (dVar 1) dNil)) [some (.tup f), some (.str cs)] O = .ok (.val (dInts (pts cs))) O := dIt_lst ((dFn_eq (dCons1 rfl) rfl).trans (points_of_eq hA O))
  have hc := dComp_one (ext := 1) (i := 2) (ts := []) (te := dOp (fPy neF) (dOp fIx (dVar 0) (dVar 2)) (dC (.int 0))) (p := fun _ => true) (e := fun d => .bl (match d with | .int i => !isZ (f.getD i.toNat .non) | _ => false)) hit (by unfold dInts; have := pts_len hA; simp; omega) (fun d hd => rfl) (fun d hd _ => by
    obtain ⟨q, hq, rfl⟩ := List.mem_map.mp hd
    have hlt : q < f.length := by rw [hf.len, ← hl]; exact pts_lt hA hq
    refine (dOp_eq ((dOp_eq rfl rfl).trans (fIx_tup (i := q) hlt)) rfl).trans ((ne0 O (hf.ans _ (List.getElem_mem hlt))).trans ?_)
    have : ((q : Int)).toNat = q := by omega
    show _ = R.ok (D.bl (!isZ (f.getD ((q : Int)).toNat .non))) O
    rw [this, getD_of hlt]) false
  have e2 : (((dInts (pts cs)).filter fun _ => true).map fun d => D.bl (match d with | .int i => !isZ (f.getD i.toNat .non) | _ => false)) = ((pts cs).map fun p => !isZ (f.getD p .non)).map D.bl := by
    rw [filter_true]
    unfold dInts
    rw [List.map_map, List.map_map]
    exact List.map_congr_left fun q _ => by
      show D.bl (!isZ (f.getD ((q : Int)).toNat .non)) = D.bl (!isZ (f.getD q .non))
      have : ((q : Int)).toNat = q := by omega
      rw [this]
  rw [e2] at hc
  show fin (sRet _ [some (.tup f), some (.str cs)] O) = _
  rw [sRet_eq ((dCall_eq (dCons1 hc)).trans (fAll_map O _))]
  show R.ok (D.bl _) O = _
  unfold goodB
  congr 2
  rw [List.all_map]; rfl
theorem answer_eq (O : Ow) {d : D} (h : Ans d) : F_is_answer [d] O = .ok (.bl true) O := by rcases h with rfl | rfl | rfl <;> kernel_rfl
theorem pow_small {n : Nat} (h4 : n ≤ 4) : 2 ^ n ≤ 16 := Nat.le_trans (Nat.pow_le_pow_right (by decide) h4) (by decide)
theorem fLen_tup (O : Ow) (f : List D) : fLen O [.tup f] = .ok (.int f.length) O := rfl
theorem is_function_eq {n : Nat} {f : List D} (hf : Fn n f) (O : Ow) : F_is_function [.tup f] O = .ok (.bl true) O := by
  have hc := dComp_one (ext := 1) (i := 1) (ts := []) (te := dFn 1 F_is_answer (dCons (dVar 1) dNil)) (it0 := dIt (dVar 0)) (σ := [some (.tup f)]) (O := O) (ds := f) (p := fun _ => true) (e := fun _ => .bl true) rfl (by have := pow_small hf.n4; have := hf.len; omega) (fun d hd => rfl) (fun d hd _ => (dFn_eq (dCons1 rfl) rfl).trans (answer_eq O (hf.ans d hd))) false
  have e2 : (f.filter fun _ => true).map (fun _ => D.bl true) = (f.map fun _ => true).map D.bl := by rw [filter_true, List.map_map]; rfl
  rw [e2] at hc
  have hif : sIf (dOrT (dNotT (dTru (dIsi "tuple" (dVar 0)))) (dTst (dInTab true t_SWITCHES_BY_POINTS (dCall fLen (dCons (dVar 0) dNil))))) (sRet (dC (.bl false))) sNil [some (.tup f)] O = .nx [some (.tup f)] O := by
    have : dOrT (dNotT (dTru (dIsi "tuple" (dVar 0)))) (dTst (dInTab true t_SWITCHES_BY_POINTS (dCall fLen (dCons (dVar 0) dNil)))) [some (.tup f)] O = .ok false O := by
      show (dTst (dInTab true t_SWITCHES_BY_POINTS (dCall fLen (dCons (dVar 0) dNil))) [some (.tup f)] O) = _
      refine dTst_eq ?_
      show R.ok (D.bl (if true = true then !(tabAt t_SWITCHES_BY_POINTS (f.length : Nat)).isSome else _)) O = _
      rw [hf.len]
      rcases four hf.n1 hf.n4 with rfl | rfl | rfl | rfl <;> rfl
    rw [sIf_eq this]; rfl
  show fin (sSeq _ _ [some (.tup f)] O) = _
  rw [sSeq_nx hif, sRet_eq ((dCall_eq (dCons1 hc)).trans (fAll_map O _))]
  show R.ok (D.bl _) O = _
  congr 2
  rw [List.all_map]
  exact List.all_eq_true.mpr fun _ _ => rfl
theorem need_eq {n : Nat} {f : List D} (hf : Fn n f) (O : Ow) : F_need_function [.tup f] O = .ok .non O := by
  show fin (sIf _ _ sNil [some (.tup f)] O) = _
  have e1 : dFn 1 F_is_function (dCons (dVar 0) dNil) [some (.tup f)] O = .ok (.bl true) O := (dFn_eq (dCons1 rfl) rfl).trans (is_function_eq hf O)
  rw [sIf_eq (dNotT_eq (dTru_bl e1))]
  rfl
theorem switches_eq {n : Nat} {f : List D} (hf : Fn n f) (O : Ow) : F_switches_of [.tup f] O = .ok (.int n) O := by
  show fin (sRet (dTab t_SWITCHES_BY_POINTS (dCall fLen (dCons (dVar 0) dNil))) [some (.tup f)] O) = _
  have : dTab t_SWITCHES_BY_POINTS (dCall fLen (dCons (dVar 0) dNil)) [some (.tup f)] O = .ok (.int n) O := by
    show (match tabAt t_SWITCHES_BY_POINTS (f.length : Nat) with | some v => R.ok (D.int v) O | none => R.bad) = _
    rw [hf.len]
    rcases four hf.n1 hf.n4 with rfl | rfl | rfl | rfl <;> rfl
  rw [sRet_eq this]; rfl
theorem all_terms_eq {n : Nat} (h1 : 1 ≤ n) (h4 : n ≤ 4) (O : Ow) : F_all_terms [.int n] O = .ok (.lst ((terms n).map .str)) O := by
  rcases four h1 h4 with rfl | rfl | rfl | rfl
  · exact all_terms_eq1 O
  · exact all_terms_eq2 O
  · exact all_terms_eq3 O
  · exact all_terms_eq4 O
theorem terms_few {n : Nat} (h1 : 1 ≤ n) (h4 : n ≤ 4) : (terms n).length ≤ 81 := by
  rcases four h1 h4 with rfl | rfl | rfl | rfl <;> decide
/-- the good terms -/
def goods (n : Nat) (f : List D) : List (List Nat) := (terms n).filter (goodB f)
def ofStr : D → List Nat
  | .str cs => cs
  | _ => []
theorem filter_str (l : List (List Nat)) (p : List Nat → Bool) : ((l.map D.str).filter fun d => p (ofStr d)).map (fun d => d) = (l.filter p).map D.str := by
  rw [List.map_id', List.filter_map]; rfl
theorem good_terms_eq {n : Nat} {f : List D} (hf : Fn n f) (O : Ow) : F_good_terms [.tup f] O = .ok (.lst ((goods n f).map .str)) O := by
  have hit : dIt (dFn 1 F_all_terms (dCons (dFn 1 F_switches_of (dCons (dVar 0) dNil)) dNil)) [some (.tup f)] O = .ok (.val ((terms n).map .str)) O :=
    dIt_lst ((dFn_eq (dCons1 ((dFn_eq (dCons1 rfl) rfl).trans (switches_eq hf O))) rfl).trans (all_terms_eq hf.n1 hf.n4 O))
  have hc := dComp_one (ext := 1) (i := 1) (ts := [(dTru (dFn 2 F_holds_no_nought (dCons (dVar 0) (dCons (dVar 1) dNil))))]) (te := dVar 1) (p := fun d => goodB f (ofStr d)) (e := fun d => d) hit (by have := terms_few hf.n1 hf.n4; simp; omega) (fun d hd => by
    obtain ⟨cs, hcs, rfl⟩ := List.mem_map.mp hd
    have tt : dTru (dFn 2 F_holds_no_nought (dCons (dVar 0) (dCons (dVar 1) dNil))) [some (.tup f), some (.str cs)] O = .ok (goodB f cs) O := dTru_bl ((dFn_eq (dCons2 rfl rfl) rfl).trans (holds_eq hf hcs O))
    show ((dTru (dFn 2 F_holds_no_nought (dCons (dVar 0) (dCons (dVar 1) dNil))) [some (.tup f), some (.str cs)] O).bnd _) = R.ok (goodB f cs) O
    rw [tt]
    cases goodB f cs <;> rfl) (fun d hd _ => rfl) false
  rw [filter_str] at hc
  show fin (sSeq (sDrop (dFn 1 F_need_function (dCons (dVar 0) dNil))) _ [some (.tup f)] O) = _
  have e1 : dFn 1 F_need_function (dCons (dVar 0) dNil) [some (.tup f)] O = .ok .non O := (dFn_eq (dCons1 rfl) rfl).trans (need_eq hf O)
  rw [sSeq_nx (sDrop_eq e1), sRet_eq hc]
  rfl
end K07

namespace K07
open PySem DL
/-- the cell at m is a state -/
structure StAt (O : Ow) (m : Nat) (s : Int) (b : Bool) : Prop where
  at_ : O[m]? = some [.int s, .bl b]
  nn : 0 ≤ s
  lt : b = false → s < 2147483647
theorem StAt.len {O : Ow} {m : Nat} {s : Int} {b : Bool} (h : StAt O m s b) : m < O.length := (List.getElem?_eq_some_iff.mp h.at_).1
theorem fIx_own0 {O : Ow} {m : Nat} {x y : D} (h : O[m]? = some [x, y]) : fIx O (.own m) (.int 0) = .ok x O := by
  show (match O[m]? with | some ds => (match L2.atI ds 0 with | some d => R.ok d O | none => R.bad) | none => _) = _
  rw [h]; rfl
theorem fIx_own1 {O : Ow} {m : Nat} {x y : D} (h : O[m]? = some [x, y]) : fIx O (.own m) (.int 1) = .ok y O := by
  show (match O[m]? with | some ds => (match L2.atI ds 1 with | some d => R.ok d O | none => R.bad) | none => _) = _
  rw [h]; rfl
theorem sPut_eq {te to ti : DE} {σ : Sg} {O O1 O2 O3 : Ow} {y : D} {k : Nat} {i : Int} {ds : List D} {j : Nat} (h1 : te σ O = .ok y O1) (h2 : to σ O1 = .ok (.own k) O2) (h3 : ti σ O2 = .ok (.int i) O3) (h4 : O3[k]? = some ds) (h5 : L2.ixN ds.length i = some j) :
    sPut te to ti σ O = .nx σ (O3.set k (ds.set j y)) := by
  show ((te σ O).bnS _) = _
  rw [h1]
  show ((to σ O1).bnS _) = _
  rw [h2]
  show ((ti σ O2).bnS _) = _
  rw [h3]
  show (match O3[k]? with | some ds => (match L2.ixN ds.length i with | some j => RS.nx σ (O3.set k (ds.set j y)) | none => RS.bad) | none => RS.bad) = _
  rw [h4]
  show (match L2.ixN ds.length i with | some j => RS.nx σ (O3.set k (ds.set j y)) | none => RS.bad) = _
  rw [h5]
theorem fI_mod {O : Ow} {i j : Int} (h : 0 < j) : fI gMod O (.int i) (.int j) = .ok (.int (i % j)) O := by
  show (match gMod i j with | some d => R.ok d O | none => R.bad) = _
  unfold gMod; rw [if_pos h]
theorem fI_div {O : Ow} {i j : Int} (h : 0 < j) (h2 : j < 1073741824) : fI gDiv O (.int i) (.int j) = .ok (.int (i / j)) O := by
  show (match gDiv i j with | some d => R.ok d O | none => R.bad) = _
  unfold gDiv; rw [if_pos ⟨h, h2⟩]
theorem fI_mulL {O : Ow} {i j : Int} (h : -1000000000000000 < i) (h2 : i < 1000000000000000) : fI gMul O (.int i) (.int j) = .ok (.int (i * j)) O := by
  show (match gMul i j with | some d => R.ok d O | none => R.bad) = _
  unfold gMul; rw [if_pos (.inl ⟨h, h2⟩)]
theorem fAdd_int {O : Ow} {i j : Int} : fAdd O (.int i) (.int j) = .ok (.int (i + j)) O := rfl
theorem take_eq {O : Ow} {m : Nat} {s : Int} {b : Bool} (h : StAt O m s b) {k : Nat} (k1 : 1 ≤ k) (k2 : k ≤ 1000) :
    ∃ (r : Nat) (s' : Int), r < k ∧ F__law_take [.own m, .int k] O = .ok (.int r) (O.set m [.int s', .bl b]) ∧ StAt (O.set m [.int s', .bl b]) m s' b := by
  have kk : (0 : Int) < (k : Int) := by omega
  have hset : ∀ s', (O.set m [.int s', .bl b])[m]? = some [D.int s', D.bl b] := fun s' => by rw [List.getElem?_set_self h.len]
  have hres : ∀ x : Int, ∃ r : Nat, r < k ∧ x % (k : Int) = (r : Int) := fun x => by
    have a1 := Int.emod_nonneg x (show (k : Int) ≠ 0 by omega)
    have a2 := Int.emod_lt_of_pos x kk
    exact ⟨(x % (k : Int)).toNat, by omega, by omega⟩
  cases b with
  | true =>
    obtain ⟨r, r1, r2⟩ := hres s
    refine ⟨r, s / k, r1, ?_, hset _, Int.ediv_nonneg h.nn (by omega), fun z => by cases z⟩
    have hc : dTru (dOp fIx (dVar 0) (dC (.int 1))) [some (.own m), some (.int k), none, none] O = .ok true O := dTru_bl ((dOp_eq rfl rfl).trans (fIx_own1 h.at_))
    have e1 : sSet 2 (dOp (fI gMod) (dOp fIx (dVar 0) (dC (.int 0))) (dVar 1)) [some (.own m), some (.int k), none, none] O = .nx [some (.own m), some (.int k), some (.int r), none] O := by
      rw [sSet_eq ((dOp_eq ((dOp_eq rfl rfl).trans (fIx_own0 h.at_)) rfl).trans (fI_mod kk)), r2]; rfl
    have e2 : sPut (dOp (fI gDiv) (dOp fIx (dVar 0) (dC (.int 0))) (dVar 1)) (dVar 0) (dC (.int 0)) [some (.own m), some (.int k), some (.int r), none] O = .nx [some (.own m), some (.int k), some (.int r), none] (O.set m [.int (s / k), .bl true]) :=
      sPut_eq (ds := [.int s, .bl true]) (j := 0) ((dOp_eq ((dOp_eq rfl rfl).trans (fIx_own0 h.at_)) rfl).trans (fI_div kk (by omega))) rfl rfl h.at_ rfl
    show fin (sSeq (sIf _ _ _) _ [some (.own m), some (.int k), none, none] O) = _
    have e3 : sIf (dTru (dOp fIx (dVar 0) (dC (.int 1)))) (sSeq (sSet 2 (dOp (fI gMod) (dOp fIx (dVar 0) (dC (.int 0))) (dVar 1))) (sSeq (sPut (dOp (fI gDiv) (dOp fIx (dVar 0) (dC (.int 0))) (dVar 1)) (dVar 0) (dC (.int 0))) (sRet (dVar 2)))) sNil [some (.own m), some (.int k), none, none] O = .rt (.int r) (O.set m [.int (s / k), .bl true]) := by
      rw [sIf_eq hc, if_pos rfl, sSeq_nx e1, sSeq_nx e2]; rfl
    rw [sSeq_rt e3]; rfl
  | false =>
    have hs := h.lt rfl
    let s1 : Int := (s * 48271 + 29) % 2147483647
    have s1n : 0 ≤ s1 := Int.emod_nonneg _ (by decide)
    have s1l : s1 < 2147483647 := Int.emod_lt_of_pos _ (by decide)
    let O1 := O.set m [.int s1, .bl false]
    have hO1 : O1[m]? = some [D.int s1, D.bl false] := hset s1
    let t1 : Int := (s1 * s1 + 39373 * s1 + 7) % 2147483629
    have t1n : 0 ≤ t1 := Int.emod_nonneg _ (by decide)
    have t1l : t1 < 2147483629 := Int.emod_lt_of_pos _ (by decide)
    let t2 : Int := (t1 * t1 + 16807 * t1) % 2147483587
    have hc : dTru (dOp fIx (dVar 0) (dC (.int 1))) [some (.own m), some (.int k), none, none] O = .ok false O := dTru_bl ((dOp_eq rfl rfl).trans (fIx_own1 h.at_))
    have e0 : sIf (dTru (dOp fIx (dVar 0) (dC (.int 1)))) (sSeq (sSet 2 (dOp (fI gMod) (dOp fIx (dVar 0) (dC (.int 0))) (dVar 1))) (sSeq (sPut (dOp (fI gDiv) (dOp fIx (dVar 0) (dC (.int 0))) (dVar 1)) (dVar 0) (dC (.int 0))) (sRet (dVar 2)))) sNil [some (.own m), some (.int k), none, none] O = .nx [some (.own m), some (.int k), none, none] O := by
      rw [sIf_eq hc]; rfl
    have e1 : sPut (dOp (fI gMod) (dOp fAdd (dOp (fI gMul) (dOp fIx (dVar 0) (dC (.int 0))) (dC (.int 48271))) (dC (.int 29))) (dC (.int 2147483647))) (dVar 0) (dC (.int 0)) [some (.own m), some (.int k), none, none] O = .nx [some (.own m), some (.int k), none, none] O1 :=
      sPut_eq (ds := [.int s, .bl false]) (j := 0) ((dOp_eq ((dOp_eq ((dOp_eq ((dOp_eq rfl rfl).trans (fIx_own0 h.at_)) rfl).trans (fI_mulL (by have := h.nn; omega) (by omega))) rfl).trans fAdd_int) rfl).trans (fI_mod (by decide))) rfl rfl h.at_ rfl
    have ix0 : ∀ z w, dOp fIx (dVar 0) (dC (.int 0)) [some (.own m), some (.int k), z, w] O1 = .ok (.int s1) O1 := fun z w => (dOp_eq rfl rfl).trans (fIx_own0 hO1)
    have e2 : sSet 3 (dOp (fI gMod) (dOp fAdd (dOp fAdd (dOp (fI gMul) (dOp fIx (dVar 0) (dC (.int 0))) (dOp fIx (dVar 0) (dC (.int 0)))) (dOp (fI gMul) (dC (.int 39373)) (dOp fIx (dVar 0) (dC (.int 0))))) (dC (.int 7))) (dC (.int 2147483629))) [some (.own m), some (.int k), none, none] O1 = .nx [some (.own m), some (.int k), none, some (.int t1)] O1 :=
      sSet_eq ((dOp_eq ((dOp_eq ((dOp_eq ((dOp_eq (ix0 none none) (ix0 none none)).trans (fI_mulL (by omega) (by omega))) ((dOp_eq rfl (ix0 none none)).trans (fI_mulL (by decide) (by decide)))).trans fAdd_int) rfl).trans fAdd_int) rfl).trans (fI_mod (by decide)))
    have e3 : sSet 3 (dOp (fI gMod) (dOp fAdd (dOp (fI gMul) (dVar 3) (dVar 3)) (dOp (fI gMul) (dC (.int 16807)) (dVar 3))) (dC (.int 2147483587))) [some (.own m), some (.int k), none, some (.int t1)] O1 = .nx [some (.own m), some (.int k), none, some (.int t2)] O1 :=
      sSet_eq ((dOp_eq ((dOp_eq ((dOp_eq rfl rfl).trans (fI_mulL (by omega) (by omega))) ((dOp_eq rfl rfl).trans (fI_mulL (by decide) (by decide)))).trans fAdd_int) rfl).trans (fI_mod (by decide)))
    obtain ⟨r, r1, r2⟩ := hres (t2 / 8)
    refine ⟨r, s1, r1, ?_, hset _, s1n, fun _ => s1l⟩
    have e4 : sRet (dOp (fI gMod) (dOp (fI gDiv) (dVar 3) (dC (.int 8))) (dVar 1)) [some (.own m), some (.int k), none, some (.int t2)] O1 = .rt (.int r) O1 := by
      rw [sRet_eq ((dOp_eq ((dOp_eq rfl rfl).trans (fI_div (by decide) (by decide))) rfl).trans (fI_mod kk)), r2]
    show fin (sSeq _ _ [some (.own m), some (.int k), none, none] O) = _
    rw [sSeq_nx e0, sSeq_nx e1, sSeq_nx e2, sSeq_nx e3, e4]; rfl
theorem state_eq {ns : List Int} {k : Nat} (O : Ow) : ∃ s b, F__law_state [.lst (ns.map .int), .int k] O = .ok (.own O.length) (O ++ [[.int s, .bl b]]) ∧ StAt (O ++ [[.int s, .bl b]]) O.length s b := by
  have hat : ∀ s b, (O ++ [[D.int s, D.bl b]])[O.length]? = some [D.int s, D.bl b] := fun s b => by simp
  obtain ⟨c, hc⟩ : ∃ c : Int, F__law_cell_at [.lst (ns.map .int), .int k] O = .ok (.int c) O := by
    have ht : dTst (dOp fLt (dVar 1) (dCall fLen (dCons (dVar 0) dNil))) [some (.lst (ns.map .int)), some (.int k)] O = .ok (decide ((k : Int) < (ns.map D.int).length)) O := dTst_eq ((dOp_eq rfl ((dCall_eq (dCons1 rfl)).trans rfl)).trans rfl)
    by_cases hk : (k : Int) < (ns.map D.int).length
    · have hk' : k < (ns.map D.int).length := by omega
      have hx : dOp fIx (dVar 0) (dVar 1) [some (.lst (ns.map .int)), some (.int k)] O = .ok (ns.map D.int)[k] O := (dOp_eq rfl rfl).trans (fIx_lst hk')
      refine ⟨ns[k]'(by simpa using hk'), ?_⟩
      show fin (sSeq _ _ [some (.lst (ns.map .int)), some (.int k)] O) = _
      have e1 : sIf (dTst (dOp fLt (dVar 1) (dCall fLen (dCons (dVar 0) dNil)))) (sRet (dOp fIx (dVar 0) (dVar 1))) sNil [some (.lst (ns.map .int)), some (.int k)] O = .rt (.int (ns[k]'(by simpa using hk'))) O := by
        rw [sIf_eq ht, if_pos (decide_eq_true hk), sRet_eq hx]; simp
      rw [sSeq_rt e1]; rfl
    · refine ⟨0, ?_⟩
      show fin (sSeq _ _ [some (.lst (ns.map .int)), some (.int k)] O) = _
      have e1 : sIf (dTst (dOp fLt (dVar 1) (dCall fLen (dCons (dVar 0) dNil)))) (sRet (dOp fIx (dVar 0) (dVar 1))) sNil [some (.lst (ns.map .int)), some (.int k)] O = .nx [some (.lst (ns.map .int)), some (.int k)] O := by
        rw [sIf_eq ht, if_neg (by simpa using hk)]; rfl
      rw [sSeq_nx e1]; rfl
  have e0 : sSet 2 (dFn 2 F__law_cell_at (dCons (dVar 0) (dCons (dVar 1) dNil))) [some (.lst (ns.map .int)), some (.int k), none] O = .nx [some (.lst (ns.map .int)), some (.int k), some (.int c)] O := sSet_eq ((dFn_eq (dCons2 rfl rfl) rfl).trans hc)
  have hp : ∀ σ, dOp (fI gPow) (dC (.int 10)) (dC (.int 18)) σ O = .ok (.int 1000000000000000000) O := fun σ => by
    refine (dOp_eq (σ := σ) (O := O) rfl rfl).trans ?_
    kernel_rfl
  have ht : dTst (dOp fGe (dVar 2) (dOp (fI gPow) (dC (.int 10)) (dC (.int 18)))) [some (.lst (ns.map .int)), some (.int k), some (.int c)] O = .ok (decide ((1000000000000000000 : Int) ≤ c)) O := dTst_eq ((dOp_eq rfl (hp _)).trans rfl)
  by_cases hcc : (1000000000000000000 : Int) ≤ c
  · refine ⟨c - 1000000000000000000, true, ?_, hat _ _, by omega, fun z => by cases z⟩
    have e1 : sIf (dTst (dOp fGe (dVar 2) (dOp (fI gPow) (dC (.int 10)) (dC (.int 18))))) (sRet (dLstO (dCons (dOp (fI gSub) (dVar 2) (dOp (fI gPow) (dC (.int 10)) (dC (.int 18)))) (dCons (dC (.bl true)) dNil)))) sNil [some (.lst (ns.map .int)), some (.int k), some (.int c)] O = .rt (.own O.length) (O ++ [[.int (c - 1000000000000000000), .bl true]]) := by
      rw [sIf_eq ht, if_pos (decide_eq_true hcc)]
      refine sRet_eq ?_
      show ((dCons _ _ _ O).bnd _) = _
      rw [dCons2 ((dOp_eq rfl (hp _)).trans rfl) rfl]
      rfl
    show fin (sSeq _ _ [some (.lst (ns.map .int)), some (.int k), none] O) = _
    rw [sSeq_nx e0, sSeq_rt e1]; rfl
  · refine ⟨c % 2147483647, false, ?_, hat _ _, Int.emod_nonneg _ (by decide), fun _ => Int.emod_lt_of_pos _ (by decide)⟩
    have e1 : sIf (dTst (dOp fGe (dVar 2) (dOp (fI gPow) (dC (.int 10)) (dC (.int 18))))) (sRet (dLstO (dCons (dOp (fI gSub) (dVar 2) (dOp (fI gPow) (dC (.int 10)) (dC (.int 18)))) (dCons (dC (.bl true)) dNil)))) sNil [some (.lst (ns.map .int)), some (.int k), some (.int c)] O = .nx [some (.lst (ns.map .int)), some (.int k), some (.int c)] O := by
      rw [sIf_eq ht, if_neg (by simpa using hcc)]; rfl
    show fin (sSeq _ _ [some (.lst (ns.map .int)), some (.int k), none] O) = _
    rw [sSeq_nx e0, sSeq_nx e1]
    have e2 : dLstO (dCons (dOp (fI gMod) (dVar 2) (dC (.int 2147483647))) (dCons (dC (.bl false)) dNil)) [some (.lst (ns.map .int)), some (.int k), some (.int c)] O = .ok (.own O.length) (O ++ [[.int (c % 2147483647), .bl false]]) := by
      show ((dCons _ _ _ O).bnd _) = _
      rw [dCons2 ((dOp_eq rfl rfl).trans (fI_mod (by decide))) rfl]
      rfl
    rw [sRet_eq e2]; rfl
end K07

namespace K07
open PySem DL
theorem set_same {O : Ow} {m : Nat} {x : List D} (h : O[m]? = some x) : O.set m x = O := by
  obtain ⟨h1, rfl⟩ := List.getElem?_eq_some_iff.mp h
  exact List.set_getElem_self h1
theorem flat_set {O : Ow} (h : Flat O) (m : Nat) (s : Int) (b : Bool) : Flat (O.set m [.int s, .bl b]) := by
  intro c hc d hd
  rw [List.length_set]
  rcases List.mem_or_eq_of_mem_set hc with h1 | rfl
  · exact h c h1 d hd
  · simp only [List.mem_cons, List.not_mem_nil, or_false] at hd
    rcases hd with rfl | rfl <;> rfl
theorem frzR_gen {O' : Ow} (hO : Flat O') (X : Ow) {d d' : D} (h : frz (O' ++ X) O'.length 8 d = some d') : frzR O'.length (.ok d (O' ++ X)) = .ok d' O' := by
  unfold frzR
  dsimp only
  rw [h]
  have : (O' ++ X).take O'.length = O' := by simp
  rw [this, mapO_id fun c hc => mapO_id fun d hd => frz_flat (hO c hc d hd)]
/-- a comprehension that draws -/
theorem dComp_st {ext : Nat} {it0 : DI} {i : Nat} {te : DE} {σ : Sg} {O : Ow} {ds : List D} {m : Nat} {s : Int} {b : Bool} {P : D → Prop} (hst : StAt O m s b) (hi : it0 σ O = .ok (.val ds) O) (hl : ds.length < 50000)
    (he : ∀ d ∈ ds, ∀ s', StAt (O.set m [.int s', .bl b]) m s' b → ∃ v s'', te ((clr (clr (σ ++ List.replicate ext none) [i]) [i]).set i (some d)) (O.set m [.int s', .bl b]) = .ok v (O.set m [.int s'', .bl b]) ∧ StAt (O.set m [.int s'', .bl b]) m s'' b ∧ P v) :
    ∃ vs s', dComp false ext it0 (.one i) [] [] te σ O = .ok (.lst vs) (O.set m [.int s', .bl b]) ∧ StAt (O.set m [.int s', .bl b]) m s' b ∧ vs.length = ds.length ∧ ∀ v ∈ vs, P v := by
  obtain ⟨acc, O', e, s', rfl, h1, h2, h3⟩ := walkD_inv (ds := ds) (step := stepD ⟨it0, .one i, []⟩ [] te (clr (σ ++ List.replicate ext none) (slotsOf [⟨it0, .one i, []⟩])))
    (fun j O' acc => ∃ s', O' = O.set m [.int s', .bl b] ∧ StAt O' m s' b ∧ acc.length = j ∧ ∀ v ∈ acc, P v) (fun j O' acc d hI hd => by
      obtain ⟨s', rfl, h1, h2, h3⟩ := hI
      have hj := (List.getElem?_eq_some_iff.mp hd).1
      obtain ⟨v, s'', q1, q2, q3⟩ := he d (List.mem_of_getElem? hd) s' h1
      refine ⟨acc ++ [v], _, ?_, s'', rfl, q2, by simp [h2], fun w hw => ?_⟩
      · show compD [] te ((clr (clr (σ ++ List.replicate ext none) [i]) [i]).set i (some d)) (O.set m [.int s', .bl b]) acc = _
        unfold compD
        rw [q1]
        show (if acc.length < 100000 then _ else _) = _
        rw [if_pos (by omega)]
      · rcases List.mem_append.mp hw with hw | hw
        · exact h3 w hw
        · have : w = v := by simpa using hw
          rw [this]; exact q3) ds.length 0 O [] ⟨s, (set_same hst.at_).symm, hst, rfl, by simp⟩ (by omega) (Nat.zero_le _)
  refine ⟨acc, s', ?_, h1, h2, h3⟩
  unfold dComp compAll
  rw [hi]
  show outC false (noX (walkD (.val ds) _ ds.length 0 O [])) = _
  rw [e]; rfl
theorem mem_terms : ∀ (n : Nat) (cs : List Nat), cs.length = n → (∀ c ∈ cs, sgn c = true) → cs ∈ terms n
  | 0, cs, h, _ => by
    have : cs = [] := List.length_eq_zero_iff.mp h
    subst this; simp [terms]
  | n + 1, cs, h, hs => by
    have hne : cs ≠ [] := by intro e; subst e; simp at h
    obtain ⟨t, c, rfl⟩ : ∃ t c, cs = t ++ [c] := ⟨_, _, (List.dropLast_concat_getLast hne).symm⟩
    have ht := mem_terms n t (by simpa using h) fun c hc => hs c (List.mem_append_left _ hc)
    unfold terms
    rw [List.mem_flatMap]
    refine ⟨t, ht, ?_⟩
    have hl := hs c (by simp)
    unfold sgn at hl
    simp only [Bool.or_eq_true, beq_iff_eq] at hl
    rcases hl with (z | z) | z <;> rw [z] <;> simp
theorem join_eq {σ : Sg} {O O' : Ow} {tA : DA} : ∀ (cs : List Nat), 1 ≤ cs.length → cs.length ≤ 4 → tA σ O = .ok [.lst (cs.map fun c => .str [c])] O' → dJoin (dC (.str [])) tA σ O = .ok (.str cs) O'
  | [], h, _, _ => by simp at h
  | [a], _, _, h => by show ((tA σ O).bnd _) = _; rw [h]; rfl
  | [a, b], _, _, h => by show ((tA σ O).bnd _) = _; rw [h]; rfl
  | [a, b, c], _, _, h => by show ((tA σ O).bnd _) = _; rw [h]; rfl
  | [a, b, c, d], _, _, h => by show ((tA σ O).bnd _) = _; rw [h]; rfl
  | _ :: _ :: _ :: _ :: _ :: _, _, h, _ => by simp at h
theorem strs_of : ∀ (vs : List D), (∀ v ∈ vs, ∃ c, v = D.str [c] ∧ sgn c = true) → ∃ cs : List Nat, vs = cs.map (fun c => D.str [c]) ∧ ∀ c ∈ cs, sgn c = true
  | [], _ => ⟨[], rfl, by simp⟩
  | v :: vs, h => by
    obtain ⟨c, rfl, hc⟩ := h v List.mem_cons_self
    obtain ⟨cs, rfl, hcs⟩ := strs_of vs fun w hw => h w (List.mem_cons_of_mem _ hw)
    exact ⟨c :: cs, rfl, fun x hx => (List.mem_cons.mp hx).elim (fun e => by rw [e]; exact hc) (hcs x)⟩
theorem term_eq {O : Ow} {m : Nat} {s : Int} {b : Bool} (h : StAt O m s b) {n : Nat} (n1 : 1 ≤ n) (n4 : n ≤ 4) :
    ∃ cs s', cs ∈ terms n ∧ F__law_term [.own m, .int n] O = .ok (.str cs) (O.set m [.int s', .bl b]) ∧ StAt (O.set m [.int s', .bl b]) m s' b := by
  have hi : dRng1 (dCons (dVar 1) dNil) [some (.own m), some (.int n)] O = .ok (.val ((List.range n).map fun (i : Nat) => D.int (i : Int))) O := dRng1_eq (dCons1 rfl) (by omega)
  obtain ⟨vs, s', e1, e2, e3, e4⟩ := dComp_st (ext := 1) (i := 2) (te := dOp fIx (dC (.str [48, 49, 45, 45])) (dFn 2 F__law_take (dCons (dVar 0) (dCons (dC (.int 4)) dNil)))) (P := fun v => ∃ c, v = D.str [c] ∧ sgn c = true) h hi (by simp; omega) (fun d hd s' hs => by
    obtain ⟨r, s'', r1, r2, r3⟩ := take_eq hs (k := 4) (by decide) (by decide)
    rw [List.set_set] at r2 r3
    have r5 : r < [48, 49, 45, 45].length := r1
    refine ⟨D.str [[48, 49, 45, 45][r]], s'', (dOp_eq rfl ((dFn_eq (dCons2 rfl rfl) rfl).trans r2)).trans (fIx_str (by decide) r5), r3, _, rfl, ?_⟩
    have : r = 0 ∨ r = 1 ∨ r = 2 ∨ r = 3 := by omega
    rcases this with rfl | rfl | rfl | rfl <;> rfl)
  obtain ⟨cs, rfl, hcs⟩ := strs_of vs e4
  have hl : cs.length = n := by simpa using e3
  refine ⟨cs, s', mem_terms n cs hl hcs, ?_, e2⟩
  show fin (sRet _ [some (.own m), some (.int n)] O) = _
  rw [sRet_eq (join_eq cs (by omega) (by omega) (dCons1 e1))]; rfl
end K07

namespace K07
open PySem DL
theorem shl_eq {σ : Sg} {O : Ow} {t : DE} {n : Nat} (n4 : n ≤ 4) (h : t σ O = .ok (.int n) O) : dOp (fI gShl) (dC (.int 1)) t σ O = .ok (.int ((2 ^ n : Nat) : Int)) O := by
  refine (dOp_eq rfl h).trans ?_
  have : n = 0 ∨ n = 1 ∨ n = 2 ∨ n = 3 ∨ n = 4 := by omega
  rcases this with rfl | rfl | rfl | rfl | rfl <;> rfl
theorem fIn_int (O : Ow) (p : Int) (l : List Int) : fIn O (.int p) (.lst (l.map D.int)) = .ok (.bl (l.any fun q => q == p)) O := by
  show fPy inF O (.int p) (.lst (l.map D.int)) = _
  unfold fPy py
  have e : toPy O 8 (.lst (l.map D.int)) = some (.list (l.map PyData.int)) := by
    show (mapO (toPy O 7) (l.map D.int)).map PyData.list = _
    rw [mapO_int]; rfl
  rw [e]
  show R.ok (D.bl ((l.map PyData.int).any fun y => PyData.eqv y (.int p))) O = _
  rw [List.any_map]
  rfl
theorem frz_tup {O : Ow} {n f : Nat} {ds : List D} (h : ∀ d ∈ ds, flatD n d = true) : frz O n (f + 1) (.tup ds) = some (.tup ds) := by
  show (mapO (frz O n f) ds).map D.tup = _
  rw [mapO_id fun d hd => frz_flat (h d hd)]; rfl
theorem ans_flat {d : D} (h : Ans d) (n : Nat) : flatD n d = true := by rcases h with rfl | rfl | rfl <;> rfl
def L8 : List D := [.int 4, .int 3, .int 3, .int 2, .int 4, .int 3, .int 4, .int 1]
def Ls : List D := [.lst [.int 0, .int 1], .lst [.int 0, .int 1, .non], .lst [.int 0, .int 0, .int 0, .int 1, .non], .lst [.int 1, .int 1, .int 1, .int 0, .non]]
theorem L8_at (O : Ow) {r : Nat} (h : r < 8) : ∃ n : Nat, 1 ≤ n ∧ n ≤ 4 ∧ fIx O (.lst L8) (.int r) = .ok (.int n) O := by
  have : r = 0 ∨ r = 1 ∨ r = 2 ∨ r = 3 ∨ r = 4 ∨ r = 5 ∨ r = 6 ∨ r = 7 := by omega
  rcases this with rfl | rfl | rfl | rfl | rfl | rfl | rfl | rfl
  · exact ⟨4, by decide, by decide, rfl⟩
  · exact ⟨3, by decide, by decide, rfl⟩
  · exact ⟨3, by decide, by decide, rfl⟩
  · exact ⟨2, by decide, by decide, rfl⟩
  · exact ⟨4, by decide, by decide, rfl⟩
  · exact ⟨3, by decide, by decide, rfl⟩
  · exact ⟨4, by decide, by decide, rfl⟩
  · exact ⟨1, by decide, by decide, rfl⟩
theorem Ls_at (O : Ow) {r : Nat} (h : r < 4) : ∃ l : List D, 1 ≤ l.length ∧ l.length ≤ 5 ∧ (∀ d ∈ l, Ans d) ∧ fIx O (.lst Ls) (.int r) = .ok (.lst l) O := by
  have : r = 0 ∨ r = 1 ∨ r = 2 ∨ r = 3 := by omega
  rcases this with rfl | rfl | rfl | rfl
  · exact ⟨[.int 0, .int 1], by decide, by decide, by simp [Ans], rfl⟩
  · exact ⟨[.int 0, .int 1, .non], by decide, by decide, by simp [Ans], rfl⟩
  · exact ⟨[.int 0, .int 0, .int 0, .int 1, .non], by decide, by decide, by simp [Ans], rfl⟩
  · exact ⟨[.int 1, .int 1, .int 1, .int 0, .non], by decide, by decide, by simp [Ans], rfl⟩
theorem pow_pos' (n : Nat) : 1 ≤ 2 ^ n := Nat.one_le_two_pow
set_option maxHeartbeats 1000000 in
theorem function_eq {O : Ow} (hO : Flat O) {m : Nat} {s : Int} {b : Bool} (h : StAt O m s b) :
    ∃ n f s', Fn n f ∧ F__law_function [.own m] O = .ok (.tup f) (O.set m [.int s', .bl b]) ∧ StAt (O.set m [.int s', .bl b]) m s' b := by
  obtain ⟨r, s1, r1, r2, h1⟩ := take_eq h (k := 8) (by decide) (by decide)
  obtain ⟨n, n1, n4, hn⟩ := L8_at (O.set m [.int s1, .bl b]) r1
  obtain ⟨w, s2, w1, w2, h2⟩ := take_eq h1 (k := 6) (by decide) (by decide)
  rw [List.set_set] at w2 h2
  have hpw := pow_small n4
  have e1 : sSet 1 (dOp fIx (dLst (dCons (dC (.int 4)) (dCons (dC (.int 3)) (dCons (dC (.int 3)) (dCons (dC (.int 2)) (dCons (dC (.int 4)) (dCons (dC (.int 3)) (dCons (dC (.int 4)) (dCons (dC (.int 1)) dNil))))))))) (dFn 2 F__law_take (dCons (dVar 0) (dCons (dC (.int 8)) dNil)))) [some (.own m), none, none, none, none, none, none] O = .nx [some (.own m), some (.int n), none, none, none, none, none] (O.set m [.int s1, .bl b]) :=
    sSet_eq ((dOp_eq (x := .lst L8) rfl ((dFn_eq (dCons2 rfl rfl) rfl).trans r2)).trans hn)
  have e2 : sSet 2 (dFn 2 F__law_take (dCons (dVar 0) (dCons (dC (.int 6)) dNil))) [some (.own m), some (.int n), none, none, none, none, none] (O.set m [.int s1, .bl b]) = .nx [some (.own m), some (.int n), some (.int w), none, none, none, none] (O.set m [.int s2, .bl b]) := sSet_eq ((dFn_eq (dCons2 rfl rfl) rfl).trans w2)
  have ht : dTst (dOp fLt (dVar 2) (dC (.int 4))) [some (.own m), some (.int n), some (.int w), none, none, none, none] (O.set m [.int s2, .bl b]) = .ok (decide ((w : Int) < 4)) (O.set m [.int s2, .bl b]) := dTst_eq ((dOp_eq rfl rfl).trans rfl)
  have hlen : (O.set m [.int s2, .bl b]).length = O.length := List.length_set
  by_cases hw : (w : Int) < 4
  · -- answers drawn from a list
    obtain ⟨l, l1, l5, la, hl⟩ := Ls_at (O.set m [.int s2, .bl b]) (show w < 4 by omega)
    have e3 : sSet 3 (dOp fIx (dLst (dCons (dLst (dCons (dC (.int 0)) (dCons (dC (.int 1)) dNil))) (dCons (dLst (dCons (dC (.int 0)) (dCons (dC (.int 1)) (dCons (dC .non) dNil)))) (dCons (dLst (dCons (dC (.int 0)) (dCons (dC (.int 0)) (dCons (dC (.int 0)) (dCons (dC (.int 1)) (dCons (dC .non) dNil)))))) (dCons (dLst (dCons (dC (.int 1)) (dCons (dC (.int 1)) (dCons (dC (.int 1)) (dCons (dC (.int 0)) (dCons (dC .non) dNil)))))) dNil))))) (dVar 2)) [some (.own m), some (.int n), some (.int w), none, none, none, none] (O.set m [.int s2, .bl b]) = .nx [some (.own m), some (.int n), some (.int w), some (.lst l), none, none, none] (O.set m [.int s2, .bl b]) :=
      sSet_eq ((dOp_eq (x := .lst Ls) rfl rfl).trans hl)
    have hi : dRng1 (dCons (dOp (fI gShl) (dC (.int 1)) (dVar 1)) dNil) [some (.own m), some (.int n), some (.int w), some (.lst l), none, none, none] (O.set m [.int s2, .bl b]) = .ok (.val ((List.range (2 ^ n)).map fun (i : Nat) => D.int (i : Int))) (O.set m [.int s2, .bl b]) := dRng1_eq (dCons1 (shl_eq n4 rfl)) (by omega)
    obtain ⟨vs, s3, c1, c2, c3, c4⟩ := dComp_st (ext := 1) (i := 7) (te := dOp fIx (dVar 3) (dFn 2 F__law_take (dCons (dVar 0) (dCons (dCall fLen (dCons (dVar 3) dNil)) dNil)))) (P := Ans) h2 hi (by simp; omega) (fun d hd s' hs => by
      rw [List.set_set] at hs
      obtain ⟨q, s'', q1, q2, q3⟩ := take_eq hs (k := l.length) l1 (by omega)
      rw [List.set_set] at q2 q3
      rw [List.set_set]
      refine ⟨l[q], s'', ?_, by rw [List.set_set]; exact q3, la _ (List.getElem_mem q1)⟩
      rw [List.set_set]
      exact (dOp_eq (x := .lst l) rfl ((dFn_eq (dCons2 rfl ((dCall_eq (dCons1 rfl)).trans rfl)) rfl).trans q2)).trans (fIx_lst q1))
    rw [List.set_set] at c1 c2
    have hv : vs.length = 2 ^ n := by simpa using c3
    refine ⟨n, vs, s3, ⟨n1, n4, hv, c4⟩, ?_, c2⟩
    show frzR O.length (fin (sSeq _ _ [some (.own m), none, none, none, none, none, none] O)) = _
    rw [sSeq_nx e1, sSeq_nx e2]
    have e4 : sIf (dTst (dOp fLt (dVar 2) (dC (.int 4)))) (sSeq (sSet 3 (dOp fIx (dLst (dCons (dLst (dCons (dC (.int 0)) (dCons (dC (.int 1)) dNil))) (dCons (dLst (dCons (dC (.int 0)) (dCons (dC (.int 1)) (dCons (dC .non) dNil)))) (dCons (dLst (dCons (dC (.int 0)) (dCons (dC (.int 0)) (dCons (dC (.int 0)) (dCons (dC (.int 1)) (dCons (dC .non) dNil)))))) (dCons (dLst (dCons (dC (.int 1)) (dCons (dC (.int 1)) (dCons (dC (.int 1)) (dCons (dC (.int 0)) (dCons (dC .non) dNil)))))) dNil))))) (dVar 2))) (sRet (dCall fTuple (dCons (dComp false 1 (dRng1 (dCons (dOp (fI gShl) (dC (.int 1)) (dVar 1)) dNil)) (.one 7) [] [] (dOp fIx (dVar 3) (dFn 2 F__law_take (dCons (dVar 0) (dCons (dCall fLen (dCons (dVar 3) dNil)) dNil))))) dNil)))) sNil [some (.own m), some (.int n), some (.int w), none, none, none, none] (O.set m [.int s2, .bl b]) = .rt (.tup vs) (O.set m [.int s3, .bl b]) := by
      rw [sIf_eq ht, if_pos (decide_eq_true hw), sSeq_nx e3, sRet_eq ((dCall_eq (dCons1 c1)).trans rfl)]
    rw [sSeq_rt e4]
    show frzR O.length (.ok (.tup vs) (O.set m [.int s3, .bl b])) = _
    have := frzR_gen (flat_set hO m s3 b) [] (d := .tup vs) (d' := .tup vs) (frz_tup fun d hd => ans_flat (c4 d hd) _)
    rw [List.append_nil, List.length_set] at this
    exact this
  · -- the points of terms
    have e3 : sIf (dTst (dOp fLt (dVar 2) (dC (.int 4)))) (sSeq (sSet 3 (dOp fIx (dLst (dCons (dLst (dCons (dC (.int 0)) (dCons (dC (.int 1)) dNil))) (dCons (dLst (dCons (dC (.int 0)) (dCons (dC (.int 1)) (dCons (dC .non) dNil)))) (dCons (dLst (dCons (dC (.int 0)) (dCons (dC (.int 0)) (dCons (dC (.int 0)) (dCons (dC (.int 1)) (dCons (dC .non) dNil)))))) (dCons (dLst (dCons (dC (.int 1)) (dCons (dC (.int 1)) (dCons (dC (.int 1)) (dCons (dC (.int 0)) (dCons (dC .non) dNil)))))) dNil))))) (dVar 2))) (sRet (dCall fTuple (dCons (dComp false 1 (dRng1 (dCons (dOp (fI gShl) (dC (.int 1)) (dVar 1)) dNil)) (.one 7) [] [] (dOp fIx (dVar 3) (dFn 2 F__law_take (dCons (dVar 0) (dCons (dCall fLen (dCons (dVar 3) dNil)) dNil))))) dNil)))) sNil [some (.own m), some (.int n), some (.int w), none, none, none, none] (O.set m [.int s2, .bl b]) = .nx [some (.own m), some (.int n), some (.int w), none, none, none, none] (O.set m [.int s2, .bl b]) := by
      rw [sIf_eq ht, if_neg (by simpa using hw)]; rfl
    obtain ⟨q, s3, q1, q2, h3⟩ := take_eq h2 (k := 5) (by decide) (by decide)
    rw [List.set_set] at q2 h3
    have hi : dRng1 (dCons (dOp fAdd (dC (.int 1)) (dFn 2 F__law_take (dCons (dVar 0) (dCons (dC (.int 5)) dNil)))) dNil) [some (.own m), some (.int n), some (.int w), none, some (.lst []), none, none] (O.set m [.int s2, .bl b]) = .ok (.val ((List.range (1 + q)).map fun (i : Nat) => D.int (i : Int))) (O.set m [.int s3, .bl b]) := by
      refine dRng1_eq (dCons1 ((dOp_eq rfl ((dFn_eq (dCons2 rfl rfl) rfl).trans q2)).trans ?_)) (by omega)
      rw [fAdd_int]
      congr 2
    obtain ⟨σ', O', f1, s4, l, y, rfl, rfl, h4, hll⟩ := loopS_inv (ds := (List.range (1 + q)).map fun (i : Nat) => D.int (i : Int)) (step := fun d σ O => match Tg.put (.one 5) d σ with | some σ' => (sSet 4 (dOp fAdd (dVar 4) (dFn 1 F__law_points (dCons (dFn 2 F__law_term (dCons (dVar 0) (dCons (dVar 1) dNil))) dNil)))) σ' O | none => .bad)
      (fun i σ O' => ∃ (s4 : Int) (l : List Nat) (y : Option D), σ = [some (.own m), some (.int n), some (.int w), none, some (.lst (dInts l)), y, none] ∧ O' = O.set m [.int s4, .bl b] ∧ StAt O' m s4 b ∧ l.length ≤ 16 * i)
      (fun i σ O' d hI hd => by
        obtain ⟨s4, l, y, rfl, rfl, h4, hll⟩ := hI
        have hi : i < 1 + q := by have := (List.getElem?_eq_some_iff.mp hd).1; simpa using this
        obtain ⟨cs, s5, t1, t2, t3⟩ := term_eq h4 n1 n4
        rw [List.set_set] at t2 t3
        have hp := law_points_eq (terms_in n1 n4 t1) (flat_set hO m s5 b)
        have hpl := pts_len (terms_in n1 n4 t1)
        refine ⟨_, _, sSet_eq ((dOp_eq (x := .lst (dInts l)) rfl ((dFn_eq (dCons1 ((dFn_eq (dCons2 rfl rfl) rfl).trans t2)) rfl).trans hp)).trans (?_ : _ = R.ok (D.lst (dInts (l ++ pts cs))) _)), s5, l ++ pts cs, some d, rfl, rfl, t3, by simp; omega⟩
        show (if (dInts l).length + (dInts (pts cs)).length ≤ 100000 then R.ok (D.lst (dInts l ++ dInts (pts cs))) _ else R.bad) = _
        rw [if_pos (by unfold dInts; simp; omega)]
        unfold dInts
        rw [List.map_append])
      (1 + q) 0 [some (.own m), some (.int n), some (.int w), none, some (.lst []), none, none] (O.set m [.int s3, .bl b]) ⟨s3, [], none, rfl, rfl, h3, by simp⟩ (by simp) (Nat.zero_le _)
    have hx := hll
    -- the answers
    let g : D → D := fun d => match d with | .int p => .int (if ((l.map fun (p : Nat) => (p : Int)).any fun q => q == p) then 1 else 0) | d => d
    have hi2 : dRng1 (dCons (dOp (fI gShl) (dC (.int 1)) (dVar 1)) dNil) [some (.own m), some (.int n), some (.int w), none, some (.lst (dInts l)), y, none] (O.set m [.int s4, .bl b]) = .ok (.val ((List.range (2 ^ n)).map fun (i : Nat) => D.int (i : Int))) (O.set m [.int s4, .bl b]) := dRng1_eq (dCons1 (shl_eq n4 rfl)) (by omega)
    have hc := dComp_one (ext := 1) (i := 7) (ts := []) (te := dCall fIntA (dCons (dOp fIn (dVar 7) (dVar 4)) dNil)) (p := fun _ => true) (e := g) hi2 (by simp; omega) (fun d hd => rfl) (fun d hd _ => by
      obtain ⟨p, hp, rfl⟩ := List.mem_map.mp hd
      have e : dInts l = (l.map fun (p : Nat) => (p : Int)).map D.int := by unfold dInts; rw [List.map_map]; rfl
      refine (dCall_eq (dCons1 ((dOp_eq (x := .int (p : Int)) (y := .lst (dInts l)) rfl rfl).trans (by rw [e]; exact fIn_int _ _ _)))).trans ?_
      rfl) true
    generalize hvs : (((List.range (2 ^ n)).map fun (i : Nat) => D.int (i : Int)).filter fun _ => true).map g = vs at hc
    have hvl : vs.length = 2 ^ n := by rw [← hvs, List.length_map, filter_true]; simp
    have hva : ∀ d ∈ vs, Ans d := by
      intro d hd
      rw [← hvs] at hd
      obtain ⟨d', hd', rfl⟩ := List.mem_map.mp hd
      obtain ⟨p, hp, rfl⟩ := List.mem_map.mp (List.mem_filter.mp hd').1
      show Ans (.int (if _ then 1 else 0))
      split
      · exact .inr (.inl rfl)
      · exact .inl rfl
    have hlen4 : (O.set m [.int s4, .bl b]).length = O.length := List.length_set
    have e5 : sSet 6 (dComp true 1 (dRng1 (dCons (dOp (fI gShl) (dC (.int 1)) (dVar 1)) dNil)) (.one 7) [] [] (dCall fIntA (dCons (dOp fIn (dVar 7) (dVar 4)) dNil))) [some (.own m), some (.int n), some (.int w), none, some (.lst (dInts l)), y, none] (O.set m [.int s4, .bl b]) = .nx [some (.own m), some (.int n), some (.int w), none, some (.lst (dInts l)), y, some (.own O.length)] (O.set m [.int s4, .bl b] ++ [vs]) := by
      rw [sSet_eq (hc.trans rfl), hlen4]; rfl
    have hcell : ∀ (s5 : Int) (ws : List D), (O.set m [.int s5, .bl b] ++ [ws])[O.length]? = some ws := fun s5 ws => by
      have : O.length = (O.set m [.int s5, .bl b]).length := List.length_set.symm
      rw [this]; simp
    -- one of them may be free
    obtain ⟨fs, s5, k1, k2, k3, k4⟩ : ∃ fs s5, sIf (dTst (dOp (fPy eqF) (dVar 2) (dC (.int 5)))) (sPut (dC .non) (dVar 6) (dFn 2 F__law_take (dCons (dVar 0) (dCons (dOp (fI gShl) (dC (.int 1)) (dVar 1)) dNil)))) sNil [some (.own m), some (.int n), some (.int w), none, some (.lst (dInts l)), y, some (.own O.length)] (O.set m [.int s4, .bl b] ++ [vs])
        = .nx [some (.own m), some (.int n), some (.int w), none, some (.lst (dInts l)), y, some (.own O.length)] (O.set m [.int s5, .bl b] ++ [fs]) ∧ fs.length = 2 ^ n ∧ (∀ d ∈ fs, Ans d) ∧ StAt (O.set m [.int s5, .bl b]) m s5 b := by
      have hq : dTst (dOp (fPy eqF) (dVar 2) (dC (.int 5))) [some (.own m), some (.int n), some (.int w), none, some (.lst (dInts l)), y, some (.own O.length)] (O.set m [.int s4, .bl b] ++ [vs]) = .ok ((w : Int) == 5) (O.set m [.int s4, .bl b] ++ [vs]) := dTst_eq ((dOp_eq rfl rfl).trans rfl)
      rw [sIf_eq hq]
      by_cases h5 : ((w : Int) == 5) = true
      · rw [if_pos h5]
        have hml : m < (O.set m [.int s4, .bl b]).length := h4.len
        have hst : StAt (O.set m [.int s4, .bl b] ++ [vs]) m s4 b := ⟨by rw [List.getElem?_append_left hml]; exact h4.at_, h4.nn, h4.lt⟩
        obtain ⟨z, s5, z1, z2, z3⟩ := take_eq hst (k := 2 ^ n) (pow_pos' n) (by omega)
        rw [List.set_append_left _ _ hml, List.set_set] at z2 z3
        refine ⟨vs.set z .non, s5, ?_, by rw [List.length_set]; exact hvl, fun d hd => ?_, ?_⟩
        · have ez : dFn 2 F__law_take (dCons (dVar 0) (dCons (dOp (fI gShl) (dC (.int 1)) (dVar 1)) dNil)) [some (.own m), some (.int n), some (.int w), none, some (.lst (dInts l)), y, some (.own O.length)] (O.set m [.int s4, .bl b] ++ [vs]) = .ok (.int (z : Int)) (O.set m [.int s5, .bl b] ++ [vs]) := (dFn_eq (dCons2 rfl (shl_eq n4 rfl)) rfl).trans z2
          rw [sPut_eq (y := .non) (k := O.length) (i := (z : Int)) (ds := vs) (j := z) rfl rfl ez (hcell s5 vs) (by
            unfold L2.ixN
            rw [if_pos (by omega), if_pos (by rw [hvl]; omega)]
            rfl)]
          have hs2 : (O.set m [.int s5, .bl b] ++ [vs]).set O.length (vs.set z .non) = O.set m [.int s5, .bl b] ++ [vs.set z .non] := by
            rw [List.set_append_right _ _ (by rw [List.length_set]; exact Nat.le_refl _), List.length_set, Nat.sub_self]; rfl
          rw [hs2]
        · rcases List.mem_or_eq_of_mem_set hd with hd | rfl
          · exact hva d hd
          · exact .inr (.inr rfl)
        · have hml5 : m < (O.set m [.int s5, .bl b]).length := by rw [List.length_set]; exact h.len
          exact ⟨by have := z3.at_; rw [List.getElem?_append_left hml5] at this; exact this, z3.nn, z3.lt⟩
      · rw [if_neg h5]
        exact ⟨vs, s4, rfl, hvl, hva, h4⟩
    refine ⟨n, fs, s5, ⟨n1, n4, k2, k3⟩, ?_, k4⟩
    show frzR O.length (fin (sSeq _ _ [some (.own m), none, none, none, none, none, none] O)) = _
    rw [sSeq_nx e1, sSeq_nx e2, sSeq_nx e3]
    have e4 : sSet 4 (dLst dNil) [some (.own m), some (.int n), some (.int w), none, none, none, none] (O.set m [.int s2, .bl b]) = .nx [some (.own m), some (.int n), some (.int w), none, some (.lst []), none, none] (O.set m [.int s2, .bl b]) := rfl
    have hlr : ((List.range (1 + q)).map fun (i : Nat) => D.int (i : Int)).length = 1 + q := by simp
    rw [sSeq_nx e4, sSeq_nx ((sFor_eq hi).trans (by
      show loopS _ _ ((List.range (1 + q)).map fun (i : Nat) => D.int (i : Int)).length 0 _ _ = _
      rw [hlr]; exact f1)), sSeq_nx e5, sSeq_nx k1]
    have e7 : dCall fTuple (dCons (dVar 6) dNil) [some (.own m), some (.int n), some (.int w), none, some (.lst (dInts l)), y, some (.own O.length)] (O.set m [.int s5, .bl b] ++ [fs]) = .ok (.tup fs) (O.set m [.int s5, .bl b] ++ [fs]) := by
      refine (dCall_eq (dCons1 rfl)).trans ?_
      show (match (O.set m [.int s5, .bl b] ++ [fs])[O.length]? with | some ds => R.ok (D.tup ds) _ | none => _) = _
      rw [hcell]
    rw [sRet_eq e7]
    show frzR O.length (.ok (.tup fs) (O.set m [.int s5, .bl b] ++ [fs])) = _
    have := frzR_gen (flat_set hO m s5 b) [fs] (d := .tup fs) (d' := .tup fs) (frz_tup fun d hd => ans_flat (k3 d hd) _)
    rw [List.length_set] at this
    exact this
end K07

namespace K07
open PySem DL
/-! ### walks over any source that stands still -/
/-! ### == of a list and its like -/
end K07

namespace K07
open PySem DL
def isOne : D → Bool
  | .int 1 => true
  | _ => false
def oneB (f : List D) (cs : List Nat) : Bool := (pts cs).any fun p => isOne (f.getD p .non)
theorem eq1 (O : Ow) {d : D} (h : Ans d) : fPy eqF O d (.int 1) = .ok (.bl (isOne d)) O := by rcases h with rfl | rfl | rfl <;> kernel_rfl
theorem holds_a_one_eq {n : Nat} {f : List D} (hf : Fn n f) {cs : List Nat} (h : cs ∈ terms n) (O : Ow) : F_holds_a_one [.tup f, .str cs] O = .ok (.bl (oneB f cs)) O := by
  have hA := terms_in hf.n1 hf.n4 h
  have hl := terms_len hf.n1 hf.n4 h
  have hit : dIt (dFn 1 F_points_of (dCons (dVar 1) dNil)) [some (.tup f), some (.str cs)] O = .ok (.val (dInts (pts cs))) O := dIt_lst ((dFn_eq (dCons1 rfl) rfl).trans (points_of_eq hA O))
  have hc := comp0 (o := false) (ext := 1) (i := 2) (te := dOp (fPy eqF) (dOp fIx (dVar 0) (dVar 2)) (dC (.int 1))) (e := fun p => D.bl (isOne (f.getD p .non))) (τ := fun p => [some (.tup f), some (.str cs), some (.int (p : Nat))]) hit (by have := pts_len hA; omega) (fun _ => rfl) (fun q hq => by
    have hlt : q < f.length := by rw [hf.len, ← hl]; exact pts_lt hA hq
    refine (dOp_eq ((dOp_eq rfl rfl).trans (fIx_tup (i := q) hlt)) rfl).trans ((eq1 O (hf.ans _ (List.getElem_mem hlt))).trans ?_)
    rw [getD_of hlt])
  show fin (sRet _ [some (.tup f), some (.str cs)] O) = _
  rw [sRet_eq ((dCall_eq (dCons1 hc)).trans (fAny_map O _ _))]
  rfl
def allS : List (List Nat × Nat) := allT.flatMap fun cs => (List.range cs.length).map fun k => (cs, k)
theorem mem_allS {cs : List Nat} {k : Nat} (h : cs ∈ allT) (hk : k < cs.length) : (cs, k) ∈ allS := by
  unfold allS
  rw [List.mem_flatMap]
  exact ⟨cs, h, List.mem_map.mpr ⟨k, List.mem_range.mpr hk, rfl⟩⟩
theorem with_all (O : Ow) : (allS.map fun q => F_with_sign [.str q.1, .int (q.2 : Nat), .str [45]] O) = allS.map fun q => R.ok (.str (q.1.set q.2 45)) O := by kernel_rfl
theorem with_eq {cs : List Nat} {k : Nat} (h : cs ∈ allT) (hk : k < cs.length) (O : Ow) : F_with_sign [.str cs, .int (k : Nat), .str [45]] O = .ok (.str (cs.set k 45)) O := List.map_inj_left.mp (with_all O) _ (mem_allS h hk)
theorem terms_sgn_all : (allT.all fun cs => cs.all sgn) = true := by decide +kernel
theorem terms_sgn {n : Nat} (h1 : 1 ≤ n) (h4 : n ≤ 4) {cs : List Nat} (h : cs ∈ terms n) : ∀ c ∈ cs, sgn c = true := List.all_eq_true.mp (List.all_eq_true.mp terms_sgn_all cs (terms_in h1 h4 h))
theorem set_terms {n : Nat} (h1 : 1 ≤ n) (h4 : n ≤ 4) {cs : List Nat} (h : cs ∈ terms n) {k c : Nat} (hc : sgn c = true) : cs.set k c ∈ terms n := by
  refine mem_terms n _ (by rw [List.length_set]; exact terms_len h1 h4 h) fun x hx => ?_
  rcases List.mem_or_eq_of_mem_set hx with hx | rfl
  · exact terms_sgn h1 h4 h x hx
  · exact hc
theorem ne_sign (O : Ow) {c : Nat} (h : sgn c = true) : fPy neF O (.str [c]) (.str [45]) = .ok (.bl (c != 45)) O := by
  unfold sgn at h
  simp only [Bool.or_eq_true, beq_iff_eq] at h
  rcases h with (rfl | rfl) | rfl <;> kernel_rfl
def canB (f : List D) (cs : List Nat) (k : Nat) : Bool := cs.getD k 0 != 45 && goodB f (cs.set k 45)
def widestB (f : List D) (cs : List Nat) : Bool := !(List.range cs.length).any (canB f cs)
theorem getD_nat {cs : List Nat} {k : Nat} (h : k < cs.length) : cs.getD k 0 = cs[k] := by rw [List.getD_eq_getElem?_getD, List.getElem?_eq_getElem h]; rfl
theorem can_eq {n : Nat} {f : List D} (hf : Fn n f) {cs : List Nat} (h : cs ∈ terms n) {k : Nat} (hk : k < cs.length) (O : Ow) : F_can_widen_at [.tup f, .str cs, .int (k : Nat)] O = .ok (.bl (canB f cs k)) O := by
  have hA := terms_in hf.n1 hf.n4 h
  have h4 : cs.length ≤ 4 := by rw [terms_len hf.n1 hf.n4 h]; exact hf.n4
  have hs := terms_sgn hf.n1 hf.n4 h _ (List.getElem_mem hk)
  show fin (B_can_widen_at [some (.tup f), some (.str cs), some (.int (k : Nat))] O) = _
  have a1 : dOp (fPy neF) (dOp fIx (dVar 1) (dVar 2)) (dC (.str [45])) [some (.tup f), some (.str cs), some (.int (k : Nat))] O = .ok (.bl (cs[k] != 45)) O := (dOp_eq ((dOp_eq rfl rfl).trans (fIx_str (by omega) hk)) rfl).trans (ne_sign O hs)
  unfold B_can_widen_at canB
  rw [getD_nat hk]
  simp only [sSeq, sSet, sIf, sRet, sDrop, sNil, dVar, dC, dCons, dNil, dFn, dCall, dOp, dTst, dTru, dNotT, truD, R.bnd, R.bnS, fin, List.getElem?_cons_zero, List.getElem?_cons_succ, List.set_cons_zero, List.set_cons_succ, List.length_cons, List.length_nil, Nat.zero_add, Nat.reduceAdd, Nat.reduceLeDiff, Nat.reduceLT, if_true, if_false, Bool.not_true, Bool.not_false, Bool.false_eq_true, ite_true, ite_false, dAnd]
  have a1' : (match (match dOp fIx (dVar 1) (dVar 2) [some (.tup f), some (.str cs), some (.int (k : Nat))] O with | .ok a O => R.ok a O | r => r) with | _ => True) := trivial
  rw [show fIx O (D.str cs) (D.int (k : Nat)) = .ok (.str [cs[k]]) O from fIx_str (by omega) hk]
  simp only [sSeq, sSet, sIf, sRet, sDrop, sNil, dVar, dC, dCons, dNil, dFn, dCall, dOp, dTst, dTru, dNotT, truD, R.bnd, R.bnS, fin, List.getElem?_cons_zero, List.getElem?_cons_succ, List.set_cons_zero, List.set_cons_succ, List.length_cons, List.length_nil, Nat.zero_add, Nat.reduceAdd, Nat.reduceLeDiff, Nat.reduceLT, if_true, if_false, Bool.not_true, Bool.not_false, Bool.false_eq_true, ite_true, ite_false, ne_sign O hs]
  cases hc : (cs[k] != 45) with
  | true =>
    simp only [sSeq, sSet, sIf, sRet, sDrop, sNil, dVar, dC, dCons, dNil, dFn, dCall, dOp, dTst, dTru, dNotT, truD, R.bnd, R.bnS, fin, List.getElem?_cons_zero, List.getElem?_cons_succ, List.set_cons_zero, List.set_cons_succ, List.length_cons, List.length_nil, Nat.zero_add, Nat.reduceAdd, Nat.reduceLeDiff, Nat.reduceLT, if_true, if_false, Bool.not_true, Bool.not_false, Bool.false_eq_true, ite_true, ite_false, with_eq hA hk O, holds_eq hf (set_terms hf.n1 hf.n4 h (k := k) (c := 45) rfl) O, Bool.true_and]
  | false => simp only [sSeq, sSet, sIf, sRet, sDrop, sNil, dVar, dC, dCons, dNil, dFn, dCall, dOp, dTst, dTru, dNotT, truD, R.bnd, R.bnS, fin, List.getElem?_cons_zero, List.getElem?_cons_succ, List.set_cons_zero, List.set_cons_succ, List.length_cons, List.length_nil, Nat.zero_add, Nat.reduceAdd, Nat.reduceLeDiff, Nat.reduceLT, if_true, if_false, Bool.not_true, Bool.not_false, Bool.false_eq_true, ite_true, ite_false, Bool.false_and]
theorem widest_eq {n : Nat} {f : List D} (hf : Fn n f) {cs : List Nat} (h : cs ∈ terms n) (O : Ow) : F_is_widest [.tup f, .str cs] O = .ok (.bl (widestB f cs)) O := by
  have h4 : cs.length ≤ 4 := by rw [terms_len hf.n1 hf.n4 h]; exact hf.n4
  have hi : dRng1 (dCons (dCall fLen (dCons (dVar 1) dNil)) dNil) [some (.tup f), some (.str cs)] O = .ok (.val ((List.range cs.length).map fun (i : Nat) => D.int (i : Int))) O := dRng1_eq (dCons1 ((dCall_eq (dCons1 rfl)).trans (fLen_str (by omega)))) (by omega)
  have hc := comp0 (o := false) (ext := 1) (i := 2) (te := dFn 3 F_can_widen_at (dCons (dVar 0) (dCons (dVar 1) (dCons (dVar 2) dNil)))) (e := fun k => D.bl (canB f cs k)) (τ := fun p => [some (.tup f), some (.str cs), some (.int (p : Nat))]) hi (by rw [List.length_range]; omega) (fun _ => rfl) (fun k hk => by
    exact (dFn_eq (dCons_eq rfl (dCons2 rfl rfl)) rfl).trans (can_eq hf h (List.mem_range.mp hk) O))
  show fin (B_is_widest [some (.tup f), some (.str cs)] O) = _
  unfold B_is_widest widestB
  have := (dCall_eq (dCons1 hc)).trans (fAny_map O _ _)
  unfold sRet dNot
  rw [this]
  rfl
def gr (f : List D) (cs : List Nat) : Bool := oneB f cs && widestB f cs
def greats (n : Nat) (f : List D) : List (List Nat) := (goods n f).filter (gr f)
theorem goods_in {n : Nat} {f : List D} {cs : List Nat} (h : cs ∈ goods n f) : cs ∈ terms n ∧ goodB f cs = true := List.mem_filter.mp h
theorem goods_few {n : Nat} {f : List D} (hf : Fn n f) : (goods n f).length ≤ 81 := Nat.le_trans (List.length_filter_le _ _) (terms_few hf.n1 hf.n4)
theorem goods_all {n : Nat} {f : List D} (hf : Fn n f) : ∀ cs ∈ goods n f, cs ∈ allT := fun cs h => terms_in hf.n1 hf.n4 (goods_in h).1
theorem dAndT_eq {c d : DT} {σ : Sg} {O : Ow} {a b : Bool} (h1 : c σ O = .ok a O) (h2 : a = true → d σ O = .ok b O) : dAndT c d σ O = .ok (a && b) O := by
  show ((c σ O).bnd _) = _
  rw [h1]
  cases a with
  | true => exact h2 rfl
  | false => rfl
theorem term_all (O : Ow) : (allT.map fun cs => F_need_term [.int (cs.length : Nat), .str cs] O) = allT.map fun _ => R.ok .non O := by kernel_rfl
theorem need_term {n : Nat} {f : List D} (hf : Fn n f) {cs : List Nat} (h : cs ∈ terms n) (O : Ow) : F_need_term [.int n, .str cs] O = .ok .non O := by
  have := List.map_inj_left.mp (term_all O) cs (terms_in hf.n1 hf.n4 h)
  rw [terms_len hf.n1 hf.n4 h] at this
  exact this
theorem is_good_eq {n : Nat} {f : List D} (hf : Fn n f) {cs : List Nat} (h : cs ∈ terms n) (O : Ow) : F_is_good [.tup f, .str cs] O = .ok (.bl (goodB f cs)) O := by
  show fin (B_is_good [some (.tup f), some (.str cs)] O) = _
  unfold B_is_good
  simp only [sSeq, sSet, sIf, sRet, sDrop, sNil, dVar, dC, dCons, dNil, dFn, dCall, dOp, dTst, dTru, dNotT, truD, R.bnd, R.bnS, fin, List.getElem?_cons_zero, List.getElem?_cons_succ, List.set_cons_zero, List.set_cons_succ, List.length_cons, List.length_nil, Nat.zero_add, Nat.reduceAdd, Nat.reduceLeDiff, Nat.reduceLT, if_true, if_false, Bool.not_true, Bool.not_false, Bool.false_eq_true, ite_true, ite_false, need_eq hf O, switches_eq hf O, need_term hf h O, holds_eq hf h O]
def wstep (f : List D) (cs : List Nat) (k : Nat) : List Nat := if canB f cs k = true then cs.set k 45 else cs
def wide (f : List D) (cs : List Nat) (k : Nat) : List Nat := (List.range k).foldl (wstep f) cs
theorem wide_succ (f : List D) (cs : List Nat) (k : Nat) : wide f cs (k + 1) = wstep f (wide f cs k) k := by
  unfold wide
  rw [List.range_succ, List.foldl_append]; rfl
theorem wstep_terms {n : Nat} {f : List D} (hf : Fn n f) {cs : List Nat} (h : cs ∈ terms n) (k : Nat) : wstep f cs k ∈ terms n := by
  unfold wstep
  split
  · exact set_terms hf.n1 hf.n4 h rfl
  · exact h
theorem wide_terms {n : Nat} {f : List D} (hf : Fn n f) {cs : List Nat} (h : cs ∈ terms n) : ∀ k, wide f cs k ∈ terms n
  | 0 => h
  | k + 1 => by rw [wide_succ]; exact wstep_terms hf (wide_terms hf h k) k
theorem range_get {n k a : Nat} (h : (List.range n)[k]? = some a) : a = k ∧ k < n := by
  obtain ⟨h1, h2⟩ := List.getElem?_eq_some_iff.mp h
  have : k < n := by simpa using h1
  rw [List.getElem_range] at h2
  exact ⟨h2.symm, this⟩
theorem bits_terms_all : (allN.all fun q => (terms q.1).contains (bitsL q.1 q.2)) = true := by decide +kernel
theorem bits_terms {n p : Nat} (h1 : 1 ≤ n) (h4 : n ≤ 4) (hp : p < 2 ^ n) : bitsL n p ∈ terms n := by
  have := List.all_eq_true.mp bits_terms_all _ (mem_allN h1 h4 hp)
  simpa using this
theorem ne_self_all (O : Ow) : (allT.map fun cs => fPy neF O (.str cs) (.str cs)) = allT.map fun _ => R.ok (.bl false) O := by kernel_rfl
theorem ne_self {cs : List Nat} (h : cs ∈ allT) (O : Ow) : fPy neF O (.str cs) (.str cs) = .ok (.bl false) O := List.map_inj_left.mp (ne_self_all O) cs h
theorem flat_app {O X : Ow} (h : Flat O) (hx : ∀ c ∈ X, ∀ d ∈ c, flatD (O.length + X.length) d = true) : Flat (O ++ X) := by
  intro c hc d hd
  rw [List.length_append]
  rcases List.mem_append.mp hc with hc | hc
  · have := h c hc d hd
    cases d with
    | own k =>
      have : k < O.length := by simpa [flatD] using this
      show decide (k < O.length + X.length) = true
      exact decide_eq_true (by omega)
    | lst _ => cases this
    | tup _ => cases this
    | _ => rfl
  · exact hx c hc d hd
theorem flat_one {O : Ow} (h : Flat O) {c : List D} (hc : ∀ d ∈ c, flatD (O.length + 1) d = true) : Flat (O ++ [c]) := flat_app h fun x hx d hd => by
  have : x = c := by simpa using hx
  subst this; exact hc d hd
theorem turns_eq {ns : List Int} (hn : ns.length ≤ 63) (σ : Sg) (c : Nat) (hc : c < 1000) (h0 : dVar 0 σ [] = .ok (.lst (ns.map .int)) []) : ∃ m : Nat, m < 100000 ∧ dCall fMax2 (dCons (dC (.int 1)) (dCons (dCall fMin2 (dCons (dCall fLen (dCons (dVar 0) dNil)) (dCons (dC (.int (c : Nat))) dNil))) dNil)) σ [] = .ok (.int (m : Nat)) [] := by
  have h1 : dCall fMin2 (dCons (dCall fLen (dCons (dVar 0) dNil)) (dCons (dC (.int (c : Nat))) dNil)) σ [] = .ok (.int (if (c : Int) < ((ns.map D.int).length : Nat) then (c : Int) else ((ns.map D.int).length : Nat))) [] := (dCall_eq (dCons2 ((dCall_eq (dCons1 h0)).trans rfl) rfl)).trans rfl
  have h2 := (dCall_eq (f := fMax2) (dCons2 (t := dC (.int 1)) rfl h1))
  refine ⟨(if (if (c : Int) < ((ns.map D.int).length : Nat) then (c : Int) else ((ns.map D.int).length : Nat)) > 1 then (if (c : Int) < ((ns.map D.int).length : Nat) then (c : Int) else ((ns.map D.int).length : Nat)) else 1).toNat, ?_, h2.trans ?_⟩
  · rw [List.length_map]; split <;> split <;> omega
  · show R.ok (D.int (if (if (c : Int) < ((ns.map D.int).length : Nat) then (c : Int) else ((ns.map D.int).length : Nat)) > 1 then (if (c : Int) < ((ns.map D.int).length : Nat) then (c : Int) else ((ns.map D.int).length : Nat)) else 1)) [] = _
    congr 2
    rw [List.length_map]; split <;> split <;> omega
theorem greats_few {n : Nat} {f : List D} (hf : Fn n f) : (greats n f).length ≤ 81 := Nat.le_trans (List.length_filter_le _ _) (goods_few hf)
theorem codes_all : (allT.all fun cs => cs.all fun c => decide (c < 1114112)) = true := by decide +kernel
theorem mapO_str (O : Ow) (n : Nat) : ∀ l : List (List Nat), (∀ cs ∈ l, cs ∈ allT) → mapO (toPy O n) (l.map D.str) = some (l.map fun cs => PyData.str ⟨cs.toArray⟩)
  | [], _ => rfl
  | x :: l, h => by
    have hx : (if (x.all fun c => decide (c < 1114112)) = true then some (PyData.str ⟨x.toArray⟩) else none) = some (PyData.str ⟨x.toArray⟩) := by rw [if_pos (List.all_eq_true.mp codes_all x (h x List.mem_cons_self))]
    have e : toPy O n (.str x) = some (.str ⟨x.toArray⟩) := by cases n <;> exact hx
    show mapO (toPy O n) (D.str x :: l.map D.str) = _
    unfold mapO
    rw [e, mapO_str O n l fun cs hcs => h cs (List.mem_cons_of_mem _ hcs)]; rfl
theorem eq_nilS (O : Ow) (l : List (List Nat)) (h : ∀ cs ∈ l, cs ∈ allT) : fPy eqF O (.lst (l.map D.str)) (.lst []) = .ok (.bl l.isEmpty) O := by
  unfold fPy py
  have e : toPy O 8 (.lst (l.map D.str)) = some (.list (l.map fun cs => PyData.str ⟨cs.toArray⟩)) := by
    show (mapO (toPy O 7) (l.map D.str)).map PyData.list = _
    rw [mapO_str O 7 l h]; rfl
  rw [e]
  cases l <;> rfl
theorem ne_nilI (O : Ow) (l : List Int) : fPy neF O (.lst (l.map D.int)) (.lst []) = .ok (.bl !l.isEmpty) O := by
  unfold fPy py
  have e : toPy O 8 (.lst (l.map D.int)) = some (.list (l.map PyData.int)) := by
    show (mapO (toPy O 7) (l.map D.int)).map PyData.list = _
    rw [mapO_int]; rfl
  rw [e]
  cases l <;> rfl
def ones (f : List D) (cs : List Nat) : List Nat := (pts cs).filter fun p => isOne (f.getD p .non)
theorem ones_any (f : List D) (cs : List Nat) : oneB f cs = !(ones f cs).isEmpty := by
  unfold oneB ones
  rw [Bool.eq_iff_iff, List.any_eq_true, Bool.not_eq_true', Bool.eq_false_iff, Ne, List.isEmpty_iff, List.filter_eq_nil_iff]
  simp
theorem widened_eq {n : Nat} {f : List D} (hf : Fn n f) {cs : List Nat} (h : cs ∈ terms n) (hg : goodB f cs = true) (O : Ow) : F_widened [.tup f, .str cs] O = .ok (.str (wide f cs n)) O := by
  have hl := terms_len hf.n1 hf.n4 h
  have h4 := hf.n4
  have e1 : sIf (dNotT (dTru (dFn 2 F_is_good (dCons (dVar 0) (dCons (dVar 1) dNil))))) sBad sNil [some (.tup f), some (.str cs), none, none] O = .nx [some (.tup f), some (.str cs), none, none] O := by
    simp only [sSeq, sSet, sIf, sRet, sDrop, sNil, dVar, dC, dCons, dNil, dFn, dCall, dOp, dTst, dTru, dNotT, truD, R.bnd, R.bnS, fin, List.getElem?_cons_zero, List.getElem?_cons_succ, List.set_cons_zero, List.set_cons_succ, List.length_cons, List.length_nil, Nat.zero_add, Nat.reduceAdd, Nat.reduceLeDiff, Nat.reduceLT, if_true, if_false, Bool.not_true, Bool.not_false, Bool.false_eq_true, ite_true, ite_false, is_good_eq hf h O, hg]
  have e2 : sSet 2 (dVar 1) [some (.tup f), some (.str cs), none, none] O = .nx [some (.tup f), some (.str cs), some (.str cs), none] O := rfl
  have hi : dRng1 (dCons (dCall fLen (dCons (dVar 1) dNil)) dNil) [some (.tup f), some (.str cs), some (.str cs), none] O = .ok (.val ((List.range n).map fun (i : Nat) => D.int (i : Int))) O := dRng1_eq (dCons1 ((dCall_eq (dCons1 rfl)).trans ((fLen_str (by omega)).trans (by rw [hl])))) (by omega)
  obtain ⟨σ', O', l1, z3, rfl, rfl⟩ := for_of (i := 3) (body := sIf (dTru (dFn 3 F_can_widen_at (dCons (dVar 0) (dCons (dVar 2) (dCons (dVar 3) dNil))))) (sSet 2 (dFn 3 F_with_sign (dCons (dVar 2) (dCons (dVar 3) (dCons (dC (.str [45])) dNil))))) sNil) hi
    (fun k σ O' => ∃ z3, σ = [some (.tup f), some (.str cs), some (.str (wide f cs k)), z3] ∧ O' = O) (fun k a σ O' hk hI => by
      obtain ⟨z3, rfl, rfl⟩ := hI
      obtain ⟨rfl, hk⟩ := range_get hk
      have hw := wide_terms hf h a
      have hwl : a < (wide f cs a).length := by rw [terms_len hf.n1 hf.n4 hw]; exact hk
      refine ⟨_, _, ?_, some (.int (a : Int)), rfl, rfl⟩
      rw [wide_succ]
      unfold wstep
      simp only [sSeq, sSet, sIf, sRet, sDrop, sNil, dVar, dC, dCons, dNil, dFn, dCall, dOp, dTst, dTru, dNotT, truD, R.bnd, R.bnS, fin, List.getElem?_cons_zero, List.getElem?_cons_succ, List.set_cons_zero, List.set_cons_succ, List.length_cons, List.length_nil, Nat.zero_add, Nat.reduceAdd, Nat.reduceLeDiff, Nat.reduceLT, if_true, if_false, Bool.not_true, Bool.not_false, Bool.false_eq_true, ite_true, ite_false, can_eq hf hw hwl O', with_eq (terms_in hf.n1 hf.n4 hw) hwl O']
      cases canB f (wide f cs a) a <;> rfl) ⟨none, rfl, rfl⟩
  rw [List.length_range] at l1
  show fin (sSeq _ (sSeq _ (sSeq _ (sRet (dVar 2)))) [some (.tup f), some (.str cs), none, none] O') = _
  rw [sSeq_nx e1, sSeq_nx e2, sSeq_nx l1]; rfl
theorem greatest_eq {n : Nat} {f : List D} (hf : Fn n f) (O : Ow) : F_greatest [.tup f] O = .ok (.lst ((greats n f).map .str)) O := by
  have hi : dIt (dFn 1 F_good_terms (dCons (dVar 0) dNil)) [some (.tup f)] O = .ok (.val ((goods n f).map .str)) O := dIt_lst ((dFn_eq (dCons1 rfl) rfl).trans (good_terms_eq hf O))
  have hc := comp1 (o := false) (ext := 1) (i := 1) (t := dAndT (dTru (dFn 2 F_holds_a_one (dCons (dVar 0) (dCons (dVar 1) dNil)))) (dTru (dFn 2 F_is_widest (dCons (dVar 0) (dCons (dVar 1) dNil))))) (te := dVar 1) (p := gr f) (e := D.str) (τ := fun cs => [some (.tup f), some (.str cs)]) hi (by have := goods_few hf; omega) (fun _ => rfl) (fun cs hcs => by
    obtain ⟨h1, h2⟩ := goods_in hcs
    exact dAndT_eq (dTru_bl ((dFn_eq (dCons2 rfl rfl) rfl).trans (holds_a_one_eq hf h1 O))) fun _ => dTru_bl ((dFn_eq (dCons2 rfl rfl) rfl).trans (widest_eq hf h1 O))) (fun cs _ _ => rfl)
  show fin (B_greatest [some (.tup f)] O) = _
  unfold B_greatest
  rw [sRet_eq (hc.trans rfl)]; rfl
end K07

namespace K07
open PySem DL
/-! ### terms and points -/
def liesB (n : Nat) (a b : List Nat) : Bool := (List.range n).all fun i => b.getD i 0 == 45 || b.getD i 0 == a.getD i 0
theorem mem_pts {n : Nat} (h1 : 1 ≤ n) (h4 : n ≤ 4) {cs : List Nat} (h : cs ∈ terms n) {p : Nat} (hp : p < 2 ^ n) : p ∈ pts cs ↔ matchB cs (bitsL n p) = true := by
  have hl := terms_len h1 h4 h
  have := List.all_eq_true.mp match_pts _ (mem_allP (terms_in h1 h4 h) (by rw [hl]; exact hp))
  simp only [Bool.and_eq_true, beq_iff_eq] at this
  rw [hl] at this
  rw [this.1.1.1]; simp
theorem pts_lt' {n : Nat} (h1 : 1 ≤ n) (h4 : n ≤ 4) {cs : List Nat} (h : cs ∈ terms n) {p : Nat} (hp : p ∈ pts cs) : p < 2 ^ n := by
  have := pts_lt (terms_in h1 h4 h) hp
  rw [terms_len h1 h4 h] at this
  exact this
theorem lies_pts {n : Nat} (h1 : 1 ≤ n) (h4 : n ≤ 4) {a b : List Nat} (ha : a ∈ terms n) (hb : b ∈ terms n) (h : liesB n a b = true) {p : Nat} (hp : p ∈ pts a) : p ∈ pts b := by
  have hlt := pts_lt' h1 h4 ha hp
  have m := (mem_pts h1 h4 ha hlt).mp hp
  refine (mem_pts h1 h4 hb hlt).mpr ?_
  unfold matchB at m ⊢
  unfold liesB at h
  rw [terms_len h1 h4 ha] at m
  rw [terms_len h1 h4 hb]
  rw [List.all_eq_true] at h m ⊢
  intro i hi
  have e1 := h i hi
  have e2 := m i hi
  simp only [Bool.or_eq_true, beq_iff_eq] at e1 e2 ⊢
  rcases e1 with e1 | e1
  · exact .inl e1
  · rcases e2 with e2 | e2
    · exact .inl (e1.trans e2)
    · exact .inr (e1.trans e2)
theorem lies_refl (n : Nat) (a : List Nat) : liesB n a a = true := by
  unfold liesB
  rw [List.all_eq_true]; intro i _; simp
theorem lies_trans {n : Nat} {a b c : List Nat} (h1 : liesB n a b = true) (h2 : liesB n b c = true) : liesB n a c = true := by
  unfold liesB at *
  rw [List.all_eq_true] at *
  intro i hi
  have e1 := h1 i hi
  have e2 := h2 i hi
  simp only [Bool.or_eq_true, beq_iff_eq] at e1 e2 ⊢
  rcases e2 with e2 | e2
  · exact .inl e2
  · rcases e1 with e1 | e1
    · exact .inl (e2.trans e1)
    · exact .inr (e2.trans e1)
theorem getD_set {a : List Nat} {k i c : Nat} : (a.set k c).getD i 0 = if k = i ∧ i < a.length then c else a.getD i 0 := by
  rw [List.getD_eq_getElem?_getD, List.getD_eq_getElem?_getD, List.getElem?_set]
  by_cases hk : k = i
  · subst hk
    by_cases hl : k < a.length
    · simp [hl]
    · simp [hl]
  · simp [hk]
theorem lies_set (n : Nat) (a : List Nat) (k : Nat) : liesB n a (a.set k 45) = true := by
  unfold liesB
  rw [List.all_eq_true]; intro i _
  rw [getD_set]
  split <;> simp
theorem set_lies {n : Nat} {a b : List Nat} {k : Nat} (h : liesB n a b = true) (hk : b.getD k 0 = 45) : liesB n (a.set k 45) b = true := by
  unfold liesB at *
  rw [List.all_eq_true] at *
  intro i hi
  have e := h i hi
  simp only [Bool.or_eq_true, beq_iff_eq] at e ⊢
  rw [getD_set]
  split
  · rename_i q
    rw [← q.1]; exact .inl hk
  · exact e
theorem good_down {n : Nat} {f : List D} (hf : Fn n f) {a b : List Nat} (ha : a ∈ terms n) (hb : b ∈ terms n) (h : liesB n a b = true) (hg : goodB f b = true) : goodB f a = true := by
  unfold goodB at *
  rw [List.all_eq_true] at *
  exact fun p hp => hg p (lies_pts hf.n1 hf.n4 ha hb h hp)
theorem one_up {n : Nat} {f : List D} (hf : Fn n f) {a b : List Nat} (ha : a ∈ terms n) (hb : b ∈ terms n) (h : liesB n a b = true) (hg : oneB f a = true) : oneB f b = true := by
  unfold oneB at *
  rw [List.any_eq_true] at *
  obtain ⟨p, hp, q⟩ := hg
  exact ⟨p, lies_pts hf.n1 hf.n4 ha hb h hp, q⟩
/-! ### widened -/
theorem wstep_lies (n : Nat) (f : List D) (a : List Nat) (k : Nat) : liesB n a (wstep f a k) = true := by
  unfold wstep
  split
  · exact lies_set n a k
  · exact lies_refl n a
theorem wide_step (n : Nat) (f : List D) (a : List Nat) (k : Nat) : liesB n (wide f a k) (wide f a (k + 1)) = true := by
  rw [wide_succ]; exact wstep_lies n f _ k
theorem wide_mono (n : Nat) (f : List D) (a : List Nat) (k : Nat) : ∀ m, liesB n (wide f a k) (wide f a (k + m)) = true
  | 0 => lies_refl n _
  | m + 1 => lies_trans (wide_mono n f a k m) (wide_step n f a (k + m))
theorem wide_lies (n : Nat) (f : List D) (a : List Nat) (k : Nat) : liesB n a (wide f a k) = true := by
  have := wide_mono n f a 0 k
  rw [Nat.zero_add] at this
  exact this
theorem wide_good {f : List D} {a : List Nat} (h : goodB f a = true) : ∀ k, goodB f (wide f a k) = true
  | 0 => h
  | k + 1 => by
    rw [wide_succ]
    unfold wstep
    split
    · rename_i q
      unfold canB at q
      exact (Bool.and_eq_true_iff.mp q).2
    · exact wide_good h k
theorem widest_of {f : List D} {cs : List Nat} : widestB f cs = true ↔ ∀ k, k < cs.length → canB f cs k = false := by
  unfold widestB
  rw [Bool.not_eq_true', Bool.eq_false_iff, Ne, List.any_eq_true]
  constructor
  · intro h k hk
    cases e : canB f cs k with
    | false => rfl
    | true => exact absurd ⟨k, List.mem_range.mpr hk, e⟩ h
  · rintro h ⟨k, hk, e⟩
    rw [h k (List.mem_range.mp hk)] at e; cases e
theorem dash_up {n : Nat} {a b : List Nat} (h : liesB n a b = true) {k : Nat} (hk : k < n) (e : a.getD k 0 = 45) : b.getD k 0 = 45 := by
  unfold liesB at h
  have := List.all_eq_true.mp h k (List.mem_range.mpr hk)
  simp only [Bool.or_eq_true, beq_iff_eq] at this
  rcases this with z | z
  · exact z
  · rw [z]; exact e
theorem wide_widest {n : Nat} {f : List D} (hf : Fn n f) {a : List Nat} (ha : a ∈ terms n) : widestB f (wide f a n) = true := by
  rw [widest_of]
  intro k hk
  rw [terms_len hf.n1 hf.n4 (wide_terms hf ha n)] at hk
  have hw := wide_terms hf ha k
  have hW := wide_terms hf ha n
  have up : liesB n (wide f a (k + 1)) (wide f a n) = true := by
    have := wide_mono n f a (k + 1) (n - (k + 1))
    have e : k + 1 + (n - (k + 1)) = n := by omega
    rw [e] at this; exact this
  have up0 : liesB n (wide f a k) (wide f a n) = true := lies_trans (wide_step n f a k) up
  unfold canB
  by_cases hd : (wide f a n).getD k 0 = 45
  · rw [hd]; rfl
  · have hd2 : ((wide f a n).getD k 0 != 45) = true := by simpa using hd
    rw [hd2, Bool.true_and]
    cases hg : goodB f ((wide f a n).set k 45) with
    | false => rfl
    | true =>
      exfalso
      -- then it was so at step k
      have hwl : k < (wide f a k).length := by rw [terms_len hf.n1 hf.n4 hw]; exact hk
      have g1 : goodB f ((wide f a k).set k 45) = true := by
        refine good_down hf (set_terms hf.n1 hf.n4 hw rfl) (set_terms hf.n1 hf.n4 hW (k := k) (c := 45) rfl) ?_ hg
        refine set_lies (lies_trans up0 (lies_set n _ k)) ?_
        rw [getD_set, if_pos ⟨rfl, by rw [terms_len hf.n1 hf.n4 hW]; exact hk⟩]
      have n45 : (wide f a k).getD k 0 ≠ 45 := fun e => hd (dash_up up0 hk e)
      have hc : canB f (wide f a k) k = true := by
        unfold canB
        have : ((wide f a k).getD k 0 != 45) = true := by simpa using n45
        rw [this, g1]; rfl
      have : wide f a (k + 1) = (wide f a k).set k 45 := by
        rw [wide_succ]; unfold wstep; rw [if_pos hc]
      refine hd (dash_up up hk ?_)
      rw [this, getD_set, if_pos ⟨rfl, hwl⟩]
theorem wide_self {n : Nat} {f : List D} {a : List Nat} (hl : a.length = n) (h : widestB f a = true) : ∀ k, k ≤ n → wide f a k = a
  | 0, _ => rfl
  | k + 1, hk => by
    rw [wide_succ, wide_self hl h k (by omega)]
    unfold wstep
    rw [widest_of.mp h k (by omega)]; rfl
/-! ### greatest terms -/
theorem greats_in {n : Nat} {f : List D} {cs : List Nat} : cs ∈ greats n f ↔ cs ∈ terms n ∧ goodB f cs = true ∧ oneB f cs = true ∧ widestB f cs = true := by
  unfold greats goods gr
  rw [List.mem_filter, List.mem_filter, Bool.and_eq_true]
  constructor
  · rintro ⟨⟨a, b⟩, c, d⟩; exact ⟨a, b, c, d⟩
  · rintro ⟨a, b, c, d⟩; exact ⟨⟨a, b⟩, c, d⟩
theorem wide_great {n : Nat} {f : List D} (hf : Fn n f) {a : List Nat} (ha : a ∈ terms n) (hg : goodB f a = true) : wide f a n ∈ greats n f ↔ oneB f (wide f a n) = true := by
  rw [greats_in]
  exact ⟨fun h => h.2.2.1, fun h => ⟨wide_terms hf ha n, wide_good hg n, h, wide_widest hf ha⟩⟩
theorem great_alone {n : Nat} {f : List D} (hf : Fn n f) {a b : List Nat} (ha : a ∈ greats n f) (hb : b ∈ greats n f) (hne : b ≠ a) : liesB n a b = false := by
  cases h : liesB n a b with
  | false => rfl
  | true =>
    exfalso
    obtain ⟨a1, a2, a3, a4⟩ := greats_in.mp ha
    obtain ⟨b1, b2, b3, b4⟩ := greats_in.mp hb
    have la := terms_len hf.n1 hf.n4 a1
    have lb := terms_len hf.n1 hf.n4 b1
    apply hne
    refine List.ext_getElem (by rw [la, lb]) fun k k1 k2 => ?_
    have e := List.all_eq_true.mp h k (List.mem_range.mpr (by omega))
    simp only [Bool.or_eq_true, beq_iff_eq] at e
    rw [getD_nat k1, getD_nat k2] at e
    rcases e with e | e
    · -- then a may be widened there
      by_cases ea : a[k] = 45
      · rw [e, ea]
      · exfalso
        have hc := widest_of.mp a4 k k2
        unfold canB at hc
        rw [getD_nat k2] at hc
        have n45 : (a[k] != 45) = true := by simpa using ea
        rw [n45, Bool.true_and] at hc
        have hg : goodB f (a.set k 45) = true := good_down hf (set_terms hf.n1 hf.n4 a1 rfl) b1 (set_lies h (by rw [getD_nat k1]; exact e)) b2
        rw [hg] at hc; cases hc
    · exact e
theorem bits_pts_all : (allN.all fun q => decide (pts (bitsL q.1 q.2) = [q.2])) = true := by decide +kernel
theorem bits_pts {n p : Nat} (h1 : 1 ≤ n) (h4 : n ≤ 4) (hp : p < 2 ^ n) : pts (bitsL n p) = [p] := by
  have := List.all_eq_true.mp bits_pts_all _ (mem_allN h1 h4 hp)
  simpa using this
theorem isOne_nZ {d : D} (h : isOne d = true) : isZ d = false := by
  cases d with
  | int i =>
    unfold isOne at h
    split at h
    · rename_i e; cases e; rfl
    · cases h
  | _ => cases h
/-- each 1 is held by a greatest term -/
theorem great_holds {n : Nat} {f : List D} (hf : Fn n f) {p : Nat} (hp : p < 2 ^ n) (h : isOne (f.getD p .non) = true) : ∃ cs, cs ∈ greats n f ∧ p ∈ pts cs := by
  have ht := bits_terms hf.n1 hf.n4 hp
  have hps := bits_pts hf.n1 hf.n4 hp
  have hg : goodB f (bitsL n p) = true := by
    unfold goodB
    rw [hps, List.all_cons, List.all_nil, isOne_nZ h]; rfl
  have ho : oneB f (bitsL n p) = true := by
    unfold oneB
    rw [hps]
    simpa using h
  have hl := wide_lies n f (bitsL n p) n
  have hW := wide_terms hf ht n
  refine ⟨wide f (bitsL n p) n, (wide_great hf ht hg).mpr (one_up hf ht hW hl ho), lies_pts hf.n1 hf.n4 ht hW hl ?_⟩
  rw [hps]; simp
/-! ### a point becomes free -/
theorem fn_set {n : Nat} {f : List D} (hf : Fn n f) (k : Nat) : Fn n (f.set k .non) := ⟨hf.n1, hf.n4, by rw [List.length_set]; exact hf.len, fun d hd => by
  rcases List.mem_or_eq_of_mem_set hd with hd | rfl
  · exact hf.ans d hd
  · exact .inr (.inr rfl)⟩
theorem getD_setD {f : List D} {k p : Nat} : (f.set k .non).getD p .non = if k = p then .non else f.getD p .non := by
  rw [List.getD_eq_getElem?_getD, List.getD_eq_getElem?_getD, List.getElem?_set]
  by_cases hk : k = p
  · subst hk
    by_cases hl : k < f.length
    · simp [hl]
    · simp [hl]
  · simp [hk]
theorem good_free {f : List D} {cs : List Nat} (k : Nat) (h : goodB f cs = true) : goodB (f.set k .non) cs = true := by
  unfold goodB at *
  rw [List.all_eq_true] at *
  intro p hp
  rw [getD_setD]
  split
  · rfl
  · exact h p hp
theorem great_later {n : Nat} {f : List D} (hf : Fn n f) (k : Nat) {cs : List Nat} (h : cs ∈ greats n f) (ho : oneB (f.set k .non) cs = true) : ∃ w, w ∈ greats n (f.set k .non) ∧ liesB n cs w = true := by
  obtain ⟨h1, h2, h3, h4⟩ := greats_in.mp h
  have hf' := fn_set hf k
  have hg := good_free k h2
  have hl := wide_lies n (f.set k .non) cs n
  exact ⟨_, (wide_great hf' h1 hg).mpr (one_up hf' h1 (wide_terms hf' h1 n) hl ho), hl⟩
end K07

namespace K07
open PySem DL
theorem ascii_all : (allT.all fun cs => cs.all (· < 128)) = true := by decide +kernel
theorem zk_term {n : Nat} (h1 : 1 ≤ n) (h4 : n ≤ 4) {cs : List Nat} (h : cs ∈ terms n) : zkD (.str cs) = some (.val (cs.map fun c => .str [c])) := by
  show (if cs.all (· < 128) = true then _ else none) = _
  rw [if_pos (List.all_eq_true.mp ascii_all cs (terms_in h1 h4 h))]
theorem eq_sign (O : Ow) {c d : Nat} (h : sgn c = true) (h' : sgn d = true) : fPy eqF O (.str [c]) (.str [d]) = .ok (.bl (c == d)) O := by
  unfold sgn at h h'
  simp only [Bool.or_eq_true, beq_iff_eq] at h h'
  rcases h with (rfl | rfl) | rfl <;> rcases h' with (rfl | rfl) | rfl <;> kernel_rfl
theorem range_map_get {α : Type} {n i : Nat} (f : Nat → α) : ((List.range n).map f)[i]? = if i < n then some (f i) else none := by
  rw [List.getElem?_map]
  by_cases h : i < n
  · rw [List.getElem?_range h, if_pos h]; rfl
  · rw [List.getElem?_eq_none_iff.mpr (by simpa using h), if_neg h]; rfl
theorem getD_map_get {cs : List Nat} {i : Nat} (h : i < cs.length) (g : Nat → D) : (cs.map g)[i]? = some (g (cs.getD i 0)) := by
  rw [List.getElem?_map, List.getElem?_eq_getElem h, getD_nat h]; rfl
theorem sgn_getD {n : Nat} (h1 : 1 ≤ n) (h4 : n ≤ 4) {cs : List Nat} (h : cs ∈ terms n) {i : Nat} (hi : i < n) : sgn (cs.getD i 0) = true := by
  have hl := terms_len h1 h4 h
  rw [getD_nat (by omega)]
  exact terms_sgn h1 h4 h _ (List.getElem_mem _)
theorem filt_true {α β : Type} (l : List α) (e : α → β) : (l.filter fun _ => true).map e = l.map e := by rw [List.filter_eq_self.mpr (fun _ _ => rfl)]
theorem lies_eq {n : Nat} (h1 : 1 ≤ n) (h4 : n ≤ 4) {a b : List Nat} (ha : a ∈ terms n) (hb : b ∈ terms n) (O : Ow) : F_lies_in [.str a, .str b] O = .ok (.bl (liesB n a b)) O := by
  have la := terms_len h1 h4 ha
  have lb := terms_len h1 h4 hb
  have hi : dZipW (dCons (dVar 0) (dCons (dVar 1) dNil)) [some (.str a), some (.str b)] O = .ok (.zip (.val (a.map fun c => .str [c])) (.val (b.map fun c => .str [c]))) O := by
    show (match zkD (.str a), zkD (.str b) with | some p, some q => R.ok (Src.zip p q) O | _, _ => R.bad) = _
    rw [zk_term h1 h4 ha, zk_term h1 h4 hb]
  have hc := comp_src (o := false) (ext := 2) (g := .two 2 3) (ts := []) (te := dOr (dOp (fPy eqF) (dVar 3) (dC (.str [45]))) (dOp (fPy eqF) (dVar 3) (dVar 2))) (l := List.range n) (inj := fun k => D.tup [.str [a.getD k 0], .str [b.getD k 0]]) (p := fun _ => true) (e := fun k => D.bl (b.getD k 0 == 45 || b.getD k 0 == a.getD k 0))
    (τ := fun k => [some (.str a), some (.str b), some (.str [a.getD k 0]), some (.str [b.getD k 0])]) hi (fun i => by
      rw [range_map_get]
      show (match (a.map fun c => D.str [c])[i]?, (b.map fun c => D.str [c])[i]? with | some x, some y => some (D.tup [x, y]) | _, _ => none) = _
      by_cases hi : i < n
      · rw [if_pos hi, getD_map_get (by omega) fun c => D.str [c], getD_map_get (by omega) fun c => D.str [c]]
      · rw [if_neg hi, List.getElem?_eq_none_iff.mpr (by simp; omega)]) (by
      show min (a.map fun c => D.str [c]).length (b.map fun c => D.str [c]).length = _
      simp [la, lb]) (by rw [List.length_range]; omega) (fun k _ => rfl) (fun k _ => rfl) (fun k hk _ => by
      have hk := List.mem_range.mp hk
      have s1 := sgn_getD h1 h4 ha hk
      have s2 := sgn_getD h1 h4 hb hk
      simp only [sSeq, sSet, sIf, sRet, sDrop, sNil, dVar, dC, dCons, dNil, dFn, dCall, dOp, dTst, dTru, dNotT, truD, R.bnd, R.bnS, fin, List.getElem?_cons_zero, List.getElem?_cons_succ, List.set_cons_zero, List.set_cons_succ, List.length_cons, List.length_nil, Nat.zero_add, Nat.reduceAdd, Nat.reduceLeDiff, Nat.reduceLT, if_true, if_false, Bool.not_true, Bool.not_false, Bool.false_eq_true, ite_true, ite_false, dOr, eq_sign O s2 (show sgn 45 = true from rfl), eq_sign O s2 s1]
      cases (b.getD k 0 == 45) <;> rfl)
  rw [filt_true] at hc
  show fin (B_lies_in [some (.str a), some (.str b)] O) = _
  unfold B_lies_in
  rw [sRet_eq ((dCall_eq (dCons1 hc)).trans (fAll_map' O _ _))]; rfl
theorem points_eq {n : Nat} {f : List D} (hf : Fn n f) (O : Ow) : F_points_with [.tup f, .int 1] O = .ok (.lst (((List.range (2 ^ n)).filter fun p => isOne (f.getD p .non)).map fun (p : Nat) => D.int (p : Int))) O := by
  have hpw := pow_small hf.n4
  have hi : dEnumT (dCons (dVar 0) dNil) [some (.tup f), some (.int 1)] O = .ok (.val (enumL f)) O := rfl
  have hc := comp_src (o := false) (ext := 2) (g := .two 2 3) (ts := [(dTst (dOp (fPy eqF) (dVar 3) (dVar 1)))]) (te := dVar 2) (l := List.range (2 ^ n)) (inj := fun (p : Nat) => D.tup [.int (p : Int), f.getD p .non]) (p := fun p => isOne (f.getD p .non)) (e := fun (p : Nat) => D.int (p : Int))
    (τ := fun (p : Nat) => [some (.tup f), some (.int 1), some (.int (p : Int)), some (f.getD p .non)]) hi (fun i => by
      rw [range_map_get]
      show (enumL f)[i]? = _
      rw [enumL_get]
      by_cases hi : i < 2 ^ n
      · have hif : i < f.length := by rw [hf.len]; exact hi
        rw [if_pos hi, List.getElem?_eq_getElem hif]
        show some (D.tup [.int (i : Nat), f[i]]) = _
        rw [getD_of hif]
      · rw [if_neg hi, List.getElem?_eq_none_iff.mpr (by rw [hf.len]; omega)]; rfl) (by
      show (enumL f).length = _
      unfold enumL; simp [hf.len]) (by rw [List.length_range]; omega) (fun k _ => rfl) (fun p hp => dAll_one (by
      have hp := List.mem_range.mp hp
      have hA : Ans (f.getD p .non) := by
        rw [getD_of (by rw [hf.len]; exact hp)]
        exact hf.ans _ (List.getElem_mem _)
      exact dTst_eq ((dOp_eq rfl rfl).trans (eq1 O hA)))) (fun p _ _ => rfl)
  show fin (sRet _ [some (.tup f), some (.int 1)] O) = _
  rw [sRet_eq (hc.trans rfl)]; rfl
/-! ### rising -/
theorem slice1 (O : Ow) (ds : List D) (σ : Sg) (hl : ds.length < 100000) (h0 : dVar 0 σ O = .ok (.tup ds) O) : dSlA (dVar 0) (oSome (dC (.int 1))) oNone σ O = .ok (.tup (ds.drop 1)) O := by
  show ((dVar 0 σ O).bnd _) = _
  rw [h0]
  show (if HT.sIx ds.length 0 (some 1) = 0 ∧ HT.sIx ds.length ds.length none = ds.length then R.ok (D.tup ds) O else R.ok (D.tup (cutD ds (some 1) none)) O) = _
  have e1 : HT.sIx ds.length 0 (some 1) = min 1 ds.length := HT.sIx_nat ds.length 0 1
  cases ds with
  | nil => rfl
  | cons d r =>
    have : ¬ (HT.sIx (d :: r).length 0 (some 1) = 0 ∧ HT.sIx (d :: r).length (d :: r).length none = (d :: r).length) := by
      rw [e1]; simp
    rw [if_neg this]
    unfold cutD
    rw [e1, HT.sIx_none]
    simp
theorem rising_eq {l : List (List Nat)} (hl : l.length < 10000) (hp : l.Pairwise (· < ·)) (O : Ow) : F_is_rising [.tup (l.map D.str)] O = .ok (.bl true) O := by
  have hi : dZipW (dCons (dVar 0) (dCons (dSlA (dVar 0) (oSome (dC (.int 1))) oNone) dNil)) [some (.tup (l.map D.str))] O = .ok (.zip (.val (l.map D.str)) (.val ((l.map D.str).drop 1))) O := by
    show ((dCons (dVar 0) (dCons (dSlA (dVar 0) (oSome (dC (.int 1))) oNone) dNil) _ O).bnd _) = _
    rw [dCons2 rfl (slice1 O (l.map D.str) [some (.tup (l.map D.str))] (by simp; omega) rfl)]
    rfl
  have hc := comp_src (o := false) (ext := 2) (g := .two 1 2) (ts := []) (te := dOp fLtA (dVar 1) (dVar 2)) (l := List.range (l.length - 1)) (inj := fun k => D.tup [.str (l.getD k []), .str (l.getD (k + 1) [])]) (p := fun _ => true) (e := fun k => D.bl (decide (l.getD k [] < l.getD (k + 1) [])))
    (τ := fun k => [some (.tup (l.map D.str)), some (.str (l.getD k [])), some (.str (l.getD (k + 1) []))]) hi (fun i => by
      rw [range_map_get]
      show (match (l.map D.str)[i]?, ((l.map D.str).drop 1)[i]? with | some x, some y => some (D.tup [x, y]) | _, _ => none) = _
      rw [List.getElem?_drop, List.getElem?_map, List.getElem?_map]
      by_cases hi : i < l.length - 1
      · rw [if_pos hi, List.getElem?_eq_getElem (by omega), show 1 + i = i + 1 from by omega, List.getElem?_eq_getElem (by omega)]
        show some (D.tup [.str l[i], .str l[i + 1]]) = _
        rw [List.getD_eq_getElem?_getD, List.getD_eq_getElem?_getD, List.getElem?_eq_getElem (by omega), List.getElem?_eq_getElem (by omega)]; rfl
      · rw [if_neg hi, show l[1 + i]? = none from List.getElem?_eq_none_iff.mpr (by omega)]
        cases l[i]? <;> rfl) (by
      show min (l.map D.str).length ((l.map D.str).drop 1).length = _
      simp) (by rw [List.length_range]; omega) (fun k _ => rfl) (fun k _ => rfl) (fun k hk _ => rfl)
  rw [filt_true] at hc
  show fin (sRet _ [some (.tup (l.map D.str))] O) = _
  rw [sRet_eq ((dCall_eq (dCons1 hc)).trans (fAll_map' O _ _))]
  show R.ok (D.bl _) O = _
  congr 2
  rw [List.all_eq_true]
  intro k hk
  have hk := List.mem_range.mp hk
  have := List.pairwise_iff_getElem.mp hp k (k + 1) (by omega) (by omega) (by omega)
  rw [List.getD_eq_getElem?_getD, List.getD_eq_getElem?_getD, List.getElem?_eq_getElem (by omega), List.getElem?_eq_getElem (by omega)]
  exact decide_eq_true this
theorem lt_terms {n : Nat} (h1 : 1 ≤ n) (h4 : n ≤ 4) : (terms n).Pairwise (· < ·) := by
  rcases four h1 h4 with rfl | rfl | rfl | rfl <;> decide +kernel
theorem signs_all (O : Ow) : (allT.map fun cs => F_has_term_signs [.int (cs.length : Nat), .str cs] O) = allT.map fun _ => R.ok (.bl true) O := by kernel_rfl
theorem signs_eq {n : Nat} (h1 : 1 ≤ n) (h4 : n ≤ 4) {cs : List Nat} (h : cs ∈ terms n) (O : Ow) : F_has_term_signs [.int n, .str cs] O = .ok (.bl true) O := by
  have := List.map_inj_left.mp (signs_all O) cs (terms_in h1 h4 h)
  rw [terms_len h1 h4 h] at this
  exact this
theorem rterms_eq {n : Nat} (h1 : 1 ≤ n) (h4 : n ≤ 4) {l : List (List Nat)} (hl : l.length < 10000) (hp : l.Pairwise (· < ·)) (ht : ∀ cs ∈ l, cs ∈ terms n) (O : Ow) : F_has_rising_terms [.int n, .tup (l.map D.str)] O = .ok (.bl true) O := by
  have hc := comp0 (o := false) (ext := 1) (i := 2) (it0 := dIt (dVar 1)) (σ := [some (.int n), some (.tup (l.map D.str))]) (O0 := O) (O := O) (l := l) (inj := D.str) (te := dFn 2 F_has_term_signs (dCons (dVar 0) (dCons (dVar 2) dNil))) (e := fun _ => D.bl true) (τ := fun cs => [some (.int n), some (.tup (l.map D.str)), some (.str cs)]) rfl (by omega) (fun _ => rfl) (fun cs hcs => (dFn_eq (dCons2 rfl rfl) rfl).trans (signs_eq h1 h4 (ht cs hcs) O))
  have ha := (dCall_eq (dCons1 hc)).trans (fAll_map' O l fun _ => true)
  have e1 : sIf (dNotT (dTru (dIsi "tuple" (dVar 1)))) (sRet (dC (.bl false))) sNil [some (.int n), some (.tup (l.map D.str))] O = .nx [some (.int n), some (.tup (l.map D.str))] O := rfl
  show fin (sSeq (sIf (dNotT (dTru (dIsi "tuple" (dVar 1)))) (sRet (dC (.bl false))) sNil) (sRet (dAnd _ _)) [some (.int n), some (.tup (l.map D.str))] O) = _
  rw [sSeq_nx e1]
  unfold sRet dAnd
  rw [ha]
  have hall : (l.all fun _ => true) = true := List.all_eq_true.mpr fun _ _ => rfl
  rw [hall]
  simp only [sSeq, sSet, sIf, sRet, sDrop, sNil, dVar, dC, dCons, dNil, dFn, dCall, dOp, dTst, dTru, dNotT, truD, R.bnd, R.bnS, fin, List.getElem?_cons_zero, List.getElem?_cons_succ, List.set_cons_zero, List.set_cons_succ, List.length_cons, List.length_nil, Nat.zero_add, Nat.reduceAdd, Nat.reduceLeDiff, Nat.reduceLT, if_true, if_false, Bool.not_true, Bool.not_false, Bool.false_eq_true, ite_true, ite_false, rising_eq hl hp O]
end K07

namespace K07
open PySem DL
theorem greats_terms {n : Nat} {f : List D} : ∀ cs ∈ greats n f, cs ∈ terms n := fun cs h => (greats_in.mp h).1
theorem greats_lt {n : Nat} {f : List D} (hf : Fn n f) : (greats n f).Pairwise (· < ·) := by
  unfold greats goods
  exact ((lt_terms hf.n1 hf.n4).filter _).filter _
theorem ne_nilS (O : Ow) (l : List (List Nat)) (h : ∀ cs ∈ l, cs ∈ allT) : fPy neF O (.lst (l.map D.str)) (.lst []) = .ok (.bl !l.isEmpty) O := by
  unfold fPy py
  have e : toPy O 8 (.lst (l.map D.str)) = some (.list (l.map fun cs => PyData.str ⟨cs.toArray⟩)) := by
    show (mapO (toPy O 7) (l.map D.str)).map PyData.list = _
    rw [mapO_str O 7 l h]; rfl
  rw [e]
  cases l <;> rfl
theorem in_pts {n : Nat} (h1 : 1 ≤ n) (h4 : n ≤ 4) {cs : List Nat} (h : cs ∈ terms n) (p : Nat) (O : Ow) : fIn O (.int (p : Nat)) (.lst (dInts (pts cs))) = .ok (.bl ((pts cs).contains p)) O := by
  have e : dInts (pts cs) = ((pts cs).map fun (q : Nat) => (q : Int)).map D.int := by unfold dInts; rw [List.map_map]; rfl
  rw [e, fIn_int]
  congr 2
  rw [List.any_map, Bool.eq_iff_iff, List.any_eq_true]
  simp only [Function.comp, beq_iff_eq, List.contains_iff_mem]
  constructor
  · rintro ⟨q, hq, e⟩
    have : q = p := by omega
    rw [← this]; exact hq
  · exact fun hq => ⟨p, hq, rfl⟩
theorem holding_eq {n : Nat} (h1 : 1 ≤ n) (h4 : n ≤ 4) {l : List (List Nat)} (hl : l.length < 10000) (ht : ∀ cs ∈ l, cs ∈ terms n) (p : Nat) (O : Ow) : F_terms_holding [.tup (l.map D.str), .int (p : Nat)] O = .ok (.lst ((l.filter fun cs => (pts cs).contains p).map D.str)) O := by
  have hc := comp1 (o := false) (ext := 1) (i := 2) (it0 := dIt (dVar 0)) (σ := [some (.tup (l.map D.str)), some (.int (p : Nat))]) (O0 := O) (O := O) (l := l) (inj := D.str) (t := dTst (dOp fIn (dVar 1) (dFn 1 F_points_of (dCons (dVar 2) dNil)))) (te := dVar 2) (p := fun cs => (pts cs).contains p) (e := D.str) (τ := fun cs => [some (.tup (l.map D.str)), some (.int (p : Nat)), some (.str cs)]) rfl (by omega) (fun _ => rfl) (fun cs hcs =>
    dTst_eq ((dOp_eq rfl ((dFn_eq (dCons1 rfl) rfl).trans (points_of_eq (terms_in h1 h4 (ht cs hcs)) O))).trans (in_pts h1 h4 (ht cs hcs) p O))) (fun _ _ _ => rfl)
  show fin (sRet _ [some (.tup (l.map D.str)), some (.int (p : Nat))] O) = _
  rw [sRet_eq (hc.trans rfl)]; rfl
theorem form_eq {n : Nat} {f : List D} (hf : Fn n f) (O : Ow) : F_is_form [.tup f, .tup ((greats n f).map D.str)] O = .ok (.bl true) O := by
  have hfew := greats_few hf
  have n1 := hf.n1
  have n4 := hf.n4
  have hpw := pow_small n4
  have c1 := comp0 (o := false) (ext := 1) (i := 2) (it0 := dIt (dVar 1)) (σ := [some (.tup f), some (.tup ((greats n f).map D.str))]) (O0 := O) (O := O) (l := greats n f) (inj := D.str) (te := dFn 2 F_holds_no_nought (dCons (dVar 0) (dCons (dVar 2) dNil))) (e := fun _ => D.bl true) (τ := fun cs => [some (.tup f), some (.tup ((greats n f).map D.str)), some (.str cs)]) rfl (by omega) (fun _ => rfl) (fun cs hcs => by
    obtain ⟨q1, q2, _⟩ := greats_in.mp hcs
    exact ((dFn_eq (dCons2 rfl rfl) rfl).trans (holds_eq hf q1 O)).trans (by rw [q2]))
  have a1 := (dCall_eq (dCons1 c1)).trans (fAll_map' O (greats n f) fun _ => true)
  have hall : ((greats n f).all fun _ => true) = true := List.all_eq_true.mpr fun _ _ => rfl
  rw [hall] at a1
  have hi : dIt (dFn 2 F_points_with (dCons (dVar 0) (dCons (dC (.int 1)) dNil))) [some (.tup f), some (.tup ((greats n f).map D.str))] O = .ok (.val (((List.range (2 ^ n)).filter fun p => isOne (f.getD p .non)).map fun (p : Nat) => D.int (p : Int))) O := dIt_lst ((dFn_eq (dCons2 rfl rfl) rfl).trans (points_eq hf O))
  have c2 := comp0 (o := false) (ext := 1) (i := 2) (te := dOp (fPy neF) (dFn 2 F_terms_holding (dCons (dVar 1) (dCons (dVar 2) dNil))) (dLst dNil)) (e := fun _ => D.bl true) (τ := fun (p : Nat) => [some (.tup f), some (.tup ((greats n f).map D.str)), some (.int (p : Int))]) hi (by
      have := List.length_filter_le (fun p => isOne (f.getD p .non)) (List.range (2 ^ n))
      rw [List.length_range] at this; omega) (fun _ => rfl) (fun p hp => by
    obtain ⟨hp1, hp2⟩ := List.mem_filter.mp hp
    obtain ⟨cs, q1, q2⟩ := great_holds hf (List.mem_range.mp hp1) hp2
    refine (dOp_eq ((dFn_eq (dCons2 rfl rfl) rfl).trans (holding_eq n1 n4 (by omega) greats_terms p O)) rfl).trans ((ne_nilS O _ fun x hx => terms_in n1 n4 (greats_terms x (List.mem_filter.mp hx).1)).trans ?_)
    have : ((greats n f).filter fun cs => (pts cs).contains p).isEmpty = false := by
      rw [Bool.eq_false_iff, Ne, List.isEmpty_iff, List.filter_eq_nil_iff]
      intro z
      exact z cs q1 (by simpa using q2)
    rw [this]; rfl)
  have a2 := (dCall_eq (dCons1 c2)).trans (fAll_map' O ((List.range (2 ^ n)).filter fun p => isOne (f.getD p .non)) fun _ => true)
  have hall2 : (((List.range (2 ^ n)).filter fun p => isOne (f.getD p .non)).all fun _ => true) = true := List.all_eq_true.mpr fun _ _ => rfl
  rw [hall2] at a2
  let σ : Sg := [some (.tup f), some (.tup ((greats n f).map D.str))]
  have e1 : sDrop (dFn 1 F_need_function (dCons (dVar 0) dNil)) σ O = .nx σ O := by simp only [sSeq, sSet, sIf, sRet, sDrop, sNil, dVar, dC, dCons, dNil, dFn, dCall, dOp, dTst, dTru, dNotT, truD, R.bnd, R.bnS, fin, List.getElem?_cons_zero, List.getElem?_cons_succ, List.set_cons_zero, List.set_cons_succ, List.length_cons, List.length_nil, Nat.zero_add, Nat.reduceAdd, Nat.reduceLeDiff, Nat.reduceLT, if_true, if_false, Bool.not_true, Bool.not_false, Bool.false_eq_true, ite_true, ite_false, σ, need_eq hf O]
  have e2 : sIf (dNotT (dTru (dFn 2 F_has_rising_terms (dCons (dFn 1 F_switches_of (dCons (dVar 0) dNil)) (dCons (dVar 1) dNil))))) (sRet (dC (.bl false))) sNil σ O = .nx σ O := by
    simp only [sSeq, sSet, sIf, sRet, sDrop, sNil, dVar, dC, dCons, dNil, dFn, dCall, dOp, dTst, dTru, dNotT, truD, R.bnd, R.bnS, fin, List.getElem?_cons_zero, List.getElem?_cons_succ, List.set_cons_zero, List.set_cons_succ, List.length_cons, List.length_nil, Nat.zero_add, Nat.reduceAdd, Nat.reduceLeDiff, Nat.reduceLT, if_true, if_false, Bool.not_true, Bool.not_false, Bool.false_eq_true, ite_true, ite_false, σ, switches_eq hf O, rterms_eq n1 n4 (l := greats n f) (by omega) (greats_lt hf) greats_terms O]
  have e3 : sIf (dNotT (dTru (dCall fAll (dCons (dComp false 1 (dIt (dVar 1)) (.one 2) [] [] (dFn 2 F_holds_no_nought (dCons (dVar 0) (dCons (dVar 2) dNil)))) dNil)))) (sRet (dC (.bl false))) sNil σ O = .nx σ O := by
    rw [sIf_eq (dNotT_eq (dTru_bl a1))]; rfl
  show fin (sSeq _ (sSeq _ (sSeq _ _)) σ O) = _
  rw [sSeq_nx e1, sSeq_nx e2, sSeq_nx e3, sRet_eq a2]; rfl
theorem has_one_eq {n : Nat} {f : List D} (hf : Fn n f) {cs : List Nat} (h : cs ∈ terms n) (O : Ow) : F__law_has_one [.tup f, .str cs] O = .ok (.bl (oneB f cs)) O := by
  have hA := terms_in hf.n1 hf.n4 h
  have hl := terms_len hf.n1 hf.n4 h
  have i1 : dIt (dFn 1 F_points_of (dCons (dVar 1) dNil)) [some (.tup f), some (.str cs)] O = .ok (.val (dInts (pts cs))) O := dIt_lst ((dFn_eq (dCons1 rfl) rfl).trans (points_of_eq hA O))
  have c1 := comp1 (o := false) (ext := 1) (i := 2) (t := dTst (dOp (fPy eqF) (dOp fIx (dVar 0) (dVar 2)) (dC (.int 1)))) (te := dVar 2) (p := fun p => isOne (f.getD p .non)) (e := fun (p : Nat) => D.int (p : Int)) (τ := fun (p : Nat) => [some (.tup f), some (.str cs), some (.int (p : Int))]) i1 (by have := pts_len hA; omega) (fun _ => rfl) (fun q hq => by
    have hlt : q < f.length := by rw [hf.len, ← hl]; exact pts_lt hA hq
    refine dTst_eq ((dOp_eq ((dOp_eq rfl rfl).trans (fIx_tup (i := q) hlt)) rfl).trans ((eq1 O (hf.ans _ (List.getElem_mem hlt))).trans ?_))
    rw [getD_of hlt]) (fun _ _ _ => rfl)
  have e : ((pts cs).filter fun p => isOne (f.getD p .non)).map (fun (p : Nat) => D.int (p : Int)) = ((ones f cs).map fun (p : Nat) => (p : Int)).map D.int := by rw [List.map_map]; rfl
  rw [e] at c1
  show fin (sRet _ [some (.tup f), some (.str cs)] O) = _
  rw [sRet_eq ((dOp_eq c1 rfl).trans (ne_nilI O _)), ones_any, List.isEmpty_map]; rfl
/-! ### one point free -/
theorem answered_eq {n : Nat} {f : List D} (hf : Fn n f) {O : Ow} {m : Nat} {s : Int} {b : Bool} (h : StAt O m s b) :
    ∃ k s', k < f.length ∧ F__law_answered [.own m, .tup f, .lst [.non]] O = .ok (.tup (f.set k .non)) (O.set m [.int s', .bl b]) ∧ StAt (O.set m [.int s', .bl b]) m s' b := by
  have hpw := pow_small hf.n4
  have hfl := hf.len
  have hp1 := pow_pos' n
  obtain ⟨k, s1, k1, e1, h1⟩ := take_eq h (k := f.length) (by omega) (by omega)
  obtain ⟨r, s2, r1, e2, h2⟩ := take_eq h1 (k := 1) (by decide) (by decide)
  rw [List.set_set] at e2 h2
  have r0 : r = 0 := by omega
  subst r0
  refine ⟨k, s2, k1, ?_, h2⟩
  let O1 := O.set m [D.int s1, D.bl b]
  let O2 := O.set m [D.int s2, D.bl b]
  have a1 : sSet 3 (dFn 2 F__law_take (dCons (dVar 0) (dCons (dCall fLen (dCons (dVar 1) dNil)) dNil))) [some (.own m), some (.tup f), some (.lst [.non]), none] O = .nx [some (.own m), some (.tup f), some (.lst [.non]), some (.int (k : Int))] O1 := sSet_eq ((dFn_eq (dCons2 rfl ((dCall_eq (dCons1 rfl)).trans (fLen_tup O f))) rfl).trans e1)
  have e : HT.sIx f.length f.length (some (k : Int)) = min k f.length := HT.sIx_nat _ _ k
  have b1 : dSlA (dVar 1) oNone (oSome (dVar 3)) [some (.own m), some (.tup f), some (.lst [.non]), some (.int (k : Int))] O1 = .ok (.tup (f.take k)) O1 := by
    show (if HT.sIx f.length 0 none = 0 ∧ HT.sIx f.length f.length (some (k : Int)) = f.length then R.ok (D.tup f) O1 else R.ok (D.tup (cutD f none (some (k : Int)))) O1) = _
    rw [if_neg (by rw [e]; omega)]
    unfold cutD
    rw [HT.sIx_none, e, Nat.min_eq_left (by omega)]; rfl
  have b2 : dTup (dCons (dOp fIx (dVar 2) (dFn 2 F__law_take (dCons (dVar 0) (dCons (dCall fLen (dCons (dVar 2) dNil)) dNil)))) dNil) [some (.own m), some (.tup f), some (.lst [.non]), some (.int (k : Int))] O1 = .ok (.tup [.non]) O2 := by
    have q : dOp fIx (dVar 2) (dFn 2 F__law_take (dCons (dVar 0) (dCons (dCall fLen (dCons (dVar 2) dNil)) dNil))) [some (.own m), some (.tup f), some (.lst [.non]), some (.int (k : Int))] O1 = .ok .non O2 := (dOp_eq rfl ((dFn_eq (dCons2 rfl ((dCall_eq (dCons1 rfl)).trans rfl)) rfl).trans e2)).trans rfl
    show ((dCons _ dNil _ O1).bnd _) = _
    rw [dCons1 q]; rfl
  have e' : HT.sIx f.length 0 (some ((k + 1 : Nat) : Int)) = min (k + 1) f.length := HT.sIx_nat _ _ (k + 1)
  have b3 : dSlA (dVar 1) (oSome (dOp fAddA (dVar 3) (dC (.int 1)))) oNone [some (.own m), some (.tup f), some (.lst [.non]), some (.int (k : Int))] O2 = .ok (.tup (f.drop (k + 1))) O2 := by
    show (if HT.sIx f.length 0 (some ((k + 1 : Nat) : Int)) = 0 ∧ HT.sIx f.length f.length none = f.length then R.ok (D.tup f) O2 else R.ok (D.tup (cutD f (some ((k + 1 : Nat) : Int)) none)) O2) = _
    rw [if_neg (by rw [e']; omega)]
    unfold cutD
    rw [HT.sIx_none, e', Nat.min_eq_left (by omega), List.take_of_length_le (by rw [List.length_drop]; exact Nat.le_refl _)]
  have b4 : fAddA O2 (.tup (f.take k)) (.tup [.non]) = .ok (.tup (f.take k ++ [.non])) O2 := by
    cases hx : f.take k with
    | nil => rfl
    | cons d ds =>
      show (if d :: ds ≠ [] ∧ (d :: ds).length + 1 ≤ 100000 then R.ok (D.tup (d :: ds ++ [.non])) O2 else R.bad) = _
      have : (d :: ds).length ≤ k := by rw [← hx]; exact List.length_take_le k f
      rw [if_pos ⟨by simp, by omega⟩]
  have b5 : fAddA O2 (.tup (f.take k ++ [.non])) (.tup (f.drop (k + 1))) = .ok (.tup (f.set k .non)) O2 := by
    have hs : f.set k .non = (f.take k ++ [.non]) ++ f.drop (k + 1) := by
      rw [List.set_eq_take_append_cons_drop, if_pos k1, List.append_assoc]; rfl
    cases hx : f.take k ++ [.non] with
    | nil => simp at hx
    | cons d ds =>
      show (if d :: ds ≠ [] ∧ (d :: ds).length + (f.drop (k + 1)).length ≤ 100000 then R.ok (D.tup (d :: ds ++ f.drop (k + 1))) O2 else R.bad) = _
      have q1 : (d :: ds).length ≤ k + 1 := by rw [← hx]; have := List.length_take_le k f; simp; omega
      have q2 : (f.drop (k + 1)).length ≤ f.length := by rw [List.length_drop]; omega
      rw [if_pos ⟨by simp, by omega⟩, hs, hx]
  show fin (sSeq _ (sRet _) [some (.own m), some (.tup f), some (.lst [.non]), none] O) = _
  rw [sSeq_nx a1, sRet_eq ((dOp_eq ((dOp_eq b1 b2).trans b4) b3).trans b5)]; rfl

end K07

namespace K07
open PySem DL
theorem toPy_term (O : Ow) {x : List Nat} (h : x ∈ allT) : toPy O 8 (.str x) = some (.str ⟨x.toArray⟩) := by
  have := mapO_str O 8 [x] (by intro cs h'; have : cs = x := by simpa using h'
                               subst this; exact h)
  have h2 : mapO (toPy O 8) [D.str x] = some [PyData.str ⟨x.toArray⟩] := this
  unfold mapO at h2
  split at h2
  · rename_i p ps e3 e4
    rw [e3]
    cases h2
    rfl
  · cases h2
theorem eqv_str (a b : List Nat) : PyData.eqv (.str ⟨a.toArray⟩) (.str ⟨b.toArray⟩) = (a == b) := by
  rw [Bool.eq_iff_iff]
  simp [PyData.eqv]
theorem ne_strs (O : Ow) {a b : List Nat} (ha : a ∈ allT) (hb : b ∈ allT) : fPy neF O (.str a) (.str b) = .ok (.bl (a != b)) O := by
  unfold fPy py
  rw [toPy_term O ha, toPy_term O hb]
  show R.ok (D.bl (!PyData.eqv (.str ⟨a.toArray⟩) (.str ⟨b.toArray⟩))) O = _
  rw [eqv_str]; rfl
theorem in_strs (O : Ow) {x : List Nat} (hx : x ∈ allT) {l : List (List Nat)} (hl : ∀ cs ∈ l, cs ∈ allT) : fPy inF O (.str x) (.lst (l.map D.str)) = .ok (.bl (l.contains x)) O := by
  unfold fPy py
  have e : toPy O 8 (.lst (l.map D.str)) = some (.list (l.map fun cs => PyData.str ⟨cs.toArray⟩)) := by
    show (mapO (toPy O 7) (l.map D.str)).map PyData.list = _
    rw [mapO_str O 7 l hl]; rfl
  rw [toPy_term O hx, e]
  show R.ok (D.bl ((l.map fun cs => PyData.str ⟨cs.toArray⟩).any fun y => PyData.eqv y (.str ⟨x.toArray⟩))) O = _
  congr 2
  rw [List.any_map, Bool.eq_iff_iff, List.any_eq_true]
  simp only [Function.comp, eqv_str, beq_iff_eq, List.contains_iff_mem]
  exact ⟨fun ⟨q, h1, h2⟩ => h2 ▸ h1, fun h => ⟨x, h, rfl⟩⟩
theorem nin_strs (O : Ow) {x : List Nat} (hx : x ∈ allT) {l : List (List Nat)} (hl : ∀ cs ∈ l, cs ∈ allT) : fNin O (.str x) (.lst (l.map D.str)) = .ok (.bl (!l.contains x)) O := by
  show fPy ninF O (.str x) (.lst (l.map D.str)) = _
  unfold fPy py
  have e : toPy O 8 (.lst (l.map D.str)) = some (.list (l.map fun cs => PyData.str ⟨cs.toArray⟩)) := by
    show (mapO (toPy O 7) (l.map D.str)).map PyData.list = _
    rw [mapO_str O 7 l hl]; rfl
  rw [toPy_term O hx, e]
  show R.ok (D.bl (!(l.map fun cs => PyData.str ⟨cs.toArray⟩).any fun y => PyData.eqv y (.str ⟨x.toArray⟩))) O = _
  congr 3
  rw [List.any_map, Bool.eq_iff_iff, List.any_eq_true]
  simp only [Function.comp, eqv_str, beq_iff_eq, List.contains_iff_mem]
  exact ⟨fun ⟨q, h1, h2⟩ => h2 ▸ h1, fun h => ⟨x, h, rfl⟩⟩
theorem ne_bl (O : Ow) (b : Bool) : fPy neF O (.bl b) (.bl b) = .ok (.bl false) O := by cases b <;> kernel_rfl
def bodyA : DS := sSeq (sIf (dOrT (dTst (dOp fNin (dVar 3) (dVar 2))) (dNotT (dTru (dFn 2 F__law_has_one (dCons (dVar 0) (dCons (dVar 3) dNil)))))) (sRet (dC (.bl false))) sNil) (sSeq (sIf (dTst (dOp (fPy neF) (dFn 2 F_widened (dCons (dVar 0) (dCons (dVar 3) dNil))) (dVar 3))) (sRet (dC (.bl false))) sNil) (sIf (dTst (dOp (fPy neF) (dComp false 1 (dIt (dVar 1)) (.one 5) [(dAndT (dTst (dOp (fPy neF) (dVar 5) (dVar 3))) (dTru (dFn 2 F_lies_in (dCons (dVar 3) (dCons (dVar 5) dNil)))))] [] (dVar 5)) (dLst dNil))) (sRet (dC (.bl false))) sNil))
theorem bodyA_eq {n : Nat} {f : List D} (hf : Fn n f) {cs : List Nat} (h : cs ∈ greats n f) (O : Ow) (y4 : Option D) :
    bodyA [some (.tup f), some (.lst ((greats n f).map .str)), some (.lst ((goods n f).map .str)), some (.str cs), y4] O = .nx [some (.tup f), some (.lst ((greats n f).map .str)), some (.lst ((goods n f).map .str)), some (.str cs), y4] O := by
  obtain ⟨h1, h2, h3, h4⟩ := greats_in.mp h
  have n1 := hf.n1
  have n4 := hf.n4
  have hA := terms_in n1 n4 h1
  have hall : ∀ o ∈ greats n f, o ∈ allT := fun o ho => terms_in n1 n4 (greats_terms o ho)
  let σ : Sg := [some (.tup f), some (.lst ((greats n f).map .str)), some (.lst ((goods n f).map .str)), some (.str cs), y4]
  have hin : (goods n f).contains cs = true := by
    have : cs ∈ goods n f := List.mem_filter.mpr ⟨h1, h2⟩
    simpa using this
  have e1 : sIf (dOrT (dTst (dOp fNin (dVar 3) (dVar 2))) (dNotT (dTru (dFn 2 F__law_has_one (dCons (dVar 0) (dCons (dVar 3) dNil)))))) (sRet (dC (.bl false))) sNil σ O = .nx σ O := by
    simp only [sSeq, sSet, sIf, sRet, sDrop, sNil, dVar, dC, dCons, dNil, dFn, dCall, dOp, dTst, dTru, dNotT, truD, R.bnd, R.bnS, fin, List.getElem?_cons_zero, List.getElem?_cons_succ, List.set_cons_zero, List.set_cons_succ, List.length_cons, List.length_nil, Nat.zero_add, Nat.reduceAdd, Nat.reduceLeDiff, Nat.reduceLT, if_true, if_false, Bool.not_true, Bool.not_false, Bool.false_eq_true, ite_true, ite_false, σ, dOrT, nin_strs O hA (goods_all hf), hin, has_one_eq hf h1 O, h3]
  have e2 : sIf (dTst (dOp (fPy neF) (dFn 2 F_widened (dCons (dVar 0) (dCons (dVar 3) dNil))) (dVar 3))) (sRet (dC (.bl false))) sNil σ O = .nx σ O := by
    simp only [sSeq, sSet, sIf, sRet, sDrop, sNil, dVar, dC, dCons, dNil, dFn, dCall, dOp, dTst, dTru, dNotT, truD, R.bnd, R.bnS, fin, List.getElem?_cons_zero, List.getElem?_cons_succ, List.set_cons_zero, List.set_cons_succ, List.length_cons, List.length_nil, Nat.zero_add, Nat.reduceAdd, Nat.reduceLeDiff, Nat.reduceLT, if_true, if_false, Bool.not_true, Bool.not_false, Bool.false_eq_true, ite_true, ite_false, σ, widened_eq hf h1 h2 O, wide_self (terms_len n1 n4 h1) h4 n (Nat.le_refl _), ne_self hA O]
  have c1 := comp1 (o := false) (ext := 1) (i := 5) (it0 := dIt (dVar 1)) (σ := σ) (O0 := O) (O := O) (l := greats n f) (inj := D.str) (t := dAndT (dTst (dOp (fPy neF) (dVar 5) (dVar 3))) (dTru (dFn 2 F_lies_in (dCons (dVar 3) (dCons (dVar 5) dNil))))) (te := dVar 5) (p := fun _ => false) (e := D.str)
    (τ := fun o => [some (.tup f), some (.lst ((greats n f).map .str)), some (.lst ((goods n f).map .str)), some (.str cs), y4, some (.str o)]) rfl (by have := greats_few hf; omega) (fun _ => rfl) (fun o ho => by
      have q := dAndT_eq (c := dTst (dOp (fPy neF) (dVar 5) (dVar 3))) (d := dTru (dFn 2 F_lies_in (dCons (dVar 3) (dCons (dVar 5) dNil)))) (σ := [some (.tup f), some (.lst ((greats n f).map .str)), some (.lst ((goods n f).map .str)), some (.str cs), y4, some (.str o)]) (O := O) (dTst_eq ((dOp_eq rfl rfl).trans (ne_strs O (hall o ho) hA))) fun _ => dTru_bl ((dFn_eq (dCons2 rfl rfl) rfl).trans (lies_eq n1 n4 h1 (greats_terms o ho) O))
      rw [q]
      by_cases ho' : o = cs
      · subst ho'; simp
      · rw [great_alone hf h ho ho', Bool.and_false]) (fun _ _ _ => rfl)
  have hnil : (greats n f).filter (fun _ => false) = [] := List.filter_eq_nil_iff.mpr fun _ _ => by simp
  rw [hnil] at c1
  have e3 : sIf (dTst (dOp (fPy neF) (dComp false 1 (dIt (dVar 1)) (.one 5) [(dAndT (dTst (dOp (fPy neF) (dVar 5) (dVar 3))) (dTru (dFn 2 F_lies_in (dCons (dVar 3) (dCons (dVar 5) dNil)))))] [] (dVar 5)) (dLst dNil))) (sRet (dC (.bl false))) sNil σ O = .nx σ O := by
    rw [sIf_eq (dTst_eq ((dOp_eq c1 rfl).trans (ne_nilS O [] (by simp))))]; rfl
  unfold bodyA
  show sSeq _ (sSeq _ _) σ O = .nx σ O
  rw [sSeq_nx e1, sSeq_nx e2, e3]
def bodyC : DS := sSeq (sSet 4 (dFn 2 F_widened (dCons (dVar 0) (dCons (dVar 3) dNil)))) (sSeq (sIf (dOrT (dNotT (dTru (dFn 2 F_lies_in (dCons (dVar 3) (dCons (dVar 4) dNil))))) (dNotT (dTru (dFn 2 F_is_good (dCons (dVar 0) (dCons (dVar 4) dNil)))))) (sRet (dC (.bl false))) sNil) (sIf (dTst (dOp (fPy neF) (dOp fIn (dVar 4) (dVar 1)) (dFn 2 F__law_has_one (dCons (dVar 0) (dCons (dVar 4) dNil))))) (sRet (dC (.bl false))) sNil))
theorem bodyC_eq {n : Nat} {f : List D} (hf : Fn n f) {cs : List Nat} (h : cs ∈ goods n f) (O : Ow) (y4 : Option D) :
    bodyC [some (.tup f), some (.lst ((greats n f).map .str)), some (.lst ((goods n f).map .str)), some (.str cs), y4] O = .nx [some (.tup f), some (.lst ((greats n f).map .str)), some (.lst ((goods n f).map .str)), some (.str cs), some (.str (wide f cs n))] O := by
  obtain ⟨h1, h2⟩ := goods_in h
  have n1 := hf.n1
  have n4 := hf.n4
  have hW := wide_terms hf h1 n
  have hall : ∀ o ∈ greats n f, o ∈ allT := fun o ho => terms_in n1 n4 (greats_terms o ho)
  let σ : Sg := [some (.tup f), some (.lst ((greats n f).map .str)), some (.lst ((goods n f).map .str)), some (.str cs), some (.str (wide f cs n))]
  have e0 : sSet 4 (dFn 2 F_widened (dCons (dVar 0) (dCons (dVar 3) dNil))) [some (.tup f), some (.lst ((greats n f).map .str)), some (.lst ((goods n f).map .str)), some (.str cs), y4] O = .nx σ O := sSet_eq ((dFn_eq (dCons2 rfl rfl) rfl).trans (widened_eq hf h1 h2 O))
  have e1 : sIf (dOrT (dNotT (dTru (dFn 2 F_lies_in (dCons (dVar 3) (dCons (dVar 4) dNil))))) (dNotT (dTru (dFn 2 F_is_good (dCons (dVar 0) (dCons (dVar 4) dNil)))))) (sRet (dC (.bl false))) sNil σ O = .nx σ O := by
    simp only [sSeq, sSet, sIf, sRet, sDrop, sNil, dVar, dC, dCons, dNil, dFn, dCall, dOp, dTst, dTru, dNotT, truD, R.bnd, R.bnS, fin, List.getElem?_cons_zero, List.getElem?_cons_succ, List.set_cons_zero, List.set_cons_succ, List.length_cons, List.length_nil, Nat.zero_add, Nat.reduceAdd, Nat.reduceLeDiff, Nat.reduceLT, if_true, if_false, Bool.not_true, Bool.not_false, Bool.false_eq_true, ite_true, ite_false, σ, dOrT, lies_eq n1 n4 h1 hW O, wide_lies n f cs n, is_good_eq hf hW O, wide_good h2 n]
  have hc : (greats n f).contains (wide f cs n) = oneB f (wide f cs n) := by
    rw [Bool.eq_iff_iff, List.contains_iff_mem]
    exact wide_great hf h1 h2
  have hin : fIn O (.str (wide f cs n)) (.lst ((greats n f).map D.str)) = .ok (.bl (oneB f (wide f cs n))) O := by
    show fPy inF O (.str (wide f cs n)) (.lst ((greats n f).map D.str)) = _
    rw [in_strs O (terms_in n1 n4 hW) hall, hc]
  have e2 : sIf (dTst (dOp (fPy neF) (dOp fIn (dVar 4) (dVar 1)) (dFn 2 F__law_has_one (dCons (dVar 0) (dCons (dVar 4) dNil))))) (sRet (dC (.bl false))) sNil σ O = .nx σ O := by
    simp only [sSeq, sSet, sIf, sRet, sDrop, sNil, dVar, dC, dCons, dNil, dFn, dCall, dOp, dTst, dTru, dNotT, truD, R.bnd, R.bnS, fin, List.getElem?_cons_zero, List.getElem?_cons_succ, List.set_cons_zero, List.set_cons_succ, List.length_cons, List.length_nil, Nat.zero_add, Nat.reduceAdd, Nat.reduceLeDiff, Nat.reduceLT, if_true, if_false, Bool.not_true, Bool.not_false, Bool.false_eq_true, ite_true, ite_false, σ, hin, has_one_eq hf hW O, ne_bl]
  unfold bodyC
  rw [sSeq_nx e0, sSeq_nx e1, e2]
theorem right_eq {n : Nat} {f : List D} (hf : Fn n f) (O : Ow) : F__law_right [.tup f] O = .ok (.bl true) O := by
  have e0 : sPar 1 2 (dCons (dFn 1 F_greatest (dCons (dVar 0) dNil)) (dCons (dFn 1 F_good_terms (dCons (dVar 0) dNil)) dNil)) [some (.tup f), none, none, none, none] O = .nx [some (.tup f), some (.lst ((greats n f).map .str)), some (.lst ((goods n f).map .str)), none, none] O := by
    unfold sPar
    simp only [sSeq, sSet, sIf, sRet, sDrop, sNil, dVar, dC, dCons, dNil, dFn, dCall, dOp, dTst, dTru, dNotT, truD, R.bnd, R.bnS, fin, List.getElem?_cons_zero, List.getElem?_cons_succ, List.set_cons_zero, List.set_cons_succ, List.length_cons, List.length_nil, Nat.zero_add, Nat.reduceAdd, Nat.reduceLeDiff, Nat.reduceLT, if_true, if_false, Bool.not_true, Bool.not_false, Bool.false_eq_true, ite_true, ite_false, greatest_eq hf O, good_terms_eq hf O]
  obtain ⟨σ1, O1, l1, y3, y4, rfl, rfl⟩ := for_of (it := dIt (dVar 1)) (i := 3) (body := bodyA) (σ := [some (.tup f), some (.lst ((greats n f).map .str)), some (.lst ((goods n f).map .str)), none, none]) (O0 := O) (O := O) (l := greats n f) (inj := D.str) rfl (fun _ σ O' => ∃ y3 y4, σ = [some (.tup f), some (.lst ((greats n f).map .str)), some (.lst ((goods n f).map .str)), y3, y4] ∧ O' = O) (fun _ cs σ O' hk hI => by
    obtain ⟨y3, y4, rfl, rfl⟩ := hI
    exact ⟨_, _, bodyA_eq hf (List.mem_of_getElem? hk) _ y4, _, _, rfl, rfl⟩) ⟨none, none, rfl, rfl⟩
  obtain ⟨σ2, O2, l2, z3, z4, rfl, rfl⟩ := for_of (it := dIt (dVar 2)) (i := 3) (body := bodyC) (σ := [some (.tup f), some (.lst ((greats n f).map .str)), some (.lst ((goods n f).map .str)), y3, y4]) (O0 := O1) (O := O1) (l := goods n f) (inj := D.str) rfl (fun _ σ O' => ∃ y3 y4, σ = [some (.tup f), some (.lst ((greats n f).map .str)), some (.lst ((goods n f).map .str)), y3, y4] ∧ O' = O1) (fun _ cs σ O' hk hI => by
    obtain ⟨y3, y4, rfl, rfl⟩ := hI
    exact ⟨_, _, bodyC_eq hf (List.mem_of_getElem? hk) _ y4, _, _, rfl, rfl⟩) ⟨y3, y4, rfl, rfl⟩
  have e3 : dOp fIsB (dFn 2 F_is_form (dCons (dVar 0) (dCons (dCall fTuple (dCons (dVar 1) dNil)) dNil))) (dC (.bl true)) [some (.tup f), some (.lst ((greats n f).map .str)), some (.lst ((goods n f).map .str)), z3, z4] O2 = .ok (.bl true) O2 :=
    (dOp_eq ((dFn_eq (dCons2 rfl ((dCall_eq (dCons1 rfl)).trans rfl)) rfl).trans (form_eq hf O2)) rfl).trans rfl
  show fin (sSeq (sPar 1 2 _) (sSeq (sFor (dIt (dVar 1)) (.one 3) bodyA) (sSeq (sFor (dIt (dVar 2)) (.one 3) bodyC) (sRet _))) [some (.tup f), none, none, none, none] O2) = _
  rw [sSeq_nx e0, sSeq_nx l1, sSeq_nx l2, sRet_eq e3]; rfl
def bodyE : DS := sIf (dAndT (dTst (dOp (fPy eqF) (dComp false 1 (dIt (dVar 5)) (.one 7) [(dTru (dFn 2 F_lies_in (dCons (dVar 6) (dCons (dVar 7) dNil))))] [] (dVar 7)) (dLst dNil))) (dTru (dFn 2 F__law_has_one (dCons (dVar 4) (dCons (dVar 6) dNil))))) (sRet (dC (.bl false))) sNil
theorem bodyE_eq {n : Nat} {f : List D} (hf : Fn n f) (k : Nat) {cs : List Nat} (h : cs ∈ greats n f) (O : Ow) {a b c d : Option D} :
    bodyE [a, b, c, d, some (.tup (f.set k .non)), some (.lst ((greats n (f.set k .non)).map .str)), some (.str cs)] O = .nx [a, b, c, d, some (.tup (f.set k .non)), some (.lst ((greats n (f.set k .non)).map .str)), some (.str cs)] O := by
  have hf' := fn_set hf k
  have n1 := hf.n1
  have n4 := hf.n4
  have h1 := greats_terms cs h
  let σ : Sg := [a, b, c, d, some (.tup (f.set k .non)), some (.lst ((greats n (f.set k .non)).map .str)), some (.str cs)]
  have c1 := comp1 (o := false) (ext := 1) (i := 7) (it0 := dIt (dVar 5)) (σ := σ) (O0 := O) (O := O) (l := greats n (f.set k .non)) (inj := D.str) (t := dTru (dFn 2 F_lies_in (dCons (dVar 6) (dCons (dVar 7) dNil)))) (te := dVar 7) (p := fun o => liesB n cs o) (e := D.str) (τ := fun o => [a, b, c, d, some (.tup (f.set k .non)), some (.lst ((greats n (f.set k .non)).map .str)), some (.str cs), some (.str o)]) rfl (by have := greats_few hf'; omega) (fun _ => rfl) (fun o ho => dTru_bl ((dFn_eq (dCons2 rfl rfl) rfl).trans (lies_eq n1 n4 h1 (greats_terms o ho) O))) (fun _ _ _ => rfl)
  have t1 := dAndT_eq (c := dTst (dOp (fPy eqF) (dComp false 1 (dIt (dVar 5)) (.one 7) [(dTru (dFn 2 F_lies_in (dCons (dVar 6) (dCons (dVar 7) dNil))))] [] (dVar 7)) (dLst dNil))) (d := dTru (dFn 2 F__law_has_one (dCons (dVar 4) (dCons (dVar 6) dNil)))) (σ := σ) (O := O) (dTst_eq ((dOp_eq c1 rfl).trans (eq_nilS O _ fun o ho => terms_in n1 n4 (greats_terms o (List.mem_filter.mp ho).1)))) fun _ => dTru_bl ((dFn_eq (dCons2 rfl rfl) rfl).trans (has_one_eq hf' h1 O))
  have hfalse : (((greats n (f.set k .non)).filter fun o => liesB n cs o).isEmpty && oneB (f.set k .non) cs) = false := by
    cases ho : oneB (f.set k .non) cs with
    | false => rw [Bool.and_false]
    | true =>
      obtain ⟨w, w1, w2⟩ := great_later hf k h ho
      have : ((greats n (f.set k .non)).filter fun o => liesB n cs o).isEmpty = false := by
        rw [Bool.eq_false_iff, Ne, List.isEmpty_iff, List.filter_eq_nil_iff]
        exact fun z => z w w1 w2
      rw [this]; rfl
  rw [hfalse] at t1
  unfold bodyE
  show sIf _ _ _ σ O = .nx σ O
  rw [sIf_eq t1]; rfl
def bodyK : DS := sSeq (sSet 2 (dFn 2 F__law_state (dCons (dVar 0) (dCons (dVar 1) dNil)))) (sSeq (sSet 3 (dFn 1 F__law_function (dCons (dVar 2) dNil))) (sSeq (sSet 4 (dFn 3 F__law_answered (dCons (dVar 2) (dCons (dVar 3) (dCons (dLst (dCons (dC .non) dNil)) dNil))))) (sSeq (sIf (dOrT (dNotT (dTru (dFn 1 F__law_right (dCons (dVar 3) dNil)))) (dNotT (dTru (dFn 1 F__law_right (dCons (dVar 4) dNil))))) (sRet (dC (.bl false))) sNil) (sSeq (sSet 5 (dFn 1 F_greatest (dCons (dVar 4) dNil))) (sFor (dIt (dFn 1 F_greatest (dCons (dVar 3) dNil))) (.one 6) bodyE)))))
theorem bodyK_eq {ns : List Int} {k : Nat} {O : Ow} (hO : Flat O) {y2 y3 y4 y5 y6 : Option D} :
    ∃ z2 z3 z4 z5 z6 O', bodyK [some (.lst (ns.map .int)), some (.int (k : Int)), y2, y3, y4, y5, y6] O = .nx [some (.lst (ns.map .int)), some (.int (k : Int)), z2, z3, z4, z5, z6] O' ∧ Flat O' := by
  obtain ⟨s, b, s1, s2⟩ := state_eq (ns := ns) (k := k) O
  have fl1 : Flat (O ++ [[.int s, .bl b]]) := flat_one hO fun d hd => by
    simp only [List.mem_cons, List.not_mem_nil, or_false] at hd
    rcases hd with rfl | rfl <;> rfl
  obtain ⟨n, f, s', hf, f1, f2⟩ := function_eq fl1 s2
  have fl2 := flat_set fl1 O.length s' b
  generalize hO1 : O ++ [[D.int s, D.bl b]] = O1 at *
  generalize hO2 : O1.set O.length [D.int s', D.bl b] = O2 at *
  generalize hm : O.length = m at *
  obtain ⟨p, s3, hp, a1, a2⟩ := answered_eq hf f2
  have fl3 := flat_set fl2 m s3 b
  generalize hO3 : O2.set m [D.int s3, D.bl b] = O3 at *
  let A : Option D := some (.lst (ns.map .int))
  let B : Option D := some (.int (k : Int))
  let f' := f.set p .non
  have hf' : Fn n f' := fn_set hf p
  have e1 : sSet 2 (dFn 2 F__law_state (dCons (dVar 0) (dCons (dVar 1) dNil))) [A, B, y2, y3, y4, y5, y6] O = .nx [A, B, some (.own m), y3, y4, y5, y6] O1 := sSet_eq ((dFn_eq (dCons2 rfl rfl) rfl).trans s1)
  have e2 : sSet 3 (dFn 1 F__law_function (dCons (dVar 2) dNil)) [A, B, some (.own m), y3, y4, y5, y6] O1 = .nx [A, B, some (.own m), some (.tup f), y4, y5, y6] O2 := sSet_eq ((dFn_eq (dCons1 rfl) rfl).trans f1)
  have e3 : sSet 4 (dFn 3 F__law_answered (dCons (dVar 2) (dCons (dVar 3) (dCons (dLst (dCons (dC .non) dNil)) dNil)))) [A, B, some (.own m), some (.tup f), y4, y5, y6] O2 = .nx [A, B, some (.own m), some (.tup f), some (.tup f'), y5, y6] O3 := sSet_eq ((dFn_eq (dCons_eq rfl (dCons2 rfl rfl)) rfl).trans a1)
  have e4 : sIf (dOrT (dNotT (dTru (dFn 1 F__law_right (dCons (dVar 3) dNil)))) (dNotT (dTru (dFn 1 F__law_right (dCons (dVar 4) dNil))))) (sRet (dC (.bl false))) sNil [A, B, some (.own m), some (.tup f), some (.tup f'), y5, y6] O3 = .nx [A, B, some (.own m), some (.tup f), some (.tup f'), y5, y6] O3 := by
    simp only [sSeq, sSet, sIf, sRet, sDrop, sNil, dVar, dC, dCons, dNil, dFn, dCall, dOp, dTst, dTru, dNotT, truD, R.bnd, R.bnS, fin, List.getElem?_cons_zero, List.getElem?_cons_succ, List.set_cons_zero, List.set_cons_succ, List.length_cons, List.length_nil, Nat.zero_add, Nat.reduceAdd, Nat.reduceLeDiff, Nat.reduceLT, if_true, if_false, Bool.not_true, Bool.not_false, Bool.false_eq_true, ite_true, ite_false, dOrT, right_eq hf O3, right_eq hf' O3]
  have e5 : sSet 5 (dFn 1 F_greatest (dCons (dVar 4) dNil)) [A, B, some (.own m), some (.tup f), some (.tup f'), y5, y6] O3 = .nx [A, B, some (.own m), some (.tup f), some (.tup f'), some (.lst ((greats n f').map .str)), y6] O3 := sSet_eq ((dFn_eq (dCons1 rfl) rfl).trans (greatest_eq hf' O3))
  have hi : dIt (dFn 1 F_greatest (dCons (dVar 3) dNil)) [A, B, some (.own m), some (.tup f), some (.tup f'), some (.lst ((greats n f').map .str)), y6] O3 = .ok (.val ((greats n f).map .str)) O3 := dIt_lst ((dFn_eq (dCons1 rfl) rfl).trans (greatest_eq hf O3))
  obtain ⟨σ6, O6, l6, z6, rfl, rfl⟩ := for_of (i := 6) (body := bodyE) hi (fun _ σ O' => ∃ z6, σ = [A, B, some (.own m), some (.tup f), some (.tup f'), some (.lst ((greats n f').map .str)), z6] ∧ O' = O3) (fun _ cs σ O' hk hI => by
    obtain ⟨z6, rfl, rfl⟩ := hI
    exact ⟨_, _, bodyE_eq hf p (List.mem_of_getElem? hk) _, _, rfl, rfl⟩) ⟨y6, rfl, rfl⟩
  refine ⟨some (.own m), some (.tup f), some (.tup f'), some (.lst ((greats n f').map .str)), z6, O6, ?_, fl3⟩
  unfold bodyK
  rw [sSeq_nx e1, sSeq_nx e2, sSeq_nx e3, sSeq_nx e4, sSeq_nx e5, l6]
theorem pure_law (ns : List Int) (hn : ns.length ≤ 63) : ∃ O, F_law [.lst (ns.map .int)] [] = .ok (.bl true) O := by
  let A : Option D := some (.lst (ns.map .int))
  let σ0 : Sg := [A, none, none, none, none, none, none]
  obtain ⟨m, hm, hr⟩ := turns_eq hn σ0 6 (by decide) rfl
  obtain ⟨σ', O', l1, y1, y2, y3, y4, y5, y6, rfl, l2⟩ := for_of (i := 1) (body := bodyK) (dRng1_eq (dCons1 hr) hm) (fun _ σ O' => ∃ y1 y2 y3 y4 y5 y6, σ = [A, y1, y2, y3, y4, y5, y6] ∧ Flat O') (fun _ i σ O' _ hI => by
      obtain ⟨y1, y2, y3, y4, y5, y6, rfl, fl⟩ := hI
      obtain ⟨z2, z3, z4, z5, z6, O4, t1, t2⟩ := bodyK_eq (ns := ns) (k := i) fl (y2 := y2) (y3 := y3) (y4 := y4) (y5 := y5) (y6 := y6)
      exact ⟨_, _, t1, _, _, _, _, _, _, rfl, t2⟩) ⟨none, none, none, none, none, none, rfl, fun c hc => by cases hc⟩
  refine ⟨O', ?_⟩
  show fin (sSeq (sFor (dRng1 (dCons (dCall fMax2 (dCons (dC (.int 1)) (dCons (dCall fMin2 (dCons (dCall fLen (dCons (dVar 0) dNil)) (dCons (dC (.int ((6 : Nat) : Int))) dNil))) dNil))) dNil)) (.one 1) bodyK) (sRet (dC (.bl true))) σ0 []) = _
  rw [sSeq_nx l1]; rfl
end K07

open PySem PySem.W PyProof.Rows
set_option maxRecDepth 100000 in
set_option maxHeartbeats 0 in
theorem PySem.Challenge.cw_leastterms_k07_whole_greatest_terms_holds : PySem.Challenge.rw_leastterms_k07_whole_greatest_terms.Holds := by
  w_on; o_law; k_head; (case hw => w_witness2)
  k_fill
  refine DL.walkD' (l := PySem.Challenge.rw_leastterms_k07_whole_greatest_terms) (k := 9) (x := "_law_script") (F := K07.F_law) rfl rfl ⟨rfl, by decide, by decide⟩ (fun w h Y => PySem.W.kIn_of Y) ?F K07.pure_law
  case F =>
    intro w mg fa h KX G hmg
    refine' K07.all_mk KX G hmg ?Ga0 ?Gl0 ?Gq0 ?Gk0 ?Ga1 ?Gl1 ?Gq1 ?Gk1 ?Ga2 ?Gl2 ?Gq2 ?Gk2 ?Ga3 ?Gl3 ?Gq3 ?Gk3 ?Ga4 ?Gl4 ?Gq4 ?Gk4 ?Ga5 ?Gl5 ?Gq5 ?Gk5 ?Ga6 ?Gl6 ?Gq6 ?Gk6 ?Ga7 ?Gl7 ?Gq7 ?Gk7 ?Ga8 ?Gl8 ?Gq8 ?Gk8 ?Ga9 ?Gl9 ?Gq9 ?Gk9 ?Ga10 ?Gl10 ?Gq10 ?Gk10 ?Ga11 ?Gl11 ?Gq11 ?Gk11 ?Ga12 ?Gl12 ?Gq12 ?Gk12 ?Ga13 ?Gl13 ?Gq13 ?Gk13 ?Ga14 ?Gl14 ?Gq14 ?Gk14 ?Ga15 ?Gl15 ?Gq15 ?Gk15 ?Ga16 ?Gl16 ?Gq16 ?Gk16 ?Ga17 ?Gl17 ?Gq17 ?Gk17 ?Ga18 ?Gl18 ?Gq18 ?Gk18 ?Ga19 ?Gl19 ?Gq19 ?Gk19 ?Ga20 ?Gl20 ?Gq20 ?Gk20 ?Ga21 ?Gl21 ?Gq21 ?Gk21 ?Ga22 ?Gl22 ?Gq22 ?Gk22 ?Ga23 ?Gl23 ?Gq23 ?Gk23 ?Ga24 ?Gl24 ?Gq24 ?Gk24 ?Ga25 ?Gl25 ?Gq25 ?Gk25 ?Ga26 ?Gl26 ?Gq26 ?Gk26 ?Ga27 ?Gl27 ?Gq27 ?Gk27 ?Ga28 ?Gl28 ?Gq28 ?Gk28 ?Ga29 ?Gl29 ?Gq29 ?Gk29 ?Ga30 ?Gl30 ?Gq30 ?Gk30 ?Ga31 ?Gl31 ?Gq31 ?Gk31 ?Ga32 ?Gl32 ?Gq32 ?Gk32 ?Ga33 ?Gl33 ?Gq33 ?Gk33 ?Ga34 ?Gl34 ?Gq34 ?Gk34 ?Ga35 ?Gl35 ?Gq35 ?Gk35 ?Ga36 ?Gl36 ?Gq36 ?Gk36 ?Gz_all ?Gz_any ?Gz_bool ?Gz_enumerate ?Gz_int ?Gz_isinstance ?Gz_len ?Gz_max ?Gz_min ?Gz_range ?Gz_str ?Gz_tuple ?Gz_zip ?Gs_SIGNS ?Gd_SWITCHES_BY_POINTS ?Gu_SWITCHES_BY_POINTS ?Gv_SWITCHES_BY_POINTS ?Gy_SWITCHES_BY_POINTS
    (case Ga0 => k_is)
    (case Gl0 => k_is)
    (case Gq0 => k_is)
    (case Gk0 => k_is)
    (case Ga1 => k_is)
    (case Gl1 => k_is)
    (case Gq1 => k_is)
    (case Gk1 => k_is)
    (case Ga2 => k_is)
    (case Gl2 => k_is)
    (case Gq2 => k_is)
    (case Gk2 => k_is)
    (case Ga3 => k_is)
    (case Gl3 => k_is)
    (case Gq3 => k_is)
    (case Gk3 => k_is)
    (case Ga4 => k_is)
    (case Gl4 => k_is)
    (case Gq4 => k_is)
    (case Gk4 => k_is)
    (case Ga5 => k_is)
    (case Gl5 => k_is)
    (case Gq5 => k_is)
    (case Gk5 => k_is)
    (case Ga6 => k_is)
    (case Gl6 => k_is)
    (case Gq6 => k_is)
    (case Gk6 => k_is)
    (case Ga7 => k_is)
    (case Gl7 => k_is)
    (case Gq7 => k_is)
    (case Gk7 => k_is)
    (case Ga8 => k_is)
    (case Gl8 => k_is)
    (case Gq8 => k_is)
    (case Gk8 => k_is)
    (case Ga9 => k_is)
    (case Gl9 => k_is)
    (case Gq9 => k_is)
    (case Gk9 => k_is)
    (case Ga10 => k_is)
    (case Gl10 => k_is)
    (case Gq10 => k_is)
    (case Gk10 => k_is)
    (case Ga11 => k_is)
    (case Gl11 => k_is)
    (case Gq11 => k_is)
    (case Gk11 => k_is)
    (case Ga12 => k_is)
    (case Gl12 => k_is)
    (case Gq12 => k_is)
    (case Gk12 => k_is)
    (case Ga13 => k_is)
    (case Gl13 => k_is)
    (case Gq13 => k_is)
    (case Gk13 => k_is)
    (case Ga14 => k_is)
    (case Gl14 => k_is)
    (case Gq14 => k_is)
    (case Gk14 => k_is)
    (case Ga15 => k_is)
    (case Gl15 => k_is)
    (case Gq15 => k_is)
    (case Gk15 => k_is)
    (case Ga16 => k_is)
    (case Gl16 => k_is)
    (case Gq16 => k_is)
    (case Gk16 => k_is)
    (case Ga17 => k_is)
    (case Gl17 => k_is)
    (case Gq17 => k_is)
    (case Gk17 => k_is)
    (case Ga18 => k_is)
    (case Gl18 => k_is)
    (case Gq18 => k_is)
    (case Gk18 => k_is)
    (case Ga19 => k_is)
    (case Gl19 => k_is)
    (case Gq19 => k_is)
    (case Gk19 => k_is)
    (case Ga20 => k_is)
    (case Gl20 => k_is)
    (case Gq20 => k_is)
    (case Gk20 => k_is)
    (case Ga21 => k_is)
    (case Gl21 => k_is)
    (case Gq21 => k_is)
    (case Gk21 => k_is)
    (case Ga22 => k_is)
    (case Gl22 => k_is)
    (case Gq22 => k_is)
    (case Gk22 => k_is)
    (case Ga23 => k_is)
    (case Gl23 => k_is)
    (case Gq23 => k_is)
    (case Gk23 => k_is)
    (case Ga24 => k_is)
    (case Gl24 => k_is)
    (case Gq24 => k_is)
    (case Gk24 => k_is)
    (case Ga25 => k_is)
    (case Gl25 => k_is)
    (case Gq25 => k_is)
    (case Gk25 => k_is)
    (case Ga26 => k_is)
    (case Gl26 => k_is)
    (case Gq26 => k_is)
    (case Gk26 => k_is)
    (case Ga27 => k_is)
    (case Gl27 => k_is)
    (case Gq27 => k_is)
    (case Gk27 => k_is)
    (case Ga28 => k_is)
    (case Gl28 => k_is)
    (case Gq28 => k_is)
    (case Gk28 => k_is)
    (case Ga29 => k_is)
    (case Gl29 => k_is)
    (case Gq29 => k_is)
    (case Gk29 => k_is)
    (case Ga30 => k_is)
    (case Gl30 => k_is)
    (case Gq30 => k_is)
    (case Gk30 => k_is)
    (case Ga31 => k_is)
    (case Gl31 => k_is)
    (case Gq31 => k_is)
    (case Gk31 => k_is)
    (case Ga32 => k_is)
    (case Gl32 => k_is)
    (case Gq32 => k_is)
    (case Gk32 => k_is)
    (case Ga33 => k_is)
    (case Gl33 => k_is)
    (case Gq33 => k_is)
    (case Gk33 => k_is)
    (case Ga34 => k_is)
    (case Gl34 => k_is)
    (case Gq34 => k_is)
    (case Gk34 => k_is)
    (case Ga35 => k_is)
    (case Gl35 => k_is)
    (case Gq35 => k_is)
    (case Gk35 => k_is)
    (case Ga36 => k_is)
    (case Gl36 => k_is)
    (case Gq36 => k_is)
    (case Gk36 => k_is)
    (case Gz_all => k_is)
    (case Gz_any => k_is)
    (case Gz_bool => k_is)
    (case Gz_enumerate => k_is)
    (case Gz_int => k_is)
    (case Gz_isinstance => k_is)
    (case Gz_len => k_is)
    (case Gz_max => k_is)
    (case Gz_min => k_is)
    (case Gz_range => k_is)
    (case Gz_str => k_is)
    (case Gz_tuple => k_is)
    (case Gz_zip => k_is)
    (case Gs_SIGNS => k_is)
    (case Gd_SWITCHES_BY_POINTS => k_is)
    (case Gu_SWITCHES_BY_POINTS => k_is)
    (case Gv_SWITCHES_BY_POINTS => first | kernel_rfl | rfl | decide)
    (case Gy_SWITCHES_BY_POINTS => first | kernel_rfl | rfl | decide)

