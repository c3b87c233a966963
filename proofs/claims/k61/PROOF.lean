import PyProof.Rows.All
import Wide.All
import OpenK.AllK
import Wide.FinOn
import Lean
import PyProof.EqAt
import PyProof.EqKinds
import PyProof.TupleCall
import PySem.Challenge.RW_leastterms_k61_broad_terms
set_option Elab.async false
set_option linter.all false
set_option maxRecDepth 100000
-- CHANGE: your row's module here, as the last of these rows
/-! THE HAND LAYER, for ints, bools, texts, own classes, LISTS and tuples (index, slices, in, append, pop ..), calls, loops. Paste it whole ahead of your own text; what your proof does not reach may be deleted. -/
namespace L2
open PySem PySem.Spec PyProof.Rows

/-- a key: an int or a str -/
abbrev Key := Sum Int Str
def keyIs : Key → Value → Bool
  | .inl k, v => Value.isInt k v
  | .inr x, v => Value.isStrOf x v
def keyH (w : World) : Key → Int
  | .inl k => hashInt k
  | .inr x => hashStr w x
theorem keyIs_shape : ∀ {k : Key} {v : Value}, keyIs k v = true → (∃ i t, k = Sum.inl i ∧ v = Value.int i t) ∨ (∃ x t, k = Sum.inr x ∧ v = Value.str x t)
  | .inl i, v, h => by
    obtain ⟨t, e⟩ := Value.isInt_shape (k := i) (v := v) h
    exact .inl ⟨i, t, rfl, e⟩
  | .inr x, v, h => by
    obtain ⟨t, e⟩ := Value.isStrOf_shape (x := x) (v := v) h
    exact .inr ⟨x, t, rfl, e⟩
theorem keyIs_int (i : Int) (t : Tok) : keyIs (.inl i) (.int i t) = true := by simp [keyIs, Value.isInt]
theorem keyIs_str (x : Str) (t : Tok) : keyIs (.inr x) (.str x t) = true := by simp [keyIs, Value.isStrOf]
theorem key_ll (a b : Int) : decide ((Sum.inl a : Key) = Sum.inl b) = (a == b) := by
  by_cases e : a = b
  · subst e; simp
  · have h : ¬ (Sum.inl a : Key) = Sum.inl b := fun q => e (Sum.inl.inj q)
    rw [decide_eq_false h]
    exact (beq_eq_false_iff_ne.mpr e).symm
theorem key_rr (a b : Str) : decide ((Sum.inr a : Key) = Sum.inr b) = decide (a = b) := by
  by_cases e : a = b
  · subst e; simp
  · have h : ¬ (Sum.inr a : Key) = Sum.inr b := fun q => e (Sum.inr.inj q)
    rw [decide_eq_false h, decide_eq_false e]
theorem key_lr (a : Int) (b : Str) : decide ((Sum.inl a : Key) = Sum.inr b) = false := decide_eq_false (fun q => nomatch q)
theorem key_rl (a : Str) (b : Int) : decide ((Sum.inr a : Key) = Sum.inl b) = false := decide_eq_false (fun q => nomatch q)

def mixKind (prog : Program) (w : World) : PySem.KeyKind prog w Key where
  is := keyIs
  hash := keyH w
  inj := fun v a b ha hb => by
    rcases keyIs_shape ha with ⟨i, t, rfl, rfl⟩ | ⟨x, t, rfl, rfl⟩
    · rcases keyIs_shape hb with ⟨j, u, rfl, e⟩ | ⟨y, u, rfl, e⟩
      · injection e with e1 _; rw [e1]
      · exact nomatch e
    · rcases keyIs_shape hb with ⟨j, u, rfl, e⟩ | ⟨y, u, rfl, e⟩
      · exact nomatch e
      · injection e with e1 _; rw [e1]
  byValue := fun k v h => by
    rcases keyIs_shape h with ⟨i, t, rfl, rfl⟩ | ⟨x, t, rfl, rfl⟩ <;> rfl
  pyHash := fun hv h => by
    rcases keyIs_shape hv with ⟨i, t, rfl, rfl⟩ | ⟨x, t, rfl, rfl⟩
    · exact wpAny_pyHash_int h
    · exact wpAny_pyHash_str h
  eqBool := fun hu hv h => by
    rcases keyIs_shape hu with ⟨i, t, rfl, rfl⟩ | ⟨x, t, rfl, rfl⟩
    · rcases keyIs_shape hv with ⟨j, u, rfl, rfl⟩ | ⟨y, u, rfl, rfl⟩
      · rw [key_ll] at h; exact wpAny_eqBool_int h
      · rw [key_lr] at h; exact SeqAt.EqAt.int_str i t y u _ _ _ _ h
    · rcases keyIs_shape hv with ⟨j, u, rfl, rfl⟩ | ⟨y, u, rfl, rfl⟩
      · rw [key_rl] at h; exact SeqAt.EqAt.str_int x t j u _ _ _ _ h
      · rw [key_rr] at h; exact wpAny_eqBool_str h
  «strs» := fun k x t v h => by
    rcases keyIs_shape h with ⟨i, u, rfl, e⟩ | ⟨y, u, rfl, e⟩
    · exact nomatch e
    · injection e with e1 _
      subst e1
      cases v <;> rfl

theorem mixKind_int (prog : Program) (w : World) (i : Int) (t : Tok) : (mixKind prog w).is (.inl i) (.int i t) = true := keyIs_int i t
theorem mixKind_str (prog : Program) (w : World) (x : Str) (t : Tok) : (mixKind prog w).is (.inr x) (.str x t) = true := keyIs_str x t
end L2

namespace L2
open PySem PySem.Spec PyProof.Rows

/-- a value, without the heap -/
inductive V where
  | non | bl (b : Bool) | int (i : Int) | str (x : Str) | byt (b : Array UInt8) | flt (b : UInt64) | ref (a : Addr) | ty (n : String)
  deriving DecidableEq

def RelV : V → Value → Prop
  | .non, u => u = Value.none
  | .bl b, u => u = Value.bool b
  | .int i, u => ∃ t, u = Value.int i t
  | .str x, u => ∃ t, u = Value.str x t
  | .byt b, u => ∃ t, u = Value.bytes b t
  | .flt b, u => ∃ t, u = Value.float b t
  | .ref a, u => u = Value.ref a
  | .ty n, u => u = Value.type n

abbrev Vals : List V → List Value → Prop := Paired RelV
theorem Vals.length {xs : List V} {us : List Value} (r : Vals xs us) : xs.length = us.length := Paired.length r
theorem Vals.get : ∀ {xs : List V} {us : List Value} {i : Nat} {x : V}, Vals xs us → xs[i]? = some x → ∃ u, us[i]? = some u ∧ RelV x u
  | _, _, _, _, .nil, e => by simp at e
  | _, _, 0, _, .cons r _, e => by simp at e; subst e; exact ⟨_, rfl, r⟩
  | _, _, i + 1, x, .cons _ t, e => by
    obtain ⟨u, h1, h2⟩ := Vals.get (i := i) (x := x) t (by simpa using e)
    exact ⟨u, by simpa using h1, h2⟩
theorem Vals.set {x : V} {u : Value} (r : RelV x u) : ∀ {xs : List V} {us : List Value} (i : Nat), Vals xs us → Vals (xs.set i x) (us.set i u)
  | _, _, _, .nil => .nil
  | _, _, 0, .cons _ t => .cons r t
  | _, _, i + 1, .cons q t => .cons q (Vals.set r i t)
theorem Vals.append : ∀ {xs ys : List V} {us ws : List Value}, Vals xs us → Vals ys ws → Vals (xs ++ ys) (us ++ ws)
  | _, _, _, _, .nil, s => s
  | _, _, _, _, .cons r t, s => .cons r (Vals.append t s)
theorem Vals.take : ∀ {xs : List V} {us : List Value} (n : Nat), Vals xs us → Vals (xs.take n) (us.take n)
  | _, _, 0, _ => .nil
  | _, _, _ + 1, .nil => .nil
  | _, _, n + 1, .cons r t => .cons r (Vals.take n t)
theorem Vals.drop : ∀ {xs : List V} {us : List Value} (n : Nat), Vals xs us → Vals (xs.drop n) (us.drop n)
  | _, _, 0, r => r
  | _, _, _ + 1, .nil => .nil
  | _, _, n + 1, .cons _ t => Vals.drop n t
def RelO : Option V → Option Value → Prop
  | some v, some u => RelV v u
  | none, none => True
  | _, _ => False
def KV {κ : Type} : List (κ × V) → List (κ × Value) → Prop := Paired fun (p : κ × V) (q : κ × Value) => p.1 = q.1 ∧ RelV p.2 q.2

/-- a key of a dict (00_mix): an int or a text -/
def kV : Key → V
  | .inl i => .int i
  | .inr x => .str x

/-- what stands at a tracked address -/
inductive HO where
  /-- a list -/
  | lst (xs : List V)
  /-- a tuple (never changes) -/
  | tup (xs : List V)
  /-- a dict whose keys are ints and texts; one whose keys are tuples of ints and texts (the empty one is both) -/
  | dK (kvs : List (Key × V)) | dT (kvs : List (List Key × V))
  /-- a set of ints: its members, its size -/
  | set (S : Int → Bool) (n : Nat)
  /-- an instance of the class at C, its dict at dx, its attributes -/
  | ins (C dx : Addr) (fs : List (Str × V))
  /-- the dict of the instance at x -/
  | own (x : Addr)
  /-- the dict of an exception -/
  | xd (fs : List (Str × V))
  /-- a bound method, f of x -/
  | met (f x : Addr)
  /-- a range object lo, lo + 1, .. below hi -/
  | rng (lo hi : Int)
  /-- a thing that is known to the object (the script; a dict while a loop walks it): read, never written while it is so -/
  | frz (o : Obj) (u : HO)
  /-- a code object's table -/
  | tbl (ps : Array Value)
  /-- any other thing, by what is true of its one object (a def of one's own: SetO a S n := HO.ext fun h => ..) -/
  | ext (φ : Heap → Prop)

abbrev Hp := Addr → Option HO
def upd (H : Hp) (a : Addr) (o : HO) : Hp := fun b => if b = a then some o else H b
theorem upd_same {H : Hp} {a : Addr} {o : HO} : upd H a o a = some o := by unfold upd; rw [if_pos rfl]
theorem upd_ne {H : Hp} {a b : Addr} {o : HO} (h : b ≠ a) : upd H a o b = H b := by unfold upd; rw [if_neg h]
theorem upd_upd {H : Hp} {a : Addr} {o u : HO} : upd (upd H a o) a u = upd H a u := by
  funext b; unfold upd; split <;> rfl
theorem ne_of_none {H : Hp} {a b : Addr} {o : HO} (h : H a = some o) (h' : H b = none) : a ≠ b := by
  intro e; subst e; rw [h] at h'; cases h'

section
variable (P : Program) (w : World)
def ObjOk (H : Hp) (h : Heap) (a : Addr) : HO → Prop
  | .lst xs => xs.length ≤ sizeLine ∧ ∃ (its : List Value) (n : Nat), Vals xs its ∧ h.get? a = some { cls := .type "list", data := .seq its.toArray n }
  | .tup xs => xs.length ≤ sizeLine ∧ ∃ its : List Value, Vals xs its ∧ IsTup h a its.toArray
  | .dK kvs => kvs.length ≤ sizeLine ∧ (a == sysModules) = false ∧ ∃ vs, KV kvs vs ∧ h.DictOf (mixKind P w) a vs
  | .dT kvs => kvs.length ≤ sizeLine ∧ (a == sysModules) = false ∧ ∃ xs : List (List Key × Addr × Value),
      Paired (fun (p : List Key × V) (q : List Key × Addr × Value) => p.1 = q.1 ∧ H q.2.1 = some (.tup (p.1.map kV)) ∧ RelV p.2 q.2.2) kvs xs ∧
      ∃ o es ep, h.get? a = some o ∧ o.ExactDict ∧ o.data = .dict es ep ∧ es.toList = xs.map (entryOfKey (tupleKind (mixKind P w))) ∧ (xs.map (·.1)).Nodup
  | .set S n => h.SetOf (intKind P w) a S n
  | .ins C dx fs => H dx = some (.own a) ∧ fs.length ≤ 1000 ∧ dx ≠ a ∧ h.get? a = some (PySem.W.instObj C dx) ∧
      ∃ mA, h.Ns1 dx mA ∧ (∀ f, RelO (fs.lookup f) (mA f)) ∧ PySem.Within mA (fs.map (·.1))
  | .own _ => ∃ o, h.get? a = some o
  | .xd fs => ∃ mA, h.Ns1 a mA ∧ ∀ f, RelO (fs.lookup f) (mA f)
  | .rng lo hi => ∃ t u v, h.get? a = some { cls := .type "range", data := .fields #[.int lo t, .int hi u, .int 1 v] }
  | .frz o u => h.get? a = some o ∧ ObjOk H h a u
  | .tbl ps => h.get? a = some { cls := .none, data := .fields ps }
  | .met f x => h.get? a = some (PySem.W.methodObj (.ref f) (.ref x))
  | .ext φ => φ h ∧ (∃ o, h.get? a = some o) ∧ ∀ h1 h2 : Heap, φ h1 → (∀ o, h1.get? a = some o → h2.get? a = some o) → φ h2
/-- the abstract heap is held -/
def HOk (H : Hp) (h : Heap) : Prop := ∀ a o, H a = some o → ObjOk P w H h a o
end

section
variable {P : Program} {w : World} {H H' : Hp} {h h' : Heap} {a : Addr} {o : HO}
theorem ObjOk.lt (x : ObjOk P w H h a o) : a < h.objs.size := by
  cases o with
  | lst xs => obtain ⟨_, _, _, _, e⟩ := x; exact Heap.lt_size e
  | tup xs => obtain ⟨_, _, _, p⟩ := x; exact p.lt
  | dK kvs => obtain ⟨_, _, _, _, o, _, _, e, _⟩ := x; exact Heap.lt_size e
  | dT kvs => obtain ⟨_, _, _, _, o, _, _, e, _⟩ := x; exact Heap.lt_size e
  | set S n => obtain ⟨o, _, _, _, e, _⟩ := x; exact Heap.lt_size e
  | ins C dx fs => obtain ⟨_, _, _, e, _⟩ := x; exact Heap.lt_size e
  | own y => obtain ⟨_, e⟩ := x; exact Heap.lt_size e
  | xd fs => obtain ⟨_, ⟨_, _, _, e, _⟩, _⟩ := x; exact Heap.lt_size e
  | rng lo hi => obtain ⟨_, _, _, e⟩ := x; exact Heap.lt_size e
  | frz ob u => obtain ⟨e, _⟩ := x; exact Heap.lt_size e
  | tbl ps => exact Heap.lt_size (show h.get? a = some _ from x)
  | met f y => exact Heap.lt_size (show h.get? a = some _ from x)
  | ext φ => obtain ⟨_, ⟨_, e⟩, _⟩ := x; exact Heap.lt_size e
theorem Paired.mapP {α β : Type} {F G : α → β → Prop} : ∀ {l₁ : List α} {l₂ : List β}, Paired F l₁ l₂ → (∀ a b, F a b → G a b) → Paired G l₁ l₂
  | _, _, .nil, _ => .nil
  | _, _, .cons r t, f => .cons (f _ _ r) (Paired.mapP t f)
/-- what an object's description leans on: its own object, its own dict, the tuples -/
theorem ObjOk.stay (x : ObjOk P w H h a o) (k : ∀ b u, (b = a ∨ H b = some (.own a)) → h.get? b = some u → h'.get? b = some u)
    (ho : ∀ b, H b = some (.own a) → H' b = some (.own a)) (ht : ∀ b xs, H b = some (.tup xs) → H' b = some (.tup xs)) : ObjOk P w H' h' a o := by
  induction o with
  | lst xs => obtain ⟨z, its, n, r, e⟩ := x; exact ⟨z, its, n, r, k _ _ (.inl rfl) e⟩
  | tup xs => obtain ⟨z, its, r, ob, e, c⟩ := x; exact ⟨z, its, r, ob, k _ _ (.inl rfl) e, c⟩
  | dK kvs => obtain ⟨z, y, vs, r, ob, es, ep, e, c⟩ := x; exact ⟨z, y, vs, r, ob, es, ep, k _ _ (.inl rfl) e, c⟩
  | dT kvs =>
    obtain ⟨z, y, xs, r, ob, es, ep, e, c⟩ := x
    exact ⟨z, y, xs, Paired.mapP r fun p q z => ⟨z.1, ht _ _ z.2.1, z.2.2⟩, ob, es, ep, k _ _ (.inl rfl) e, c⟩
  | set S n => obtain ⟨ob, es, ep, t, e, c⟩ := x; exact ⟨ob, es, ep, t, k _ _ (.inl rfl) e, c⟩
  | ins C dx fs =>
    obtain ⟨d, z, ne, e, mA, ⟨od, es, ep, e2, c⟩, r⟩ := x
    exact ⟨ho _ d, z, ne, k _ _ (.inl rfl) e, mA, ⟨od, es, ep, k _ _ (.inr d) e2, c⟩, r⟩
  | own y => obtain ⟨ob, e⟩ := x; exact ⟨ob, k _ _ (.inl rfl) e⟩
  | xd fs => obtain ⟨mA, ⟨od, es, ep, e, c⟩, r⟩ := x; exact ⟨mA, ⟨od, es, ep, k _ _ (.inl rfl) e, c⟩, r⟩
  | rng lo hi => obtain ⟨t, u, v, e⟩ := x; exact ⟨t, u, v, k _ _ (.inl rfl) e⟩
  | frz ob u ih => obtain ⟨e, q⟩ := x; exact ⟨k _ _ (.inl rfl) e, ih q⟩
  | tbl ps =>
    have e : h.get? a = some { cls := .none, data := .fields ps } := x
    show h'.get? a = some { cls := .none, data := .fields ps }
    exact k a _ (.inl rfl) e
  | met f y =>
    have e : h.get? a = some (PySem.W.methodObj (.ref f) (.ref y)) := x
    show h'.get? a = some (PySem.W.methodObj (.ref f) (.ref y))
    exact k a _ (.inl rfl) e
  | ext φ => obtain ⟨p, ⟨o, e⟩, st⟩ := x; exact ⟨st _ _ p fun o q => k _ _ (.inl rfl) q, ⟨o, k _ _ (.inl rfl) e⟩, st⟩
theorem HOk.lt (x : HOk P w H h) (e : H a = some o) : a < h.objs.size := (x a o e).lt
theorem HOk.fresh (x : HOk P w H h) (e : h.objs.size ≤ a) : H a = none := by
  cases q : H a with
  | none => rfl
  | some u => exact absurd (Nat.lt_of_lt_of_le (x.lt q) e) (Nat.lt_irrefl _)
/-- every object of the heap is kept -/
theorem HOk.kept (x : HOk P w H h) (k : ∀ b u, h.get? b = some u → h'.get? b = some u) : HOk P w H h' := fun a o e =>
  (x a o e).stay (fun b u _ q => k b u q) (fun _ q => q) fun _ _ q => q
/-- a new object is laid and tracked -/
theorem HOk.laid (x : HOk P w H h) (k : ∀ b u, h.get? b = some u → h'.get? b = some u) (hp : h.objs.size ≤ a) (new : ObjOk P w (upd H a o) h' a o) : HOk P w (upd H a o) h' := fun b u e => by
  have hn := x.fresh hp
  by_cases hb : b = a
  · subst hb; rw [upd_same] at e; cases e; exact new
  · rw [upd_ne hb] at e
    exact (x b u e).stay (fun c v _ q => k c v q) (fun c q => by rw [upd_ne (ne_of_none q hn)]; exact q) fun c xs q => by rw [upd_ne (ne_of_none q hn)]; exact q
end

/-- what may be read as u: it is u, or a known u -/
def Rd (H : Hp) (a : Addr) (u : HO) : Prop := H a = some u ∨ ∃ o, H a = some (.frz o u)
theorem Rd.ok {P : Program} {w : World} {H : Hp} {h : Heap} {a : Addr} {u : HO} (r : Rd H a u) (x : HOk P w H h) : ObjOk P w H h a u := by
  rcases r with r | ⟨o, r⟩
  · exact x a u r
  · obtain ⟨_, q⟩ := x a _ r
    exact q
/-- what may be written -/
def Mut : Option HO → Prop
  | some (.lst _) => True
  | some (.dK _) => True
  | some (.dT _) => True
  | some (.set _ _) => True
  | some (.ins _ _ _) => True
  | some (.ext _) => True
  | _ => False
section
variable {P : Program} {w : World} {H : Hp} {h h' : Heap} {x e : Addr} {o' : HO}
/-- the object at e is changed: x itself, or the dict of the instance x -/
theorem HOk.write (ok : HOk P w H h) (mu : Mut (H x)) (he : e = x ∨ H e = some (.own x)) (k : ∀ b u, b ≠ e → h.get? b = some u → h'.get? b = some u) (heo : ∃ u, h'.get? e = some u)
    (new : ObjOk P w (upd H x o') h' x o') : HOk P w (upd H x o') h' := fun b u q => by
  have nown : ∀ c y, H c = some (.own y) → c ≠ x := fun c y r z => by subst z; rw [r] at mu; exact mu
  have ntup : ∀ c xs, H c = some (.tup xs) → c ≠ x := fun c xs r z => by subst z; rw [r] at mu; exact mu
  by_cases hb : b = x
  · subst hb; rw [upd_same] at q; cases q; exact new
  · rw [upd_ne hb] at q
    by_cases hbe : b = e
    · have q' : H b = some (.own x) := by
        rcases he with z | z
        · exact absurd (hbe.trans z) hb
        · rw [hbe]; exact z
      rw [q] at q'; cases q'
      obtain ⟨v, hv⟩ := heo
      exact ⟨v, by rw [hbe]; exact hv⟩
    · refine (ok b u q).stay (fun c v hc r => k c v ?_ r) (fun c r => by rw [upd_ne (nown c b r)]; exact r) fun c xs r => by rw [upd_ne (ntup c xs r)]; exact r
      rcases hc with rfl | hc
      · exact hbe
      · rintro rfl
        rcases he with z | z
        · exact nown c b hc z
        · rw [hc] at z; cases z; exact hb rfl
end

/-! ### kept unless tracked; of the frames at fs (the callers') the slots may change (an exception that passes writes there); of the records at ex (iterators) nothing is said -/
structure Un (fs ex : List Addr) (H H' : Hp) (h h' : Heap) : Prop where
  keep : ∀ b o, h.get? b = some o → H b = none → b ∉ fs → b ∉ ex → h'.get? b = some o
  slot : ∀ b o, h.get? b = some o → H b = none → b ∈ fs → b ∉ ex → ∃ sl, h'.get? b = some { o with slots := sl }
  free : ∀ b o, h.get? b = some o → H b = none → b ∉ ex → H' b = none
  there : ∀ b o, h.get? b = some o → b ∉ ex → ∃ o', h'.get? b = some o'
  tups : ∀ b xs, H b = some (.tup xs) → H' b = some (.tup xs)
  frzs : ∀ b o u, H b = some (.frz o u) → H' b = some (.frz o u)
  tbls : ∀ b ps, H b = some (.tbl ps) → ∃ more, H' b = some (.tbl (ps ++ more))
section
variable {fs fs' ex ex' : List Addr} {H H1 H2 : Hp} {h h1 h2 h' : Heap} {a x e : Addr} {o : HO}
theorem Un.any (u : Un fs ex H H1 h h1) {b : Addr} {ob : Obj} (q : h.get? b = some ob) (n : H b = none) (hx : b ∉ ex) : ∃ sl, h1.get? b = some { ob with slots := sl } := by
  by_cases hb : b ∈ fs
  · exact u.slot b ob q n hb hx
  · exact ⟨ob.slots, u.keep b ob q n hb hx⟩
theorem Un.kept (k : ∀ b u, h.get? b = some u → h'.get? b = some u) : Un fs ex H H h h' :=
  ⟨fun b ob q _ _ _ => k b ob q, fun b ob q _ _ _ => ⟨ob.slots, k b ob q⟩, fun _ _ _ n _ => n, fun b ob q _ => ⟨ob, k b ob q⟩, fun _ _ q => q, fun _ _ _ q => q, fun _ ps q => ⟨#[], by rw [q]; simp⟩⟩
theorem Un.refl : Un fs ex H H h h := Un.kept fun _ _ q => q
theorem Un.laid (k : ∀ b u, h.get? b = some u → h'.get? b = some u) (hp : h.objs.size ≤ a) (hn : H a = none) : Un fs ex H (upd H a o) h h' where
  keep := fun b u q _ _ _ => k b u q
  slot := fun b u q _ _ _ => ⟨u.slots, k b u q⟩
  free := fun b u q n _ => by rw [upd_ne (Nat.ne_of_lt (Nat.lt_of_lt_of_le (Heap.lt_size q) hp))]; exact n
  there := fun b u q _ => ⟨u, k b u q⟩
  tups := fun b xs q => by rw [upd_ne (ne_of_none q hn)]; exact q
  frzs := fun b u xs q => by rw [upd_ne (ne_of_none q hn)]; exact q
  tbls := fun b ps q => ⟨#[], by rw [upd_ne (ne_of_none q hn), q]; simp⟩
theorem Un.write (mu : Mut (H x)) (he : e = x ∨ H e = some (.own x)) (k : ∀ b u, b ≠ e → h.get? b = some u → h'.get? b = some u) (heo : ∃ u, h'.get? e = some u) : Un fs ex H (upd H x o) h h' := by
  have hx : ∀ b, H b = none → b ≠ x := fun b n z => by subst z; rw [n] at mu; exact mu
  have hb : ∀ b, H b = none → b ≠ e := fun b n z => by
    subst z
    rcases he with r | r
    · exact hx b n r
    · rw [n] at r; cases r
  have hm : ∀ b u, H b = some u → ¬ Mut (some u) → b ≠ x := fun b u q nm z => by subst z; rw [q] at mu; exact nm mu
  refine ⟨fun b u q n _ _ => k b u (hb b n) q, fun b u q n _ _ => ⟨u.slots, k b u (hb b n) q⟩, fun b u q n _ => by rw [upd_ne (hx b n)]; exact n, fun b u q _ => ?_,
    fun b xs q => by rw [upd_ne (hm b _ q fun z => z)]; exact q, fun b u xs q => by rw [upd_ne (hm b _ q fun z => z)]; exact q, fun b ps q => ⟨#[], by rw [upd_ne (hm b _ q fun z => z), q]; simp⟩⟩
  by_cases hbe : b = e
  · subst hbe; exact heo
  · exact ⟨u, k b u hbe q⟩
end

/-! ### the heap without what is tracked -/
def trk (h : Heap) (H : Hp) : List Addr := (List.range h.objs.size).filter fun a => (H a).isSome
def hidT (h : Heap) (H : Hp) : Heap := PySem.W.hideAll h (trk h H)
theorem hidT_size (h : Heap) (H : Hp) : (hidT h H).objs.size = h.objs.size := PySem.W.hideAll_size _ _
theorem hidT_get {h : Heap} {H : Hp} {b : Addr} {o : Obj} (e : h.get? b = some o) (n : H b = none) : (hidT h H).get? b = some o :=
  PySem.W.hideAll_get _ e fun hm => by
    have q : (H b).isSome = true := (List.mem_filter.mp hm).2
    rw [n] at q; simp at q
theorem of_hidT {h : Heap} {H : Hp} {b : Addr} {o : Obj} (e : (hidT h H).get? b = some o) : h.get? b = some o ∧ H b = none := by
  have e' : h.get? b = some o := PySem.W.of_hideAll (trk h H) e
  refine ⟨e', ?_⟩
  cases q : H b with
  | none => rfl
  | some x =>
    have hm : b ∈ trk h H := List.mem_filter.mpr ⟨List.mem_range.mpr (Heap.lt_size e'), by simp [q]⟩
    have z : (hidT h H).get? b = none := PySem.W.hideAll_none (trk h H) hm
    rw [z] at e; cases e

/-! ### OpenK's ledger, filled with every new object but one -/
def allNews (g h : Heap) (L : Addr) : List (Addr × Obj) := (List.range h.objs.size).filterMap fun a => if a = L ∨ (g.get? a).isSome = true then none else (h.get? a).map fun o => (a, o)
def rest (g h : Heap) (L d : Addr) : List (Addr × Obj) := (allNews g h L).filter fun p => decide (p.1 ≠ d)
end L2

namespace L2
open PySem PySem.Spec PyProof.Rows

/-- the module's facts, over the base: the heap at the law's entry without what is tracked there -/
structure Mod (K : PySem.W.Frag) (mg : Str → Option Value) (base : Heap) : Prop where
  kin : K.In base
  glob : base.Ns mainGlobals mg
  blt : ∃ mb, base.Ns builtinsNs mb ∧ ∀ x : Str, x ≠ "__name__" → mb x = bootBuiltins x
  nolimit : base.NoLimit

/-- the context: a def's body (or a comprehension's block) running. base: fixed through the whole law; s₀, H₀: the entry; outer: the frames whose slots others may change (a def's callers); stack: all frames that run;
   ex: iterators that were made ahead of the entry and are walked here (a comprehension's); fn: the names whose cells were made at the entry (a def: all; a comprehension's block: its own); calm: not within an except suite; pn: pins that every state bears; xe: what is wanted of an exception that leaves the code -/
structure Cx where
  prog : Program
  w : World
  K : PySem.W.Frag
  mg : Str → Option Value
  base : Heap
  A : Around
  N : List Str
  s₀ : Shared
  H₀ : Hp
  env : Env
  outer : List Env
  stack : List Env
  ex : List Addr
  fn : Str → Bool
  calm : Bool
  pn : List (Addr × Obj)
  xe : Value → Shared → Prop
/-- the callers' frames -/
def frs (l : List Env) : List Addr := l.filterMap (·.frame)
abbrev Cx.fs (X : Cx) : List Addr := frs X.outer

def Vis (sc : Scope) (x : Str) : Prop := sc.names.lookup x = some .local ∨ sc.names.lookup x = some .cell ∨ sc.names.lookup x = some .free
def Loc (sc : Scope) (x : Str) : Prop := sc.names.lookup x = some .local ∨ sc.names.lookup x = some .cell
def Look (env : Env) (h : Heap) (m : Str → Option Value) (x : Str) (u : Value) : Prop :=
  (env.kindOf x = some .local ∧ m x = some u) ∨ ((env.kindOf x = some .cell ∨ env.kindOf x = some .free) ∧ ∃ c, env.cells.lookup x = some c ∧ h.IsCell c (some u))

structure Cx.Ok (X : Cx) : Prop where
  mod : Mod X.K X.mg X.base
  kind : X.env.scope.kind = .function
  glob : X.env.globals = mainGlobals
  blt : X.env.builtins = builtinsNs
  above : X.s₀.heap.objs.size ≤ X.env.locals
  inj : ∀ x y c, X.env.cells.lookup x = some c → X.env.cells.lookup y = some c → x = y
  has : ∀ x, (X.env.kindOf x = some .cell ∨ X.env.kindOf x = some .free) → ∃ c, X.env.cells.lookup x = some c
  cab : ∀ x c, X.fn x = true → X.env.cells.lookup x = some c → X.s₀.heap.objs.size ≤ c
  hd : X.calm = true → X.A.handled = none
  frames : X.A.frames = some X.stack
  stk : X.stack = X.outer ∨ (X.stack = X.env :: X.outer ∧ X.env.frame = some X.env.locals)
  exf : ∀ b ∈ X.ex, b ≠ X.env.locals ∧ ∀ x c, X.env.cells.lookup x = some c → c ≠ b
  bs : ∀ b o, X.base.get? b = some o → X.s₀.heap.get? b = some o ∧ X.H₀ b = none
  bsz : X.base.objs.size ≤ X.s₀.heap.objs.size
  noex : ∀ b o, X.base.get? b = some o → b ∉ X.ex
  exfs : ∀ b ∈ X.ex, b ∉ X.fs
  funs : X.s₀.heap.FunFrames X.base X.outer
  frf : ∀ b ∈ X.fs, X.H₀ b = none

structure Inv (X : Cx) (pins : List (Addr × Obj)) (σ : List (Option V)) (H : Hp) (s : Shared) : Prop where
  ok : X.Ok
  os : s.os = X.s₀.os
  bare : AllBare s.gens
  base : Un X.fs X.ex X.H₀ H X.s₀.heap s.heap
  loc : ∃ m, s.heap.Ns X.env.locals m ∧ ∀ (i : Nat) (x : Str) (v : V), X.N[i]? = some x → σ[i]? = some (some v) → Vis X.env.scope x → ∃ u, RelV v u ∧ Look X.env s.heap m x u
  cell : ∀ x c, X.env.cells.lookup x = some c → ∃ v, s.heap.IsCell c v
  free : H X.env.locals = none
  freeC : ∀ x c, X.env.cells.lookup x = some c → H c = none
  pin : ∀ p ∈ X.pn ++ pins, s.heap.get? p.1 = some p.2 ∧ H p.1 = none ∧ p.1 ≠ X.env.locals ∧ p.1 ∉ X.fs ∧ ∀ v, p.2.data ≠ .cell v
  hok : HOk X.prog X.w H s.heap
  len : σ.length = X.N.length

section
variable {X : Cx} {pins : List (Addr × Obj)} {σ : List (Option V)} {H H' : Hp} {s : Shared} {h' : Heap}

theorem Cx.Ok.nofr (ok : X.Ok) {b : Addr} {o : Obj} (e : X.base.get? b = some o) : b ∉ X.fs := fun hb => by
  have := (ok.funs.mem hb).1
  rw [e] at this; cases this
theorem Inv.bs (I : Inv X pins σ H s) : ∀ b o, X.base.get? b = some o → s.heap.get? b = some o ∧ H b = none := fun b o e =>
  ⟨I.base.keep b o (I.ok.bs b o e).1 (I.ok.bs b o e).2 (I.ok.nofr e) (I.ok.noex b o e), I.base.free b o (I.ok.bs b o e).1 (I.ok.bs b o e).2 (I.ok.noex b o e)⟩
theorem Inv.bk (I : Inv X pins σ H s) : ∀ b o, X.base.get? b = some o → s.heap.get? b = some o := fun b o e => (I.bs b o e).1
theorem Inv.mod (I : Inv X pins σ H s) : Mod X.K X.mg X.base := I.ok.mod
theorem Inv.kIn (I : Inv X pins σ H s) : X.K.In s.heap := I.ok.mod.kin.keeps I.bk
theorem Inv.lt (I : Inv X pins σ H s) : X.env.locals < s.heap.objs.size := let ⟨_, hn, _⟩ := I.loc; hn.lt
theorem Inv.sz (I : Inv X pins σ H s) : X.s₀.heap.objs.size ≤ s.heap.objs.size := Nat.le_trans I.ok.above (Nat.le_of_lt I.lt)
theorem Inv.nofs (I : Inv X pins σ H s) {a : Addr} (h : s.heap.objs.size ≤ a) : a ∉ X.fs := fun hb => by
  obtain ⟨_, o, ho, _⟩ := I.ok.funs.mem hb
  exact absurd (Nat.lt_of_lt_of_le (Heap.lt_size ho) (Nat.le_trans I.sz h)) (Nat.lt_irrefl _)
theorem Inv.cne (I : Inv X pins σ H s) : ∀ x c, X.env.cells.lookup x = some c → c ≠ X.env.locals := fun x c e z => by
  obtain ⟨v, o, ho, hd⟩ := I.cell x c e
  obtain ⟨m, ⟨o', es, ep, ho', hd', _⟩, _⟩ := I.loc
  rw [z, ho'] at ho; cases ho; rw [hd'] at hd; cases hd
theorem Inv.funs (I : Inv X pins σ H s) : s.heap.FunFrames X.base X.outer := by
  have all : ∀ (l : List Env), (∀ b ∈ frs l, b ∈ X.fs) → X.s₀.heap.FunFrames X.base l → s.heap.FunFrames X.base l := by
    intro l
    induction l with
    | nil => intro _ _; trivial
    | cons env r ih =>
      intro hs hl
      obtain ⟨hk, ⟨L, o, hf, hn, ho, hd⟩, hr⟩ := hl
      have hL : L ∈ X.fs := hs L (by unfold frs; rw [List.filterMap_cons, hf]; exact List.mem_cons_self)
      obtain ⟨sl, e⟩ := I.base.slot L o ho (I.ok.frf L hL) hL fun z => I.ok.exfs L z hL
      exact ⟨hk, ⟨L, _, hf, hn, e, hd⟩, ih (fun b hb => hs b (by unfold frs; rw [List.filterMap_cons, hf]; exact List.mem_cons_of_mem _ hb)) hr⟩
  exact all X.outer (fun _ hb => hb) I.ok.funs

/-- the frames that run, for a call -/
theorem Inv.stack (I : Inv X pins σ H s) : s.heap.FunFrames X.base X.stack := by
  rcases I.ok.stk with e | ⟨e, hf⟩
  · rw [e]; exact I.funs
  · rw [e]
    obtain ⟨m, hn, _⟩ := I.loc
    refine .cons (by rw [I.ok.kind]; decide) hf hn ?_ I.funs
    exact Heap.get?_none_of_le (Nat.le_trans I.ok.bsz I.ok.above)
theorem Inv.stkSub (I : Inv X pins σ H s) : ∀ b ∈ frs X.stack, b ∈ X.env.locals :: X.fs := fun b hb => by
  rcases I.ok.stk with e | ⟨e, hf⟩
  · rw [e] at hb; exact List.mem_cons_of_mem _ hb
  · rw [e] at hb
    unfold frs at hb
    rw [List.filterMap_cons, hf] at hb
    exact hb
theorem Inv.stkFree (I : Inv X pins σ H s) : ∀ b ∈ frs X.stack, H b = none := fun b hb => by
  rcases List.mem_cons.mp (I.stkSub b hb) with e | hb
  · rw [e]; exact I.free
  · obtain ⟨_, o, ho, _⟩ := I.ok.funs.mem hb
    exact I.base.free b o ho (I.ok.frf b hb) fun z => I.ok.exfs b z hb

/-- THE STEP: the untracked objects but the frame and the records at ch are kept (the callers' frames up to slots), the frame's map is kept, the new abstract heap is held -/
theorem Inv.step {g' : Array GenState} {t' : Nat} {d' : Drawn} {ch : List Addr} (I : Inv X pins σ H s)
    (hch : ∀ b ∈ ch, (b ∈ X.ex ∨ X.s₀.heap.objs.size ≤ b) ∧ b ≠ X.env.locals ∧ (∀ x c, X.env.cells.lookup x = some c → c ≠ b) ∧ ∀ p ∈ X.pn ++ pins, p.1 ≠ b)
    (keep : ∀ b o, b ≠ X.env.locals → b ∉ X.fs → b ∉ ch → s.heap.get? b = some o → H b = none → h'.get? b = some o)
    (slot : ∀ b o, b ≠ X.env.locals → b ∈ X.fs → b ∉ ch → s.heap.get? b = some o → H b = none → ∃ sl, h'.get? b = some { o with slots := sl }) (free : ∀ b o, b ∉ ch → s.heap.get? b = some o → H b = none → H' b = none)
    (there : ∀ b o, b ∉ ch → s.heap.get? b = some o → ∃ o', h'.get? b = some o')
    (tups : ∀ b xs, H b = some (.tup xs) → H' b = some (.tup xs)) (frzs : ∀ b o u, H b = some (.frz o u) → H' b = some (.frz o u)) (tbls : ∀ b ps, H b = some (.tbl ps) → ∃ more, H' b = some (.tbl (ps ++ more)))
    (ns : ∀ m, s.heap.Ns X.env.locals m → h'.Ns X.env.locals m) (hok : HOk X.prog X.w H' h') (hg : AllBare g') :
    Inv X pins σ H' { s with heap := h', gens := g', drawn := d', toks := t' } := by
  have neL : ∀ b o, X.s₀.heap.get? b = some o → b ≠ X.env.locals := fun b o e => Nat.ne_of_lt (Nat.lt_of_lt_of_le (Heap.lt_size e) I.ok.above)
  have neC : ∀ b o, X.s₀.heap.get? b = some o → b ∉ X.ex → b ∉ ch := fun b o e hx hb => by
    rcases (hch b hb).1 with z | z
    · exact hx z
    · exact absurd (Nat.lt_of_lt_of_le (Heap.lt_size e) z) (Nat.lt_irrefl _)
  have cellK : ∀ x c, X.env.cells.lookup x = some c → ∀ v, s.heap.IsCell c v → h'.IsCell c v := fun x c e v ⟨o, ho, hd⟩ => by
    have nch : c ∉ ch := fun z => (hch c z).2.2.1 x c e rfl
    by_cases hc : c ∈ X.fs
    · obtain ⟨sl, q⟩ := slot c o (I.cne x c e) hc nch ho (I.freeC x c e)
      exact ⟨_, q, hd⟩
    · exact ⟨o, keep c o (I.cne x c e) hc nch ho (I.freeC x c e), hd⟩
  refine ⟨I.ok, I.os, hg, ⟨fun b o e n hb hx => ?_, fun b o e n hb hx => ?_, fun b o e n hx => ?_, fun b o e hx => ?_, fun b xs e => tups b xs (I.base.tups b xs e), fun b o xs e => frzs b o xs (I.base.frzs b o xs e), fun b ps e => ?_⟩, ?_, fun x c e => ?_, ?_, fun x c e => ?_, fun p hp => ?_, hok, I.len⟩
  · exact keep b o (neL b o e) hb (neC b o e hx) (I.base.keep b o e n hb hx) (I.base.free b o e n hx)
  · obtain ⟨sl, e1⟩ := I.base.slot b o e n hb hx
    obtain ⟨sl', e2⟩ := slot b _ (neL b o e) hb (neC b o e hx) e1 (I.base.free b o e n hx)
    exact ⟨sl', e2⟩
  · obtain ⟨o', e1⟩ := I.base.there b o e hx
    exact free b o' (neC b o e hx) e1 (I.base.free b o e n hx)
  · obtain ⟨o', e1⟩ := I.base.there b o e hx
    exact there b o' (neC b o e hx) e1
  · obtain ⟨m1, e1⟩ := I.base.tbls b ps e
    obtain ⟨m2, e2⟩ := tbls b _ e1
    exact ⟨m1 ++ m2, by rw [e2, Array.append_assoc]⟩
  · obtain ⟨m, hn, hl⟩ := I.loc
    refine ⟨m, ns m hn, fun i x v e1 e2 e3 => ?_⟩
    obtain ⟨u, r, l⟩ := hl i x v e1 e2 e3
    refine ⟨u, r, ?_⟩
    rcases l with l | ⟨k, c, e, z⟩
    · exact .inl l
    · exact .inr ⟨k, c, e, cellK x c e _ z⟩
  · obtain ⟨v, z⟩ := I.cell x c e
    exact ⟨v, cellK x c e v z⟩
  · obtain ⟨m, ⟨o, _, _, ho, _⟩, _⟩ := I.loc
    exact free _ o (fun z => (hch _ z).2.1 rfl) ho I.free
  · obtain ⟨v, o, ho, hd⟩ := I.cell x c e
    exact free c o (fun z => (hch c z).2.2.1 x c e rfl) ho (I.freeC x c e)
  · obtain ⟨e, n, ne, nf, d⟩ := I.pin p hp
    have nch : p.1 ∉ ch := fun z => (hch p.1 z).2.2.2 p hp rfl
    exact ⟨keep p.1 p.2 ne nf nch e n, free p.1 p.2 nch e n, ne, nf, d⟩
/-- .. where the frame's own object is kept too -/
theorem Inv.un {t' : Nat} (I : Inv X pins σ H s) (u : Un X.fs [] H H' s.heap h') (hok : HOk X.prog X.w H' h') : Inv X pins σ H' { s with heap := h', toks := t' } := by
  obtain ⟨m, ⟨o, es, ep, ho, r⟩, _⟩ := id I.loc
  obtain ⟨sl, hL⟩ := u.any ho I.free (by simp)
  exact I.step (g' := s.gens) (d' := s.drawn) (ch := []) (fun _ z => nomatch z) (fun b o _ hb _ e n => u.keep b o e n hb (by simp)) (fun b o _ hb _ e n => u.slot b o e n hb (by simp)) (fun b o _ e n => u.free b o e n (by simp)) (fun b o _ e => u.there b o e (by simp)) u.tups u.frzs u.tbls (fun m' hm => by
    obtain ⟨o', es', ep', ho', r'⟩ := hm
    rw [ho] at ho'; cases ho'
    exact ⟨_, es', ep', hL, r'⟩) hok I.bare
/-- behind a call (or a comprehension's block): the slots of this frame may have changed too, the records at ch may have turned -/
theorem Inv.call {g' : Array GenState} {t' : Nat} {d' : Drawn} {ch : List Addr} (I : Inv X pins σ H s) (u : Un (frs X.stack) ch H H' s.heap h') (hok : HOk X.prog X.w H' h') (hg : AllBare g')
    (hch : ∀ b ∈ ch, (b ∈ X.ex ∨ X.s₀.heap.objs.size ≤ b) ∧ b ≠ X.env.locals ∧ (∀ x c, X.env.cells.lookup x = some c → c ≠ b) ∧ ∀ p ∈ X.pn ++ pins, p.1 ≠ b) :
    Inv X pins σ H' { s with heap := h', gens := g', drawn := d', toks := t' } := by
  obtain ⟨m, ⟨o, es, ep, ho, r⟩, _⟩ := id I.loc
  obtain ⟨sl, hL⟩ := u.any ho I.free fun z => (hch _ z).2.1 rfl
  exact I.step (ch := ch) hch (fun b o hL hb hc e n => u.keep b o e n (fun z => (List.mem_cons.mp (I.stkSub b z)).elim hL hb) hc) (fun b o _ _ hc e n => u.any e n hc) (fun b o hc e n => u.free b o e n hc) (fun b o hc e => u.there b o e hc) u.tups u.frzs u.tbls (fun m' hm => by
    obtain ⟨o', es', ep', ho', r'⟩ := hm
    rw [ho] at ho'; cases ho'
    exact ⟨_, es', ep', hL, r'⟩) hok hg
/-- an untracked record of ours (an iterator) has turned -/
theorem Inv.turned {t' : Nat} {it : Addr} (I : Inv X pins σ H s) (k : ∀ b o, b ≠ it → s.heap.get? b = some o → h'.get? b = some o) (hn : H it = none) (hL : it ≠ X.env.locals)
    (h1 : it ∈ X.ex ∨ X.s₀.heap.objs.size ≤ it) (h2 : ∀ x c, X.env.cells.lookup x = some c → c ≠ it) (h3 : ∀ p ∈ X.pn ++ pins, p.1 ≠ it) : Inv X pins σ H { s with heap := h', toks := t' } := by
  have nit : ∀ b u, H b = some u → b ≠ it := fun b u e z => by rw [z, hn] at e; cases e
  refine I.step (g' := s.gens) (d' := s.drawn) (ch := [it]) (fun b hb => ?_) (fun b o _ _ hc e _ => k b o (fun z => hc (by simp [z])) e) (fun b o _ _ hc e _ => ⟨o.slots, k b o (fun z => hc (by simp [z])) e⟩) (fun _ _ _ _ n => n)
    (fun b o hc e => ⟨o, k b o (fun z => hc (by simp [z])) e⟩) (fun _ _ e => e) (fun _ _ _ e => e) (fun b ps e => ⟨#[], by rw [e]; simp⟩) (fun m hm => ?_) (fun b u e => ?_) I.bare
  · have e : b = it := by simpa using hb
    subst e
    exact ⟨h1, hL, h2, h3⟩
  · obtain ⟨o, es, ep, ho, r⟩ := hm
    exact ⟨o, es, ep, k _ o (Ne.symm hL) ho, r⟩
  · refine (I.hok b u e).stay (fun c v hc q => k c v ?_ q) (fun _ q => q) fun _ _ q => q
    rcases hc with z | z
    · rw [z]; exact nit b u e
    · exact nit c _ z
theorem Inv.tok (I : Inv X pins σ H s) (t : Nat) : Inv X pins σ H { s with toks := t } := I.un (h' := s.heap) (t' := t) Un.refl I.hok
/-- all objects kept -/
theorem Inv.kept {t' : Nat} (I : Inv X pins σ H s) (k : ∀ b u, s.heap.get? b = some u → h'.get? b = some u) : Inv X pins σ H { s with heap := h', toks := t' } := I.un (Un.kept k) (I.hok.kept k)
/-- a new object laid and tracked -/
theorem Inv.laid {a : Addr} {o : HO} {t' : Nat} (I : Inv X pins σ H s) (k : ∀ b u, s.heap.get? b = some u → h'.get? b = some u) (hp : s.heap.objs.size ≤ a) (new : ObjOk X.prog X.w (upd H a o) h' a o) :
    Inv X pins σ (upd H a o) { s with heap := h', toks := t' } := I.un (Un.laid k hp (I.hok.fresh hp)) (I.hok.laid k hp new)
/-- an object written -/
theorem Inv.write {x e : Addr} {o : HO} {t' : Nat} (I : Inv X pins σ H s) (mu : Mut (H x)) (he : e = x ∨ H e = some (.own x)) (k : ∀ b u, b ≠ e → s.heap.get? b = some u → h'.get? b = some u) (heo : ∃ u, h'.get? e = some u)
    (new : ObjOk X.prog X.w (upd H x o) h' x o) : Inv X pins σ (upd H x o) { s with heap := h', toks := t' } := I.un (Un.write mu he k heo) (I.hok.write mu he k heo new)
theorem Inv.pins_of {pins' : List (Addr × Obj)} (I : Inv X pins σ H s) (h : ∀ p ∈ pins', s.heap.get? p.1 = some p.2 ∧ H p.1 = none ∧ p.1 ≠ X.env.locals ∧ p.1 ∉ X.fs ∧ ∀ v, p.2.data ≠ .cell v) : Inv X pins' σ H s :=
  ⟨I.ok, I.os, I.bare, I.base, I.loc, I.cell, I.free, I.freeC, fun p hp => (List.mem_append.mp hp).elim (fun z => I.pin p (List.mem_append_left _ z)) (h p), I.hok, I.len⟩

theorem nodup_ix {N : List Str} (hN : N.Nodup) {i j : Nat} {x : Str} (a : N[i]? = some x) (b : N[j]? = some x) : i = j := by
  obtain ⟨h1, e1⟩ := List.getElem?_eq_some_iff.mp a
  obtain ⟨h2, e2⟩ := List.getElem?_eq_some_iff.mp b
  exact (List.getElem_inj hN).mp (e1.trans e2.symm)

/-- a name is stored; what changed -/
theorem store_ok2 {M : Model} {A : Around} {E : Value → Shared → Prop} {i : Nat} {x : Str} {v : V} {u : Value} {Q : Unit → Shared → Prop} (I : Inv X pins σ H s) (hN : X.N.Nodup) (hi : X.N[i]? = some x) (hx : Loc X.env.scope x) (r : RelV v u)
    (h : ∀ s', Inv X pins (σ.set i (some v)) H s' → (∃ a, Heap.SameBut a s.heap s'.heap ∧ (a = X.env.locals ∨ X.env.cells.lookup x = some a)) → Q () s') (hf : X.fn x = true ∨ X.env.scope.names.lookup x = some .local := by first | exact .inl rfl | exact .inr rfl | assumption) : wpAny M A (storeName X.env x u) Q E s := by
  obtain ⟨m, hn, hl⟩ := id I.loc
  have hcls : (X.env.scope.kind == .class || (X.env.scope.kind == .module && X.env.locals != X.env.globals)) = false := by rw [I.ok.kind]; rfl
  have hiσ : i < σ.length := by rw [I.len]; exact (List.getElem?_eq_some_iff.mp hi).1
  have cne := I.cne
  have tracked : ∀ {a : Addr} {h' : Heap}, (∃ o, s.heap.get? a = some o ∧ H a = none) → Heap.SameBut a s.heap h' → HOk X.prog X.w H h' := fun {a h'} ha hs b ob e => by
    obtain ⟨_, _, hfree⟩ := ha
    refine (I.hok b ob e).stay (fun c w' hc q => (hs.2 c ?_).trans q) (fun _ q => q) fun _ _ q => q
    rintro rfl
    rcases hc with rfl | hc
    · rw [hfree] at e; cases e
    · rw [hfree] at hc; cases hc
  rcases hx with hk | hk
  · refine wpAny_storeName_local hk hn (fun h' hn' hs => ?_) hcls
    obtain ⟨oL, _, _, hoL, _⟩ := id hn
    refine h _ ⟨I.ok, I.os, I.bare, ⟨fun b o e n hb hx => ?_, fun b o e n hb hx => ?_, I.base.free, fun b o e hx => ?_, I.base.tups, I.base.frzs, I.base.tbls⟩, ⟨_, hn', fun j y v' e1 e2 e3 => ?_⟩, fun y c e => ?_, I.free, I.freeC, fun p hp => ?_, tracked ⟨oL, hoL, I.free⟩ hs, by simpa using I.len⟩ ⟨_, hs, .inl rfl⟩
    · exact (hs.2 b (Nat.ne_of_lt (Nat.lt_of_lt_of_le (Heap.lt_size e) I.ok.above))).trans (I.base.keep b o e n hb hx)
    · obtain ⟨sl, e1⟩ := I.base.slot b o e n hb hx
      exact ⟨sl, (hs.2 b (Nat.ne_of_lt (Nat.lt_of_lt_of_le (Heap.lt_size e) I.ok.above))).trans e1⟩
    · obtain ⟨o', e1⟩ := I.base.there b o e hx
      exact ⟨o', (hs.2 b (Nat.ne_of_lt (Nat.lt_of_lt_of_le (Heap.lt_size e) I.ok.above))).trans e1⟩
    · by_cases hj : j = i
      · subst hj
        rw [hi] at e1; cases e1
        rw [List.getElem?_set_self hiσ] at e2
        cases e2
        exact ⟨u, r, .inl ⟨hk, by simp⟩⟩
      · rw [List.getElem?_set_ne (Ne.symm hj)] at e2
        obtain ⟨u', r', q⟩ := hl j y v' e1 e2 e3
        refine ⟨u', r', ?_⟩
        rcases q with ⟨k, e⟩ | ⟨k, c, e, z⟩
        · refine .inl ⟨k, ?_⟩
          have : y ≠ x := fun e => hj (nodup_ix hN e1 (e ▸ hi))
          simp [this, e]
        · exact .inr ⟨k, c, e, z.sameBut hs (cne y c e)⟩
    · obtain ⟨w', z⟩ := I.cell y c e
      exact ⟨w', z.sameBut hs (cne y c e)⟩
    · obtain ⟨e, n, ne, nf, d⟩ := I.pin p hp
      exact ⟨(hs.2 p.1 ne).trans e, n, ne, nf, d⟩
  · have hfn : X.fn x = true := by
      rcases hf with z | z
      · exact z
      · rw [z] at hk; cases hk
    obtain ⟨c, hc⟩ := I.ok.has x (.inl hk)
    obtain ⟨w', z⟩ := I.cell x c hc
    refine wpAny_storeName_cell I.ok.kind hk hc z (fun h' hc' hs => ?_)
    obtain ⟨oc, hoc, hocd⟩ := id z
    refine h { s with heap := h' } ⟨I.ok, I.os, I.bare, ⟨fun b o e n hb hx => ?_, fun b o e n hb hx => ?_, I.base.free, fun b o e hx => ?_, I.base.tups, I.base.frzs, I.base.tbls⟩, ⟨m, hn.sameBut hs (Ne.symm (cne x c hc)), fun j y v' e1 e2 e3 => ?_⟩, fun y c' e => ?_, I.free, I.freeC, fun p hp => ?_, tracked ⟨oc, hoc, I.freeC x c hc⟩ hs, by simpa using I.len⟩ ⟨c, hs, .inr hc⟩
    · exact (hs.2 b (Nat.ne_of_lt (Nat.lt_of_lt_of_le (Heap.lt_size e) (I.ok.cab x c hfn hc)))).trans (I.base.keep b o e n hb hx)
    · obtain ⟨sl, e1⟩ := I.base.slot b o e n hb hx
      exact ⟨sl, (hs.2 b (Nat.ne_of_lt (Nat.lt_of_lt_of_le (Heap.lt_size e) (I.ok.cab x c hfn hc)))).trans e1⟩
    · obtain ⟨o', e1⟩ := I.base.there b o e hx
      exact ⟨o', (hs.2 b (Nat.ne_of_lt (Nat.lt_of_lt_of_le (Heap.lt_size e) (I.ok.cab x c hfn hc)))).trans e1⟩
    · by_cases hj : j = i
      · subst hj
        rw [hi] at e1; cases e1
        rw [List.getElem?_set_self hiσ] at e2
        cases e2
        exact ⟨u, r, .inr ⟨.inl hk, c, hc, hc'⟩⟩
      · rw [List.getElem?_set_ne (Ne.symm hj)] at e2
        obtain ⟨u', r', q⟩ := hl j y v' e1 e2 e3
        refine ⟨u', r', ?_⟩
        rcases q with q | ⟨k, c', e, z'⟩
        · exact .inl q
        · refine .inr ⟨k, c', e, z'.sameBut hs ?_⟩
          rintro rfl
          exact hj (nodup_ix hN e1 (I.ok.inj _ _ _ e hc ▸ hi))
    · by_cases hcc : c' = c
      · subst hcc; exact ⟨_, hc'⟩
      · obtain ⟨w2, z2⟩ := I.cell y c' e
        exact ⟨w2, z2.sameBut hs hcc⟩
    · obtain ⟨e, n, ne, nf, d⟩ := I.pin p hp
      refine ⟨(hs.2 p.1 ?_).trans e, n, ne, nf, d⟩
      intro q
      rw [q, hoc] at e
      have q' : oc = p.2 := Option.some.inj e
      exact d w' (by rw [← q']; exact hocd)
theorem store_ok {M : Model} {A : Around} {E : Value → Shared → Prop} {i : Nat} {x : Str} {v : V} {u : Value} {Q : Unit → Shared → Prop} (I : Inv X pins σ H s) (hN : X.N.Nodup) (hi : X.N[i]? = some x) (hx : Loc X.env.scope x) (r : RelV v u)
    (h : ∀ s', Inv X pins (σ.set i (some v)) H s' → Q () s') (hf : X.fn x = true ∨ X.env.scope.names.lookup x = some .local := by first | exact .inl rfl | exact .inr rfl | assumption) : wpAny M A (storeName X.env x u) Q E s :=
  store_ok2 I hN hi hx r (fun s' I' _ => h s' I') hf
/-- behind a call or a block, the state as it is -/
theorem Inv.call' {s' : Shared} {ch : List Addr} (I : Inv X pins σ H s) (ho : s'.os = s.os) (u : Un (frs X.stack) ch H H' s.heap s'.heap) (hok : HOk X.prog X.w H' s'.heap) (hg : AllBare s'.gens)
    (hch : ∀ b ∈ ch, (b ∈ X.ex ∨ X.s₀.heap.objs.size ≤ b) ∧ b ≠ X.env.locals ∧ (∀ x c, X.env.cells.lookup x = some c → c ≠ b) ∧ ∀ p ∈ X.pn ++ pins, p.1 ≠ b) : Inv X pins σ H' s' := by
  obtain ⟨h', g', d', t', o'⟩ := s'
  have e : o' = s.os := ho
  subst e
  exact I.call (g' := g') (t' := t') (d' := d') u hok hg hch
end

/-! ### the judgements -/
/-- an exception: its class, its own dict's address (where it has one), the abstract heap behind it -/
abbrev XK := Value → Option Addr → Hp → Prop
abbrev St := List (Option V)
abbrev VK := V → Hp → Prop
/-- an expression's reading; a test's; an argument list's -/
abbrev TE := St → Hp → VK → Prop
abbrev TT := St → Hp → (Bool → Hp → Prop) → Prop
abbrev TA := St → Hp → (List V → Hp → Prop) → Prop
/-- what is wanted behind a statement -/
structure Ends where
  nx : St → Hp → Prop
  rt : VK
  bk : St → Hp → Prop := fun _ _ => False
  ct : St → Hp → Prop := fun _ _ => False
abbrev TS := Ends → St → Hp → Prop

def EP (X : Cx) (pins : List (Addr × Obj)) (σ : St) (Q : VK) (u : Value) (s' : Shared) : Prop := ∃ v H', Inv X pins σ H' s' ∧ RelV v u ∧ Q v H'
def TP (X : Cx) (pins : List (Addr × Obj)) (σ : St) (Q : Bool → Hp → Prop) (b : Bool) (s' : Shared) : Prop := ∃ H', Inv X pins σ H' s' ∧ Q b H'
def AP (X : Cx) (pins : List (Addr × Obj)) (σ : St) (Q : List V → Hp → Prop) (us : List Value) (s' : Shared) : Prop := ∃ vs H', Inv X pins σ H' s' ∧ Vals vs us ∧ Q vs H'
def SP (X : Cx) (pins : List (Addr × Obj)) (D : Ends) (f : Flow) (s' : Shared) : Prop :=
  match f with
  | .next => ∃ σ' H', Inv X pins σ' H' s' ∧ D.nx σ' H'
  | .brk => ∃ σ' H', Inv X pins σ' H' s' ∧ D.bk σ' H'
  | .cont => ∃ σ' H', Inv X pins σ' H' s' ∧ D.ct σ' H'
  | .ret u => ∃ v σ' H', Inv X pins σ' H' s' ∧ RelV v u ∧ D.rt v H'

def PE (X : Cx) (e : Expr) (t : TE) : Prop :=
  ∀ (pins : List (Addr × Obj)) (s : Shared) (σ : St) (H : Hp) (Q : VK), Inv X pins σ H s → t σ H Q → wpAny (model X.prog X.w) X.A (eval e X.env) (EP X pins σ Q) X.xe s
def PT (X : Cx) (e : Expr) (t : TT) : Prop :=
  ∀ (pins : List (Addr × Obj)) (s : Shared) (σ : St) (H : Hp) (Q : Bool → Hp → Prop), Inv X pins σ H s → t σ H Q → wpAny (model X.prog X.w) X.A (isTrue e X.env (eval e X.env)) (TP X pins σ Q) X.xe s
/-- a test whatever its 'whole' is (and, or) -/
def PW (X : Cx) (e : Expr) (t : TT) : Prop :=
  ∀ (whole : Sem Value) (pins : List (Addr × Obj)) (s : Shared) (σ : St) (H : Hp) (Q : Bool → Hp → Prop), Inv X pins σ H s → t σ H Q → wpAny (model X.prog X.w) X.A (isTrue e X.env whole) (TP X pins σ Q) X.xe s
theorem PW.pt {X : Cx} {e : Expr} {t : TT} (h : PW X e t) : PT X e t := h _
/-- an argument list (no star), from the left -/
def PA (X : Cx) (es : List Expr) (t : TA) : Prop :=
  ∀ (pos : Pos) (pins : List (Addr × Obj)) (s : Shared) (σ : St) (H : Hp) (Q : List V → Hp → Prop), Inv X pins σ H s → t σ H Q → wpAny (model X.prog X.w) X.A (spliced (backTo pos (starEach es X.env))) (AP X pins σ Q) X.xe s
def PS (X : Cx) (st : Stmt) (t : TS) : Prop :=
  ∀ (pins : List (Addr × Obj)) (s : Shared) (σ : St) (H : Hp) (D : Ends), Inv X pins σ H s → t D σ H → wpAny (model X.prog X.w) X.A (exec st X.env) (SP X pins D) X.xe s
def PSs (X : Cx) (st : List Stmt) (t : TS) : Prop :=
  ∀ (pins : List (Addr × Obj)) (s : Shared) (σ : St) (H : Hp) (D : Ends), Inv X pins σ H s → t D σ H → wpAny (model X.prog X.w) X.A (execs st X.env) (SP X pins D) X.xe s
/-- weaken the end -/
theorem thn {α : Type} {t : Sem α} {Q Q' : α → Shared → Prop} {M : Model} {A : Around} {E : Value → Shared → Prop} {s : Shared} (h : wpAny M A t Q E s) (hQ : ∀ a s, Q a s → Q' a s) : wpAny M A t Q' E s := wpAny_mono h hQ fun _ _ x => x
end L2

namespace L2
open PySem PySem.Spec PyProof.Rows
section
variable {X : Cx}

/-- two expressions in a row -/
theorem bin {a b : Expr} {ta tb : TE} (ha : PE X a ta) (hb : PE X b tb) {pins : List (Addr × Obj)} {s : Shared} {σ : St} {H : Hp} {R : V → V → Hp → Prop} (I : Inv X pins σ H s) (h : ta σ H fun x H1 => tb σ H1 fun y H2 => R x y H2)
    {α : Type} {Q : α → Shared → Prop} {f : Value → Value → Sem α}
    (hf : ∀ v u s2 x y H2, Inv X pins σ H2 s2 → RelV x v → RelV y u → R x y H2 → wpAny (model X.prog X.w) X.A (f v u) Q X.xe s2) :
    wpAny (model X.prog X.w) X.A (eval a X.env) (fun v s₁ => wpAny (model X.prog X.w) X.A (eval b X.env) (fun u s₂ => wpAny (model X.prog X.w) X.A (f v u) Q X.xe s₂) X.xe s₁) X.xe s := by
  refine thn (ha pins s σ H _ I h) fun v s1 ⟨x, H1, I1, r1, q1⟩ => ?_
  refine thn (hb pins s1 σ H1 _ I1 q1) fun u s2 ⟨y, H2, I2, r2, q2⟩ => ?_
  exact hf v u s2 x y H2 I2 r1 r2 q2

/-! ### names and constants -/
def tVar (i : Nat) : TE := fun σ H Q => ∃ v, σ[i]? = some (some v) ∧ Q v H
def tC (v : V) : TE := fun _ H Q => Q v H
theorem pe_var {i : Nat} {x : Str} {pos : Pos} (hN : X.N[i]? = some x) (hv : Vis X.env.scope x) (hd : (x == ("__debug__" : Str)) = false := by decide) (hcd : (x == ("__classdict__" : Str)) = false := by decide) : PE X (.Name x pos) (tVar i) := by
  intro pins s σ H Q I h
  obtain ⟨v, e, h⟩ := h
  obtain ⟨m, hn, hl⟩ := I.loc
  obtain ⟨u, r, l⟩ := hl i x v hN e hv
  have fin : EP X pins σ Q u s := ⟨v, H, I, r, h⟩
  rcases l with ⟨hk, hm⟩ | ⟨hk, c, hc, hcell⟩
  · exact wpAny_Name (wpAny_loadName_local I.ok.kind hk hn hm fin) hd
  · rcases hk with hk | hk
    · exact wpAny_Name (wpAny_loadName_cell I.ok.kind hk hc hcell fin) hd
    · exact wpAny_Name (wpAny_loadName_free I.ok.kind hk hc hcell fin hcd) hd
theorem pe_int {i j pos} : PE X (.Constant (.int i) j pos) (tC (.int i)) := fun _ _ _ H _ I h => wpAny_Constant_int ⟨.int i, H, I.tok _, ⟨_, rfl⟩, h⟩
theorem pe_bl {b j pos} : PE X (.Constant (.bool b) j pos) (tC (.bl b)) := fun _ _ _ H _ I h => Constant_bool ⟨.bl b, H, I, rfl, h⟩
theorem pe_non {j pos} : PE X (.Constant .none j pos) (tC .non) := fun _ _ _ H _ I h => Constant_none ⟨.non, H, I, rfl, h⟩
theorem pe_str {x j pos} : PE X (.Constant (.str x) j pos) (tC (.str x)) := fun _ _ _ H _ I h => Calls.Constant_str ⟨.str x, H, I.tok _, ⟨_, rfl⟩, h⟩

/-- a global name of the def -/
def Gl (X : Cx) (x : Str) : Prop := X.env.kindOf x = some .globalImplicit
theorem ld_glob {E : Value → Shared → Prop} {pins : List (Addr × Obj)} {s : Shared} {σ : St} {H : Hp} {x : Str} {u : Value} {pos : Pos} {Q : Value → Shared → Prop} (I : Inv X pins σ H s) (hg : Gl X x) (hm : X.mg x = some u) (h : Q u s)
    (hd : (x == ("__debug__" : Str)) = false := by decide) : wpAny (model X.prog X.w) X.A (eval (.Name x pos) X.env) Q E s :=
  Calls.Name_function_global I.ok.kind hg (Calls.loadGlobal_global (by rw [I.ok.glob]; exact I.mod.glob.keeps I.bk) hm h) hd
theorem ld_blt {E : Value → Shared → Prop} {pins : List (Addr × Obj)} {s : Shared} {σ : St} {H : Hp} {x : Str} {u : Value} {pos : Pos} {Q : Value → Shared → Prop} (I : Inv X pins σ H s) (hg : Gl X x) (hm : X.mg x = none) (hv : bootBuiltins x = some u) (h : Q u s)
    (hn : x ≠ "__name__" := by decide) (hd : (x == ("__debug__" : Str)) = false := by decide) : wpAny (model X.prog X.w) X.A (eval (.Name x pos) X.env) Q E s := by
  obtain ⟨mb, h1, h2⟩ := I.mod.blt
  exact Calls.Name_function_global I.ok.kind hg (Calls.loadGlobal_builtin (by rw [I.ok.glob]; exact I.mod.glob.keeps I.bk) hm (by rw [I.ok.blt]; exact h1.keeps I.bk) ((h2 x hn).trans hv) h) hd
/-- a module's constant, a class, a function, as a value -/
theorem pe_glob {x : Str} {v : V} {u : Value} {pos : Pos} (hg : Gl X x) (hm : X.mg x = some u) (r : RelV v u) (hd : (x == ("__debug__" : Str)) = false := by decide) : PE X (.Name x pos) (tC v) :=
  fun _ _ _ H _ I h => ld_glob I hg hm ⟨v, H, I, r, h⟩ hd
theorem pe_bltn {x : Str} {v : V} {u : Value} {pos : Pos} (hg : Gl X x) (hm : X.mg x = none) (hv : bootBuiltins x = some u) (r : RelV v u) (hn : x ≠ "__name__" := by decide) (hd : (x == ("__debug__" : Str)) = false := by decide) : PE X (.Name x pos) (tC v) :=
  fun _ _ _ H _ I h => ld_blt I hg hm hv ⟨v, H, I, r, h⟩ hn hd

/-! ### arithmetic -/
variable {a b : Expr} {ta tb : TE} {pos : Pos}
/-! ### comparisons -/
def PC (X : Cx) (op : CmpOp) (a b : Expr) (t : TE) : Prop :=
  ∀ (pins : List (Addr × Obj)) (s : Shared) (σ : St) (H : Hp) (Q : VK), Inv X pins σ H s → t σ H Q →
    wpAny (model X.prog X.w) X.A (eval a X.env) (fun v s₁ => wpAny (model X.prog X.w) X.A (eval b X.env) (fun u s₂ => wpAny (model X.prog X.w) X.A (compareOp op v u) (EP X pins σ Q) X.xe s₂) X.xe s₁) X.xe s
theorem nobehind (b : Expr) {op : CmpOp} (h : op ≠ .In) (h2 : op ≠ .NotIn) : behindInMarks op b = false := by
  have e1 : (op == CmpOp.In) = false := by cases op <;> first | rfl | exact absurd rfl h
  have e2 : (op == CmpOp.NotIn) = false := by cases op <;> first | rfl | exact absurd rfl h2
  cases b <;> simp [behindInMarks, e1, e2]
/-- a comparison as a value, as a test -/
def tB (t : TE) : TT := fun σ H Q => t σ H fun x H1 => ∃ c, x = .bl c ∧ Q c H1
theorem pt_cmp {op : CmpOp} {t : TE} (h : PC X op a b t) (h1 : behindInMarks op b = false := by first | exact nobehind _ (by decide) (by decide) | rfl) : PT X (.Compare a [op] [b] pos) (tB t) := by
  intro pins s σ H Q I hw
  refine wpAny_isTrue_Compare1 (thn (h pins s σ H _ I hw) fun v s1 h1 => thn h1 fun u s2 h2 => thn h2 fun c s3 ⟨x, H1, I1, r1, q1⟩ => ?_) h1
  obtain ⟨d, rfl, q⟩ := q1
  cases r1
  exact wpAny_truthy_bool ⟨H1, I1, q⟩
/-! ### and, or, not -/
variable {tA tB' : TT} {rest : List Expr}
def tAnd (t u : TT) : TT := fun σ H Q => t σ H fun c H1 => if c = true then u σ H1 Q else Q false H1
def tOr (t u : TT) : TT := fun σ H Q => t σ H fun c H1 => if c = true then Q true H1 else u σ H1 Q
def tNot (t : TT) : TT := fun σ H Q => t σ H fun c H1 => Q (!c) H1
theorem pw_and1 (ha : PT X a tA) : PW X (.BoolOp .And [a] pos) tA := by
  intro wh pins s σ H Q I h
  refine isTrue_and (thn (ha pins s σ H Q I h) fun c s1 e => ?_)
  cases c with
  | true => exact isTrue_and_nil e
  | false => exact e
theorem pw_or1 (ha : PT X a tA) : PW X (.BoolOp .Or [a] pos) tA := by
  intro wh pins s σ H Q I h
  refine isTrue_or (thn (ha pins s σ H Q I h) fun c s1 e => ?_)
  cases c with
  | false => exact isTrue_or_nil e
  | true => exact e
theorem pw_and (ha : PT X a tA) (hb : PW X (.BoolOp .And (b :: rest) pos) tB') : PW X (.BoolOp .And (a :: b :: rest) pos) (tAnd tA tB') := by
  intro wh pins s σ H Q I h
  refine isTrue_and (thn (ha pins s σ H _ I h) fun c s1 ⟨H1, I1, q1⟩ => ?_)
  cases c with
  | true => exact hb wh pins s1 σ H1 Q I1 q1
  | false => exact ⟨H1, I1, q1⟩
theorem pw_or (ha : PT X a tA) (hb : PW X (.BoolOp .Or (b :: rest) pos) tB') : PW X (.BoolOp .Or (a :: b :: rest) pos) (tOr tA tB') := by
  intro wh pins s σ H Q I h
  refine isTrue_or (thn (ha pins s σ H _ I h) fun c s1 ⟨H1, I1, q1⟩ => ?_)
  cases c with
  | true => exact ⟨H1, I1, q1⟩
  | false => exact hb wh pins s1 σ H1 Q I1 q1
theorem pt_not (ha : PT X a tA) : PT X (.UnaryOp .Not a pos) (tNot tA) := by
  intro pins s σ H Q I h
  exact isTrue_not (ha pins s σ H (fun c H1 => Q (!c) H1) I h)
/-- .. as values (bools) -/
def tAndV (ta tb : TE) : TE := fun σ H Q => ta σ H fun x H1 => ∃ c, x = .bl c ∧ if c = true then tb σ H1 Q else Q (.bl false) H1
def tOrV (ta tb : TE) : TE := fun σ H Q => ta σ H fun x H1 => ∃ c, x = .bl c ∧ if c = true then Q (.bl true) H1 else tb σ H1 Q
def tNotV (ta : TE) : TE := fun σ H Q => ta σ H fun x H1 => ∃ c, x = .bl c ∧ Q (.bl (!c)) H1
theorem pe_one {op} {t : TE} (h : PE X a t) : PE X (.BoolOp op [a] pos) t := fun pins s σ H Q I hw => BoolOp_one (h pins s σ H Q I hw)
theorem pe_and (ha : PE X a ta) (hb : PE X (.BoolOp .And (b :: rest) pos) tb) : PE X (.BoolOp .And (a :: b :: rest) pos) (tAndV ta tb) := by
  intro pins s σ H Q I h
  refine BoolOp_and (thn (ha pins s σ H _ I h) fun v s1 ⟨x, H1, I1, r1, q1⟩ => ?_)
  obtain ⟨c, rfl, q1⟩ := q1
  cases r1
  refine wpAny_truthy_bool ?_
  cases c with
  | true => exact hb pins s1 σ H1 Q I1 q1
  | false => exact ⟨.bl false, H1, I1, rfl, q1⟩
theorem pe_or (ha : PE X a ta) (hb : PE X (.BoolOp .Or (b :: rest) pos) tb) : PE X (.BoolOp .Or (a :: b :: rest) pos) (tOrV ta tb) := by
  intro pins s σ H Q I h
  refine BoolOp_or (thn (ha pins s σ H _ I h) fun v s1 ⟨x, H1, I1, r1, q1⟩ => ?_)
  obtain ⟨c, rfl, q1⟩ := q1
  cases r1
  refine wpAny_truthy_bool ?_
  cases c with
  | false => exact hb pins s1 σ H1 Q I1 q1
  | true => exact ⟨.bl true, H1, I1, rfl, q1⟩
theorem pe_not (ha : PE X a ta) : PE X (.UnaryOp .Not a pos) (tNotV ta) := by
  intro pins s σ H Q I h
  refine UnaryOp_ (thn (ha pins s σ H _ I h) fun v s1 ⟨x, H1, I1, r1, q1⟩ => ?_)
  obtain ⟨c, rfl, q1⟩ := q1
  cases r1
  exact not_of (wpAny_truthy_bool ⟨.bl (!c), H1, I1, rfl, q1⟩)
end
end L2

namespace L2
open PySem PySem.Spec PyProof.Rows

/-! ### a list, a tuple that is read: tracked, frozen, or an object of the module -/
def SqL (K : PySem.W.Frag) (H : Hp) (a : Addr) (xs : List V) : Prop :=
  Rd H a (.lst xs) ∨
    ∃ (o : Obj) (its : Array Value) (n : Nat), K.lookup a = some o ∧ o.cls = .type "list" ∧ o.dict = none ∧ o.data = .seq its n ∧ its.size ≤ sizeLine ∧ Vals xs its.toList
def SqT (K : PySem.W.Frag) (H : Hp) (a : Addr) (xs : List V) : Prop :=
  Rd H a (.tup xs) ∨
    ∃ (o : Obj) (its : Array Value) (n : Nat), K.lookup a = some o ∧ o.cls = .type "tuple" ∧ o.data = .seq its n ∧ its.size ≤ sizeLine ∧ Vals xs its.toList
def absV : Value → Option V
  | .none => some .non
  | .bool b => some (.bl b)
  | .int i _ => some (.int i)
  | .str x _ => some (.str x)
  | .bytes b _ => some (.byt b)
  | .float b _ => some (.flt b)
  | .ref a => some (.ref a)
  | .type n => some (.ty n)
  | _ => none
theorem RelV.abs {x : V} {u : Value} (r : RelV x u) : absV u = some x := by
  cases x with
  | non => cases r; rfl
  | bl _ => cases r; rfl
  | int _ => obtain ⟨t, rfl⟩ := r; rfl
  | str _ => obtain ⟨t, rfl⟩ := r; rfl
  | byt _ => obtain ⟨t, rfl⟩ := r; rfl
  | flt _ => obtain ⟨t, rfl⟩ := r; rfl
  | ref _ => cases r; rfl
  | ty _ => cases r; rfl
theorem RelV.inj {x y : V} {u : Value} (r : RelV x u) (q : RelV y u) : x = y := Option.some.inj (r.abs.symm.trans q.abs)
theorem Vals.inj : ∀ {xs ys : List V} {us : List Value}, Vals xs us → Vals ys us → xs = ys
  | _, _, _, .nil, .nil => rfl
  | _, _, _, .cons r t, .cons r' t' => by rw [r.inj r', Vals.inj t t']
section
variable {X : Cx} {pins : List (Addr × Obj)} {σ : St} {H : Hp} {s : Shared} {a : Addr} {xs ys : List V}
theorem SqL.of {K : PySem.W.Frag} (h : H a = some (.lst xs)) : SqL K H a xs := .inl (.inl h)
theorem SqT.of {K : PySem.W.Frag} (h : H a = some (.tup xs)) : SqT K H a xs := .inl (.inl h)
theorem Inv.list (I : Inv X pins σ H s) (h : SqL X.K H a xs) : ∃ its : List Value, Vals xs its ∧ PlainL s.heap a its.toArray ∧ xs.length ≤ sizeLine := by
  rcases h with h | ⟨o, its, n, hk, hc, hd, hs, hz, r⟩
  · obtain ⟨z, its, n, r, e⟩ := h.ok I.hok
    exact ⟨its, r, ⟨_, n, e, rfl, rfl, rfl⟩, z⟩
  · refine ⟨its.toList, r, ⟨o, n, I.kIn a o hk, hc, hd, by simpa using hs⟩, ?_⟩
    have e := r.length
    simp only [Array.length_toList] at e
    omega
theorem Inv.tuple (I : Inv X pins σ H s) (h : SqT X.K H a xs) : ∃ its : List Value, Vals xs its ∧ IsTup s.heap a its.toArray ∧ xs.length ≤ sizeLine := by
  rcases h with h | ⟨o, its, n, hk, hc, hs, hz, r⟩
  · obtain ⟨z, its, r, p⟩ := h.ok I.hok
    exact ⟨its, r, p, z⟩
  · refine ⟨its.toList, r, ⟨o, I.kIn a o hk, hc, n, by simpa using hs⟩, ?_⟩
    have e := r.length
    simp only [Array.length_toList] at e
    omega
theorem Inv.list_inj (I : Inv X pins σ H s) (h : SqL X.K H a xs) (h' : SqL X.K H a ys) : xs = ys := by
  obtain ⟨its, r, ⟨o, n, e, _, _, d⟩, _⟩ := I.list h
  obtain ⟨its', r', ⟨o', n', e', _, _, d'⟩, _⟩ := I.list h'
  rw [e] at e'; cases e'
  rw [d] at d'
  injection d' with d1 _
  have : its = its' := by simpa using congrArg Array.toList d1
  subst this
  exact r.inj r'
theorem Inv.tuple_inj (I : Inv X pins σ H s) (h : SqT X.K H a xs) (h' : SqT X.K H a ys) : xs = ys := by
  obtain ⟨its, r, ⟨o, e, _, n, d⟩, _⟩ := I.tuple h
  obtain ⟨its', r', ⟨o', e', _, n', d'⟩, _⟩ := I.tuple h'
  rw [e] at e'; cases e'
  rw [d] at d'
  injection d' with d1 _
  have : its = its' := by simpa using congrArg Array.toList d1
  subst this
  exact r.inj r'
end

/-! ### another wish about exceptions -/
abbrev Cx.wish (X : Cx) (E : Value → Shared → Prop) : Cx := { X with xe := E }
/-- no exception leaves -/
abbrev Cx.nox (X : Cx) : Cx := X.wish fun _ _ => False
theorem Cx.Ok.wish {X : Cx} (ok : X.Ok) (E : Value → Shared → Prop) : (X.wish E).Ok :=
  ⟨ok.mod, ok.kind, ok.glob, ok.blt, ok.above, ok.inj, ok.has, ok.cab, ok.hd, ok.frames, ok.stk, ok.exf, ok.bs, ok.bsz, ok.noex, ok.exfs, ok.funs, ok.frf⟩
theorem Cx.Ok.unwish {X : Cx} {E : Value → Shared → Prop} (ok : (X.wish E).Ok) : X.Ok :=
  ⟨ok.mod, ok.kind, ok.glob, ok.blt, ok.above, ok.inj, ok.has, ok.cab, ok.hd, ok.frames, ok.stk, ok.exf, ok.bs, ok.bsz, ok.noex, ok.exfs, ok.funs, ok.frf⟩
section
variable {X : Cx} {pins : List (Addr × Obj)} {σ : St} {H : Hp} {s : Shared} {E : Value → Shared → Prop}
theorem Inv.wish (I : Inv X pins σ H s) (E : Value → Shared → Prop) : Inv (X.wish E) pins σ H s := ⟨I.ok.wish E, I.os, I.bare, I.base, I.loc, I.cell, I.free, I.freeC, I.pin, I.hok, I.len⟩
theorem Inv.unwish (I : Inv (X.wish E) pins σ H s) : Inv X pins σ H s := ⟨I.ok.unwish, I.os, I.bare, I.base, I.loc, I.cell, I.free, I.freeC, I.pin, I.hok, I.len⟩
theorem SP.unwish {D : Ends} {f : Flow} {s' : Shared} (h : SP (X.wish E) pins D f s') : SP X pins D f s' := by
  cases f with
  | next => obtain ⟨σ', H', I, q⟩ := h; exact ⟨σ', H', I.unwish, q⟩
  | brk => obtain ⟨σ', H', I, q⟩ := h; exact ⟨σ', H', I.unwish, q⟩
  | cont => obtain ⟨σ', H', I, q⟩ := h; exact ⟨σ', H', I.unwish, q⟩
  | ret u => obtain ⟨v, σ', H', I, r, q⟩ := h; exact ⟨v, σ', H', I.unwish, r, q⟩
theorem PSs.nox {st : List Stmt} {t : TS} (h : PSs X.nox st t) : PSs X st t := fun pins s σ H D I hw =>
  wpAny_mono (h pins s σ H D (I.wish _) hw) (fun _ _ q => q.unwish) fun _ _ z => False.elim z
end

/-! ### blocks and small statements -/
section
variable {X : Cx} {st : Stmt} {rest : List Stmt} {t u : TS} {e : Expr} {te : TE} {pos : Pos}
def tNext : TS := fun D σ H => D.nx σ H
def tSeq (t u : TS) : TS := fun D σ H => t { D with nx := u D } σ H
theorem pss_nil : PSs X [] tNext := fun _ _ σ H _ I h => wpAny_execs_nil ⟨σ, H, I, h⟩
theorem pss_cons (h1 : PS X st t) (h2 : PSs X rest u) : PSs X (st :: rest) (tSeq t u) := by
  intro pins s σ H D I h
  refine wpAny_execs_cons (thn (h1 pins s σ H { D with nx := u D } I h) fun f s1 q => ?_)
  cases f with
  | next =>
    obtain ⟨σ', H', I', q⟩ := q
    exact h2 pins s1 σ' H' D I' q
  | ret v => exact q
  | brk => exact q
  | cont => exact q
theorem pss_one (h1 : PS X st t) : PSs X [st] t := by
  intro pins s σ H D I h
  refine wpAny_execs_cons (thn (h1 pins s σ H D I h) fun f s1 q => ?_)
  cases f with
  | next => exact wpAny_execs_nil q
  | ret v => exact q
  | brk => exact q
  | cont => exact q
/-- in a def's body nothing is shown -/
theorem Inv.quiet {pins : List (Addr × Obj)} {σ : St} {H : Hp} {s : Shared} (I : Inv X pins σ H s) : interactive X.env = false := by simp [interactive, I.ok.kind]
/-- an expression whose value is dropped -/
def tDrop (te : TE) : TS := fun D σ H => te σ H fun _ H1 => D.nx σ H1
theorem ps_expr (he : PE X e te) (hs : swapsWith e none pos.line X.env = pure false := by rfl) : PS X (.Expr e pos) (tDrop te) := by
  intro pins s σ H D I h
  exact wpAny_Expr_any (thn (he pins s σ H _ I h) fun v s1 ⟨x, H1, I1, r1, q1⟩ => ⟨σ, H1, I1, q1⟩) I.quiet hs
def tRet (te : TE) : TS := fun D σ H => te σ H D.rt
theorem ps_ret (he : PE X e te) : PS X (.Return (some e) pos) (tRet te) := by
  intro pins s σ H D I h
  exact wpAny_Return_some (thn (he pins s σ H _ I h) fun v s1 ⟨x, H1, I1, r1, q1⟩ => ⟨x, σ, H1, I1, r1, q1⟩)
def tIfS (c : TT) (t u : TS) : TS := fun D σ H => c σ H fun b H1 => if b = true then t D σ H1 else u D σ H1
theorem ps_if {c : Expr} {a b : List Stmt} {tc : TT} (hc : PT X c tc) (ha : PSs X a t) (hb : PSs X b u) : PS X (.If c a b pos) (tIfS tc t u) := by
  intro pins s σ H D I h
  refine wpAny_If (thn (hc pins s σ H _ I h) fun d s1 ⟨H1, I1, q1⟩ => ?_)
  cases d with
  | true => exact ha pins s1 σ H1 D I1 q1
  | false => exact hb pins s1 σ H1 D I1 q1
/-- code that the proof never comes to -/
def tNever : TS := fun _ _ _ => False
theorem pss_never {sts : List Stmt} : PSs X sts tNever := fun _ _ _ _ _ _ h => h.elim
end

/-! ### targets -/
abbrev TG := V → St → Hp → (St → Hp → Prop) → Prop
abbrev TGs := List V → St → Hp → (St → Hp → Prop) → Prop
def PG (X : Cx) (target : Expr) (t : TG) : Prop :=
  ∀ (pins : List (Addr × Obj)) (s : Shared) (σ : St) (H : Hp) (v : V) (u : Value) (Q : St → Hp → Prop), Inv X pins σ H s → RelV v u → t v σ H Q →
    wpAny (model X.prog X.w) X.A (assign target X.env u) (fun _ s' => ∃ σ' H', Inv X pins σ' H' s' ∧ Q σ' H') X.xe s
/-- several targets, one after another -/
def PGs (X : Cx) (ts : List Expr) (t : TGs) : Prop :=
  ∀ (pins : List (Addr × Obj)) (s : Shared) (σ : St) (H : Hp) (vs : List V) (us : List Value) (Q : St → Hp → Prop), Inv X pins σ H s → Vals vs us → t vs σ H Q →
    wpAny (model X.prog X.w) X.A (assignInOrder ((assignEach ts X.env).map (·.2)) us) (fun _ s' => ∃ σ' H', Inv X pins σ' H' s' ∧ Q σ' H') X.xe s
/-- o[i] = v, by values -/
abbrev TSet := V → V → V → Hp → (Hp → Prop) → Prop
def PSet (X : Cx) (t : TSet) : Prop :=
  ∀ (pins : List (Addr × Obj)) (s : Shared) (σ : St) (H : Hp) (o i v : V) (ov iv u : Value) (Q : Hp → Prop), Inv X pins σ H s → RelV o ov → RelV i iv → RelV v u → t o i v H Q →
    wpAny (model X.prog X.w) X.A (setItem ov iv u) (fun _ s' => ∃ H', Inv X pins σ H' s' ∧ Q H') X.xe s
section
variable {X : Cx} {pos : Pos}
def gName (i : Nat) : TG := fun v σ H Q => Q (σ.set i (some v)) H
theorem pg_name {i : Nat} {x : Str} (hN : X.N.Nodup) (hi : X.N[i]? = some x) (hx : Loc X.env.scope x) (hf : X.fn x = true ∨ X.env.scope.names.lookup x = some .local := by first | exact .inl rfl | exact .inr rfl | assumption) : PG X (.Name x pos) (gName i) := by
  intro pins s σ H v u Q I r h
  exact wpAny_assign_Name (store_ok I hN hi hx r (fun s' I' => ⟨_, H, I', h⟩) hf)
def gNil : TGs := fun vs σ H Q => vs = [] ∧ Q σ H
def gCons (t : TG) (u : TGs) : TGs := fun vs σ H Q => ∃ v r, vs = v :: r ∧ t v σ H fun σ' H' => u r σ' H' Q
theorem pgs_nil : PGs X [] gNil := by
  intro pins s σ H vs us Q I r h
  obtain ⟨e, h⟩ := h
  subst e
  cases r
  exact assignInOrder_nil ⟨σ, H, I, h⟩
theorem pgs_cons {e : Expr} {es : List Expr} {t : TG} {u : TGs} (h1 : PG X e t) (h2 : PGs X es u)
    (hs : (assignEach (e :: es) X.env).map (·.2) = assign e X.env :: (assignEach es X.env).map (·.2) := by rfl) : PGs X (e :: es) (gCons t u) := by
  intro pins s σ H vs us Q I r h
  obtain ⟨v, vr, e1, h⟩ := h
  subst e1
  cases r with
  | cons r rr =>
    rw [hs]
    refine assignInOrder_cons (thn (h1 pins s σ H _ _ _ I r h) fun _ s1 ⟨σ1, H1, I1, q1⟩ => ?_)
    exact h2 pins s1 σ1 H1 _ _ Q I1 rr q1
/-- (a, b, ..) = a tuple of that length -/
def gTup (K : PySem.W.Frag) (n : Nat) (t : TGs) : TG := fun v σ H Q => ∃ a xs, v = .ref a ∧ SqT K H a xs ∧ xs.length = n ∧ t xs σ H Q
theorem pg_tup {es : List Expr} {k : Nat} {t : TGs} {n : Nat} (hc : X.calm = true) (h : PGs X es t)
    (hn : (assignEach es X.env).length = n := by rfl) (hst : (assignEach es X.env).findIdx? (·.1) = none := by rfl) : PG X (.Tuple es k pos) (gTup X.K n t) := by
  intro pins s σ H v u Q I r hw
  obtain ⟨a, xs, e1, hq, hl, hw⟩ := hw
  subst e1
  cases r
  obtain ⟨its, rv, ht, hz⟩ := I.tuple hq
  refine assign_Tuple_tuple (I.ok.hd hc) ht (by simp [hn, ← hl, rv.length]) hst fun h' hx => ?_
  have I1 : Inv X pins σ H { s with heap := h' } := I.kept (t' := s.toks) fun b o e => hx b o (Nat.ne_of_lt (Heap.lt_size e)) e
  exact h pins _ σ H xs _ Q I1 (by simpa using rv) hw
/-- o[i] = .. -/
def gSub (to ti : TE) (t : TSet) : TG := fun v σ H Q => to σ H fun o H1 => ti σ H1 fun i H2 => t o i v H2 fun H3 => Q σ H3
theorem pg_sub {o i : Expr} {to ti : TE} {t : TSet} (ho : PE X o to) (hi : PE X i ti) (hs : PSet X t)
    (ha : ∀ v, assign (.Subscript o i pos) X.env v = (do
      let ov ← holding [v] (eval o X.env)
      let iv ← holding [v, ov] (eval i X.env)
      standAt pos
      holding [v, ov, iv] (setItem ov iv v)
      release [v, ov, iv] []) := by intro _; rfl) : PG X (.Subscript o i pos) (gSub to ti t) := by
  intro pins s σ H v u Q I r h
  rw [ha]
  refine wpAny_bind (wpAny_holding (thn (ho pins s σ H _ I h) fun ov s1 ⟨x, H1, I1, r1, q1⟩ => ?_))
  refine wpAny_bind (wpAny_holding (thn (hi pins s1 σ H1 _ I1 q1) fun iv s2 ⟨y, H2, I2, r2, q2⟩ => ?_))
  refine wpAny_bind (wpAny_standAt (wpAny_bind (wpAny_holding (thn (hs pins s2 σ H2 x y v ov iv u _ I2 r1 r2 r q2) fun _ s3 ⟨H3, I3, q3⟩ => ?_))))
  exact wpAny_release ⟨σ, H3, I3, q3⟩
/-- target = value -/
def tAsg (te : TE) (g : TG) : TS := fun D σ H => te σ H fun x H1 => g x σ H1 D.nx
theorem ps_asg {tg e : Expr} {te : TE} {g : TG} (he : PE X e te) (hg : PG X tg g) (hs : swapsWithSole [tg] e pos.line X.env = pure false := by rfl) (hw : swappedStores [tg] e X.env = pure none := by rfl)
    (h1 : (assignEach [tg] X.env).map (·.2) = [assign tg X.env] := by rfl) : PS X (.Assign [tg] e pos) (tAsg te g) := by
  intro pins s σ H D I h
  refine wpAny_Assign_stores (thn (he pins s σ H _ I h) fun v s1 ⟨x, H1, I1, r1, q1⟩ => ?_) hs hw
  rw [h1]
  exact thn (hg pins s1 σ H1 x v _ I1 r1 q1) fun _ s2 q => q
/-- name = value -/
theorem ps_set {i : Nat} {x : Str} {e : Expr} {te : TE} {pos' : Pos} (hN : X.N.Nodup) (hi : X.N[i]? = some x) (hx : Loc X.env.scope x) (he : PE X e te) (hs : swapsWith e (some (.Name x pos')) pos.line X.env = pure false := by rfl) (hf : X.fn x = true ∨ X.env.scope.names.lookup x = some .local := by first | exact .inl rfl | exact .inr rfl | assumption) :
    PS X (.Assign [.Name x pos'] e pos) (tAsg te (gName i)) := by
  intro pins s σ H D I h
  refine wpAny_Assign_Name (thn (he pins s σ H _ I h) fun v s1 ⟨y, H1, I1, r1, q1⟩ => ?_) hs
  exact store_ok I1 hN hi hx r1 (fun s2 I2 => ⟨_, H1, I2, q1⟩) hf
end

/-! ### while -/
section
variable {X : Cx} {pos : Pos}
end

/-! ### what a loop or a comprehension walks -/
/-- at turn i: it yields x (the heap may grow), or it stops -/
structure It where
  go : Nat → Hp → Prop
  yld : Nat → Hp → V → Hp → Prop
  stop : Nat → Hp → Prop
/-- the iterator's own objects may turn: they are not the frame's, not pinned, younger than the entry (or a comprehension's own) -/
def FpOk (X : Cx) (pins : List (Addr × Obj)) (H : Hp) (b : Addr) : Prop :=
  H b = none ∧ b ≠ X.env.locals ∧ b ∉ X.fs ∧ (b ∈ X.ex ∨ X.s₀.heap.objs.size ≤ b) ∧ (∀ x c, X.env.cells.lookup x = some c → c ≠ b) ∧ ∀ p ∈ X.pn ++ pins, p.1 ≠ b
theorem Inv.fpOk {X : Cx} {pins : List (Addr × Obj)} {σ : St} {H H' : Hp} {s : Shared} {b : Addr} (I : Inv X pins σ H s) (hb : s.heap.objs.size ≤ b) (hn : H' b = none) : FpOk X pins H' b := by
  refine ⟨hn, Nat.ne_of_gt (Nat.lt_of_lt_of_le I.lt hb), I.nofs hb, .inr (Nat.le_trans I.sz hb), fun x c e z => ?_, fun p hp z => ?_⟩
  · obtain ⟨v, q⟩ := I.cell x c e
    exact absurd (Nat.lt_of_lt_of_le q.lt (by rw [z]; exact hb)) (Nat.lt_irrefl _)
  · exact absurd (Nat.lt_of_lt_of_le (Heap.lt_size (I.pin p hp).1) (by rw [z]; exact hb)) (Nat.lt_irrefl _)
structure Turn (P : Program) (w : World) (K : PySem.W.Frag) (tg : Expr) (J : It) (fp : List Addr) (it : Addr) (tn : Nat → Heap → Prop) : Prop where
  mem : it ∈ fp
  obj : ∀ i h, tn i h → ∀ b ∈ fp, ∃ o, h.get? b = some o ∧ ∀ v, o.data ≠ .cell v
  keep : ∀ i h h', tn i h → (∀ b ∈ fp, ∀ o, h.get? b = some o → h'.get? b = some o) → tn i h'
  item : ∀ (X : Cx), X.prog = P → X.w = w → X.K = K → X.calm = true → ∀ (i : Nat) (pins : List (Addr × Obj)) (s : Shared) (σ : St) (H : Hp) (E : Value → Shared → Prop), Inv X pins σ H s → (∀ b ∈ fp, FpOk X pins H b) → tn i s.heap → J.go i H →
    wpAny (model P w) X.A (pyNext (.ref it)) (fun r s1 => ∃ u, r = some u ∧
      wpAny (model P w) X.A (letOwnedTupleGo tg (.ref it) u) (fun _ s2 => ∃ x H', Inv X pins σ H' s2 ∧ RelV x u ∧ J.yld i H x H' ∧ tn (i + 1) s2.heap ∧ ∀ b ∈ fp, H' b = none) E s1) E s
  done : ∀ (X : Cx), X.prog = P → X.w = w → X.K = K → X.calm = true → ∀ (i : Nat) (pins : List (Addr × Obj)) (s : Shared) (σ : St) (H : Hp) (E : Value → Shared → Prop), Inv X pins σ H s → (∀ b ∈ fp, FpOk X pins H b) → tn i s.heap → J.stop i H →
    wpAny (model P w) X.A (pyNext (.ref it)) (fun r s1 => r = none ∧ Inv X pins σ H s1) E s
  self : ∀ (A : Around) (i : Nat) (s : Shared) (Q : Value → Shared → Prop) (E : Value → Shared → Prop), tn i s.heap → Q (.ref it) s → wpAny (model P w) A (pyIter (.ref it)) Q E s
abbrev TI := St → Hp → (It → Hp → Prop) → Prop
/-- an iterator has come -/
def PIE (X : Cx) (pins : List (Addr × Obj)) (σ : St) (tg : Expr) (R : It → Hp → Prop) (itv : Value) (s2 : Shared) : Prop :=
  ∃ (it : Addr) (fp : List Addr) (tn : Nat → Heap → Prop) (J : It) (H' : Hp), itv = .ref it ∧ Inv X pins σ H' s2 ∧ Turn X.prog X.w X.K tg J fp it tn ∧ tn 0 s2.heap ∧ (∀ b ∈ fp, FpOk X pins H' b) ∧ R J H'
def PI (X : Cx) (tg iter : Expr) (wi : TI) : Prop :=
  ∀ (pins : List (Addr × Obj)) (s : Shared) (σ : St) (H : Hp) (R : It → Hp → Prop), Inv X pins σ H s → wi σ H R →
    wpAny (model X.prog X.w) X.A (eval iter X.env) (fun v s1 => wpAny (model X.prog X.w) X.A (pyIter v) (PIE X pins σ tg R) X.xe s1) X.xe s

/-- the step ahead of the store is nothing for an iterator that keeps no tuple -/
theorem go_of {M : Model} {A : Around} {E : Value → Shared → Prop} {s : Shared} {tg : Expr} {it : Addr} {u : Value} {o : Obj} {n : String} {vs : Array Value} {Q : Unit → Shared → Prop} (ho : s.heap.get? it = some o) (hc : o.cls = .type n) (hd : o.data = .fields vs)
    (hn : ["enumerate", "zip", "dict_itemiterator", "dict_reverseitemiterator", "odict_iterator", "itertools.zip_longest", "itertools.pairwise"].contains n = false) (hQ : Q () s) : wpAny M A (letOwnedTupleGo tg (.ref it) u) Q E s := by
  unfold letOwnedTupleGo
  cases tg <;> first
    | exact wpAny_pure hQ
    | (cases u <;> first
        | exact wpAny_pure hQ
        | (refine wpAny_bind (wpAny_load ho ?_)
           rw [hc, hd]
           show wpAny M A (if (["enumerate", "zip", "dict_itemiterator", "dict_reverseitemiterator", "odict_iterator", "itertools.zip_longest", "itertools.pairwise"].contains n && vs[0]? == some (rawInt _)) = true then _ else _) Q E s
           rw [if_neg (by intro h; rw [hn, Bool.false_and] at h; cases h)]
           exact wpAny_pure hQ))

/-- the list at a, as it stands at each turn (a loop may append to it) -/
def Itl (K : PySem.W.Frag) (a : Addr) : It :=
  ⟨fun i H => ∃ xs x, SqL K H a xs ∧ xs[i]? = some x, fun i H x H' => H' = H ∧ ∀ xs, SqL K H a xs → xs[i]? = some x, fun i H => ∃ xs, SqL K H a xs ∧ xs.length ≤ i⟩
def Itt (K : PySem.W.Frag) (a : Addr) : It :=
  ⟨fun i H => ∃ xs x, SqT K H a xs ∧ xs[i]? = some x, fun i H x H' => H' = H ∧ ∀ xs, SqT K H a xs → xs[i]? = some x, fun i H => ∃ xs, SqT K H a xs ∧ xs.length ≤ i⟩
/-- lo, lo + 1, .. (n of them) -/
def Itr (lo : Int) (n : Nat) : It := ⟨fun i _ => i < n, fun i H x H' => H' = H ∧ x = .int (lo + i), fun i _ => n ≤ i⟩
theorem turn_list {P : Program} {w : World} {K : PySem.W.Frag} {tg : Expr} (a it : Addr) : Turn P w K tg (Itl K a) [it] it (fun i h => h.IsListIter it a i) where
  mem := by simp
  obj := fun i h st b hb => by
    have e : b = it := by simpa using hb
    subst e
    obtain ⟨o, e, c, d⟩ := st
    exact ⟨o, e, fun v z => by rw [d] at z; cases z⟩
  keep := fun i h h' st k => st.at fun o e => k it (by simp) o e
  item := by
    intro X hP hw hK hc i pins s σ H E I hf st hg
    subst hP hw hK
    obtain ⟨xs, x, hq, hx⟩ := hg
    obtain ⟨its, rv, p, hz⟩ := I.list hq
    obtain ⟨u, hu, ru⟩ := rv.get hx
    obtain ⟨f0, f1, f2, f3, f4, f5⟩ := hf it (by simp)
    refine wpAny_pyNext_list_item st p.isList (x := u) (by simpa using hu) fun h' st' sb => ?_
    have I1 : Inv X pins σ H { s with heap := h' } := I.turned (t' := s.toks) (fun b o hb e => (sb.2 b hb).trans e) f0 f1 f3 f4 f5
    obtain ⟨o, e, c, d⟩ := id st'
    exact ⟨u, rfl, go_of (s := { s with heap := h' }) e c d (by decide) ⟨x, H, I1, ru, ⟨rfl, fun ys hy => by rw [I.list_inj hy hq]; exact hx⟩, st', fun b hb => (hf b hb).1⟩⟩
  done := by
    intro X hP hw hK hc i pins s σ H E I hf st hg
    subst hP hw hK
    obtain ⟨xs, hq, hx⟩ := hg
    obtain ⟨its, rv, p, hz⟩ := I.list hq
    obtain ⟨f0, f1, f2, f3, f4, f5⟩ := hf it (by simp)
    have hl := rv.length
    exact wpAny_pyNext_list_end (I.ok.hd hc) st p.isList (by simp; omega) fun h' eb => ⟨rfl, I.turned (t' := s.toks) (fun b o hb e => eb b o hb e) f0 f1 f3 f4 f5⟩
  self := fun _ _ _ _ _ st h => wpAny_pyIter_listiter st h
theorem turn_tuple {P : Program} {w : World} {K : PySem.W.Frag} {tg : Expr} (a it : Addr) : Turn P w K tg (Itt K a) [it] it (fun i h => h.IsTupleIter it a i) where
  mem := by simp
  obj := fun i h st b hb => by
    have e : b = it := by simpa using hb
    subst e
    obtain ⟨o, e, c, d⟩ := st
    exact ⟨o, e, fun v z => by rw [d] at z; cases z⟩
  keep := fun i h h' st k => st.at fun o e => k it (by simp) o e
  item := by
    intro X hP hw hK hc i pins s σ H E I hf st hg
    subst hP hw hK
    obtain ⟨xs, x, hq, hx⟩ := hg
    obtain ⟨its, rv, p, hz⟩ := I.tuple hq
    obtain ⟨u, hu, ru⟩ := rv.get hx
    obtain ⟨f0, f1, f2, f3, f4, f5⟩ := hf it (by simp)
    refine wpAny_pyNext_tuple_item st (show s.heap.IsTuple a its.toArray from p) (x := u) (by simpa using hu) fun h' st' sb => ?_
    have I1 : Inv X pins σ H { s with heap := h' } := I.turned (t' := s.toks) (fun b o hb e => (sb.2 b hb).trans e) f0 f1 f3 f4 f5
    obtain ⟨o, e, c, d⟩ := id st'
    exact ⟨u, rfl, go_of (s := { s with heap := h' }) e c d (by decide) ⟨x, H, I1, ru, ⟨rfl, fun ys hy => by rw [I.tuple_inj hy hq]; exact hx⟩, st', fun b hb => (hf b hb).1⟩⟩
  done := by
    intro X hP hw hK hc i pins s σ H E I hf st hg
    subst hP hw hK
    obtain ⟨xs, hq, hx⟩ := hg
    obtain ⟨its, rv, p, hz⟩ := I.tuple hq
    obtain ⟨f0, f1, f2, f3, f4, f5⟩ := hf it (by simp)
    have hl := rv.length
    exact wpAny_pyNext_tuple_end (I.ok.hd hc) st (show s.heap.IsTuple a its.toArray from p) (by simp; omega) fun h' eb => ⟨rfl, I.turned (t' := s.toks) (fun b o hb e => eb b o hb e) f0 f1 f3 f4 f5⟩
  self := fun _ _ _ _ _ st h => wpAny_pyIter_tupleiter st h
theorem turn_range {P : Program} {w : World} {K : PySem.W.Frag} {tg : Expr} (it : Addr) (lo : Int) (n : Nat) : Turn P w K tg (Itr lo n) [it] it (fun i h => IsRangeIter h it (lo + (i : Nat) * 1) ((n : Int) - (i : Nat)) 1) where
  mem := by simp
  obj := fun i h st b hb => by
    have e : b = it := by simpa using hb
    subst e
    exact ⟨_, st, fun v z => by
      have z' : Data.fields _ = Data.cell v := z
      cases z'⟩
  keep := fun i h h' st k => k it (by simp) _ st
  item := by
    intro X hP hw hK hc i pins s σ H E I hf st hg
    subst hP hw hK
    obtain ⟨f0, f1, f2, f3, f4, f5⟩ := hf it (by simp)
    have W := Walks.range (prog := X.prog) (w := X.w) (I.ok.hd hc) it lo 1 n
    refine W.item i s _ _ hg st fun v h' tk hv st' kk => ?_
    obtain ⟨t, rfl⟩ := hv
    have I1 : Inv X pins σ H { s with heap := h', toks := tk } := I.turned (fun b o hb e => kk b o (by simpa using hb) e) f0 f1 f3 f4 f5
    refine ⟨_, rfl, go_of (s := { s with heap := h', toks := tk }) (n := "range_iterator") st' rfl rfl (by decide) ⟨.int (lo + i), H, I1, ⟨t, ?_⟩, ⟨rfl, rfl⟩, st', fun b hb => (hf b hb).1⟩⟩
    rw [Int.mul_one]
  done := by
    intro X hP hw hK hc i pins s σ H E I hf st hg
    subst hP hw hK
    obtain ⟨f0, f1, f2, f3, f4, f5⟩ := hf it (by simp)
    exact wpAny_pyNext_range_end (I.ok.hd hc) st (by have : n ≤ i := hg; omega) fun h' eb => ⟨rfl, I.turned (t' := s.toks) (fun b o hb e => eb b o hb e) f0 f1 f3 f4 f5⟩
  self := fun _ _ _ _ _ st h => wpAny_pyIter_rangeiter st h
end L2

namespace L2
open PySem PySem.Spec PyProof.Rows
section
variable {X : Cx} {tg : Expr}
/-- a range object just made, walked -/
theorem range_it {pins : List (Addr × Obj)} {σ : St} {H : Hp} {s : Shared} {R : It → Hp → Prop} {E : Value → Shared → Prop} {lo hi : Int} {t u v : Tok} {tk : Nat} (I : Inv X pins σ H s) (h1 : -(2 ^ 62) ≤ lo) (h2 : lo < 2 ^ 62) (h3 : -(2 ^ 62) ≤ hi) (h4 : hi < 2 ^ 62)
    (q : R (Itr lo (hi - lo).toNat) H) : wpAny (model X.prog X.w) X.A (pyIter (.ref s.heap.objs.size)) (PIE X pins σ tg R) E { s with heap := s.heap.push { cls := .type "range", data := .fields #[.int lo t, .int hi u, .int 1 v] }, toks := tk } := by
  refine wpAny_pyIter_range (IsRange.new ..) (small_one h1 h2 h3 h4) ?_
  have I1 : Inv X pins σ H { s with heap := s.heap.push { cls := .type "range", data := .fields #[.int lo t, .int hi u, .int 1 v] }, toks := tk } := I.kept fun b o e => Heap.get?_push_of_some _ e
  refine ⟨(s.heap.push { cls := .type "range", data := .fields #[.int lo t, .int hi u, .int 1 v] }).objs.size, [(s.heap.push { cls := .type "range", data := .fields #[.int lo t, .int hi u, .int 1 v] }).objs.size], _, _, H, rfl,
    I1.kept (t' := tk) fun b o e => Heap.get?_push_of_some _ e, turn_range _ lo (hi - lo).toNat, ?_, fun b hb => ?_, q⟩
  · have e1 : lo + ((0 : Nat) : Int) * 1 = lo := by simp
    have e2 : (((hi - lo).toNat : Nat) : Int) - ((0 : Nat) : Int) = Builtin.Range.rangeSize lo hi 1 := by rw [rangeSize_one]; split <;> omega
    show IsRangeIter _ _ (lo + ((0 : Nat) : Int) * 1) ((((hi - lo).toNat : Nat) : Int) - ((0 : Nat) : Int)) 1
    rw [e1, e2]
    exact Heap.get?_push_size _ rfl
  · have e : b = (s.heap.push { cls := .type "range", data := .fields #[.int lo t, .int hi u, .int 1 v] }).objs.size := by simpa using hb
    subst e
    exact I1.fpOk (Nat.le_refl _) (I1.hok.fresh (Nat.le_refl _))
def iRng1 (ta : TA) : TI := fun σ H R => ta σ H fun vs H1 => ∃ j : Int, vs = [.int j] ∧ -(2 ^ 62) ≤ j ∧ j < 2 ^ 62 ∧ R (Itr 0 j.toNat) H1
theorem pi_range1 {a : Expr} {ta : TA} {p pos : Pos} (hg : Gl X "range") (hm : X.mg "range" = none) (ha : PA X [a] ta) (hs : starEach [a] X.env = [(false, eval a X.env)] := by rfl) : PI X tg (.Call (.Name "range" p) [a] [] pos) (iRng1 ta) := by
  intro pins s σ H R I h
  refine Call_ (ld_blt I hg hm boot_range (PyProof.Rows.callWith_type1 (thn (ha pos pins s σ H _ I h) fun us s1 ⟨vs, H1, I1, r1, q1⟩ => ?_) hs rfl))
  obtain ⟨j, e, q1, q2, q⟩ := q1
  subst e
  cases r1 with
  | cons r rr =>
    cases rr
    obtain ⟨t, rfl⟩ := r
    exact call_range_1 (range_it I1 (by omega) (by omega) q1 q2 (by simpa using q))
/-! ### for -/
/-- W: the invariant by the turn and a measure; N: what the body is to reach -/
def tFor (wi : TI) (g : TG) (tb : TS) : TS := fun D σ H => wi σ H fun J H1 => ∃ W : Nat → Nat → St → Hp → Prop, (∃ m, W 0 m σ H1) ∧ ∀ i m σ H, W i m σ H →
  (J.stop i H ∧ D.nx σ H) ∨ (J.go i H ∧ ∃ N : St → Hp → Prop, (∀ σ' H', N σ' H' → ∃ m', m' < m ∧ W (i + 1) m' σ' H') ∧ ∀ x H', J.yld i H x H' → g x σ H' fun σ2 H2 => tb { D with nx := N, ct := N, bk := D.nx } σ2 H2)
/-- the records at fp as they stand -/
def pinsAt (fp : List Addr) (h : Heap) : List (Addr × Obj) := fp.filterMap fun b => (h.get? b).map fun o => (b, o)
theorem mem_pinsAt {fp : List Addr} {h : Heap} {b : Addr} {o : Obj} (hb : b ∈ fp) (e : h.get? b = some o) : (b, o) ∈ pinsAt fp h := List.mem_filterMap.mpr ⟨b, hb, by rw [e]; rfl⟩
theorem of_pinsAt {fp : List Addr} {h : Heap} {p : Addr × Obj} (hp : p ∈ pinsAt fp h) : p.1 ∈ fp ∧ h.get? p.1 = some p.2 := by
  obtain ⟨b, hb, e⟩ := List.mem_filterMap.mp hp
  cases q : h.get? b with
  | none => rw [q] at e; cases e
  | some o =>
    rw [q] at e
    have e' : (b, o) = p := Option.some.inj e
    subst e'
    exact ⟨hb, q⟩
theorem Inv.pinned {pins : List (Addr × Obj)} {σ : St} {H : Hp} {s : Shared} {fp : List Addr} (I : Inv X pins σ H s) (hf : ∀ b ∈ fp, FpOk X pins H b) (ho : ∀ b ∈ fp, ∃ o, s.heap.get? b = some o ∧ ∀ v, o.data ≠ .cell v) : Inv X (pins ++ pinsAt fp s.heap) σ H s :=
  I.pins_of fun p hp => (List.mem_append.mp hp).elim (fun z => I.pin p (List.mem_append_right _ z)) fun z => by
    obtain ⟨hb, e⟩ := of_pinsAt z
    obtain ⟨f0, f1, f2, _⟩ := hf p.1 hb
    obtain ⟨o, e', d⟩ := ho p.1 hb
    rw [e] at e'; cases e'
    exact ⟨e, f0, f1, f2, d⟩
theorem Inv.unpinned {pins pl : List (Addr × Obj)} {σ : St} {H : Hp} {s : Shared} (I : Inv X (pins ++ pl) σ H s) : Inv X pins σ H s := I.pins_of fun p hp => I.pin p (List.mem_append_right _ (List.mem_append_left _ hp))
theorem ps_for {iter : Expr} {body : List Stmt} {wi : TI} {g : TG} {tb : TS} {pos : Pos} (hp : PassesOwn (model X.prog X.w) X.A X.env X.xe) (hc : X.calm = true) (hi : PI X tg iter wi) (hg : PG X tg g) (hb : PSs X body tb)
    (hs : ∀ x, foldedSetIterable iter X.env x = pure x := by intro _; rfl) : PS X (.For tg iter body [] pos) (tFor wi g tb) := by
  intro pins s σ H D I h
  refine wpAny_For (thn (hi pins s σ H _ I h) fun v s1 h1 => thn h1 fun itv s2 h2 => ?_) hs
  obtain ⟨it, fp, tn, J, H2, e, I2, T, st2, f2, W, ⟨m0, w0⟩, turn⟩ := h2
  subst e
  -- what stays true of the iterator's objects through the loop
  have stat : ∀ {H' : Hp}, (∀ b ∈ fp, H' b = none) → ∀ b ∈ fp, FpOk X pins H' b := fun hn b hb => ⟨hn b hb, (f2 b hb).2⟩
  refine codeAny_forLoop_any (fun n s' => ∃ i σ' H', Inv X pins σ' H' s' ∧ tn i s'.heap ∧ (∀ b ∈ fp, H' b = none) ∧ W i n σ' H') ?_ m0 ⟨0, σ, H2, I2, st2, fun b hb => (f2 b hb).1, w0⟩
  rintro n s3 ⟨i, σ3, H3, I3, st3, fr3, w3⟩
  rcases turn i n σ3 H3 w3 with ⟨stop, qn⟩ | ⟨go, N, hN, step⟩
  · refine wpAny_passesOwn hp (thn (T.done X rfl rfl rfl hc i pins s3 σ3 H3 X.xe I3 (stat fr3) st3 stop) fun r s4 ⟨hr, I4⟩ => ?_)
    subst hr
    exact wpAny_execs_nil ⟨σ3, H3, I4, qn⟩
  · refine wpAny_passesOwn hp (thn (T.item X rfl rfl rfl hc i pins s3 σ3 H3 X.xe I3 (stat fr3) st3 go) fun r s4 ⟨u, hr, h4⟩ => ?_)
    subst hr
    refine wpAny_passesOwn hp (thn h4 fun _ s5 ⟨x, H5, I5, r5, y5, st5, fr5⟩ => ?_)
    have I5' := I5.pinned (stat fr5) (T.obj _ _ st5)
    refine wpAny_passesOwn hp (thn (hg _ s5 σ3 H5 x u _ I5' r5 (step x H5 y5)) fun _ s6 ⟨σ6, H6, I6, q6⟩ => ?_)
    refine wpAny_passesOwn hp (thn (hb _ s6 σ6 H6 _ I6 q6) fun f s7 q7 => ?_)
    have again : ∀ {σ7 : St} {H7 : Hp}, Inv X (pins ++ pinsAt fp s5.heap) σ7 H7 s7 → N σ7 H7 → ∃ m, m < n ∧ ∃ i σ' H', Inv X pins σ' H' s7 ∧ tn i s7.heap ∧ (∀ b ∈ fp, H' b = none) ∧ W i m σ' H' := fun {σ7 H7} I7 n7 => by
      obtain ⟨m', hm, w7⟩ := hN σ7 H7 n7
      refine ⟨m', hm, i + 1, σ7, H7, I7.unpinned, T.keep _ _ _ st5 fun b hb o e => (I7.pin (b, o) (List.mem_append_right _ (List.mem_append_right _ (mem_pinsAt hb e)))).1, fun b hb => ?_, w7⟩
      obtain ⟨o, e, d⟩ := T.obj _ _ st5 b hb
      exact (I7.pin (b, o) (List.mem_append_right _ (List.mem_append_right _ (mem_pinsAt hb e)))).2.1
    cases f with
    | next => obtain ⟨σ7, H7, I7, n7⟩ := q7; exact again I7 n7
    | cont => obtain ⟨σ7, H7, I7, n7⟩ := q7; exact again I7 n7
    | brk => obtain ⟨σ7, H7, I7, q7⟩ := q7; exact ⟨σ7, H7, I7.unpinned, q7⟩
    | ret v => obtain ⟨x7, σ7, H7, I7, r7, q7⟩ := q7; exact ⟨x7, σ7, H7, I7.unpinned, r7, q7⟩
end

/-! ### the forms one uses -/
end L2

namespace L2
open PySem PySem.Spec PyProof.Rows

abbrev R2 := V → V → Hp → VK → Prop
/-- a two-place operation on values: f is binaryOp op, inplaceOp op or compareOp op -/
def OpR (X : Cx) (f : Value → Value → Sem Value) (r : R2) : Prop :=
  ∀ (pins : List (Addr × Obj)) (s : Shared) (σ : St) (H : Hp) (x y : V) (v u : Value) (Q : VK), Inv X pins σ H s → RelV x v → RelV y u → r x y H Q →
    wpAny (model X.prog X.w) X.A (f v u) (EP X pins σ Q) X.xe s
/-- a call of a value that is known (a builtin, a type) with values -/
def CallR (X : Cx) (f : Value) (r : List V → Hp → VK → Prop) : Prop :=
  ∀ (pins : List (Addr × Obj)) (s : Shared) (σ : St) (H : Hp) (xs : List V) (us : List Value) (Q : VK), Inv X pins σ H s → Vals xs us → r xs H Q →
    wpAny (model X.prog X.w) X.A (call f us) (EP X pins σ Q) X.xe s
/-- a value's truth -/
def TruR (X : Cx) (r : V → Hp → (Bool → Hp → Prop) → Prop) : Prop :=
  ∀ (pins : List (Addr × Obj)) (s : Shared) (σ : St) (H : Hp) (x : V) (v : Value) (Q : Bool → Hp → Prop), Inv X pins σ H s → RelV x v → r x H Q →
    wpAny (model X.prog X.w) X.A (truthy v) (TP X pins σ Q) X.xe s

def tOp (r : R2) (ta tb : TE) : TE := fun σ H Q => ta σ H fun x H1 => tb σ H1 fun y H2 => r x y H2 Q
/-- ints in, under C, and a value out -/
def rI (C : Int → Int → Prop) (g : Int → Int → V) : R2 := fun x y H Q => ∃ i j, x = .int i ∧ y = .int j ∧ C i j ∧ Q (g i j) H
def rI0 (g : Int → Int → V) : R2 := fun x y H Q => ∃ i j, x = .int i ∧ y = .int j ∧ Q (g i j) H
section
variable {X : Cx} {a b c : Expr} {ta tb tc : TE} {pos : Pos}

theorem binT (ha : PE X a ta) (hb : PE X b tb) {pins : List (Addr × Obj)} {s : Shared} {σ : St} {H : Hp} {R : V → V → Hp → Prop} (I : Inv X pins σ H s)
    (h : ta σ H fun x H1 => tb σ H1 fun y H2 => R x y H2) {Q : Value → Shared → Prop} {f : Value → Value → Sem Value}
    (hf : ∀ v u s2 x y H2, Inv X pins σ H2 s2 → RelV x v → RelV y u → R x y H2 → wpAny (model X.prog X.w) X.A (f v u) Q X.xe s2) :
    wpAny (model X.prog X.w) X.A (eval a X.env) (fun v s₁ => wpAny (model X.prog X.w) X.A (eval b X.env) (fun u s₂ => wpAny (model X.prog X.w) X.A (f v u) Q X.xe s₂) X.xe s₁) X.xe s := by
  refine thn (ha pins s σ H _ I h) fun v s1 ⟨x, H1, I1, r1, q1⟩ => ?_
  refine thn (hb pins s1 σ H1 _ I1 q1) fun u s2 ⟨y, H2, I2, r2, q2⟩ => ?_
  exact hf v u s2 x y H2 I2 r1 r2 q2

theorem pe_op {op : Operator} {r : R2} (ho : OpR X (binaryOp op) r) (ha : PE X a ta) (hb : PE X b tb) : PE X (.BinOp a op b pos) (tOp r ta tb) := by
  intro pins s σ H Q I h
  exact wpAny_BinOp (binT ha hb I h fun v u s2 x y H2 I2 rx ry q => ho pins s2 σ H2 x y v u Q I2 rx ry q)
/-! ### ints -/
theorem opI {f : Value → Value → Sem Value} {C : Int → Int → Prop} {g : Int → Int → Int}
    (rule : ∀ (i j : Int) (t u : Tok) (s : Shared) (Q : Value → Shared → Prop) (E : Value → Shared → Prop), C i j → Q (.int (g i j) s.toks) { s with toks := s.toks + 1 } → wpAny (model X.prog X.w) X.A (f (.int i t) (.int j u)) Q E s) :
    OpR X f (rI C fun i j => .int (g i j)) := by
  intro pins s σ H x y v u Q I rx ry h
  obtain ⟨i, j, rfl, rfl, hc, q⟩ := h
  obtain ⟨t, rfl⟩ := rx
  obtain ⟨t', rfl⟩ := ry
  exact rule i j t t' s _ _ hc ⟨.int (g i j), H, I.tok _, ⟨_, rfl⟩, q⟩
theorem opI0 {f : Value → Value → Sem Value} {g : Int → Int → Int}
    (rule : ∀ (i j : Int) (t u : Tok) (s : Shared) (Q : Value → Shared → Prop) (E : Value → Shared → Prop), Q (.int (g i j) s.toks) { s with toks := s.toks + 1 } → wpAny (model X.prog X.w) X.A (f (.int i t) (.int j u)) Q E s) :
    OpR X f (rI0 fun i j => .int (g i j)) := by
  intro pins s σ H x y v u Q I rx ry h
  obtain ⟨i, j, rfl, rfl, q⟩ := h
  obtain ⟨t, rfl⟩ := rx
  obtain ⟨t', rfl⟩ := ry
  exact rule i j t t' s _ _ ⟨.int (g i j), H, I.tok _, ⟨_, rfl⟩, q⟩
theorem opB0 {f : Value → Value → Sem Value} {g : Int → Int → Bool}
    (rule : ∀ (i j : Int) (t u : Tok) (s : Shared) (Q : Value → Shared → Prop) (E : Value → Shared → Prop), Q (.bool (g i j)) s → wpAny (model X.prog X.w) X.A (f (.int i t) (.int j u)) Q E s) :
    OpR X f (rI0 fun i j => .bl (g i j)) := by
  intro pins s σ H x y v u Q I rx ry h
  obtain ⟨i, j, rfl, rfl, q⟩ := h
  obtain ⟨t, rfl⟩ := rx
  obtain ⟨t', rfl⟩ := ry
  exact rule i j t t' s _ _ ⟨.bl (g i j), H, I, rfl, q⟩

def CDiv (i j : Int) : Prop := 0 < j ∧ j < 1073741824
def CPow (i j : Int) : Prop := 0 ≤ j ∧ j ≤ 1000000 ∧ i.natAbs < 2 ^ 64
def CMul (i j : Int) : Prop := (-(2 ^ 64) < i ∧ i < 2 ^ 64) ∨ (-(2 ^ 64) < j ∧ j < 2 ^ 64)
theorem CMul.ok {i j : Int} (h : CMul i j) : IntMulOk i j := by
  rcases h with ⟨h1, h2⟩ | ⟨h1, h2⟩
  · exact .of_left (intBits_le_64 h1 h2)
  · exact .of_right (intBits_le_64 h1 h2)
theorem two_pow_nn (k : Nat) : (0 : Int) ≤ 2 ^ k := by
  rw [two_pow_cast]
  exact Int.natCast_nonneg _

theorem op_add : OpR X (binaryOp .Add) (rI0 fun i j => .int (i + j)) := opI0 fun _ _ _ _ _ _ _ q => add_int q
theorem op_sub : OpR X (binaryOp .Sub) (rI0 fun i j => .int (i - j)) := opI0 fun _ _ _ _ _ _ _ q => sub_int q
theorem op_mul : OpR X (binaryOp .Mult) (rI CMul fun i j => .int (i * j)) := opI fun _ _ _ _ _ _ _ hc q => mul_int q hc.ok
/-- // by a positive divisor -/
theorem op_fdiv : OpR X (binaryOp .FloorDiv) (rI CDiv fun i j => .int (i / j)) := opI fun i j _ _ _ _ _ hc q => by
  have h1 : (0 : Int) < j := hc.1
  have h2 : j < 1073741824 := hc.2
  exact floordiv_int (by omega) (by rw [Int.fdiv_eq_ediv_of_nonneg i (by omega)]; exact q) (.inl (PyProof.noPylong_small (by omega)))
/-- % by a positive divisor of any size -/
theorem op_mod : OpR X (binaryOp .Mod) (rI (fun _ j => 0 < j) fun i j => .int (i % j)) := opI fun i j _ _ _ _ _ hc q => by
  have h1 : (0 : Int) < j := hc
  exact mod_int' (by omega) (by rw [Int.fmod_eq_emod_of_nonneg i (by omega)]; exact q)
theorem op_pow : OpR X (binaryOp .Pow) (rI CPow fun i j => .int (i ^ j.toNat)) := opI fun _ _ _ _ _ _ _ hc q => pow_int_small hc.1 hc.2.1 hc.2.2 q
theorem op_shl : OpR X (binaryOp .LShift) (rI CPow fun i j => .int (i * 2 ^ j.toNat)) := opI fun _ _ _ _ _ _ _ hc q => lshift_int_small hc.1 hc.2.1 hc.2.2 q
theorem op_shr : OpR X (binaryOp .RShift) (rI (fun _ j => 0 ≤ j) fun i j => .int (i / 2 ^ j.toNat)) := opI fun i j _ _ _ _ _ hc q =>
  rshift_int hc (by rw [Int.fdiv_eq_ediv_of_nonneg i (two_pow_nn _)]; exact q)
theorem op_and : OpR X (binaryOp .BitAnd) (rI0 fun i j => .int (Builtin.bitAnd i j)) := opI0 fun _ _ _ _ _ _ _ q => and_int q
/-! ### bools among ints: n += (a < b) -/
end

/-! ### comparisons -/
section
variable {X : Cx} {a b c : Expr} {ta tb tc : TE} {pos : Pos}
theorem fin_bl {pins : List (Addr × Obj)} {σ : St} {H : Hp} {s : Shared} {Q : VK} {k k' : Bool} (I : Inv X pins σ H s) (q : Q (.bl k) H) (e : k = k') : EP X pins σ Q (.bool k') s := by
  subst e
  exact ⟨.bl k, H, I, rfl, q⟩
theorem op_lt : OpR X (compareOp .Lt) (rI0 fun i j => .bl (decide (i < j))) := opB0 fun _ _ _ _ _ _ _ q => lt_int q
theorem op_le : OpR X (compareOp .LtE) (rI0 fun i j => .bl (decide (i ≤ j))) := opB0 fun _ _ _ _ _ _ _ q => le_int q
theorem op_ge : OpR X (compareOp .GtE) (rI0 fun i j => .bl (decide (j ≤ i))) := opB0 fun _ _ _ _ _ _ _ q => ge_int q
/-- is None, is not None: the right side a value none -/
theorem op_isN : OpR X (compareOp .Is) (fun x y H Q => y = .non ∧ Q (.bl (decide (x = .non))) H) := by
  intro pins s σ H x y v u Q I rx ry h
  obtain ⟨rfl, q⟩ := h
  cases ry
  refine is_none_gen (fin_bl I q ?_)
  cases x <;> first
    | (cases rx; rfl)
    | (obtain ⟨t, rfl⟩ := rx; rfl)
theorem op_notin_str : OpR X (compareOp .NotIn) (fun x y H Q => ∃ i j, x = .str i ∧ y = .str j ∧ Q (.bl (!(!(Builtin.Str.occurrences j i 0 j.length 1).isEmpty))) H) := by
  intro pins s σ H x y v u Q I rx ry h
  obtain ⟨i, j, rfl, rfl, q⟩ := h
  obtain ⟨t, rfl⟩ := rx
  obtain ⟨t', rfl⟩ := ry
  exact notIn_str (fin_bl I q rfl)
/-- two rules for one operation: by cases -/
theorem OpR.or {f : Value → Value → Sem Value} {r r' : R2} (h : OpR X f r) (h' : OpR X f r') : OpR X f (fun x y H Q => r x y H Q ∨ r' x y H Q) := by
  intro pins s σ H x y v u Q I rx ry q
  rcases q with q | q
  · exact h pins s σ H x y v u Q I rx ry q
  · exact h' pins s σ H x y v u Q I rx ry q

theorem nomark (b : Expr) {op : CmpOp} (h : op ≠ .In := by decide) (h2 : op ≠ .NotIn := by decide) : behindInMarks op b = false := by
  have e1 : (op == CmpOp.In) = false := by cases op <;> first | rfl | exact absurd rfl h
  have e2 : (op == CmpOp.NotIn) = false := by cases op <;> first | rfl | exact absurd rfl h2
  cases b <;> simp [behindInMarks, e1, e2]
/-- a comparison as a value; hm: nomark b, or (for in, not in) by with_unfolding_all rfl -/
theorem pe_cmpR {op : CmpOp} {r : R2} (ho : OpR X (compareOp op) r) (ha : PE X a ta) (hb : PE X b tb) (hm : behindInMarks op b = false) : PE X (.Compare a [op] [b] pos) (tOp r ta tb) := by
  intro pins s σ H Q I h
  exact wpAny_Compare1 (binT ha hb I h fun v u s2 x y H2 I2 rx ry q => ho pins s2 σ H2 x y v u Q I2 rx ry q) hm
/-- a reading of a value as a test -/
def tTest (t : TE) : TT := fun σ H Q => t σ H fun x H' => ∃ k, x = .bl k ∧ Q k H'
theorem pt_cmpR {op : CmpOp} {r : R2} (ho : OpR X (compareOp op) r) (ha : PE X a ta) (hb : PE X b tb) (hm : behindInMarks op b = false) : PT X (.Compare a [op] [b] pos) (tTest (tOp r ta tb)) := by
  intro pins s σ H Q I h
  refine wpAny_isTrue_Compare1 (thn (ha pins s σ H _ I h) fun v s1 ⟨x, H1, I1, r1, q1⟩ => thn (hb pins s1 σ H1 _ I1 q1) fun u s2 ⟨y, H2, I2, r2, q2⟩ =>
    thn (ho pins s2 σ H2 x y v u _ I2 r1 r2 q2) fun c s3 ⟨z, H3, I3, r3, k, e, q3⟩ => ?_) hm
  subst e
  cases r3
  exact wpAny_truthy_bool ⟨H3, I3, q3⟩
/-- a op1 b op2 c -/
def tChain (r r' : R2) (ta tb tc : TE) : TE := fun σ H Q => ta σ H fun x H1 => tb σ H1 fun y H2 => r x y H2 fun z H3 => ∃ k, z = .bl k ∧
  (if k = true then tc σ H3 fun w' H4 => r' y w' H4 Q else Q (.bl false) H3)
theorem pe_chain {op op' : CmpOp} {r r' : R2} (ho : OpR X (compareOp op) r) (ho' : OpR X (compareOp op') r') (ha : PE X a ta) (hb : PE X b tb) (hc : PE X c tc)
    (hm : lastMarks [op, op'] [b, c] = false := by with_unfolding_all rfl) : PE X (.Compare a [op, op'] [b, c] pos) (tChain r r' ta tb tc) := by
  intro pins s σ H Q I h
  refine Compare_chain (thn (ha pins s σ H _ I h) fun v s1 ⟨x, H1, I1, r1, q1⟩ => chain_link (thn (hb pins s1 σ H1 _ I1 q1) fun u s2 ⟨y, H2, I2, r2, q2⟩ =>
    thn (ho pins s2 σ H2 x y v u _ I2 r1 r2 q2) fun d s3 ⟨z, H3, I3, r3, k, e, q3⟩ => ?_)) hm
  subst e
  cases r3
  refine wpAny_truthy_bool ?_
  cases k with
  | false => exact ite_ff ⟨.bl false, H3, I3, rfl, q3⟩
  | true => exact ite_tt (chain_last (thn (hc pins s3 σ H3 _ I3 q3) fun w' s4 ⟨z', H4, I4, r4, q4⟩ => ho' pins s4 σ H4 y z' u w' Q I4 r2 r4 q4))
/-! ### truth -/
/-- a value's truth by the abstract heap -/
def TruV (K : PySem.W.Frag) (x : V) (H : Hp) (k : Bool) : Prop :=
  match x with
  | .non => k = false
  | .bl b => k = b
  | .int i => k = (i != 0)
  | .str y => y.length ≤ sizeLine ∧ k = ((y.length : Int) != 0)
  | .byt y => y.size ≤ sizeLine ∧ k = ((y.size : Int) != 0)
  | .ref p => (∃ xs, SqL K H p xs ∧ k = !xs.isEmpty) ∨ (∃ xs, SqT K H p xs ∧ k = !xs.isEmpty) ∨ ∃ kvs, H p = some (.dK kvs) ∧ k = !kvs.isEmpty
  | _ => False
theorem isEmpty_kv {κ : Type} {kvs : List (κ × V)} {vs : List (κ × Value)} (r : KV kvs vs) : (!vs.isEmpty) = !kvs.isEmpty := by
  cases r <;> rfl
theorem isEmpty_of {xs : List V} {its : List Value} (r : Vals xs its) : (!its.toArray.isEmpty) = !xs.isEmpty := by
  cases r <;> simp
theorem line63 : (sizeLine : Nat) < 2 ^ 63 := by rw [sizeLine_eq]; decide
theorem tru_ok : TruR X (fun x H Q => ∃ k, TruV X.K x H k ∧ Q k H) := by
  intro pins s σ H x v Q I rx h
  obtain ⟨k, e, q⟩ := h
  have hl := line63
  have hs : sizeLine = 16777216 := sizeLine_eq
  cases x with
  | non =>
    cases rx
    have e' : k = false := e
    subst e'
    exact truthy_none ⟨H, I, q⟩
  | bl b =>
    cases rx
    have e' : k = b := e
    subst e'
    exact wpAny_truthy_bool ⟨H, I, q⟩
  | int i =>
    obtain ⟨t, rfl⟩ := rx
    have e' : k = (i != 0) := e
    subst e'
    exact PySem.P.truthy_int ⟨H, I, q⟩
  | str y =>
    obtain ⟨t, rfl⟩ := rx
    obtain ⟨hy, e'⟩ : y.length ≤ sizeLine ∧ k = ((y.length : Int) != 0) := e
    subst e'
    exact PySem.P.truthy_str (by omega) ⟨H, I.tok _, q⟩
  | byt y =>
    obtain ⟨t, rfl⟩ := rx
    obtain ⟨hy, e'⟩ : y.size ≤ sizeLine ∧ k = ((y.size : Int) != 0) := e
    subst e'
    exact PySem.W.truthy_bytes (by omega) ⟨H, I.tok _, q⟩
  | ref p =>
    cases rx
    have e' : (∃ xs, SqL X.K H p xs ∧ k = !xs.isEmpty) ∨ (∃ xs, SqT X.K H p xs ∧ k = !xs.isEmpty) ∨ ∃ kvs, H p = some (.dK kvs) ∧ k = !kvs.isEmpty := e
    rcases e' with ⟨xs, hx, e'⟩ | ⟨xs, hx, e'⟩ | ⟨kvs, hx, e'⟩
    · subst e'
      obtain ⟨its, r, pl, hz⟩ := I.list hx
      have hlen := r.length
      exact wpAny_truthy_list pl.isList (by simp only [List.size_toArray]; omega) ⟨H, I.tok _, by rw [isEmpty_of r]; exact q⟩
    · subst e'
      obtain ⟨its, r, pl, hz⟩ := I.tuple hx
      have hlen := r.length
      exact truthy_tuple pl (by simp only [List.size_toArray]; omega) ⟨H, I.tok _, by rw [isEmpty_of r]; exact q⟩
    · subst e'
      obtain ⟨hz, hS, vs, r, m⟩ : kvs.length ≤ sizeLine ∧ (p == sysModules) = false ∧ ∃ vs, KV kvs vs ∧ s.heap.DictOf (mixKind X.prog X.w) p vs := I.hok p _ hx
      have hlen : kvs.length = vs.length := Paired.length r
      exact wpAny_truthy_dict hS m (by omega) ⟨H, I.tok _, by rw [isEmpty_kv r]; exact q⟩
  | _ => exact (show False from e).elim
/-- any expression whose test is its value's truth (a name, a call, a subscript, a field ..: he by fun _ => rfl) -/
theorem pt_truth (ha : PE X a ta) (he : ∀ whole, isTrue a X.env whole = (do let v ← whole; standAt a.pos; holding [v] (truthy v))) :
    PT X a (fun σ H Q => ta σ H fun x H' => ∃ k, TruV X.K x H' k ∧ Q k H') := by
  intro pins s σ H Q I h
  exact isTrue_plain (thn (ha pins s σ H _ I h) fun v s1 ⟨x, H1, I1, r1, q1⟩ => tru_ok pins s1 σ H1 x v Q I1 r1 q1) (he _)

/-! ### strs and bytes -/
theorem op_add_str : OpR X (binaryOp .Add) (fun x y H Q => ∃ i j, x = .str i ∧ y = .str j ∧ i.length + j.length ≤ sizeLine ∧ Q (.str (i ++ j)) H) := by
  intro pins s σ H x y v u Q I rx ry h
  obtain ⟨i, j, rfl, rfl, hz, q⟩ := h
  obtain ⟨t, rfl⟩ := rx
  obtain ⟨t', rfl⟩ := ry
  exact add_str (fun t' tk => ⟨.str (i ++ j), H, I.tok _, ⟨_, rfl⟩, q⟩) hz
/-! ### scalar builtins, by CallR -/
theorem vals1 {x : V} {us : List Value} (r : Vals [x] us) : ∃ u, us = [u] ∧ RelV x u := by
  cases r with
  | cons r1 r2 => cases r2; exact ⟨_, rfl, r1⟩
theorem vals2 {x y : V} {us : List Value} (r : Vals [x, y] us) : ∃ u w', us = [u, w'] ∧ RelV x u ∧ RelV y w' := by
  cases r with
  | cons r1 r2 =>
    cases r2 with
    | cons r3 r4 => cases r4; exact ⟨_, _, rfl, r1, r3⟩
theorem call_max2 (hc : X.calm = true) : CallR X (.builtin "max") (fun xs H Q => ∃ i j, xs = [.int i, .int j] ∧ Q (.int (if j > i then j else i)) H) := by
  intro pins s σ H xs us Q I r h
  obtain ⟨i, j, rfl, q⟩ := h
  obtain ⟨u, w', rfl, ⟨t, rfl⟩, ⟨t', rfl⟩⟩ := vals2 r
  refine max_two_ints (I.ok.hd hc) fun h' tk k => ⟨_, H, I.kept k, ?_, q⟩
  by_cases hj : j > i
  · rw [if_pos hj, if_pos hj]; exact ⟨_, rfl⟩
  · rw [if_neg hj, if_neg hj]; exact ⟨_, rfl⟩
theorem call_min2 (hc : X.calm = true) : CallR X (.builtin "min") (fun xs H Q => ∃ i j, xs = [.int i, .int j] ∧ Q (.int (if j < i then j else i)) H) := by
  intro pins s σ H xs us Q I r h
  obtain ⟨i, j, rfl, q⟩ := h
  obtain ⟨u, w', rfl, ⟨t, rfl⟩, ⟨t', rfl⟩⟩ := vals2 r
  refine min_two_ints (I.ok.hd hc) fun h' tk k => ⟨_, H, I.kept k, ?_, q⟩
  by_cases hj : j < i
  · rw [if_pos hj, if_pos hj]; exact ⟨_, rfl⟩
  · rw [if_neg hj, if_neg hj]; exact ⟨_, rfl⟩
theorem call_int1 : CallR X (.type "int") (fun xs H Q => (∃ i, xs = [.int i] ∧ Q (.int i) H) ∨ ∃ k, xs = [.bl k] ∧ Q (.int (if k then 1 else 0)) H) := by
  intro pins s σ H xs us Q I r h
  rcases h with ⟨i, rfl, q⟩ | ⟨k, rfl, q⟩
  · obtain ⟨u, rfl, t, rfl⟩ := vals1 r
    exact call_int_int ⟨.int i, H, I, ⟨_, rfl⟩, q⟩
  · obtain ⟨u, rfl, r1⟩ := vals1 r
    cases r1
    exact call_int_bool ⟨.int (if k then 1 else 0), H, I.tok _, ⟨_, rfl⟩, q⟩
theorem call_str_int : CallR X (.type "str") (fun xs H Q => ∃ i, xs = [.int i] ∧ i.natAbs.log2 < 1920 ∧ Q (.str (toString i)) H) := by
  intro pins s σ H xs us Q I r h
  obtain ⟨i, rfl, hz, q⟩ := h
  obtain ⟨u, rfl, t, rfl⟩ := vals1 r
  exact PySem.P.str_of_int hz ⟨.str _, H, I.tok _, ⟨_, rfl⟩, q⟩
/-- len of a str, a bytes, a list, a tuple -/
def LenV (K : PySem.W.Frag) (x : V) (H : Hp) (n : Nat) : Prop :=
  match x with
  | .str y => y.length ≤ sizeLine ∧ n = y.length
  | .byt y => y.size ≤ sizeLine ∧ n = y.size
  | .ref p => (∃ xs, SqL K H p xs ∧ n = xs.length) ∨ ∃ xs, SqT K H p xs ∧ n = xs.length
  | _ => False
theorem call_len : CallR X (.builtin "len") (fun xs H Q => ∃ x n, xs = [x] ∧ LenV X.K x H n ∧ Q (.int n) H) := by
  intro pins s σ H xs us Q I r h
  obtain ⟨x, n, rfl, e, q⟩ := h
  obtain ⟨u, rfl, rx⟩ := vals1 r
  have hl := line63
  have hs : sizeLine = 16777216 := sizeLine_eq
  cases x with
  | str y =>
    obtain ⟨t, rfl⟩ := rx
    obtain ⟨hy, e'⟩ : y.length ≤ sizeLine ∧ n = y.length := e
    subst e'
    exact len_str (by omega) ⟨.int _, H, I.tok _, ⟨_, rfl⟩, q⟩
  | byt y =>
    obtain ⟨t, rfl⟩ := rx
    obtain ⟨hy, e'⟩ : y.size ≤ sizeLine ∧ n = y.size := e
    subst e'
    exact PySem.W.len_bytes (by omega) ⟨.int _, H, I.tok _, ⟨_, rfl⟩, q⟩
  | ref p =>
    cases rx
    have e' : (∃ xs, SqL X.K H p xs ∧ n = xs.length) ∨ ∃ xs, SqT X.K H p xs ∧ n = xs.length := e
    rcases e' with ⟨xs, hx, e'⟩ | ⟨xs, hx, e'⟩
    · subst e'
      obtain ⟨its, r', pl, hz⟩ := I.list hx
      have hlen := r'.length
      exact Calls.call_len_list pl.isList (by simp only [List.size_toArray]; omega) ⟨.int xs.length, H, I.tok _, ⟨_, by simp only [List.size_toArray]; rw [hlen]⟩, q⟩
    · subst e'
      obtain ⟨its, r', pl, hz⟩ := I.tuple hx
      have hlen := r'.length
      exact len_tuple pl (by simp only [List.size_toArray]; omega) ⟨.int xs.length, H, I.tok _, ⟨_, by simp only [List.size_toArray]; rw [hlen]⟩, q⟩
  | _ => exact (show False from e).elim
end
end L2

namespace L2
open PySem PySem.Spec PyProof.Rows

/-! ### an instance, its attributes a map -/
structure ObjM (h : Heap) (x dx C : Addr) (mA : Str → Option Value) : Prop where
  obj : h.get? x = some (PySem.W.instObj C dx)
  ns : h.Ns1 dx mA
  ne : dx ≠ x

section
variable {prog : Program} {w : World} {A : Around} {E : Value → Shared → Prop} {s : Shared} {K : PySem.W.Frag} {x dx C f : Addr} {mA : Str → Option Value} {name : Str} {v : Value}

end

/-! ### the attributes as a list of pairs -/
theorem RelO.some_of {v : V} {o : Option Value} (r : RelO (some v) o) : ∃ u, o = some u ∧ RelV v u := by
  cases o with
  | none => exact (show False from r).elim
  | some u => exact ⟨u, rfl, r⟩
section
variable {P : Program} {w : World} {H H' : Hp} {h h' : Heap} {a C dx : Addr} {fs fs' : List (Str × V)}
end

/-! ### what of the text a class must have -/
structure Cls (K : PySem.W.Frag) (C : Addr) : Prop where
  pg : PySem.W.plainGet K C Str.empty = true
  hd : PySem.W.hasDictIn K C = true
  po : PySem.W.plainOver K C = true
  sa : PySem.W.findIn K (.ref C) "__setattr__" = some (some (.builtin "object.__setattr__"))
theorem Cls.get {K : PySem.W.Frag} {C : Addr} (c : Cls K C) (f : Str) : PySem.W.plainGet K C f = true := c.pg
/-- a constant of the class -/
structure Con (K : PySem.W.Frag) (C : Addr) (f : Str) (v : V) (u : Value) : Prop where
  at_ : PySem.W.findIn K (.ref C) f = some (some u)
  rel : RelV v u
  get : PySem.W.specialIn K u "__get__" = some none
  cp : PySem.W.copiedNames.contains f = false
/-- a method: a plain def of the class or of one above it -/
structure Meth (K : PySem.W.Frag) (C : Addr) (m : Str) (f : Addr) : Prop where
  at_ : PySem.W.findIn K (.ref C) m = some (some (.ref f))
  fn : PySem.W.isFn K (.ref f) = true
  kp : PySem.W.keepIn K (.ref f) = true

section
variable {X : Cx} {pins : List (Addr × Obj)} {σ : St} {H : Hp} {s : Shared} {a C dx : Addr} {fs : List (Str × V)} {f : Str} {v : V} {A : Around} {E : Value → Shared → Prop}

end

/-! ### readings and rules -/
section
variable {X : Cx} {o e value : Expr} {f : Str} {pos pos' tpos : Pos} {ta tv : TE}
end

/-! ### isinstance -/
section
variable {X : Cx} {pins : List (Addr × Obj)} {σ : St} {H : Hp} {s : Shared} {A : Around} {E : Value → Shared → Prop} {Q : Value → Shared → Prop} {c : Value} {b : Bool}
/-- the type of a value, as the fragment's deciders take it; for an instance its class -/
inductive TyOf (K : PySem.W.Frag) (H : Hp) : V → Value → Prop where
  | non : TyOf K H .non (.type "NoneType")
  | bl (x : Bool) : TyOf K H (.bl x) (.type "bool")
  | int (i : Int) : TyOf K H (.int i) (.type "int")
  | str (x : Str) : TyOf K H (.str x) (.type "str")
  | flt (x : UInt64) : TyOf K H (.flt x) (.type "float")
  | lst {a : Addr} {xs : List V} (e : H a = some (.lst xs)) : TyOf K H (.ref a) (.type "list")
  | frz {a : Addr} {o : Obj} {xs : List V} (e : H a = some (.frz o (.lst xs))) : TyOf K H (.ref a) (.type "list")
  | tup {a : Addr} {xs : List V} (e : H a = some (.tup xs)) : TyOf K H (.ref a) (.type "tuple")
  | dK {a : Addr} {kvs : List (Key × V)} (e : H a = some (.dK kvs)) : TyOf K H (.ref a) (.type "dict")
  | dT {a : Addr} {kvs : List (List Key × V)} (e : H a = some (.dT kvs)) : TyOf K H (.ref a) (.type "dict")
  | ins {a C dx : Addr} {fs : List (Str × V)} (e : H a = some (.ins C dx fs)) (cl : Cls K C) (ha : PySem.W.findIn K (.ref C) "__class__" = some (some (.builtin "object.__class__")))
      (hn : PySem.W.specialIn K (.builtin "object.__class__") "__get__" = some (some (.builtin "getset_descriptor.__get__"))) (htk : PySem.W.takesIn K (.builtin "object.__class__") = some true)
      (hm : PySem.W.mroIn K C (.type "object") = some true) : TyOf K H (.ref a) (.ref C)
end
end L2

namespace L2
open PySem PySem.Spec PyProof.Rows

/-! ### room -/
structure Room (k : Nat) (A : Around) : Prop where
  hd : A.handled = none
  dp : A.depth + 3 * k + 5 < recursionLimit
  un : A.units + 16 * k + 200 < cLine
theorem Room.mono {j k : Nat} {A : Around} (r : Room k A) (h : j ≤ k) : Room j A := ⟨r.hd, by have := r.dp; omega, by have := r.un; omega⟩
theorem Room.deeper {k : Nat} {A : Around} (r : Room (k + 1) A) (env : Env) : Room k (A.deeper env) :=
  ⟨r.hd, by have := r.dp; show A.depth + 1 + 3 * k + 5 < _; omega, by have := r.un; show A.units + 3 + 16 * k + 200 < _; omega⟩
theorem Room.depth {k : Nat} {A : Around} (r : Room k A) : A.depth < recursionLimit := by have := r.dp; omega
theorem Room.units {k : Nat} {A : Around} (r : Room k A) : A.units + 64 < cLine := by have := r.un; omega
/-! ### argument lists and displays -/
def tNil : TA := fun _ H Q => Q [] H
def tCons (ta : TE) (tr : TA) : TA := fun σ H Q => ta σ H fun x H1 => tr σ H1 fun xs H2 => Q (x :: xs) H2
section
variable {X : Cx} {e : Expr} {es : List Expr} {te : TE} {t : TA} {pos : Pos}
theorem pa_nil : PA X [] tNil := fun _ _ _ _ H Q I h => Calls.spliced_nil ⟨[], H, I, .nil, h⟩
theorem pa_cons (ha : PE X e te) (hr : PA X es t) (hs : starEach (e :: es) X.env = (false, eval e X.env) :: starEach es X.env := by rfl) : PA X (e :: es) (tCons te t) := by
  intro pos pins s σ H Q I h
  rw [hs]
  show wpAny _ _ (spliced ((false, eval e X.env) :: backTo pos (starEach es X.env))) _ _ s
  refine Calls.spliced_cons (thn (ha pins s σ H _ I h) fun u s1 ⟨x, H1, I1, r1, q1⟩ => ?_)
  exact thn (hr pos pins s1 σ H1 _ I1 q1) fun us s2 ⟨xs, H2, I2, r2, q2⟩ => ⟨x :: xs, H2, I2, .cons r1 r2, q2⟩

/-- a tuple, a list of written items -/
def tTup (t : TA) : TE := fun σ H Q => t σ H fun xs H1 => xs.length ≤ sizeLine ∧ ∀ p, H1 p = none → Q (.ref p) (upd H1 p (.tup xs))
def tLst (t : TA) : TE := fun σ H Q => t σ H fun xs H1 => xs.length ≤ sizeLine ∧ ∀ p, H1 p = none → Q (.ref p) (upd H1 p (.lst xs))
theorem pe_tup {x1} (h : PA X es t) : PE X (.Tuple es x1 pos) (tTup t) := by
  intro pins s σ H Q I hq
  refine wpAny_Tuple_spliced (thn (h pos pins s σ H _ I hq) fun us s1 ⟨xs, H1, I1, r, z, q⟩ => ⟨by rw [← r.length]; exact z, ?_⟩)
  have hf : H1 s1.heap.objs.size = none := I1.hok.fresh (Nat.le_refl _)
  refine ⟨.ref s1.heap.objs.size, upd H1 s1.heap.objs.size (.tup xs), I1.laid (t' := s1.toks) (fun b u e => Heap.get?_push_of_some _ e) (Nat.le_refl _) ?_, rfl, q _ hf⟩
  exact ⟨z, us, r, ⟨_, Heap.get?_push_size _ rfl, rfl, _, rfl⟩⟩
theorem pe_lst (h : PA X es t) : PE X (.List es pos) (tLst t) := by
  intro pins s σ H Q I hq
  refine wpAny_List_spliced (thn (h pos pins s σ H _ I hq) fun us s1 ⟨xs, H1, I1, r, z, q⟩ => ⟨by rw [← r.length]; exact z, ?_⟩)
  have hf : H1 s1.heap.objs.size = none := I1.hok.fresh (Nat.le_refl _)
  refine ⟨.ref s1.heap.objs.size, upd H1 s1.heap.objs.size (.lst xs), I1.laid (t' := s1.toks) (fun b u e => Heap.get?_push_of_some _ e) (Nat.le_refl _) ?_, rfl, q _ hf⟩
  exact ⟨z, us, 0, r, Heap.get?_push_size _ rfl⟩
end

/-! ### what a def promises -/
/-- a def's promise: the bound arguments in the parameters' order, the heap, the wanted end, the wanted exception -/
abbrev Sp := List V → Hp → VK → XK → Prop
/-- how an exception lies behind a call (file 08 gives it): the callers' frames, abstract heap and state ahead of the call, the wish, the exception, the state -/
abbrev CXT := List Env → Hp → Shared → XK → Value → Shared → Prop

/-- the state at a call -/
structure Env0 (P : Program) (w : World) (K : PySem.W.Frag) (mg : Str → Option Value) (base : Heap) (A : Around) (outer : List Env) (s : Shared) (H : Hp) : Prop where
  frames : A.frames = some outer
  mod : Mod K mg base
  bs : ∀ b o, base.get? b = some o → s.heap.get? b = some o ∧ H b = none
  bsz : base.objs.size ≤ s.heap.objs.size
  funs : s.heap.FunFrames base outer
  frf : ∀ b ∈ frs outer, H b = none
  hok : HOk P w H s.heap
  bare : AllBare s.gens
/-- a call's end -/
def CE (outer : List Env) (P : Program) (w : World) (H : Hp) (s : Shared) (Q : VK) (u : Value) (s' : Shared) : Prop :=
  ∃ v H', s'.os = s.os ∧ AllBare s'.gens ∧ Un (frs outer) [] H H' s.heap s'.heap ∧ HOk P w H' s'.heap ∧ RelV v u ∧ Q v H'
def CR (CX : CXT) (outer : List Env) (P : Program) (w : World) (H : Hp) (s : Shared) (Q : VK) (E : XK) (r : Result) (s' : Shared) : Prop :=
  match r with
  | .ok (.ret u) => CE outer P w H s Q u s'
  | .ok _ => False
  | .error e => CX outer H s E e s'
structure FnOk (P : Program) (w : World) (K : PySem.W.Frag) (mg : Str → Option Value) (base : Heap) (CX : CXT) (k : Nat) (f : Addr) (fd : FuncData) (ps : List Str) (sp : Sp) : Prop where
  len : ∀ vs H Q E, sp vs H Q E → vs.length = ps.length
  run : ∀ (A : Around) (outer : List Env) (s : Shared) (H : Hp) (args : Args) (us : List Value) (vs : List V) (Q : VK) (E : XK), Room k A → Env0 P w K mg base A outer s H → BindsTo s fd args (ps.zip us) → Vals vs us → sp vs H Q E →
    codeAny (model P w) A (.call (.ref f) args) (CR CX outer P w H s Q E) s
theorem FnOk.mono {P : Program} {w : World} {K : PySem.W.Frag} {mg : Str → Option Value} {base : Heap} {CX : CXT} {j k : Nat} {f : Addr} {fd : FuncData} {ps : List Str} {sp : Sp} (F : FnOk P w K mg base CX j f fd ps sp) (h : j ≤ k) :
    FnOk P w K mg base CX k f fd ps sp := ⟨F.len, fun A outer s H args us vs Q E hr => F.run A outer s H args us vs Q E (hr.mono h)⟩
/-- a weaker promise -/
theorem FnOk.imp {P : Program} {w : World} {K : PySem.W.Frag} {mg : Str → Option Value} {base : Heap} {CX : CXT} {k : Nat} {f : Addr} {fd : FuncData} {ps : List Str} {sp sp' : Sp} (F : FnOk P w K mg base CX k f fd ps sp)
    (h : ∀ vs H Q E, sp' vs H Q E → sp vs H Q E) : FnOk P w K mg base CX k f fd ps sp' :=
  ⟨fun vs H Q E q => F.len vs H Q E (h _ _ _ _ q), fun A outer s H args us vs Q E hr he hb hv hs => F.run A outer s H args us vs Q E hr he hb hv (h _ _ _ _ hs)⟩

section
variable {X : Cx} {pins : List (Addr × Obj)} {σ : St} {H : Hp} {s s' : Shared}
/-- from a body: what a callee wants -/
theorem Inv.env0 (I : Inv X pins σ H s) : Env0 X.prog X.w X.K X.mg X.base X.A X.stack s H :=
  ⟨I.ok.frames, I.ok.mod, I.bs, Nat.le_trans I.ok.bsz I.sz, I.stack, I.stkFree, I.hok, I.bare⟩
/-- behind a call -/
theorem Inv.after {Q : VK} {u : Value} (I : Inv X pins σ H s) (h : CE X.stack X.prog X.w H s Q u s') : EP X pins σ Q u s' := by
  obtain ⟨v, H', os, bare, un, hok, r, q⟩ := h
  obtain ⟨hh, g, d, t, os'⟩ := s'
  obtain rfl : os' = s.os := os
  exact ⟨v, H', I.call (h' := hh) (g' := g) (d' := d) (t' := t) (ch := []) un hok bare (fun b z => absurd z (by simp)), r, q⟩
end

/-! ### calls -/
/-- f(..): the written arguments, then the defaults dvs; E: what is wanted of an exception -/
def tCall (sp : Sp) (dvs : List V) (E : XK) (t : TA) : TE := fun σ H Q => t σ H fun vs H1 => sp (vs ++ dvs) H1 Q E
/-- how the parameters are bound: us the positional arguments, kw the keywords' values by name, ds the defaults that fill up -/
def Binds (K : PySem.W.Frag) (fd : FuncData) (ps : List Str) (ds : List Value) : Prop :=
  ∀ (s : Shared) (us : List Value), K.In s.heap → (us ++ ds).length = ps.length → BindsTo s fd ⟨us, []⟩ (ps.zip (us ++ ds))
/-- every parameter is given -/
theorem Binds.all {K : PySem.W.Frag} {fd : FuncData} {ps : List Str} (h : ∀ us : List Value, us.length = ps.length → bindArgs fd ⟨us, []⟩ = pure (ps.zip us)) : Binds K fd ps [] := fun s us _ hl => by
  rw [List.append_nil] at hl ⊢
  exact .of_eq (h us hl)

/-- an exception of a callee reaches what this body wants of exceptions -/
def Passes (CX : CXT) (X : Cx) (E : XK) : Prop := ∀ (pins : List (Addr × Obj)) (σ : St) (H : Hp) (s : Shared) (e : Value) (s' : Shared), Inv X pins σ H s → CX X.stack H s E e s' → X.xe e s'

section
variable {X : Cx} {CX : CXT} {k : Nat} {f C : Addr} {fd : FuncData} {ps : List Str} {sp : Sp} {dvs : List V} {ds : List Value} {E : XK} {x m : Str} {p pos apos : Pos} {e o : Expr} {es : List Expr} {ta : TE} {t : TA}

/-- the callee runs -/
theorem run_fn {pins : List (Addr × Obj)} {σ : St} {H : Hp} {s : Shared} {Q : VK} {us : List Value} {vs : List V} (F : FnOk X.prog X.w X.K X.mg X.base CX k f fd ps sp) (hr : Room k X.A) (hb : Binds X.K fd ps ds) (hd : Vals dvs ds) (hx : Passes CX X E)
    (I : Inv X pins σ H s) (r : Vals vs us) (h : sp (vs ++ dvs) H Q E) : wpAny (model X.prog X.w) X.A (call (.ref f) us) (EP X pins σ Q) X.xe s := by
  have r2 : Vals (vs ++ dvs) (us ++ ds) := r.append hd
  have hl : (us ++ ds).length = ps.length := by rw [← r2.length]; exact F.len _ _ _ _ h
  refine wpAny_call (codeAny_mono (F.run X.A X.stack s H ⟨us, []⟩ (us ++ ds) (vs ++ dvs) Q E hr I.env0 (hb s us I.kIn hl) r2 h) fun r s' hq => ?_)
  cases r with
  | error e => exact hx pins σ H s e s' I hq
  | ok fl =>
    cases fl with
    | ret u => exact I.after hq
    | next => exact False.elim hq
    | brk => exact False.elim hq
    | cont => exact False.elim hq

theorem pe_call (F : FnOk X.prog X.w X.K X.mg X.base CX k f fd ps sp) (hr : Room k X.A) (hg : Gl X x) (hm : X.mg x = some (.ref f)) (hk : PySem.W.keepIn X.K (.ref f) = true) (hb : Binds X.K fd ps ds) (hd : Vals dvs ds) (hx : Passes CX X E)
    (ha : PA X (e :: es) t) (hdb : (x == ("__debug__" : Str)) = false := by decide) (he : starEach (e :: es) X.env = (false, eval e X.env) :: starEach es X.env := by rfl) (hpl : (backTo pos (starEach es X.env)).any (·.1) = false := by rfl) :
    PE X (.Call (.Name x p) (e :: es) [] pos) (tCall sp dvs E t) := by
  intro pins s σ H Q I h
  refine wpAny_Call_Name_kw (ld_glob I hg hm ?_ hdb)
  refine PySem.W.callWith_K (h₀ := X.base) I.ok.mod.kin hk (thn (ha pos pins s σ H _ I h) fun us s1 ⟨vs, H1, I1, r, q⟩ => ⟨I1.kIn, ?_⟩) he hpl
  exact run_fn F hr hb hd hx I1 r q
/-- what a class must have to be made -/
structure Mk (K : PySem.W.Frag) (C f : Addr) : Prop where
  makes : PySem.W.makesIn K C = true
  init : PySem.W.findIn K (.ref C) "__init__" = some (some (.ref f))
  fn : PySem.W.isFn K (.ref f) = true
  kp : PySem.W.keepIn K (.ref C) = true

end

/-! ### keywords -/
section
variable {X : Cx} {CX : CXT} {k : Nat} {f C : Addr} {fd : FuncData} {ps ks : List Str} {sp : Sp} {E : XK} {x m : Str} {p pos apos kpos : Pos} {e o : Expr} {es : List Expr} {kws : List Keyword} {te ta : TE} {t tk : TA} {nm : Option Str}
/-- how a call with keywords binds: g puts the positional values us and the keywords' values ws (names ks) in the parameters' order, defaults among them -/
structure KBinds (K : PySem.W.Frag) (fd : FuncData) (ps ks : List Str) (g : List Value → List Value → List Value) (gV : List V → List V → List V) : Prop where
  to : ∀ (s : Shared) (us ws : List Value), K.In s.heap → (g us ws).length = ps.length → BindsTo s fd ⟨us, ks.zip ws⟩ (ps.zip (g us ws))
  rel : ∀ {vs : List V} {us : List Value} {zs : List V} {ws : List Value}, Vals vs us → Vals zs ws → Vals (gV vs zs) (g us ws)
variable {g : List Value → List Value → List Value} {gV : List V → List V → List V}
end

/-! ### a def's body keeps its promise -/
/-- names: the parameters first -/
structure FnScope (N P : List Str) (sc : Scope) : Prop where
  kind : sc.kind = .function
  co : sc.isCoroutine = false
  gen : sc.isGenerator = false
  nd : N.Nodup
  pre : N.take P.length = P
  par : ∀ x ∈ P, sc.names.lookup x = some .local ∨ sc.names.lookup x = some .cell
  nofree : ∀ y ∈ sc.names, y.2 ≠ .free

theorem bindL_out {kindOf : Str → Option NameKind} {x : Str} : ∀ {binds : List (Str × Value)} {m : Str → Option Value}, (∀ v, (x, v) ∉ binds) → bindL kindOf binds m x = m x
  | [], _, _ => rfl
  | (n, v) :: r, m, h => by
    unfold bindL
    rw [bindL_out fun w hw => h w (List.mem_cons_of_mem _ hw)]
    split
    · have : x ≠ n := by rintro rfl; exact h v List.mem_cons_self
      simp [this]
    · rfl
theorem bindC_out {kindOf : Str → Option NameKind} {x : Str} : ∀ {binds : List (Str × Value)} {m : Str → Option Value}, (∀ v, (x, v) ∉ binds) → bindC kindOf binds m x = m x
  | [], _, _ => rfl
  | (n, v) :: r, m, h => by
    unfold bindC
    rw [bindC_out fun w hw => h w (List.mem_cons_of_mem _ hw)]
    split
    · rfl
    · have : x ≠ n := by rintro rfl; exact h v List.mem_cons_self
      simp [this]
theorem bindL_get {kindOf : Str → Option NameKind} {x : Str} {v : Value} : ∀ {P : List Str} {vs : List Value} {i : Nat} {m : Str → Option Value}, P.Nodup → P[i]? = some x → vs[i]? = some v → kindOf x = some .local →
    bindL kindOf (P.zip vs) m x = some v
  | [], _, _, _, _, h, _, _ => by simp at h
  | _ :: _, [], _, _, _, _, h, _ => by simp at h
  | p :: P, w :: vs, 0, m, nd, h1, h2, hk => by
    simp at h1 h2; subst h1; subst h2
    show bindL kindOf ((p, w) :: P.zip vs) m p = _
    unfold bindL
    rw [bindL_out fun v hv => (List.nodup_cons.mp nd).1 (List.of_mem_zip hv).1, if_pos hk]
    simp
  | p :: P, w :: vs, i + 1, m, nd, h1, h2, hk => by
    show bindL kindOf ((p, w) :: P.zip vs) m x = _
    unfold bindL
    exact bindL_get (i := i) (List.nodup_cons.mp nd).2 (by simpa using h1) (by simpa using h2) hk
theorem bindC_get {kindOf : Str → Option NameKind} {x : Str} {v : Value} : ∀ {P : List Str} {vs : List Value} {i : Nat} {m : Str → Option Value}, P.Nodup → P[i]? = some x → vs[i]? = some v → kindOf x ≠ some .local →
    bindC kindOf (P.zip vs) m x = some v
  | [], _, _, _, _, h, _, _ => by simp at h
  | _ :: _, [], _, _, _, _, h, _ => by simp at h
  | p :: P, w :: vs, 0, m, nd, h1, h2, hk => by
    simp at h1 h2; subst h1; subst h2
    show bindC kindOf ((p, w) :: P.zip vs) m p = _
    unfold bindC
    rw [bindC_out fun v hv => (List.nodup_cons.mp nd).1 (List.of_mem_zip hv).1, if_neg hk]
    simp
  | p :: P, w :: vs, i + 1, m, nd, h1, h2, hk => by
    show bindC kindOf ((p, w) :: P.zip vs) m x = _
    unfold bindC
    exact bindC_get (i := i) (List.nodup_cons.mp nd).2 (by simpa using h1) (by simpa using h2) hk

/-- the names' values at the entry -/
def start (N : List Str) (vs : List V) : St := vs.map some ++ List.replicate (N.length - vs.length) none

/-- the context of a def's body, at its entry; an exception leaves the frame, then lies as CX says -/
def cxOf (CX : CXT) (P : Program) (w : World) (K : PySem.W.Frag) (mg : Str → Option Value) (base : Heap) (N : List Str) (qual : Str) (scope : Scope) (f : Addr) (cd : Value) (A : Around) (outer : List Env) (s : Shared) (H : Hp) (E : XK) : Cx where
  prog := P
  w := w
  K := K
  mg := mg
  base := base
  A := A.deeper (envOfC qual scope s.heap.objs.size f cd)
  N := N
  s₀ := s
  H₀ := H
  env := envOfC qual scope s.heap.objs.size f cd
  outer := outer
  stack := envOfC qual scope s.heap.objs.size f cd :: outer
  ex := []
  calm := true
  fn := fun _ => true
  pn := []
  xe := fun e s' => wpAny (model P w) (A.deeper (envOfC qual scope s.heap.objs.size f cd)) (leaving (envOfC qual scope s.heap.objs.size f cd) e) (fun _ s'' => CX outer H s E e s'') (fun e' s'' => CX outer H s E e' s'') s'

theorem cell_has {sc : Scope} {n : Nat} {x : Str} (h : sc.names.lookup x = some .cell) : ∃ c, (cellsFrom n sc.names []).lookup x = some c := by
  have q := PySem.W.cellsFrom_some sc.names n [] (.inl h)
  exact Option.isSome_iff_exists.mp q

theorem inv_start {CX : CXT} {P : Program} {w : World} {K : PySem.W.Frag} {mg : Str → Option Value} {base : Heap} {N ps : List Str} {qual : Str} {scope : Scope} {f : Addr} {cd : Value} {A : Around} {outer : List Env} {s s1 : Shared} {H : Hp} {E : XK} {us : List Value} {vs : List V}
    (S : FnScope N ps scope) (hd : A.handled = none) (e0 : Env0 P w K mg base A outer s H) (hl : vs.length = ps.length) (r : Vals vs us)
    (x : InCallC s s.heap.objs.size (bindL (envOfC qual scope s.heap.objs.size f cd).kindOf (ps.zip us) fun _ => none) (cellsFrom (s.heap.objs.size + 1) scope.names []) (bindC (envOfC qual scope s.heap.objs.size f cd).kindOf (ps.zip us) fun _ => none) s1) :
    Inv (cxOf CX P w K mg base N qual scope f cd A outer s H E) [] (start N vs) H s1 := by
  have hpl : ps.length ≤ N.length := by have := congrArg List.length S.pre; rw [List.length_take] at this; omega
  obtain ⟨h1, tk, rfl, hk⟩ := x.done
  have noA : ∀ b : Addr, b ∉ (cxOf CX P w K mg base N qual scope f cd A outer s H E).ex := fun b z => absurd (show b ∈ ([] : List Addr) from z) (by simp)
  refine ⟨⟨e0.mod, S.kind, rfl, rfl, Nat.le_refl _, fun y z c h1 h2 => ?_, fun y hy => ?_, fun y c _ h => ?_, fun _ => hd, Around.frames_deeper e0.frames, .inr ⟨rfl, rfl⟩, fun b z => absurd z (noA b), e0.bs, e0.bsz, fun b _ _ => noA b, fun b z => absurd z (noA b), e0.funs, e0.frf⟩,
    rfl, e0.bare, Un.kept hk, ⟨_, x.toInCall.ns, fun i y v h1 h2 h3 => ?_⟩, fun y c h => ⟨_, x.cell y c h⟩, e0.hok.fresh (Nat.le_refl _), fun y c h => ?_, fun p hp => absurd (show p ∈ ([] : List (Addr × Obj)) from hp) (by simp), e0.hok.kept hk, ?_⟩
  · exact name_of_addr x.apart (PySem.mem_of_lookup h1) (PySem.mem_of_lookup h2)
  · have hy : scope.names.lookup y = some .cell ∨ scope.names.lookup y = some .free := hy
    rcases hy with hy | hy
    · exact cell_has hy
    · exact absurd rfl (S.nofree _ (PySem.mem_of_lookup hy))
  · exact Nat.le_of_lt (x.above y c (PySem.mem_of_lookup h))
  · have hi : i < vs.length := by
      unfold start at h2
      by_cases hi : i < vs.length
      · exact hi
      · rw [List.getElem?_append_right (by simpa using hi)] at h2
        rw [List.getElem?_replicate] at h2
        split at h2 <;> cases h2
    have ha : vs[i]? = some v := by
      unfold start at h2
      rw [List.getElem?_append_left (by simpa using hi), List.getElem?_map] at h2
      cases e : vs[i]? with
      | none => rw [e] at h2; cases h2
      | some a => rw [e] at h2; cases h2; rfl
    obtain ⟨u, hu, rv⟩ := r.get ha
    have hp : ps[i]? = some y := by
      rw [← S.pre, List.getElem?_take_of_lt (by omega)]; exact h1
    have ndP : ps.Nodup := by rw [← S.pre]; exact S.nd.sublist (List.take_sublist _ _)
    refine ⟨u, rv, ?_⟩
    rcases S.par y (List.mem_of_getElem? hp) with k | k
    · exact .inl ⟨k, bindL_get ndP hp hu k⟩
    · obtain ⟨c, e⟩ := cell_has (n := s.heap.objs.size + 1) k
      refine .inr ⟨.inl k, c, e, ?_⟩
      have q := x.cell y c e
      rw [bindC_get ndP hp hu (by show scope.names.lookup y ≠ _; rw [k]; decide)] at q
      exact q
  · exact e0.hok.fresh (Nat.le_of_lt (x.above y c (PySem.mem_of_lookup h)))
  · unfold start
    show _ = N.length
    rw [List.length_append, List.length_map, List.length_replicate]
    omega

/-- THE RULE: a def (or a method) of the text, by its body. The body's reading t is chosen for each entry; it is run at the parameters' values -/
theorem fn_of {CX : CXT} {P : Program} {w : World} {K : PySem.W.Frag} {mg : Str → Option Value} {base : Heap} {k : Nat} {f : Addr} {name qual : Str} {params : Arguments} {body : List Stmt} {scope : Scope} {dV kV doc pm cdv ct oc : Value} {an od : Option Addr}
    {osl : Array (Option Value)} {N ps : List Str} {sp : Sp} (lk : K.lookup f = some ⟨oc, od, .func (PySem.W.fnOf name qual params body scope dV kV doc pm an cdv ct), osl⟩) (hcd : PySem.W.codeIn K cdv qual = true) (S : FnScope N ps scope)
    (len : ∀ vs H Q E, sp vs H Q E → vs.length = ps.length)
    (hbody : ∀ (A : Around) (outer : List Env) (s : Shared) (H : Hp) (vs : List V) (Q : VK) (E : XK), Room k (A.deeper (envOfC qual scope s.heap.objs.size f cdv)) → sp vs H Q E →
      ∃ t, PSs (cxOf CX P w K mg base N qual scope f cdv A outer s H E) body t ∧ t { nx := fun _ H' => Q .non H', rt := Q } (start N vs) H) :
    FnOk P w K mg base CX (k + 1) f (PySem.W.fnOf name qual params body scope dV kV doc pm an cdv ct) ps sp := by
  refine ⟨len, fun A outer s H args us vs Q E hr e0 hb r hsp => ?_⟩
  have hl := len _ _ _ _ hsp
  have KX : K.In s.heap := e0.mod.kin.keeps fun b o e => (e0.bs b o e).1
  have lim : s.heap.NoLimit := e0.mod.nolimit.keeps fun b o e => (e0.bs b o e).1
  have hkind : ∀ y ∈ ps.zip us, scope.names.lookup y.1 = some .local ∨ (scope.names.lookup y.1 = some .cell ∧ ((cellsFrom (s.heap.objs.size + 1) scope.names []).lookup y.1).isSome = true) := fun ⟨n, v⟩ hy => by
    rcases S.par n (List.of_mem_zip hy).1 with q | q
    · exact .inl q
    · exact .inr ⟨q, PySem.W.cellsFrom_some _ _ _ (.inl q)⟩
  refine codeAny_call_function hr.depth (KX _ _ lk) rfl S.co S.gen rfl (PySem.W.codeRec_of KX hcd) (hb _ _ _ _ ?_)
  refine wpAny_newFunctionEnv_cells S.kind hkind fun env he s1 x => ?_
  subst he
  refine ⟨lim.keeps x.toInCall.keep, codeAny_func ?_⟩
  obtain ⟨t, ht, hq⟩ := hbody A outer s H vs Q E (hr.deeper _) hsp
  have I : Inv (cxOf CX P w K mg base N qual scope f cdv A outer s H E) [] (start N vs) H s1 := inv_start S hr.hd e0 hl r x
  refine wpAny_mono (ht [] s1 (start N vs) H _ I hq) (fun fl s' hs => ?_) fun e s' hs => hs
  have fin : ∀ {σ' : St} {H' : Hp} {v : V} {u : Value}, Inv (cxOf CX P w K mg base N qual scope f cdv A outer s H E) [] σ' H' s' → RelV v u → Q v H' → CE outer P w H s Q u s' :=
    fun {σ' H' v u} J rv q => ⟨v, H', J.os, J.bare, J.base, J.hok, rv, q⟩
  cases fl with
  | ret u =>
    obtain ⟨v, σ', H', J, rv, q⟩ := hs
    exact fin J rv q
  | next =>
    obtain ⟨σ', H', J, q⟩ := hs
    exact fin (v := V.non) (u := Value.none) J rfl q
  | brk =>
    obtain ⟨_, _, _, q⟩ := hs
    exact False.elim q
  | cont =>
    obtain ⟨_, _, _, q⟩ := hs
    exact False.elim q
end L2

namespace L2
open PySem PySem.Spec PyProof.Rows
section
variable {X : Cx} {x : Str} {p pos : Pos} {e : Expr} {es : List Expr} {t : TA} {id T : String} {r : List V → Hp → VK → Prop}

def tCB (r : List V → Hp → VK → Prop) (t : TA) : TE := fun σ H Q => t σ H fun vs H1 => r vs H1 Q
/-- f(e, ..), f a built-in function -/
theorem pe_callB (hc : CallR X (.builtin id) r) (hg : Gl X x) (hm : X.mg x = none) (hv : bootBuiltins x = some (.builtin id)) (ha : PA X (e :: es) t) (hn : x ≠ "__name__" := by decide) (hdb : (x == ("__debug__" : Str)) = false := by decide)
    (he : starEach (e :: es) X.env = (false, eval e X.env) :: starEach es X.env := by rfl) (hpl : (backTo pos (starEach es X.env)).any (·.1) = false := by rfl) : PE X (.Call (.Name x p) (e :: es) [] pos) (tCB r t) := by
  intro pins s σ H Q I h
  refine wpAny_Call_Name_kw (ld_blt I hg hm hv ?_ hn hdb)
  exact PyProof.Rows.callWith_builtin1 (thn (ha pos pins s σ H _ I h) fun us s1 ⟨vs, H1, I1, r1, q1⟩ => hc pins s1 σ H1 vs us Q I1 r1 q1) he hpl
/-- T(e, ..), T a built-in type -/
theorem pe_callTy (hc : CallR X (.type T) r) (hg : Gl X x) (hm : X.mg x = none) (hv : bootBuiltins x = some (.type T)) (ha : PA X (e :: es) t) (hn : x ≠ "__name__" := by decide) (hdb : (x == ("__debug__" : Str)) = false := by decide)
    (he : starEach (e :: es) X.env = (false, eval e X.env) :: starEach es X.env := by rfl) (hpl : (backTo pos (starEach es X.env)).any (·.1) = false := by rfl) : PE X (.Call (.Name x p) (e :: es) [] pos) (tCB r t) := by
  intro pins s σ H Q I h
  refine wpAny_Call_Name_kw (ld_blt I hg hm hv ?_ hn hdb)
  exact PyProof.Rows.callWith_type1 (thn (ha pos pins s σ H _ I h) fun us s1 ⟨vs, H1, I1, r1, q1⟩ => hc pins s1 σ H1 vs us Q I1 r1 q1) he hpl
end
end L2

namespace HT
open PySem PyProof.Rows

section
open PySem.SeqAt
open PySem.AutoSeq1 (wpAny_loadPart')
open PySem.MeetsSeq PySem.MeetsSeq2 PySem.MeetsSeq3

end

section
variable {prog : Program} {w : World} {A : Around} {E : Value → Shared → Prop} {s : Shared}

/-- t + u, t not empty -/
theorem cat_tup {t b : Addr} {vs ws : List Value} {Q : Value → Shared → Prop} (ht : IsTup s.heap t vs.toArray) (hb : IsTup s.heap b ws.toArray) (hv : vs ≠ [])
    (h1 : ws = [] → Q (.ref t) s) (h2 : ws ≠ [] → Q (.ref s.heap.objs.size) { s with heap := s.heap.push { cls := .type "tuple", data := .seq (vs ++ ws).toArray } })
    (hsz : vs.length + ws.length ≤ sizeLine) : wpAny (model prog w) A (binaryOp .Add (.ref t) (.ref b)) Q E s := by
  obtain ⟨⟨cls, dd, data, sl⟩, ho, hc, n, hd⟩ := id ht
  obtain ⟨⟨cls2, dd2, data2, sl2⟩, ho2, hc2, n2, hd2⟩ := id hb
  simp only at hc hd hc2 hd2
  subst hc hd hc2 hd2
  have e : vs.toArray ++ ws.toArray = (vs ++ ws).toArray := by simp
  by_cases hw : ws = []
  · exact concat_meets ⟨_, ho, rfl⟩ ⟨_, ho2, rfl⟩ noFill_tuple_add seq_tuple_add PySem.F.slot_tuple_add PySem.F.entry_tuple_add (PySem.F.args_tuple_add_2 _ _)
      (tuple_addW1 t b vs.toArray ws.toArray n n2 dd dd2 sl sl2 (by simpa using hv) (by simp [hw])) ⟨ho, ho2, h1 hw⟩
  · refine concat_meets ⟨_, ho, rfl⟩ ⟨_, ho2, rfl⟩ noFill_tuple_add seq_tuple_add PySem.F.slot_tuple_add PySem.F.entry_tuple_add (PySem.F.args_tuple_add_2 _ _)
      (tuple_addW2 t b vs.toArray ws.toArray n n2 dd dd2 sl sl2 (by simpa using hv) (by simpa using hw) (by rw [List.size_toArray, List.size_toArray]; exact hsz)) ⟨ho, ho2, ?_⟩
    rw [e]
    exact h2 hw

/-! ### t[a:b], not the whole -/
/-- a slice's bound as a place among n (d where it is left out) -/
def sIx (n d : Nat) : Option Int → Nat
  | none => d
  | some v => if v < 0 then (v + (n : Int)).toNat else min v.toNat n
theorem sIx_le (n d : Nat) (hd : d ≤ n) (o : Option Int) : sIx n d o ≤ n := by
  cases o with
  | none => exact hd
  | some v =>
    show (if v < 0 then (v + (n : Int)).toNat else min v.toNat n) ≤ n
    by_cases hv : v < 0
    · rw [if_pos hv]; omega
    · rw [if_neg hv]; exact Nat.min_le_right _ _
theorem clip_eq (v : Int) (n d : Nat) : (if v < 0 then max (v + (n : Int)) 0 else min v (n : Int)) = ((sIx n d (some v) : Nat) : Int) := by
  show (if v < 0 then max (v + (n : Int)) 0 else min v (n : Int)) = (((if v < 0 then (v + (n : Int)).toNat else min v.toNat n) : Nat) : Int)
  by_cases hv : v < 0
  · simp only [if_pos hv]; omega
  · simp only [if_neg hv]; omega
theorem adjust_gen (lo hi : Option Int) (n : Nat) : Builtin.Slice.sliceAdjust lo hi 1 (n : Int) = (((sIx n 0 lo : Nat) : Int), ((sIx n n hi : Nat) : Int)) := by
  have h1 : ¬ ((1 : Int) < 0) := by omega
  unfold Builtin.Slice.sliceAdjust
  simp only [h1, if_false]
  refine Prod.ext ?_ ?_
  · cases lo with
    | none => rfl
    | some v => exact clip_eq v n 0
  · cases hi with
    | none => rfl
    | some v => exact clip_eq v n n
theorem places_gen (i j : Nat) : Builtin.Slice.slicePlaces (i : Int) (j : Int) 1 = j - i := by
  unfold Builtin.Slice.slicePlaces
  have h1 : (1 : Int) > 0 := by omega
  simp only [h1, if_true, Int.ediv_one]
  split <;> omega
theorem slicePart_ {v : Value} {o : Option Int} {Q : Option Int → Shared → Prop} (p : IsPart v o) (h : Q o s) : wpAny (model prog w) A (Builtin.Slice.slicePartIndex v) Q E s := by
  cases p with
  | none => exact slicePart_none h
  | int i t => exact slicePart_int h
theorem sliceApplied_gen {sl : Addr} {vl vu : Value} {lo hi : Option Int} {n : Nat} {Q : Int × Int × Nat → Shared → Prop} (hs : s.heap.IsSliceOf sl vl vu .none) (pl : IsPart vl lo) (pu : IsPart vu hi)
    (h : Q (((sIx n 0 lo : Nat) : Int), 1, sIx n n hi - sIx n 0 lo) s) : wpAny (model prog w) A (Builtin.Slice.sliceApplied (.ref sl) (pure (n : Int))) Q E s := by
  obtain ⟨os, hos, hcs, hds⟩ := id hs
  unfold Builtin.Slice.sliceApplied Builtin.Slice.sliceFields
  refine wpAny_bind (wpAny_bind (wpAny_field hos hds (x := vl) rfl (wpAny_bind (wpAny_field hos hds (x := vu) rfl (wpAny_bind (wpAny_field hos hds (x := .none) rfl (wpAny_pure ?_)))))))
  refine wpAny_bind (slicePart_none ?_)
  show wpAny _ _ (if ((1 : Int) == 0) = true then _ else _) _ _ s
  rw [if_neg (by decide)]
  refine wpAny_bind (slicePart_ pl (wpAny_bind (slicePart_ pu (wpAny_bind (wpAny_pure ?_)))))
  show wpAny _ _ (match Builtin.Slice.sliceAdjust lo hi 1 (n : Int) with | (lo, hi) => pure (lo, (1 : Int), Builtin.Slice.slicePlaces lo hi 1)) _ _ s
  rw [adjust_gen lo hi n]
  show wpAny _ _ (pure (((sIx n 0 lo : Nat) : Int), (1 : Int), Builtin.Slice.slicePlaces ((sIx n 0 lo : Nat) : Int) ((sIx n n hi : Nat) : Int) 1)) _ _ s
  rw [places_gen]
  exact wpAny_pure h
theorem pick_gen (xs : Array Value) (i k : Nat) : ((List.range k).filterMap fun (m : Nat) => xs[((i : Int) + (m : Int) * 1).toNat]?).toArray = ((xs.toList.drop i).take k).toArray := by
  have e : (fun (m : Nat) => xs[((i : Int) + (m : Int) * 1).toNat]?) = fun m => xs[i + m]? := by
    funext m
    have : ((i : Int) + (m : Int) * 1).toNat = i + m := by omega
    rw [this]
  rw [e]
  have := pick_run xs i k
  rw [List.filterMap_map] at this
  have e2 : ((fun x => xs[x]?) ∘ fun x => i + x) = fun m => xs[i + m]? := rfl
  rw [e2] at this
  rw [this]

theorem getItem_tuple_cut {t sl : Addr} {items : Array Value} {vl vu : Value} {lo hi : Option Int} {Q : Value → Shared → Prop} (ht : IsTup s.heap t items) (hs : s.heap.IsSliceOf sl vl vu .none) (pl : IsPart vl lo) (pu : IsPart vu hi)
    (hw : ¬ (sIx items.size 0 lo = 0 ∧ sIx items.size items.size hi = items.size))
    (h : Q (.ref s.heap.objs.size) { s with heap := s.heap.push { cls := .type "tuple", data := .seq ((items.toList.drop (sIx items.size 0 lo)).take (sIx items.size items.size hi - sIx items.size 0 lo)).toArray } })
    (hsz : items.size ≤ sizeLine) : wpAny (model prog w) A (getItem (.ref t) (.ref sl)) Q E s := by
  have htake : sizeOk (.seq ((items.toList.drop (sIx items.size 0 lo)).take (sIx items.size items.size hi - sIx items.size 0 lo)).toArray) := by
    show ((items.toList.drop (sIx items.size 0 lo)).take (sIx items.size items.size hi - sIx items.size 0 lo)).toArray.size ≤ sizeLine
    rw [List.size_toArray, List.length_take, List.length_drop, Array.length_toList]
    omega
  have hj : sIx items.size items.size hi ≤ items.size := sIx_le _ _ (Nat.le_refl _) hi
  obtain ⟨os, hos, hcs, hds⟩ := id hs
  have hTs : s.TypeIs (.ref sl) "slice" := ⟨os, hos, hcs⟩
  unfold getItem
  try with_reducible refine wpAny_holding ?_
  first | refine wpAny_bind (wpAny_pure ?_) | skip
  refine wpAny_bind (wpAny_sequenceKey ht.typeIs (by decide) ?_)
  refine wpAny_bind (wpAny_callSpecial?_slot (name := Str.ofString "__getitem__") ht.typeIs PyProof.Rows.slot_tuple_getitem
    (wpAny_call_entry PyProof.Rows.slot_tuple_getitem ht.typeIs entry_tuple_getitem ?_ (args_tuple_getitem _ _)))
  show wpAny _ _ (Builtin.Tuple.tupleItemsOf (.ref t) >>= _) _ _ s
  refine wpAny_bind (tupleItemsOf_ ht ?_)
  refine wpAny_bind (wpAny_typeOf hTs ?_)
  rw [if_pos (by decide)]
  refine wpAny_bind (sliceApplied_gen hs pl pu ?_)
  have hno : ¬ ((((sIx items.size 0 lo : Nat) : Int) == 0 && (1 : Int) == 1 && (sIx items.size items.size hi - sIx items.size 0 lo) == items.size) = true) := by
    intro q
    rw [Bool.and_eq_true, Bool.and_eq_true] at q
    have q1 : ((sIx items.size 0 lo : Nat) : Int) = 0 := eq_of_beq q.1.1
    have q2 : sIx items.size items.size hi - sIx items.size 0 lo = items.size := eq_of_beq q.2
    exact hw ⟨by omega, by omega⟩
  show wpAny _ _ (if (((sIx items.size 0 lo : Nat) : Int) == 0 && (1 : Int) == 1 && (sIx items.size items.size hi - sIx items.size 0 lo) == items.size) = true then _ else _) _ _ s
  rw [if_neg hno, pick_gen]
  first
    | exact wpAny_bind (m := Builtin.Tuple.tupleExact _) (wpAny_newObj_type (wpAny_pure ⟨_, rfl, wpAny_pure h⟩) htake)
    | exact wpAny_bind (m := Builtin.Tuple.tupleExact _) (wpAny_newObj_type (wpAny_bind (wpAny_pure (wpAny_pure ⟨_, rfl, wpAny_pure h⟩))) htake)
    | exact wpAny_bind (wpAny_bind (m := Builtin.Tuple.tupleExact _) (wpAny_newObj_type (wpAny_pure (wpAny_pure ⟨_, rfl, wpAny_pure h⟩)) htake))
    | exact wpAny_bind (wpAny_bind (m := Builtin.Tuple.tupleExact _) (wpAny_newObj_type (wpAny_pure ⟨_, rfl, wpAny_pure h⟩) htake))
end
end HT

namespace L2
open PySem PySem.Spec PyProof.Rows

/-! ### the parts of a slice -/
abbrev TO := St → Hp → (Option Int → Hp → Prop) → Prop
/-- a slice's part (left out, or an int) -/
def PO (X : Cx) (e : Option Expr) (t : TO) : Prop :=
  ∀ (pins : List (Addr × Obj)) (s : Shared) (σ : St) (H : Hp) (Q : Option Int → Hp → Prop), Inv X pins σ H s → t σ H Q →
    wpAny (model X.prog X.w) X.A (evalPart e X.env) (fun u s' => ∃ o H', Inv X pins σ H' s' ∧ IsPart u o ∧ Q o H') X.xe s
def tNoPart : TO := fun _ H Q => Q none H
def tPart (t : TE) : TO := fun σ H Q => t σ H fun x H1 => ∃ i, x = .int i ∧ Q (some i) H1

section
variable {X : Cx} {e : Expr} {te : TE} {lo hi : Option Expr} {tl th : TO} {pos p2 : Pos}

theorem po_none : PO X none tNoPart := by
  intro pins s σ H Q I h
  rw [evalPart_none]
  exact wpAny_pure ⟨none, H, I, .none, h⟩
theorem po_some (h : PE X e te) : PO X (some e) (tPart te) := by
  intro pins s σ H Q I hw
  rw [evalPart_some]
  refine thn (h pins s σ H _ I hw) fun u s1 ⟨x, H1, I1, r1, q1⟩ => ?_
  obtain ⟨i, rfl, q⟩ := q1
  obtain ⟨t, rfl⟩ := r1
  exact ⟨some i, H1, I1, .int i t, q⟩

/-- what a slice of a value is, by values: the slice object stands at sl -/
def SlR (X : Cx) (r : V → Option Int → Option Int → Hp → VK → Prop) : Prop :=
  ∀ (pins : List (Addr × Obj)) (s : Shared) (σ : St) (H : Hp) (x : V) (v vl vu : Value) (lo hi : Option Int) (sl : Addr) (Q : VK), Inv X pins σ H s → RelV x v → s.heap.IsSliceOf sl vl vu .none → IsPart vl lo → IsPart vu hi → r x lo hi H Q →
    ∃ T id, typeLookup (.type T) "__getitem__" = pure (some (.builtin id)) ∧ s.TypeIs v T ∧ wpAny (model X.prog X.w) X.A (getItem v (.ref sl)) (EP X pins σ Q) X.xe s
theorem SlR.or {r r' : V → Option Int → Option Int → Hp → VK → Prop} (h : SlR X r) (h' : SlR X r') : SlR X (fun x lo hi H Q => r x lo hi H Q ∨ r' x lo hi H Q) := by
  intro pins s σ H x v vl vu lo hi sl Q I rx hs pl pu q
  rcases q with q | q
  · exact h pins s σ H x v vl vu lo hi sl Q I rx hs pl pu q
  · exact h' pins s σ H x v vl vu lo hi sl Q I rx hs pl pu q
def tSl (r : V → Option Int → Option Int → Hp → VK → Prop) (te : TE) (tl th : TO) : TE := fun σ H Q => te σ H fun x H1 => tl σ H1 fun l H2 => th σ H2 fun u H3 => r x l u H3 Q
/-- a[lo:hi], any a -/
theorem pe_slice {r : V → Option Int → Option Int → Hp → VK → Prop} (hr : SlR X r) (he : PE X e te) (hl : PO X lo tl) (hu : PO X hi th) : PE X (.Subscript e (.Slice lo hi none p2) pos) (tSl r te tl th) := by
  intro pins s σ H Q I h
  refine Subscript_ (thn (he pins s σ H _ I h) fun v s1 ⟨x, H1, I1, r1, q1⟩ => ?_)
  refine wpAny_Slice (thn (hl pins s1 σ H1 _ I1 q1) fun vl s2 ⟨l, H2, I2, pl, q2⟩ => thn (hu pins s2 σ H2 _ I2 q2) fun vu s3 ⟨u, H3, I3, pu, q3⟩ => ?_)
  rw [evalPart_none]
  refine wpAny_pure ?_
  have I4 : Inv X pins σ H3 { s3 with heap := s3.heap.push { cls := .type "slice", data := .fields #[vl, vu, .none] } } := I3.kept (t' := s3.toks) fun b ob q => Heap.get?_push_of_some _ q
  obtain ⟨T, id, hT, ht, hg⟩ := hr pins { s3 with heap := s3.heap.push { cls := .type "slice", data := .fields #[vl, vu, .none] } } σ H3 x v vl vu l u s3.heap.objs.size Q I4 r1 (Heap.IsSliceOf.new ..) pl pu q3
  show wpAny (model X.prog X.w) X.A (subscriptTail e (.Slice lo hi none p2) v (.ref s3.heap.objs.size)) (EP X pins σ Q) X.xe { s3 with heap := s3.heap.push { cls := .type "slice", data := .fields #[vl, vu, .none] } }
  exact tail_any (ops := [.ref s3.heap.objs.size, v]) ht hT hg (by with_unfolding_all rfl)

/-- the items of xs[lo:hi] -/
def cutV (xs : List V) (lo hi : Option Int) : List V := (xs.drop (HT.sIx xs.length 0 lo)).take (HT.sIx xs.length xs.length hi - HT.sIx xs.length 0 lo)
theorem cutV_length (xs : List V) (lo hi : Option Int) : (cutV xs lo hi).length ≤ xs.length := by
  unfold cutV
  rw [List.length_take, List.length_drop]
  omega
/-- t[lo:hi], not the whole of it (the whole would be t itself) -/
def rSlT (K : PySem.W.Frag) : V → Option Int → Option Int → Hp → VK → Prop := fun x lo hi H Q => ∃ a xs, x = .ref a ∧ SqT K H a xs ∧
  ¬ (HT.sIx xs.length 0 lo = 0 ∧ HT.sIx xs.length xs.length hi = xs.length) ∧ ∀ p, H p = none → Q (.ref p) (upd H p (.tup (cutV xs lo hi)))
theorem sl_tup : SlR X (rSlT X.K) := by
  intro pins s σ H x v vl vu lo hi sl Q I rx hs pl pu h
  obtain ⟨a, xs, rfl, hx, hw, q⟩ := h
  cases rx
  obtain ⟨its, r, ht, hz⟩ := I.tuple hx
  have hlen : its.toArray.size = xs.length := by rw [List.size_toArray]; exact r.length.symm
  refine ⟨"tuple", _, PyProof.Rows.slot_tuple_getitem.lookup, ht.typeIs, ?_⟩
  refine HT.getItem_tuple_cut ht hs pl pu (by rw [hlen]; exact hw) ?_ (by rw [hlen]; exact hz)
  rw [hlen]
  refine ⟨.ref s.heap.objs.size, _, I.laid (t' := s.toks) (o := .tup (cutV xs lo hi)) (fun b ob q => Heap.get?_push_of_some _ q) (Nat.le_refl _) ?_, rfl, q _ (I.hok.fresh (Nat.le_refl _))⟩
  exact ⟨Nat.le_trans (cutV_length xs lo hi) hz, _, (r.drop (HT.sIx xs.length 0 lo)).take (HT.sIx xs.length xs.length hi - HT.sIx xs.length 0 lo), IsTup.new _ _⟩

/-! ### t < u, t + u -/
/-- t + u, t not empty: u empty gives t itself -/
def rCatT (K : PySem.W.Frag) : R2 := fun x y H Q => ∃ a b xs ys, x = .ref a ∧ y = .ref b ∧ SqT K H a xs ∧ SqT K H b ys ∧ xs ≠ [] ∧ xs.length + ys.length ≤ sizeLine ∧
  (ys = [] → Q (.ref a) H) ∧ (ys ≠ [] → ∀ p, H p = none → Q (.ref p) (upd H p (.tup (xs ++ ys))))
theorem Vals.nil_iff {xs : List V} {us : List Value} (r : Vals xs us) : us = [] ↔ xs = [] := by
  cases r with
  | nil => simp
  | cons _ _ => simp
theorem op_catT : OpR X (binaryOp .Add) (rCatT X.K) := by
  intro pins s σ H x y v u Q I rx ry h
  obtain ⟨a, b, xs, ys, rfl, rfl, ha, hb, hx, hz, q1, q2⟩ := h
  cases rx
  cases ry
  obtain ⟨its, r1, p1, _⟩ := I.tuple ha
  obtain ⟨its2, r2, p2, _⟩ := I.tuple hb
  refine HT.cat_tup p1 p2 (fun z => hx (r1.nil_iff.mp z)) (fun z => ⟨.ref a, H, I, rfl, q1 (r2.nil_iff.mp z)⟩) (fun z => ?_) (by rw [← r1.length, ← r2.length]; exact hz)
  refine ⟨.ref s.heap.objs.size, _, I.laid (t' := s.toks) (o := .tup (xs ++ ys)) (fun b ob q => Heap.get?_push_of_some _ q) (Nat.le_refl _) ?_, rfl, q2 (fun w => z (r2.nil_iff.mpr w)) _ (I.hok.fresh (Nat.le_refl _))⟩
  exact ⟨by rw [List.length_append]; exact hz, _, r1.append r2, IsTup.new _ _⟩
end
end L2

namespace L2
open PySem PySem.Spec PyProof.Rows

/-! ### places -/
/-- the place that an index of any sign means -/
def ixN (n : Nat) (i : Int) : Option Nat := if 0 ≤ i then (if i < n then some i.toNat else none) else if -(n : Int) ≤ i then some (i + n).toNat else none
def atI {α : Type} (xs : List α) (i : Int) : Option α := (ixN xs.length i).bind fun j => xs[j]?
theorem ixN_seq {n : Nat} {i : Int} {j : Nat} (h : ixN n i = some j) : seqIndex? i n = some j ∧ j < n ∧ -(n : Int) ≤ i ∧ i < n := by
  unfold ixN at h
  by_cases h0 : 0 ≤ i
  · rw [if_pos h0] at h
    by_cases h1 : i < n
    · rw [if_pos h1] at h
      have e : i.toNat = j := Option.some.inj h
      exact ⟨by rw [seqIndex_of h0 h1, e], by omega, by omega, h1⟩
    · rw [if_neg h1] at h; cases h
  · rw [if_neg h0] at h
    by_cases h1 : -(n : Int) ≤ i
    · rw [if_pos h1] at h
      have e : (i + n).toNat = j := Option.some.inj h
      exact ⟨by rw [seqIndex_neg (by omega) h1, e], by omega, h1, by omega⟩
    · rw [if_neg h1] at h; cases h
theorem atI_get {α : Type} {xs : List α} {i : Int} {v : α} (h : atI xs i = some v) : ∃ j, seqIndex? i xs.length = some j ∧ xs[j]? = some v ∧ j < xs.length ∧ -(xs.length : Int) ≤ i ∧ i < xs.length := by
  unfold atI at h
  cases e : ixN xs.length i with
  | none => rw [e] at h; cases h
  | some j =>
    rw [e] at h
    obtain ⟨h1, h2, h3, h4⟩ := ixN_seq e
    exact ⟨j, h1, h, h2, h3, h4⟩
theorem atI_nat {α : Type} {xs : List α} {j : Nat} {v : α} (h : xs[j]? = some v) : atI xs (j : Int) = some v := by
  have hj : j < xs.length := (List.getElem?_eq_some_iff.mp h).1
  have e : ixN xs.length (j : Int) = some j := by
    unfold ixN
    rw [if_pos (by omega), if_pos (by omega)]; simp
  unfold atI; rw [e]; exact h
/-! ### what may be subscripted -/
/-- what stands as an index of a plain subscript -/
def PlainIx (b : Expr) : Prop := ∀ o i, subscripted b false o i = operate [o, i] (getItem o i)
/-- a subscript by values -/
def IxR (X : Cx) (r : R2) : Prop :=
  ∀ (value slice : Expr) (pins : List (Addr × Obj)) (s : Shared) (σ : St) (H : Hp) (x y : V) (v u : Value) (Q : VK), Inv X pins σ H s → RelV x v → RelV y u → r x y H Q →
    subscripted slice false v u = operate [v, u] (getItem v u) → wpAny (model X.prog X.w) X.A (subscriptTail value slice v u) (EP X pins σ Q) X.xe s
/-- a call of a builtin's method by values: the receiver, the arguments -/
def MtR (X : Cx) (id : String) (r : V → List V → Hp → VK → Prop) : Prop :=
  ∀ (pins : List (Addr × Obj)) (s : Shared) (σ : St) (H : Hp) (x : V) (xs : List V) (v : Value) (us : List Value) (Q : VK), Inv X pins σ H s → RelV x v → Vals xs us → r x xs H Q →
    wpAny (model X.prog X.w) X.A (call (.builtin id) (v :: us)) (EP X pins σ Q) X.xe s
section
variable {X : Cx} {a b : Expr} {ta tb : TE} {pos : Pos}
theorem IxR.or {r r' : R2} (h : IxR X r) (h' : IxR X r') : IxR X (fun x y H Q => r x y H Q ∨ r' x y H Q) := by
  intro value slice pins s σ H x y v u Q I rx ry q hs
  rcases q with q | q
  · exact h value slice pins s σ H x y v u Q I rx ry q hs
  · exact h' value slice pins s σ H x y v u Q I rx ry q hs
/-- a[b] -/
theorem pe_ix {r : R2} (hr : IxR X r) (ha : PE X a ta) (hb : PE X b tb) (hs : PlainIx b) : PE X (.Subscript a b pos) (tOp r ta tb) := by
  intro pins s σ H Q I h
  exact Subscript_ (binT ha hb I h fun v u s2 x y H2 I2 rx ry q => hr a b pins s2 σ H2 x y v u Q I2 rx ry q (hs _ _))

def rIxL (K : PySem.W.Frag) : R2 := fun x y H Q => ∃ p xs i v, x = .ref p ∧ y = .int i ∧ SqL K H p xs ∧ atI xs i = some v ∧ Q v H
def rIxT (K : PySem.W.Frag) : R2 := fun x y H Q => ∃ p xs i v, x = .ref p ∧ y = .int i ∧ SqT K H p xs ∧ atI xs i = some v ∧ Q v H
def rIxS : R2 := fun x y H Q => ∃ z i c, x = .str z ∧ y = .int i ∧ z.length ≤ sizeLine ∧ atI z.cps.toList i = some c ∧ Q (.str ⟨#[c]⟩) H
theorem ix_list : IxR X (rIxL X.K) := by
  intro value slice pins s σ H x y v u Q I rx ry h hs
  obtain ⟨p, xs, i, z, rfl, rfl, hq, he, q⟩ := h
  cases rx
  obtain ⟨t, rfl⟩ := ry
  obtain ⟨its, r, pl, hz⟩ := I.list hq
  obtain ⟨j, h1, h2, h3, h4, h5⟩ := atI_get he
  obtain ⟨w, ew, rw'⟩ := r.get h2
  have hl := r.length
  have hn := line63
  have fin : EP X pins σ Q w s := ⟨z, H, I, rw', q⟩
  by_cases h0 : 0 ≤ i
  · have hj : i.toNat = j := by
      rw [seqIndex_of h0 h5] at h1
      exact Option.some.inj h1
    exact item_listR pl.isList h0 (by omega) (by rw [hj]; simpa using ew) fin hs
  · have hj : (i + (its.toArray.size : Int)).toNat = j := by
      rw [seqIndex_neg (by omega) h4] at h1
      rw [List.size_toArray, ← hl]
      exact Option.some.inj h1
    exact subscriptTail_builtinR (x := w) pl.isList.typeIs slot_list_getitem.lookup
      (wpAny_getItem_list_neg (Q := fun r s' => r = w ∧ EP X pins σ Q r s') pl.isList (by omega) (by rw [List.size_toArray] <;> omega) (by omega) (by rw [hj]; simpa using ew) ⟨rfl, fin⟩) hs
theorem ix_tup : IxR X (rIxT X.K) := by
  intro value slice pins s σ H x y v u Q I rx ry h hs
  obtain ⟨p, xs, i, z, rfl, rfl, hq, he, q⟩ := h
  cases rx
  obtain ⟨t, rfl⟩ := ry
  obtain ⟨its, r, pl, hz⟩ := I.tuple hq
  obtain ⟨j, h1, h2, h3, h4, h5⟩ := atI_get he
  obtain ⟨w, ew, rw'⟩ := r.get h2
  have hl := r.length
  have hn := line63
  have fin : EP X pins σ Q w s := ⟨z, H, I, rw', q⟩
  exact subscriptTail_builtinR (x := w) pl.typeIs slot_tuple_getitem.lookup
    (getItem_tuple (j := j) (Q := fun r s' => r = w ∧ EP X pins σ Q r s') pl (by omega) (by omega) (by rw [List.size_toArray, ← hl]; exact h1) (by simpa using ew) ⟨rfl, fin⟩) hs
theorem ix_str : IxR X rIxS := by
  intro value slice pins s σ H x y v u Q I rx ry h hs
  obtain ⟨z, i, c, rfl, rfl, hz, he, q⟩ := h
  obtain ⟨t, rfl⟩ := rx
  obtain ⟨t', rfl⟩ := ry
  obtain ⟨j, h1, h2, h3, h4, h5⟩ := atI_get he
  have hl : z.cps.toList.length = z.length := by simp [Str.length]
  rw [hl] at h1 h4 h5
  have hn := line63
  exact tail_any (typeIs_str s z t) slot_str_getitem.lookup (getItem_str (c := c) (by
    have e1 : decide (i < -(2 ^ 63 : Int)) = false := decide_eq_false (by omega)
    have e2 : decide (i ≥ 2 ^ 63) = false := decide_eq_false (by omega)
    rw [e1, e2, Bool.or_false]) (by rw [h1]; simpa using h2) ⟨.str ⟨#[c]⟩, H, I.tok _, ⟨_, rfl⟩, q⟩) hs
/-- list, tuple or str -/
def rIx (K : PySem.W.Frag) : R2 := fun x y H Q => rIxL K x y H Q ∨ rIxT K x y H Q ∨ rIxS x y H Q
theorem ix_seq : IxR X (rIx X.K) := ix_list.or (ix_tup.or ix_str)

/-! ### xs[i] = v, any sign -/
/-- the list's object behind a store -/
theorem mapSeq_set (its : List Value) (n j : Nat) (u : Value) : Obj.mapSeq (·.setIfInBounds j u) { cls := .type "list", data := .seq its.toArray n } = { cls := .type "list", data := .seq (its.set j u).toArray n } := by
  simp [Obj.mapSeq]
theorem Inv.lst {pins : List (Addr × Obj)} {σ : St} {H : Hp} {s : Shared} {p : Addr} {xs : List V} (I : Inv X pins σ H s) (h : H p = some (.lst xs)) :
    ∃ (its : List Value) (n : Nat), Vals xs its ∧ s.heap.get? p = some { cls := .type "list", data := .seq its.toArray n } ∧ xs.length ≤ sizeLine := by
  obtain ⟨z, its, n, r, e⟩ := I.hok p _ h
  exact ⟨its, n, r, e, z⟩
/-- the list at p is written by an update of its object -/
theorem Inv.lstUpd {pins : List (Addr × Obj)} {σ : St} {H : Hp} {s : Shared} {p : Addr} {xs ys : List V} {its its' : List Value} {n n' : Nat} {f : Obj → Obj} (I : Inv X pins σ H s) (h : H p = some (.lst xs))
    (ho : s.heap.get? p = some { cls := .type "list", data := .seq its.toArray n }) (hf : f { cls := .type "list", data := .seq its.toArray n } = { cls := .type "list", data := .seq its'.toArray n' }) (r : Vals ys its') (hz : ys.length ≤ sizeLine) (t : Nat) :
    Inv X pins σ (upd H p (.lst ys)) { s with heap := s.heap.update p f, toks := t } := by
  have e : (s.heap.update p f).get? p = some { cls := .type "list", data := .seq its'.toArray n' } := by
    rw [Heap.get?_update_self f ho (by rw [hf] <;> rfl), hf]
  refine I.write (x := p) (e := p) (by rw [h]; trivial) (.inl rfl) (fun b u hb q => (Heap.get?_update_other _ _ (Ne.symm hb)).trans q) ⟨_, e⟩ ?_
  exact ⟨hz, its', n', r, e⟩
def rSetL : V → V → V → Hp → (Hp → Prop) → Prop := fun o i v H Q => ∃ p xs k j, o = .ref p ∧ i = .int k ∧ H p = some (.lst xs) ∧ ixN xs.length k = some j ∧ Q (upd H p (.lst (xs.set j v)))
theorem set_list : PSet X rSetL := by
  intro pins s σ H o i v ov iv u Q I ro ri rv h
  obtain ⟨p, xs, k, j, rfl, rfl, hp, hj, q⟩ := h
  cases ro
  obtain ⟨t, rfl⟩ := ri
  obtain ⟨its, n, r, ho, hz⟩ := I.lst hp
  obtain ⟨h1, h2, h3, h4⟩ := ixN_seq hj
  have hl := r.length
  have hn := line63
  have I' : Inv X pins σ (upd H p (.lst (xs.set j v))) { s with heap := s.heap.update p (Obj.mapSeq (·.setIfInBounds j u)) } :=
    I.lstUpd hp ho (mapSeq_set its n j u) (r.set rv j) (by rw [List.length_set]; exact hz) s.toks
  by_cases h0 : 0 ≤ k
  · have hk : k.toNat = j := by
      rw [seqIndex_of h0 h4] at h1
      exact Option.some.inj h1
    exact PySem.W.ki_setAt ho h0 (by omega) (by rw [List.size_toArray, ← hl]; exact h4) (by rw [hk]; exact ⟨_, I', q⟩)
  · have hk : (k + (its.toArray.size : Int)).toNat = j := by
      rw [seqIndex_neg (by omega) h3] at h1
      rw [List.size_toArray, ← hl]
      exact Option.some.inj h1
    exact PySem.W.ki_setBack ho (by omega) (by rw [List.size_toArray, ← hl]; exact h3) (by omega) (by rw [hk]; exact ⟨_, I', q⟩)

/-! ### slices -/
theorem slice_bounds (lo hi : Option Int) (n : Nat) : (sliceBounds lo hi none n).1 = ((HT.sIx n 0 lo : Nat) : Int) ∧ (sliceBounds lo hi none n).2.1 = ((HT.sIx n n hi : Nat) : Int) ∧ (sliceBounds lo hi none n).2.2 = 1 := by
  refine ⟨?_, ?_, rfl⟩
  · cases lo with
    | none => simp [sliceBounds, HT.sIx]
    | some i =>
      simp only [sliceBounds, HT.sIx, Option.getD_none, show (1 : Int) > 0 by decide, if_true]
      by_cases h : i < 0
      · simp only [h, if_true] <;> omega
      · simp only [h, if_false] <;> omega
  · cases hi with
    | none => simp [sliceBounds, HT.sIx]
    | some i =>
      simp only [sliceBounds, HT.sIx, Option.getD_none, show (1 : Int) > 0 by decide, if_true]
      by_cases h : i < 0
      · simp only [h, if_true] <;> omega
      · simp only [h, if_false] <;> omega
theorem slicePick_cut (its : List Value) (lo hi : Option Int) : slicePick its.toArray lo hi none = ((its.drop (HT.sIx its.length 0 lo)).take (HT.sIx its.length its.length hi - HT.sIx its.length 0 lo)).toArray := by
  obtain ⟨h1, h2, h3⟩ := slice_bounds lo hi its.toArray.size
  unfold slicePick
  rw [h1, h2, h3]
  simp only [sliceRange_one, pick_run, List.size_toArray] <;> rfl
/-- xs[lo:hi] of a list: a new list -/
def rSlL (K : PySem.W.Frag) : V → Option Int → Option Int → Hp → VK → Prop := fun x lo hi H Q => ∃ a xs, x = .ref a ∧ SqL K H a xs ∧ ∀ p, H p = none → Q (.ref p) (upd H p (.lst (cutV xs lo hi)))
theorem sl_list : SlR X (rSlL X.K) := by
  intro pins s σ H x v vl vu lo hi sl Q I rx hs pl pu h
  obtain ⟨a, xs, rfl, hx, q⟩ := h
  cases rx
  obtain ⟨its, r, ht, hz⟩ := I.list hx
  have hlen := r.length
  refine ⟨"list", _, slot_list_getitem.lookup, ht.isList.typeIs, ?_⟩
  refine wpAny_getItem_list_slice ht.isList hs pl pu .none (by simp) ?_ (by rw [List.size_toArray] <;> omega)
  rw [slicePick_cut, ← hlen]
  refine ⟨.ref s.heap.objs.size, _, I.laid (t' := s.toks) (o := .lst (cutV xs lo hi)) (fun b ob q => Heap.get?_push_of_some _ q) (Nat.le_refl _) ?_, rfl, q _ (I.hok.fresh (Nat.le_refl _))⟩
  exact ⟨Nat.le_trans (cutV_length xs lo hi) hz, _, 0, (r.drop (HT.sIx xs.length 0 lo)).take (HT.sIx xs.length xs.length hi - HT.sIx xs.length 0 lo), Heap.get?_push_size _ rfl⟩

/-! ### in, not in: flat items -/
/-! ### len, list(x), tuple(x) of any list or tuple that is read -/
theorem CallR.or {f : Value} {r r' : List V → Hp → VK → Prop} (h : CallR X f r) (h' : CallR X f r') : CallR X f (fun xs H Q => r xs H Q ∨ r' xs H Q) := by
  intro pins s σ H xs us Q I rs q
  rcases q with q | q
  · exact h pins s σ H xs us Q I rs q
  · exact h' pins s σ H xs us Q I rs q
theorem call_tuple_of : CallR X (.type "tuple") (fun xs H Q => ∃ p ys, xs = [.ref p] ∧ ((SqL X.K H p ys ∧ ∀ l, H l = none → Q (.ref l) (upd H l (.tup ys))) ∨ (SqT X.K H p ys ∧ Q (.ref p) H))) := by
  intro pins s σ H xs us Q I r h
  obtain ⟨p, ys, rfl, h⟩ := h
  obtain ⟨u, rfl, rx⟩ := vals1 r
  cases rx
  rcases h with ⟨hq, q⟩ | ⟨hq, q⟩
  · obtain ⟨its, r', pl, hz⟩ := I.list hq
    have hlen := r'.length
    refine call_tuple_list pl.isList (fun h' kp => ?_) (by simp only [List.size_toArray] <;> omega)
    have I1 : Inv X pins σ H { s with heap := h' } := I.kept (t' := s.toks) kp
    have I2 : Inv X pins σ (upd H h'.objs.size (.tup ys)) { s with heap := h'.push { cls := .type "tuple", data := .seq its.toArray } } :=
      I1.laid (t' := s.toks) (fun b o e => Heap.get?_push_of_some _ e) (Nat.le_refl _) (show ObjOk X.prog X.w _ _ _ (.tup ys) from ⟨hz, its, r', IsTup.new _ _⟩)
    exact ⟨.ref h'.objs.size, _, I2, rfl, q _ (I1.hok.fresh (Nat.le_refl _))⟩
  · obtain ⟨its, r', pl, hz⟩ := I.tuple hq
    exact call_tuple_same pl ⟨.ref p, H, I, rfl, q⟩

/-! ### the call of a builtin's method: o.m(..) -/
/-- the value is of that builtin type -/
def tyV (K : PySem.W.Frag) (T : String) (x : V) (H : Hp) : Prop := match x with
  | .str _ => T = "str"
  | .int _ => T = "int"
  | .ref p => (T = "list" ∧ ∃ xs, SqL K H p xs) ∨ (T = "tuple" ∧ ∃ o, K.lookup p = some o ∧ o.cls = .type "tuple" ∧ o.dict = none) ∨
      (T = "dict" ∧ ((∃ kvs, H p = some (.dK kvs)) ∨ ∃ kvs, H p = some (.dT kvs))) ∨ (T = "set" ∧ ∃ S n, H p = some (.set S n))
  | _ => False
theorem tyV_is {pins : List (Addr × Obj)} {σ : St} {H : Hp} {s : Shared} {T : String} {x : V} {v : Value} (I : Inv X pins σ H s) (r : RelV x v) (ty : tyV X.K T x H) :
    s.TypeIs v T ∧ ∀ a, v = .ref a → ∃ ob, s.heap.get? a = some ob ∧ ob.dict = none := by
  cases x with
  | str z =>
    obtain ⟨t, rfl⟩ := r
    cases (show T = "str" from ty)
    exact ⟨typeIs_str s z t, fun _ e => nomatch e⟩
  | int i =>
    obtain ⟨t, rfl⟩ := r
    cases (show T = "int" from ty)
    exact ⟨typeIs_int s i t, fun _ e => nomatch e⟩
  | ref p =>
    cases r
    rcases ty with ⟨rfl, xs, hq⟩ | ⟨rfl, o, hk, hc, hd⟩ | ⟨rfl, hk⟩ | ⟨rfl, S, n, hk⟩
    · obtain ⟨its, _, pl, _⟩ := I.list hq
      refine ⟨pl.isList.typeIs, fun a e => ?_⟩
      cases e
      obtain ⟨o, n, e, c, hd, _⟩ := pl
      exact ⟨o, e, hd⟩
    · refine ⟨⟨o, I.kIn p o hk, hc⟩, fun a e => ?_⟩
      cases e
      exact ⟨o, I.kIn _ o hk, hd⟩
    · have z : ∃ o, s.heap.get? p = some o ∧ o.ExactDict := by
        rcases hk with ⟨kvs, hk⟩ | ⟨kvs, hk⟩
        · obtain ⟨_, _, _, _, o, _, _, e, ex, _⟩ := I.hok p _ hk
          exact ⟨o, e, ex⟩
        · obtain ⟨_, _, _, _, o, _, _, e, ex, _⟩ := I.hok p _ hk
          exact ⟨o, e, ex⟩
      obtain ⟨o, e, ex⟩ := z
      refine ⟨⟨o, e, ex.1⟩, fun a e2 => ?_⟩
      cases e2
      exact ⟨o, e, ex.2.1⟩
    · obtain ⟨o, _, _, _, e, ex, _⟩ := I.hok p _ hk
      refine ⟨⟨o, e, ex.1⟩, fun a e2 => ?_⟩
      cases e2
      exact ⟨o, e, ex.2.1⟩
  | _ => exact False.elim ty
def tBM (K : PySem.W.Frag) (T : String) (r : V → List V → Hp → VK → Prop) (to : TE) (t : TA) : TE := fun σ H Q => to σ H fun x H1 => tyV K T x H1 ∧ t σ H1 fun xs H2 => r x xs H2 Q
variable {o e : Expr} {es : List Expr} {to : TE} {t : TA} {name : Str} {apos cpos : Pos} {T id : String} {r : V → List V → Hp → VK → Prop}
theorem pe_bm (pa : PlainAttrs T) (slot : Slot T name id) (hty : typeOf (.builtin id) = pure (.type "method_descriptor")) (hm : MtR X id r) (ho : PE X o to) (ha : PA X (e :: es) t)
    (hbase : attributeBase o name X.env (eval o X.env) = eval o X.env := by rfl)
    (hfew : ((backTo cpos (starEach (e :: es) X.env)).all (fun x => !x.1) && (backToKw cpos (keywordEach [] X.env)).all (fun x => x.1.isSome)
      && decide ((e :: es).length + ([] : List Keyword).length + (if ([] : List Keyword).isEmpty then 0 else 1) < 30)) = true := by rfl)
    (hline : (apos.endLine == cpos.line) = true := by rfl) (hs : starEach (e :: es) X.env = (false, eval e X.env) :: starEach es X.env := by rfl) (hplain : (backTo cpos (starEach es X.env)).any (·.1) = false := by rfl) :
    PE X (.Call (.Attribute o name apos) (e :: es) [] cpos) (tBM X.K T r to t) := by
  intro pins s σ H Q I h
  refine wpAny_Call_method_late hbase hfew hline rfl (thn (ho pins s σ H _ I h) fun v s1 ⟨x, H1, I1, r1, ty, q1⟩ => ?_)
  obtain ⟨h1, h2⟩ := tyV_is I1 r1 ty
  refine ⟨T, id, pa, slot, hty, h1, h2, ?_⟩
  have hA := ha cpos pins s1 σ H1 _ I1 q1
  rw [hs] at hA ⊢
  refine Calls.callWith_builtin (by show (false || (backTo cpos (starEach es X.env)).any (·.1)) = false; rw [hplain] <;> rfl) (Calls.evalArgs_plain ?_)
  exact thn hA fun us s2 ⟨vs, H2, I2, r2, q2⟩ => hm pins s2 σ H2 x vs v us Q I2 r1 r2 q2
/- xs.append(e), list.index on a module's tuple .. are MtR facts of 06m -/
end
end L2

namespace L2
open PySem PySem.Spec PyProof.Rows

def MtM (X : Cx) (id : String) (r : V → List V → Hp → VK → Prop) : Prop :=
  ∀ (pins : List (Addr × Obj)) (s : Shared) (σ : St) (H : Hp) (x : V) (xs : List V) (v : Value) (us : List Value) (Q : VK), Inv X pins σ H s → RelV x v → Vals xs us → r x xs H Q →
    wpAny (model X.prog X.w) X.A (call (.builtin id) (v :: us)) (EP X pins σ Q) X.xe s

/-! ### lists of values -/
theorem Vals.one : ∀ {x : V} {us : List Value}, Vals [x] us → ∃ u, us = [u] ∧ RelV x u
  | _, _, .cons r .nil => ⟨_, rfl, r⟩
section
variable {X : Cx} {pins : List (Addr × Obj)} {σ : St} {H : Hp} {s : Shared} {l b : Addr} {xs ys zs : List V}

/-! ### the two steps: a tracked list is rewritten, a new list is laid -/
theorem Inv.lset {its its' : List Value} {n : Nat} {f : Array Value → Array Value} {t' : Nat} (I : Inv X pins σ H s) (hH : H l = some (.lst xs))
    (e : s.heap.get? l = some { cls := .type "list", data := .seq its.toArray n }) (hf : f its.toArray = its'.toArray) (hv : Vals ys its') (hz : ys.length ≤ sizeLine) :
    Inv X pins σ (upd H l (.lst ys)) { s with heap := s.heap.update l (Obj.mapSeq f), toks := t' } := by
  have q := PySem.IsL.update e f
  rw [hf] at q
  refine I.write (x := l) (e := l) (by rw [hH]; exact trivial) (.inl rfl) (fun b' u hb hu => (Heap.get?_update_other s.heap (Obj.mapSeq f) (Ne.symm hb)).trans hu) ⟨_, q⟩ ?_
  exact ⟨hz, its', _, hv, q⟩
theorem Inv.lnew {its : List Value} {t' : Nat} (I : Inv X pins σ H s) (hv : Vals ys its) (hz : ys.length ≤ sizeLine) :
    Inv X pins σ (upd H s.heap.objs.size (.lst ys)) { s with heap := s.heap.push { cls := .type "list", data := .seq its.toArray }, toks := t' } :=
  I.laid (fun _ _ q => Heap.get?_push_of_some _ q) (Nat.le_refl _) ⟨hz, its, 0, hv, Heap.get?_push_size _ rfl⟩
theorem Inv.fresh (I : Inv X pins σ H s) : H s.heap.objs.size = none := I.hok.fresh (Nat.le_refl _)
theorem Inv.lstM (I : Inv X pins σ H s) (hH : H l = some (.lst xs)) : xs.length ≤ sizeLine ∧ ∃ (its : List Value) (n : Nat), Vals xs its ∧ xs.length = its.length ∧ s.heap.get? l = some { cls := .type "list", data := .seq its.toArray n } := by
  obtain ⟨z, its, n, r, e⟩ := I.hok l _ hH
  exact ⟨z, its, n, r, r.length, e⟩

theorem notLongL {n : Nat} (h : n ≤ sizeLine) : Builtin.List.listTooLong n = false := by
  unfold Builtin.List.listTooLong
  exact decide_eq_false (by omega)
end

section
variable {X : Cx}

/-! ### methods -/
def rAppend : V → List V → Hp → VK → Prop := fun x vs H Q => ∃ l xs y, x = .ref l ∧ vs = [y] ∧ H l = some (.lst xs) ∧ xs.length < sizeLine ∧ Q .non (upd H l (.lst (xs ++ [y])))
theorem mt_append : MtM X "list.append" rAppend := by
  intro pins s σ H x vs v us Q I rx rv h
  obtain ⟨l, xs, y, rfl, rfl, hH, hz, q⟩ := h
  cases rx
  obtain ⟨u, rfl, ru⟩ := rv.one
  obtain ⟨z, its, n, r, hl, e⟩ := I.lstM hH
  refine call_meets F.slot_list_append ⟨_, e, rfl⟩ F.entry_list_append (F.args_list_append_2 _ _) (PySem.list_append l its.toArray n u (by rw [List.size_toArray]; omega)) ⟨e, ?_⟩
  refine ⟨.non, _, I.lset (its' := its ++ [u]) hH e (by simp) (r.append (.cons ru .nil)) ?_, rfl, q⟩
  rw [List.length_append, List.length_singleton]
  omega

/-! ### list + list, list += list, list * int -/
/-! ### del xs[i] -/
end

/-! ### xs[a:b] = ys -/
section
variable {prog : Program} {w : World} {A : Around} {E : Value → Shared → Prop} {s : Shared}
end

section
variable {X : Cx}
end
end L2

namespace Att
open PySem PySem.W PySem.Calls PyProof.Rows

/-! ### the script -/
theorem ints_of_wellAll {P : Params} {h : Heap} : ∀ (ns : List Int) (vs : List Value), WellAll P h vs (ns.map WData.int) → IntsAre vs ns := by
  intro ns
  induction ns with
  | nil =>
    intro vs w
    rw [List.map_nil] at w
    cases w
    exact .nil
  | cons n ns ih =>
    intro vs w
    rw [List.map_cons] at w
    cases w with
    | cons a b =>
      cases a
      exact .cons _ _ (ih _ b)

theorem script_of {l : OpenLaw} {n : Nat} (hn : l.most = some n) {P : Params} {h : Heap} {args : List WData} {vals : List Value}
    (hpre : l.row.toRowW.claim.pre args = true) (hwl : WellAll P h vals args) :
    ∃ a vs ns, vals = [Value.ref a] ∧ args = [WData.list (ns.map WData.int)] ∧ h.get? a = some { cls := .type "list", data := .seq vs.toArray } ∧ IntsAre vs ns ∧ ns.length ≤ n := by
  have hsh : WShape.hasAll [] args [.list .int] = true := (pre_splitW hpre).1
  have hc : l.pre.holds [] { args := args } = true := (pre_splitW hpre).2
  obtain ⟨d, r, rfl, h1, h2⟩ := hasAllW_cons hsh
  obtain rfl := hasAllW_nil h2
  obtain ⟨xs, rfl, h3⟩ := hasW_list h1
  obtain ⟨ns, rfl⟩ := items_int h3
  have hlen : ns.length ≤ n := by
    unfold OpenLaw.pre at hc
    have h4 : (WTm.not (.lt (.lit (.int (n : Int))) (.len (.arg 0)))).holds [] { args := [.list (ns.map .int)] } = true := by
      have h4 := (holds_andW hc).1
      rw [hn] at h4
      exact h4
    have h5 := condW_of h4 (w_not (w_lt w_lit (w_len_list (w_arg rfl))))
    rw [List.length_map] at h5
    refine Nat.le_of_not_lt fun q => ?_
    have q' : (n : Int) < ((ns.length : Nat) : Int) := by omega
    first
      | (rw [decide_eq_true q'] at h5; exact absurd h5 (by decide))
      | (simp at h5; omega)
  cases hwl with
  | cons w1 w2 =>
    cases w2
    cases w1 with
    | list ho hall => exact ⟨_, _, ns, rfl, rfl, ho, ints_of_wellAll ns _ hall, hlen⟩

theorem post_true (l : OpenLaw) (args : List WData) : l.row.toRowW.claim.post args (.bool true) args = true :=
  postW_of (r := l.row.toRowW) (X := (true == true))
    (show WShape.has [] (.bool true) .bool = true by first | rfl | decide | simp [WShape.has, WShape.arms, WShape.armsAll])
    (show (WTm.eq .res (.lit (.bool true))).value [] { args := args, res := some (.bool true), after := args } = some (.bool (true == true)) from w_eq_bool (w_res rfl) w_lit) rfl

/-! ### the attachment: holds_open's last premise (the goal 'hc' behind k_head) from a wpAny of the law's body -/
/-- the same from a codeAny of the CALL (for a layer whose function contracts speak of calls) -/
theorem attach_call {l : OpenLaw} {n : Nat} {q : Program} {loose : List Str} {XP : (Str → Option Value) → Heap → Prop} {YP : World → Heap → Prop} {d : DefRec}
    (hn : l.most = some n) (hdf : d.params.defaults = [])
    (call : ∀ (w : World) (s₀ s₁ : Shared) (mg mb : Str → Option Value) (fa : Addr) (o : Obj) (pm cd doc : Value) (a : Addr) (vs : List Value) (ns : List Int),
      Ground q loose [] XP w s₀ mg mb s₁.heap → YP w s₁.heap →
      s₁.heap.get? fa = some o → o.data = .func (docDef d.name d.params d.body d.scope pm cd doc) → s₁.heap.CodeRec cd d.name → mg d.name = some (.ref fa) →
      s₁.heap.get? a = some { cls := .type "list", data := .seq vs.toArray } → IntsAre vs ns → ns.length ≤ n → s₁.gens = #[] →
      codeAny (model l.prog w) callerA (.call (.ref fa) ⟨[.ref a], []⟩) (fun r s' => r = .ok (.ret (.bool true)) ∧ OldK s₁.heap s'.heap ∧ s'.os = s₁.os ∧ AllBare s'.gens) s₁) :
    WalkO q loose XP YP l.row.toRowW d [] (fun f vs => PySem.call f vs) := by
  intro w s₀ s₁ mg mb G Y fa o pm cd doc dV kV ho hd hcd hD hmg hg args vals as hpre hlay hrd hwl hlo
  obtain rfl : dV = .none := Dflts.none hD hdf
  obtain rfl : kV = .none := Dflts.noKw hD
  obtain ⟨a, vs, ns, rfl, rfl, hobj, hints, hlen⟩ := script_of hn hpre hwl
  refine enter_call (codeAny_mono (call w s₀ s₁ mg mb fa o pm cd doc a vs ns G Y ho (fd_plain hd) hcd hmg hobj hints hlen hg) fun r s' hq => ?_)
  obtain ⟨rfl, h2, h3, h4⟩ := hq
  exact ⟨.inl ⟨.bool true, .bool true, [], rfl, fun _ => rfl, .bool true, post_true l _, fun _ => ⟨List.Pairwise.nil, fun _ hm => (nomatch hm)⟩⟩, h2, h3, h4⟩

/-! ### rules over ANY heap (no ledger) from facts about the written part K: the library's own take a ledger (News) for what they write -/
section
variable {prog : Program} {w : World} {A : Around} {E : Value → Shared → Prop} {s : Shared} {K : Frag}

/-! the whole heap as the ledger: makes every rule that writes through a ledger a rule over any heap -/
def ledger (h : Heap) (L d : Addr) : List (Addr × Obj) := (List.range h.objs.size).filterMap fun a => if a = L ∨ a = d then none else (h.get? a).map fun o => (a, o)
end
end Att

namespace L2
open PySem PySem.Spec PyProof.Rows

theorem vals_ints : ∀ {vs : List Value} {ns : List Int}, IntsAre vs ns → Vals (ns.map V.int) vs
  | _, _, .nil => .nil
  | _, _, .cons n t h => .cons ⟨t, rfl⟩ (vals_ints h)

/-- nothing is tracked but the script, known to the object (or it is an object of the module) -/
def Only (H : Hp) : Prop := ∀ b, H b = none ∨ ∃ o xs, H b = some (.frz o (.lst xs))

/-- THE HEAD: the law's promise, at the heap behind the top. F, the promise of the law's def, may use that base is part of the heap (so K.In base, base.Ns mainGlobals mg stand in Mod) -/
theorem law_call {P : Program} {w : World} {K : PySem.W.Frag} {mg mb : Str → Option Value} {CX : CXT} {k : Nat} {fa a : Addr} {fd : FuncData} {x : Str} {sp : Sp} {s₁ : Shared} {vs : List Value} {ns : List Int}
    (KX : K.In s₁.heap) (hns : s₁.heap.Ns mainGlobals mg) (hb : s₁.heap.Ns builtinsNs mb) (hbb : ∀ x : Str, x ≠ "__name__" → mb x = bootBuiltins x) (hlim : s₁.heap.NoLimit) (hg : s₁.gens = #[])
    (ha : s₁.heap.get? a = some { cls := .type "list", data := .seq vs.toArray }) (hi : IntsAre vs ns) (hl : ns.length ≤ sizeLine) (hr : Room k callerA)
    (F : ∀ base : Heap, K.In base → base.Ns mainGlobals mg → FnOk P w K mg base CX k fa fd [x] sp) (hbind : ∀ (s : Shared) (u : Value), BindsTo s fd ⟨[u], []⟩ [(x, u)])
    (hsp : ∀ H : Hp, Only H → SqL K H a (ns.map V.int) → sp [.ref a] H (fun v _ => v = .bl true) fun _ _ _ => False)
    (hCX : ∀ H e s', CX [] H s₁ (fun _ _ _ => False) e s' → False) :
    codeAny (model P w) callerA (.call (.ref fa) ⟨[.ref a], []⟩) (fun r s' => r = .ok (.ret (.bool true)) ∧ OldK s₁.heap s'.heap ∧ s'.os = s₁.os ∧ AllBare s'.gens) s₁ := by
  have rv := vals_ints hi
  have lenV := hi.length
  -- from an abstract heap in which nothing but the script may be tracked
  have core : ∀ H : Hp, Only H → SqL K H a (ns.map V.int) → HOk P w H s₁.heap → (∀ b, H b ≠ none → b = a) → (H a ≠ none → K.lookup a = none) →
      codeAny (model P w) callerA (.call (.ref fa) ⟨[.ref a], []⟩) (fun r s' => r = .ok (.ret (.bool true)) ∧ OldK s₁.heap s'.heap ∧ s'.os = s₁.os ∧ AllBare s'.gens) s₁ := by
    intro H hO hS hok hA hK
    have base_of : ∀ {b : Addr} {o : Obj}, s₁.heap.get? b = some o → H b = none → (hidT s₁.heap H).get? b = some o := fun e n => hidT_get e n
    have noA : ∀ {b : Addr} {o : Obj} {es : Array DictEntry} {ep : Nat}, s₁.heap.get? b = some o → o.data = .dict es ep → H b = none := fun {b o es ep} e d => by
      cases q : H b with
      | none => rfl
      | some u =>
        have e' : b = a := hA b (by rw [q]; simp)
        subst e'
        rw [ha] at e; cases e
        have d' : Data.seq vs.toArray _ = Data.dict es ep := d
        cases d'
    have nsK : ∀ {b : Addr} {m : Str → Option Value}, s₁.heap.Ns b m → (hidT s₁.heap H).Ns b m := fun {b m} ⟨o, es, ep, e, d, r⟩ => ⟨o, es, ep, base_of e (noA e d), d, r⟩
    have hKb : K.In (hidT s₁.heap H) := fun b o e => base_of (KX b o e) (by
      cases q : H b with
      | none => rfl
      | some u =>
        have e' : b = a := hA b (by rw [q]; simp)
        subst e'
        rw [hK (by rw [q]; simp)] at e; cases e)
    have hM : Mod K mg (hidT s₁.heap H) := ⟨hKb, nsK hns, ⟨mb, nsK hb, hbb⟩, let ⟨mc, h1, h2⟩ := hlim; ⟨mc, nsK h1, h2⟩⟩
    have e0 : Env0 P w K mg (hidT s₁.heap H) callerA [] s₁ H := ⟨rfl, hM, fun b o e => of_hidT e, Nat.le_of_eq (hidT_size _ _), trivial, fun b hb => absurd (show b ∈ ([] : List Addr) from hb) (by simp), hok, .of_eq hg⟩
    refine codeAny_mono ((F _ hKb (nsK hns)).run callerA [] s₁ H ⟨[.ref a], []⟩ [.ref a] [.ref a] _ _ hr e0 (hbind s₁ (.ref a)) (.cons rfl .nil) (hsp H hO hS)) fun r s' h => ?_
    cases r with
    | error e => exact (hCX H e s' h).elim
    | ok fl =>
      cases fl with
      | next => exact False.elim h
      | brk => exact False.elim h
      | cont => exact False.elim h
      | ret u =>
        obtain ⟨v, H', os, bare, un, hok', r', q⟩ := h
        have q' : v = .bl true := q
        subst q'
        obtain rfl : u = Value.bool true := r'
        refine ⟨rfl, OldK.of_keep fun b o e => ?_, os, bare⟩
        cases q : H b with
        | none => exact un.keep b o e q (by intro z; exact absurd (show b ∈ ([] : List Addr) from z) (by simp)) (by simp)
        | some u =>
          rcases hO b with z | ⟨ob, xs, z⟩
          · rw [q] at z; cases z
          · have z2 := un.frzs b ob _ z
            obtain ⟨e1, _⟩ := hok b _ z
            obtain ⟨e2, _⟩ := hok' b _ z2
            rw [e] at e1; cases e1
            exact e2
  cases hk : K.lookup a with
  | some o =>
    -- the script is one of the module's own objects
    have e := KX a o hk
    rw [ha] at e
    cases e
    refine core (fun _ => none) (fun _ => .inl rfl) (.inr ⟨_, vs.toArray, _, hk, rfl, rfl, rfl, by rw [List.size_toArray, lenV]; exact hl, by simpa using rv⟩) (fun b u z => by have z' : (none : Option HO) = some u := z; cases z') (fun b z => absurd rfl z) fun z => absurd rfl z
  | none =>
    refine core (fun b => if b = a then some (.frz { cls := .type "list", data := .seq vs.toArray } (.lst (ns.map V.int))) else none) (fun b => ?_) (.inl (.inr ⟨{ cls := .type "list", data := .seq vs.toArray }, if_pos rfl⟩)) (fun b u z => ?_) (fun b z => ?_) fun _ => hk
    · by_cases hb : b = a
      · exact .inr ⟨_, _, if_pos hb⟩
      · exact .inl (if_neg hb)
    · by_cases hb : b = a
      · have z' := (if_pos hb).symm.trans z
        cases z'
        subst hb
        exact ⟨ha, by rw [List.length_map]; exact hl, vs, _, rv, ha⟩
      · have z' := (if_neg hb).symm.trans z
        cases z'
    · by_cases hb : b = a
      · exact hb
      · exact absurd (if_neg hb) z
end L2

namespace L2
open PySem PySem.Spec PyProof.Rows

abbrev KOf {K : PySem.W.Frag} {h : Heap} (_ : K.In h) : PySem.W.Frag := K

/-- the goal that k_head leaves (case hc), from the law's promise. F gives the function object fd (K's own) once, then the promise over every base -/
theorem walk_of {l : PySem.W.OpenLaw} {n k : Nat} {q : Program} {loose : List Str} {XP : (Str → Option Value) → Heap → Prop} {YP : World → Heap → Prop} {d : DefRec} {K : Params → PySem.W.Frag} {CX : World → CXT} {sp : World → Sp} {x : Str}
    (hn : l.most = some n) (hn2 : n ≤ sizeLine) (hdf : d.params.defaults = []) (hr : Room k callerA)
    (hY : ∀ (w : World) (h : Heap), YP w h → (K w.params).In h)
    (F : ∀ (w : World) (mg : Str → Option Value) (fa : Addr) (h : Heap), (K w.params).In h → h.Ns mainGlobals mg → mg d.name = some (.ref fa) →
      ∃ fd : FuncData, (∀ (s : Shared) (u : Value), BindsTo s fd ⟨[u], []⟩ [(x, u)]) ∧
        ∀ base : Heap, (K w.params).In base → base.Ns mainGlobals mg → FnOk l.prog w (K w.params) mg base (CX w) k fa fd [x] (sp w))
    (hsp : ∀ (w : World) (H : Hp) (a : Addr) (ns : List Int), ns.length ≤ n → Only H → SqL (K w.params) H a (ns.map V.int) → sp w [.ref a] H (fun v _ => v = .bl true) fun _ _ _ => False)
    (hCX : ∀ (w : World) (H : Hp) (s : Shared) (e : Value) (s' : Shared), CX w [] H s (fun _ _ _ => False) e s' → False) :
    PySem.W.WalkO q loose XP YP l.row.toRowW d [] (fun f vs => PySem.call f vs) := by
  refine Att.attach_call hn hdf fun w s₀ s₁ mg mb fa o pm cd doc a vs ns G Y ho hd hcd hmg hobj hints hlen hg => ?_
  have KX := hY w _ Y
  obtain ⟨fd, hb, hF⟩ := F w mg fa _ KX G.T.g hmg
  exact law_call KX G.T.g G.T.b G.T.builtins G.T.nolimit hg hobj hints (Nat.le_trans hlen hn2) hr hF hb (fun H hO hS => hsp w H a ns hlen hO hS) fun H e s' => hCX w H s₁ e s'
end L2

/- THE LAST THEOREM (shape; LID, My.* are yours):
   My.Adr: a structure of the addresses that your layer names (classes, functions); My.Txt K t: a structure (Prop) of the equations over K;
   My.txt_mk : {K} {implicit addresses ..} (e1 : nsIn K mainGlobals "law" = some (some (.ref f))) (e2 : K.lookup f = some ⟨oc, od, .func (fnOf "law" "law" params body scope dV kV doc pm an cdv ct), sl⟩) (e3 : codeIn K cdv "law" = true) .. : ∃ t, My.Txt K t

set_option maxRecDepth 100000 in
set_option maxHeartbeats 0 in
theorem PySem.Challenge.cw_LID_holds : PySem.Challenge.rw_LID.Holds := by
  w_on; o_law; k_head; (case hw => w_witness2)
  k_fill
  refine L2.walk_of (l := PySem.Challenge.rw_LID) (n := 63) (k := 40) (x := "script") (CX := fun w => ..) (sp := fun _ => My.sp_law) rfl (by decide) rfl ⟨rfl, by decide, by decide⟩ (fun w h Y => PySem.W.kIn_of Y) ?F ?S ?C
  case F =>
    intro w mg fa h KX G hmg
    have T : ∃ t, My.Txt (L2.KOf KX) t := by
      dsimp only [L2.KOf]                          -- K must stand as «<heap const> w.params» for k_is
      refine' My.txt_mk ?e1 ?e2 ?e3 ..
      (case e1 => PySem.W.k_is)                    -- in the order: a name -> its address -> its object -> its parts
      (case e2 => PySem.W.k_is)
      ..
    obtain ⟨t, T⟩ := T
    have e0 := hmg.symm.trans (PySem.W.mg_of KX G T.law)
    cases e0                                       -- fa is the law's own address
    exact ⟨_, fun s u => .of_eq rfl, fun base kb nb => My.law_fn T kb nb⟩     -- if «.of_eq rfl» comes too early: refine' ⟨_, ?b, fun base kb nb => My.law_fn T kb nb⟩; exact fun s u => .of_eq rfl
  case S => exact fun w H a ns hl hO hS => ..
  case C => exact ..
(the tactic k_is has no namespace: write k_is) -/

/-! SHORT WORDS over the layer: a def of the text, its body, what a loop and a test want. -/
namespace L2
open PySem PySem.Spec PyProof.Rows

/-! ### the text by places -/
def defArgs (s : Stmt) : Arguments := match s with
  | .FunctionDef _ a _ _ _ _ _ _ _ _ => a
  | _ => { posonlyargs := [], args := [], vararg := none, kwonlyargs := [], kw_defaults := [], kwarg := none, defaults := [] }
def defBody (s : Stmt) : List Stmt := match s with
  | .FunctionDef _ _ b _ _ _ _ _ _ _ => b
  | _ => []
def defScope (s : Stmt) : Scope := match s with
  | .FunctionDef _ _ _ _ _ _ sc _ _ _ => sc
  | _ => { kind := .function, names := [], isGenerator := false, isCoroutine := false }

/-! ### no exception leaves a def -/
abbrev CX0 : CXT := fun _ _ _ _ _ _ => False
abbrev E0 : XK := fun _ _ _ => False
theorem pass0 {X : Cx} : Passes CX0 X E0 := fun _ _ _ _ _ _ _ h => h.elim

/-! ### a def (or method) of the text as it stands behind the top -/
structure Fun (K : PySem.W.Frag) (x qual : Str) (st : Stmt) (f : Addr) (fd : FuncData) : Prop where
  ex : ∃ (oc : Value) (od : Option Addr) (kV doc pm : Value) (an : Option Addr) (cdv ct : Value) (osl : Array (Option Value)),
    fd = PySem.W.fnOf x qual (defArgs st) (defBody st) (defScope st) .none kV doc pm an cdv ct ∧ K.lookup f = some ⟨oc, od, .func fd, osl⟩ ∧ PySem.W.codeIn K cdv qual = true
  kp : PySem.W.keepIn K (.ref f) = true
section
variable {P : Program} {w : World} {K : PySem.W.Frag} {mg : Str → Option Value} {base : Heap}
/-- how its arguments bind (no defaults): h is «fun _ _ _ _ _ _ us hl => match us, hl with | [_, _], _ => rfl», one _ a parameter -/
theorem Fun.binds {x qual : Str} {st : Stmt} {f : Addr} {fd : FuncData} {ps : List Str} (F : Fun K x qual st f fd)
    (h : ∀ (kV doc pm : Value) (an : Option Addr) (cdv ct : Value) (us : List Value), us.length = ps.length → bindArgs (PySem.W.fnOf x qual (defArgs st) (defBody st) (defScope st) .none kV doc pm an cdv ct) ⟨us, []⟩ = pure (ps.zip us)) : Binds K fd ps [] := by
  obtain ⟨oc, od, kV, doc, pm, an, cdv, ct, osl, rfl, lk, hcd⟩ := F.ex
  exact .all (h kV doc pm an cdv ct)
theorem fun_mk {x qual : Str} {st : Stmt} {f : Addr} {oc : Value} {od an : Option Addr} {osl : Array (Option Value)} {kV doc pm cdv ct : Value} (l : K.lookup f = some ⟨oc, od, .func (PySem.W.fnOf x qual (defArgs st) (defBody st) (defScope st) .none kV doc pm an cdv ct), osl⟩)
    (c : PySem.W.codeIn K cdv qual = true) (k : PySem.W.keepIn K (.ref f) = true) : Fun K x qual st f (PySem.W.fnOf x qual (defArgs st) (defBody st) (defScope st) .none kV doc pm an cdv ct) := ⟨⟨oc, od, kV, doc, pm, an, cdv, ct, osl, rfl, l, c⟩, k⟩
end
theorem hu_of {A : Around} {k : Nat} (hr : Room k A) : A.units + 1 < cLine := Nat.lt_of_le_of_lt (Nat.add_le_add_left (by decide : 1 ≤ 64) _) hr.units
/-! ### expressions in short: the name that stands in the i-th slot -/
section
variable {X : Cx}
end

/-! ### tests -/
/-! ### heaps -/
end L2

namespace L2
open PySem PySem.Spec PyProof.Rows

/-! ### lists of pairs as tables -/
section
variable {κ : Type} [DecidableEq κ]
def valV (kvs : List (κ × V)) (k : κ) : Option V := (kvs.find? fun kv => decide (kv.1 = k)).map (·.2)
/-- in its place, or at the end -/
def putK (kvs : List (κ × V)) (k : κ) (v : V) : List (κ × V) :=
  if (kvs.any fun kv => decide (kv.1 = k)) = true then kvs.map (fun kv => if kv.1 = k then (kv.1, v) else kv) else kvs ++ [(k, v)]
theorem valV_pos {p : κ × V} {r : List (κ × V)} {k : κ} (e : p.1 = k) : valV (p :: r) k = some p.2 := by simp [valV, List.find?_cons, e]
theorem valV_neg {p : κ × V} {r : List (κ × V)} {k : κ} (e : ¬ p.1 = k) : valV (p :: r) k = valV r k := by simp [valV, List.find?_cons, e]
theorem length_putK (kvs : List (κ × V)) (k : κ) (v : V) : (putK kvs k v).length ≤ kvs.length + 1 := by
  unfold putK
  split
  · rw [List.length_map]; omega
  · rw [List.length_append, List.length_cons, List.length_nil]; omega
/-- raw tables of the same keys -/
theorem KV.val {kvs : List (κ × V)} {vs : List (κ × Value)} (r : KV kvs vs) (k : κ) : RelO (valV kvs k) (valueAt vs k) := by
  unfold KV at r
  induction r with
  | nil => exact True.intro
  | @cons p q ps qs h t ih =>
    obtain ⟨h1, h2⟩ := h
    by_cases e : p.1 = k
    · have e' : q.1 = k := h1.symm.trans e
      have b : valueAt (q :: qs) k = some q.2 := by simp [valueAt, List.find?_cons, e']
      rw [valV_pos e, b]; exact h2
    · have e' : ¬ q.1 = k := fun z => e (h1.trans z)
      have b : valueAt (q :: qs) k = valueAt qs k := by simp [valueAt, List.find?_cons, e']
      rw [valV_neg e, b]; exact ih
theorem KV.any {kvs : List (κ × V)} {vs : List (κ × Value)} (r : KV kvs vs) (k : κ) : (kvs.any fun kv => decide (kv.1 = k)) = vs.any fun kv => decide (kv.1 = k) := by
  unfold KV at r
  induction r with
  | nil => rfl
  | cons h t ih => rw [List.any_cons, List.any_cons, ih, h.1]
theorem KV.repl {kvs : List (κ × V)} {vs : List (κ × Value)} (r : KV kvs vs) (k : κ) {y : V} {u : Value} (ry : RelV y u) :
    KV (kvs.map fun kv => if kv.1 = k then (kv.1, y) else kv) (vs.map fun kv => if kv.1 = k then (kv.1, u) else kv) := by
  unfold KV at r ⊢
  induction r with
  | nil => exact .nil
  | @cons p q ps qs h t ih =>
    rw [List.map_cons, List.map_cons]
    refine .cons ?_ ih
    obtain ⟨h1, h2⟩ := h
    by_cases e : p.1 = k
    · rw [if_pos e, if_pos (h1.symm.trans e)]; exact ⟨h1, ry⟩
    · rw [if_neg e, if_neg (fun z => e (h1.trans z))]; exact ⟨h1, h2⟩
theorem KV.put {kvs : List (κ × V)} {vs : List (κ × Value)} (r : KV kvs vs) (k : κ) {y : V} {u : Value} (ry : RelV y u) : KV (putK kvs k y) (stored vs k u) := by
  unfold putK stored
  rw [r.any k]
  by_cases e : (vs.any fun kv => decide (kv.1 = k)) = true
  · rw [if_pos e, if_pos e]; exact r.repl k ry
  · rw [if_neg e, if_neg e]; exact Paired.snoc r ⟨rfl, ry⟩
end


/-! ### a tracked dict, its keys ints and texts or tuples of these -/
theorem kV_is {P : Program} {w : World} {k : Key} {u : Value} (r : RelV (kV k) u) : (mixKind P w).is k u = true := by
  cases k with
  | inl i => obtain ⟨t, e⟩ := (show ∃ t, u = Value.int i t from r); subst e; exact mixKind_int P w i t
  | inr x => obtain ⟨t, e⟩ := (show ∃ t, u = Value.str x t from r); subst e; exact mixKind_str P w x t
theorem items_are {P : Program} {w : World} : ∀ {ks : List Key} {us : List Value}, Vals (ks.map kV) us → ItemsAre (mixKind P w) ks us
  | [], _, r => by rw [List.map_nil] at r; cases r; exact .nil
  | k :: ks, _, r => by
    rw [List.map_cons] at r
    cases r with
    | cons h t => exact .cons (kV_is h) (items_are t)

/-- raw entries of a dict with tuple keys -/
abbrev KT (H : Hp) : List (List Key × V) → List (List Key × Addr × Value) → Prop := Paired fun p q => p.1 = q.1 ∧ H q.2.1 = some (.tup (p.1.map kV)) ∧ RelV p.2 q.2.2
theorem KT.val {H : Hp} {kvs : List (List Key × V)} {xs : List (List Key × Addr × Value)} (r : KT H kvs xs) (k : List Key) : RelO (valV kvs k) ((atKey xs k).map (·.2)) := by
  induction r with
  | nil => exact True.intro
  | @cons p q ps qs h t ih =>
    obtain ⟨h1, _, h2⟩ := h
    by_cases e : p.1 = k
    · have e' : q.1 = k := h1.symm.trans e
      have b : atKey (q :: qs) k = some q.2 := by simp [atKey, List.find?_cons, e']
      rw [valV_pos e, b]; exact h2
    · have e' : ¬ q.1 = k := fun z => e (h1.trans z)
      have b : atKey (q :: qs) k = atKey qs k := by simp [atKey, List.find?_cons, e']
      rw [valV_neg e, b]; exact ih
section
variable {P : Program} {w : World} {H : Hp} {h : Heap} {a : Addr}
theorem rd_of {u : HO} (ok : HOk P w H h) (e : Rd H a u) : ObjOk P w H h a u := e.ok ok
theorem dk_rd {kvs : List (Key × V)} (ok : HOk P w H h) (e : Rd H a (.dK kvs)) : kvs.length ≤ sizeLine ∧ (a == sysModules) = false ∧ ∃ vs, KV kvs vs ∧ h.DictOf (mixKind P w) a vs :=
  show ObjOk P w H h a (.dK kvs) from rd_of ok e
theorem dk_of {kvs : List (Key × V)} (ok : HOk P w H h) (e : H a = some (.dK kvs)) : kvs.length ≤ sizeLine ∧ (a == sysModules) = false ∧ ∃ vs, KV kvs vs ∧ h.DictOf (mixKind P w) a vs := dk_rd ok (.inl e)
/-- a tracked tuple of ints and texts is a key -/
theorem key_of {ks : List Key} (ok : HOk P w H h) (e : H a = some (.tup (ks.map kV))) : (tupleKind (mixKind P w)).is h ks a := by
  obtain ⟨_, its, r, o, h1, h2, n, h3⟩ := (show ObjOk P w H h a (.tup (ks.map kV)) from ok a _ e)
  exact ⟨o, its.toArray, n, h1, h2, h3, by simpa using items_are r⟩
theorem dt_rd {kvs : List (List Key × V)} (ok : HOk P w H h) (e : Rd H a (.dT kvs)) : kvs.length ≤ sizeLine ∧ (a == sysModules) = false ∧
    ∃ xs, KT H kvs xs ∧ h.DictOfH (tupleKind (mixKind P w)) a xs := by
  obtain ⟨z, y, xs, r, o, es, ep, h1, h2, h3, h4, h5⟩ := (show ObjOk P w H h a (.dT kvs) from rd_of ok e)
  refine ⟨z, y, xs, r, o, es, ep, h1, h2, h3, h4, fun x hx => ?_, h5⟩
  have all : ∀ {l : List (List Key × V)} {m : List (List Key × Addr × Value)}, KT H l m → ∀ x ∈ m, (tupleKind (mixKind P w)).is h x.1 x.2.1 := by
    intro l m q
    induction q with
    | nil => intro x hx; exact nomatch hx
    | @cons p q ps qs hq t ih =>
      intro x hx
      rcases List.mem_cons.mp hx with e | hx
      · subst e
        exact key_of ok (by rw [← hq.1]; exact hq.2.1)
      · exact ih x hx
  exact all r x hx
end

/-- what the dict at a holds at the key y -/
def DGet (H : Hp) (a : Addr) (y : V) (r : Option V) : Prop :=
  (∃ kvs k, Rd H a (.dK kvs) ∧ y = kV k ∧ r = valV kvs k) ∨ ∃ kvs k b, Rd H a (.dT kvs) ∧ y = .ref b ∧ H b = some (.tup (k.map kV)) ∧ r = valV kvs k
section
variable {X : Cx} {pins : List (Addr × Obj)} {σ : St} {H : Hp} {s : Shared} {a : Addr} {y v : V} {u r : Value} {o : Option V} {A : Around} {E : Value → Shared → Prop}

theorem Inv.big (I : Inv X pins σ H s) : sysModules < s.heap.objs.size := by
  have h : mainGlobals < s.heap.objs.size := (I.mod.glob.keeps I.bk).lt
  exact Nat.lt_trans (by decide) h

/-- d[y], there -/
theorem d_getItem {Q : Value → Shared → Prop} (hu : A.units + 1 < cLine) (I : Inv X pins σ H s) (g : DGet H a y (some v)) (ry : RelV y u) (h : ∀ w' s', Inv X pins σ H s' → RelV v w' → Q w' s') :
    wpAny (model X.prog X.w) A (getItem (.ref a) u) Q E s := by
  rcases g with ⟨kvs, k, e, ey, l⟩ | ⟨kvs, k, b, e, ey, eb, l⟩
  · subst ey
    obtain ⟨z, hd, vs, rel, dd⟩ := dk_rd I.hok e
    obtain ⟨w', hw, rw'⟩ := RelO.some_of (v := v) (o := valueAt vs k) (by rw [l]; exact rel.val k)
    exact wpAny_getItem_of (kV_is ry) dd.mapOf hw (h w' _ (I.tok _) rw')
  · subst ey
    cases (show u = Value.ref b from ry)
    obtain ⟨z, hd, xs, rel, dd⟩ := dt_rd I.hok e
    obtain ⟨w', hw, rw'⟩ := RelO.some_of (v := v) (o := (atKey xs k).map (·.2)) (by rw [l]; exact rel.val k)
    obtain ⟨p, hp, hp2⟩ := Option.map_eq_some_iff.mp hw
    refine wpAny_getItem_heap (tupleKind_room_in1 hu) (key_of I.hok eb) dd hp ?_
    rw [hp2]
    exact h w' _ (I.tok _) rw'
/-- a dict's object is replaced -/
theorem d_write {h' : Heap} {t' : Nat} {ob : HO} (I : Inv X pins σ H s) (mu : Mut (H a)) (hs : Heap.SameBut a s.heap h') (he : ∃ q, h'.get? a = some q) (new : ObjOk X.prog X.w (upd H a ob) h' a ob) :
    Inv X pins σ (upd H a ob) { s with heap := h', toks := t' } :=
  I.write (x := a) (e := a) mu (.inl rfl) (fun b q hb z => (hs.2 b hb).trans z) he new
theorem dk_new {P : Program} {w : World} {H' : Hp} {h' : Heap} {kvs : List (Key × V)} {vs : List (Key × Value)} (z : kvs.length ≤ sizeLine) (hd : (a == sysModules) = false) (rel : KV kvs vs) (dd : h'.DictOf (mixKind P w) a vs) :
    ObjOk P w H' h' a (.dK kvs) := ⟨z, hd, vs, rel, dd⟩
end

section
variable {X : Cx} {pins : List (Addr × Obj)} {σ : St} {H : Hp} {s : Shared} {a : Addr} {kvs : List (Key × V)} {k : Key} {u : Value} {A : Around} {E : Value → Shared → Prop}
end


/-! ### readings and rules -/
/-- the element of a subscription, not a slice -/
def NoSl (i : Expr) : Prop := ∀ ov iv, subscripted i false ov iv = operate [ov, iv] (getItem ov iv)
theorem subD_of {prog : Program} {w : World} {A : Around} {E : Value → Shared → Prop} {s : Shared} {env : Env} {value slice : Expr} {pos : Pos} {T id : String} {Q : Value → Shared → Prop}
    (hl : typeLookup (.type T) "__getitem__" = pure (some (.builtin id))) (hs : NoSl slice)
    (h : wpAny (model prog w) A (eval value env) (fun o s₁ => wpAny (model prog w) A (eval slice env) (fun i s₂ => s₂.TypeIs o T ∧ wpAny (model prog w) A (getItem o i) Q E s₂) E s₁) E s) :
    wpAny (model prog w) A (eval (.Subscript value slice pos) env) Q E s := by
  refine Subscript_ (wpAny_mono h (fun o s₁ h₁ => wpAny_mono h₁ (fun i s₂ h₂ => ?_) fun _ _ x => x) fun _ _ x => x)
  obtain ⟨hT, h₂⟩ := h₂
  unfold subscriptTail
  refine wpAny_bind ?_
  rw [getitemInPython_of_ne hT.not_modules]
  refine wpAny_bind (wpAny_specialOf hT hl ?_)
  have fin : wpAny (model prog w) A (subscripted slice false o i) (fun r s₃ => wpAny (model prog w) A (letTemporaryGo value o r >>= fun _ => pure r) Q E s₃) E s₂ := by
    rw [hs o i]
    exact wpAny_operating (wpAny_mono h₂ (fun r s₃ h₃ => wpAny_bind (wpAny_letTemporaryGo (wpAny_pure h₃))) fun _ _ x => x)
  first
    | exact wpAny_pure (wpAny_bind fin)
    | exact wpAny_bind (wpAny_pure (wpAny_bind fin))
    | exact wpAny_bind fin

theorem dict_typeIs {X : Cx} {pins : List (Addr × Obj)} {σ : St} {H : Hp} {s : Shared} {a : Addr} {y : V} {o : Option V} (I : Inv X pins σ H s) (g : DGet H a y o) : s.TypeIs (.ref a) "dict" := by
  rcases g with ⟨kvs, k, e, _, _⟩ | ⟨kvs, k, b, e, _, _, _⟩
  · obtain ⟨_, _, vs, _, dd⟩ := dk_rd I.hok e
    exact dd.typeIs
  · obtain ⟨_, _, xs, _, dd⟩ := dt_rd I.hok e
    exact dd.typeIs
/-- d[y] -/
def tDGet (td ty : TE) : TE := fun σ H Q => td σ H fun x H1 => ty σ H1 fun y H2 => ∃ a v, x = .ref a ∧ DGet H2 a y (some v) ∧ Q v H2
section
variable {X : Cx} {o i e value : Expr} {pos pos' tpos : Pos} {td ty tv : TE}
theorem pe_dget (hu : X.A.units + 1 < cLine) (ho : PE X o td) (hi : PE X i ty) (hs : NoSl i) : PE X (.Subscript o i pos) (tDGet td ty) := by
  intro pins s σ H Q I h
  refine subD_of PySem.F.slot_dict_getitem.lookup hs (thn (ho pins s σ H _ I h) fun u s1 ⟨x, H1, I1, rx, q1⟩ => thn (hi pins s1 σ H1 _ I1 q1) fun iv s2 ⟨y, H2, I2, ry, a, v, ex, g, q2⟩ => ?_)
  subst ex
  obtain rfl : u = Value.ref a := rx
  exact ⟨dict_typeIs I2 g, d_getItem hu I2 g ry fun w' s3 I3 rw' => ⟨v, H2, I3, rw', q2⟩⟩
end


/-! ### displays -/
theorem dk_empty {P : Program} {w : World} {H : Hp} (h : Heap) (hb : sysModules < h.objs.size) : ObjOk P w H (h.push { cls := .type "dict", data := .dict #[] }) h.objs.size (.dK []) :=
  ⟨Nat.zero_le _, beq_eq_false_iff_ne.mpr (Ne.symm (Nat.ne_of_lt hb)), [], .nil, Heap.DictOf.new h⟩
section
variable {X : Cx} {pos : Pos}
end

/-- the pairs of a display, from the left -/
def tPairs : List (TE × TE) → St → Hp → (List (V × V) → Hp → Prop) → Prop
  | [], _, H, Q => Q [] H
  | (tk, tv) :: r, σ, H, Q => tk σ H fun x H1 => tv σ H1 fun y H2 => tPairs r σ H2 fun ps H3 => Q ((x, y) :: ps) H3
abbrev VV : List (V × V) → List (Value × Value) → Prop := Paired fun p q => RelV p.1 q.1 ∧ RelV p.2 q.2
def PPs (X : Cx) (pos : Pos) (keys : List (Option Expr)) (values : List Expr) (trs : List (TE × TE)) : Prop :=
  ∀ (pins : List (Addr × Obj)) (s : Shared) (σ : St) (H : Hp) (Q : List (V × V) → Hp → Prop), Inv X pins σ H s → tPairs trs σ H Q →
    wpAny (model X.prog X.w) X.A (evalPairs (pairTrees keys values X.env pos)) (fun vs s' => ∃ ps H', Inv X pins σ H' s' ∧ VV ps vs ∧ Q ps H') X.xe s
theorem pps_nil {X : Cx} {pos : Pos} : PPs X pos [] [] [] := fun pins s σ H Q I h => pairTrees_nil_walk ⟨[], H, I, .nil, h⟩
theorem pps_cons {X : Cx} {pos : Pos} {k v : Expr} {ks : List (Option Expr)} {vs : List Expr} {tk tv : TE} {trs : List (TE × TE)} (hk : PE X k tk) (hv : PE X v tv) (hr : PPs X pos ks vs trs) :
    PPs X pos (some k :: ks) (v :: vs) ((tk, tv) :: trs) := fun pins s σ H Q I h =>
  pairTrees_cons_walk (thn (hk pins s σ H _ I h) fun u s1 ⟨x, H1, I1, rx, q1⟩ => thn (hv pins s1 σ H1 _ I1 q1) fun w2 s2 ⟨y, H2, I2, ry, q2⟩ =>
    thn (hr pins s2 σ H2 _ I2 q2) fun ws s3 ⟨ps, H3, I3, rel, q3⟩ => ⟨(x, y) :: ps, H3, I3, .cons ⟨rx, ry⟩ rel, q3⟩)

def mergeK (kvs more : List (Key × V)) : List (Key × V) := more.foldl (fun acc kv => putK acc kv.1 kv.2) kvs
theorem KV.merge : ∀ {more : List (Key × V)} {rs : List (Key × Value)} {kvs : List (Key × V)} {vs : List (Key × Value)}, KV more rs → KV kvs vs → KV (mergeK kvs more) (merged vs rs) := by
  intro more rs kvs vs r
  unfold KV at r
  induction r generalizing kvs vs with
  | nil => intro q; exact q
  | @cons p q ps qs h t ih =>
    intro r0
    have e : KV (putK kvs p.1 p.2) (stored vs q.1 q.2) := by
      have := r0.put p.1 h.2
      rw [← h.1]; exact this
    exact ih e
theorem length_mergeK : ∀ (more kvs : List (Key × V)), (mergeK kvs more).length ≤ kvs.length + more.length
  | [], kvs => by show kvs.length ≤ kvs.length + 0; omega
  | p :: r, kvs => by
    have h1 := length_mergeK r (putK kvs p.1 p.2)
    have h2 := length_putK kvs p.1 p.2
    show (mergeK (putK kvs p.1 p.2) r).length ≤ _
    rw [List.length_cons]; omega
theorem carries_of {P : Program} {w : World} : ∀ {kvs : List (Key × V)} {ws : List (Value × Value)}, VV (kvs.map fun kv => (kV kv.1, kv.2)) ws → ∃ rs, Carries (mixKind P w) ws rs ∧ KV kvs rs
  | [], _, r => by rw [List.map_nil] at r; cases r; exact ⟨[], True.intro, .nil⟩
  | p :: kvs, _, r => by
    rw [List.map_cons] at r
    cases r with
    | @cons a b as bs h t =>
      obtain ⟨rs, c, q⟩ := carries_of (P := P) (w := w) t
      obtain ⟨b1, b2⟩ := b
      exact ⟨(p.1, b2) :: rs, ⟨kV_is h.1, rfl, c⟩, .cons ⟨rfl, h.2⟩ q⟩
/-- {k: v, ..} with keys ints and texts; the new dict stands empty while the pairs are made -/
def tDisp (trs : List (TE × TE)) : TE := fun σ H Q => ∀ p, H p = none → tPairs trs σ (upd H p (.dK [])) fun ps H2 => H2 p = some (.dK []) ∧ ∃ kvs : List (Key × V), ps = kvs.map (fun kv => (kV kv.1, kv.2)) ∧ kvs.length ≤ 15 ∧ Q (.ref p) (upd H2 p (.dK (mergeK [] kvs)))
theorem pe_disp {X : Cx} {pos : Pos} {keys : List (Option Expr)} {values : List Expr} {trs : List (TE × TE)} (h : PPs X pos keys values trs) (hall : keys.all (·.isSome) = true) (hl : keys.length = values.length) (h0 : keys ≠ [])
    (h15 : keys.length ≤ 15) : PE X (.Dict keys values pos) (tDisp trs) := by
  intro pins s σ H Q I q
  have hn := I.hok.fresh (Nat.le_refl s.heap.objs.size)
  have I1 := I.laid (a := s.heap.objs.size) (o := .dK []) (h' := s.heap.push { cls := .type "dict", data := .dict #[] }) (t' := s.toks) (fun _ _ q => Heap.get?_push_of_some _ q) (Nat.le_refl _) (dk_empty s.heap I.big)
  refine wpAny_Dict_walk (knd := mixKind X.prog X.w) hall hl h0 h15 (thn (h pins _ σ _ _ I1 (q _ hn)) fun ws s2 ⟨ps, H2, I2, rel, e, kvs, ep, lk, q2⟩ => ?_)
  subst ep
  obtain ⟨rs, c, rk⟩ := carries_of (P := X.prog) (w := X.w) rel
  obtain ⟨z, hd, vs0, r0, dd⟩ := dk_of I2.hok e
  cases r0
  refine ⟨rs, c, dd, fun h' dd' hs => ⟨.ref s.heap.objs.size, _, ?_, rfl, q2⟩⟩
  have hz : (mergeK [] kvs).length ≤ sizeLine := by
    have h1 := length_mergeK kvs []
    rw [List.length_nil] at h1
    rw [sizeLine_eq]; omega
  have he : ∃ q, h'.get? s.heap.objs.size = some q := let ⟨q, _, _, hq, _⟩ := dd'; ⟨q, hq⟩
  exact d_write I2 (by rw [e]; exact True.intro) hs he (dk_new hz hd (rk.merge .nil) dd')


/-! ### methods -/
/-- a method call o.m(e) of a built-in, with one argument: what must be seen of the text -/
structure M1 (X : Cx) (o : Expr) (m : Str) (apos : Pos) (e : Expr) (cpos : Pos) : Prop where
  base : attributeBase o m X.env (eval o X.env) = eval o X.env
  few : ((backTo cpos (starEach [e] X.env)).all (fun x => !x.1) && (backToKw cpos (keywordEach [] X.env)).all (fun x => x.1.isSome)
    && decide (([e] : List Expr).length + ([] : List Keyword).length + (if ([] : List Keyword).isEmpty then 0 else 1) < 30)) = true
  line : (apos.endLine == cpos.line) = true
  trees : backTo cpos (starEach [e] X.env) = [(false, eval e X.env)]
structure M2 (X : Cx) (o : Expr) (m : Str) (apos : Pos) (e f : Expr) (cpos : Pos) : Prop where
  base : attributeBase o m X.env (eval o X.env) = eval o X.env
  few : ((backTo cpos (starEach [e, f] X.env)).all (fun x => !x.1) && (backToKw cpos (keywordEach [] X.env)).all (fun x => x.1.isSome)
    && decide (([e, f] : List Expr).length + ([] : List Keyword).length + (if ([] : List Keyword).isEmpty then 0 else 1) < 30)) = true
  line : (apos.endLine == cpos.line) = true
  trees : backTo cpos (starEach [e, f] X.env) = [(false, eval e X.env), (false, eval f X.env)]

section
variable {X : Cx} {pins : List (Addr × Obj)} {σ : St} {H : Hp} {s : Shared} {a : Addr} {y d : V} {u r : Value} {o : Option V} {A : Around} {E : Value → Shared → Prop}
end

section
variable {X : Cx} {o e f : Expr} {apos cpos : Pos} {td ty tx : TE}
end

/-! ### dict(d): a copy -/
section
variable {X : Cx} {pins : List (Addr × Obj)} {σ : St} {H : Hp} {s : Shared} {a : Addr} {kvs : List (Key × V)} {A : Around} {E : Value → Shared → Prop}
end


section
variable {X : Cx} {pins : List (Addr × Obj)} {σ : St} {H : Hp} {s : Shared} {a : Addr} {y : V} {u : Value} {A : Around} {E : Value → Shared → Prop}
end
end L2

namespace DL
open PySem L2
/-! ### isinstance of an exception of an own class -/
structure XcK (K : PySem.W.Frag) (C : Addr) : Prop where
  ga : PySem.W.findIn K (.ref C) "__getattribute__" = some (some (.builtin "BaseException.__getattribute__"))
  nh : PySem.W.findIn K (.ref C) "__getattr__" = some none
  cl : ∃ cd, PySem.W.clsIn K C = some cd
  at_ : PySem.W.findIn K (.ref C) "__class__" = some (some (.builtin "object.__class__"))
  gt : PySem.W.specialIn K (.builtin "object.__class__") "__get__" = some (some (.builtin "getset_descriptor.__get__"))
  tk : PySem.W.takesIn K (.builtin "object.__class__") = some true
  ob : PySem.W.mroIn K C (.type "object") = some true
  bx : PySem.W.mroIn K C (.type "BaseException") = some true
  kit : ∀ c ∈ (["int", "bool", "str", "list", "tuple", "dict"] : List String), PySem.W.kitOne K (.ref C) (.type c) = some false
section
open PySem.W
variable {prog : Program} {w : World} {A : Around} {E : Value → Shared → Prop} {s : Shared} {K : PySem.W.Frag} {x C : Addr} {ox : Obj}
theorem check_x {M : Model} {nameV : Value} {Q : Unit → Shared → Prop} (X : K.In s.heap) (k : XcK K C) (I : PySem.W.InstAt s.heap x ox C none) (hq : Q () s) : wpAny M A (checkBuiltinCall "BaseException.__getattribute__" ⟨[.ref x, nameV], []⟩) Q E s := by
  have hk : builtinKind "BaseException.__getattribute__" = some .slot := by decide +kernel
  have hsplit : splitId "BaseException.__getattribute__" = some ("BaseException", "__getattribute__") := by decide +kernel
  have ha := F.args_bexc_ga (.ref x) nameV
  have L0 := I.type (M := M)
  have L1 := looks_mroIn (M := M) X k.bx
  have LI : Looks M s.heap (isInstance (.ref x) (.type "BaseException")) true := L0.andThen L1
  simp only [checkBuiltinCall, hk, hsplit]
  refine wpAny_bind (LI.at ?_)
  repeat (first | wp_step | exact hq)
theorem class_x {Q : Option Value → Shared → Prop} (X : K.In s.heap) (k : XcK K C) (I : PySem.W.InstAt s.heap x ox C none) (h : Q (some (.ref C)) { s with toks := s.toks + 1 }) : wpAny (model prog w) A (getAttr? (.ref x) "__class__") Q E s := by
  obtain ⟨cd, hcd⟩ := k.cl
  have hf : findObj K C none "__class__" = some (.bind (.builtin "getset_descriptor.__get__") (.builtin "object.__class__")) := by
    unfold findObj
    rw [hcd, k.at_]
    simp only [Option.bind_some, k.gt, k.tk]
  have L0 := I.type (M := model prog w)
  have L1 := looks_findIn (M := model prog w) X k.ga
  have L2 := looks_findIn (M := model prog w) X k.nh
  have LF := looks_find (M := model prog w) X I hf
  unfold getAttr? getAttrBy? getAttrBy
  refine wpAny_bind (wpAny_mkText (wpAny_bind (wpAny_attempt (wpAny_holding (wpAny_bind (L0.at (wpAny_bind (L1.at ?_))))))))
  have hx1 : (onTheHeap (Value.ref C) && Value.builtin "BaseException.__getattribute__" == Value.builtin "object.__getattribute__") = false := by
    rw [show (Value.builtin "BaseException.__getattribute__" == Value.builtin "object.__getattribute__") = false from by decide +kernel]; rfl
  show wpAny _ _ (if (onTheHeap (Value.ref C) && Value.builtin "BaseException.__getattribute__" == Value.builtin "object.__getattribute__") = true then _ else _) _ _ _
  rw [if_neg (by rw [hx1]; decide)]
  unfold getAttrByItsOwn hookBefore
  rw [if_pos (by rfl)]
  refine wpAny_bind (L2.at (wpAny_bind (wpAny_attempt (wpAny_holding ?_))))
  unfold callGetattribute boundAndCalled
  rw [if_neg (by decide)]
  rw [F.attr_ValueError.ga.bind (.ref x)]
  refine wpAny_bind (wpAny_pure (wpAny_call ?_))
  refine codeAny_call_builtin F.attr_ValueError.ga.plain F.entry_bexc_ga (check_x (s := { s with toks := s.toks + 1 }) X k I ?_)
  unfold Builtin.«object.__getattribute__»
  refine wpAny_bind (wpAny_pure (wpAny_bind (wpAny_pure (wpAny_bind (L0.at (wpAny_bind (LF.at ?_)))))))
  show wpAny _ _ (Builtin.ObjectAttr.bindTo _ _ _ _) _ _ _
  unfold Builtin.ObjectAttr.bindTo
  refine wpAny_bind (wpAny_holding (wpAny_call (class_get (s := { s with toks := s.toks + 1 }) X I k.ob ?_)))
  exact wpAny_pure (wpAny_pure (wpAny_pure h))
theorem kitx_x (k : XcK K C) : KitX K (.ref x) (.ref C) (fun h => ∃ ox, PySem.W.InstAt h x ox C none) where
  ty := fun _ _ _ ⟨ox, I⟩ => I.type
  it := fun _ _ X _ => by
    obtain ⟨cd, hcd⟩ := k.cl
    unfold clsIn at hcd
    split at hcd
    · rename_i c' d' cd' sl' ho
      intro A' Q' E' s' kp q
      unfold isType loadHead
      exact wpAny_bind (wpAny_loadPart (kp _ _ (X _ _ ho)) (wpAny_pure q))
    · cases hcd
  ne := fun h tp dd its n sl X htp => by
    obtain ⟨cd, hcd⟩ := k.cl
    refine Bool.eq_false_iff.mpr fun q => ?_
    have e : C = tp := Value.ref.inj (beq_iff_eq.mp q)
    subst e
    unfold clsIn at hcd
    split at hcd
    · rename_i c' d' cd' sl' ho
      have z := (X _ _ ho).symm.trans htp
      cases z
    · cases hcd
  ca := fun X ⟨ox, I⟩ q => class_x X k I q
end
end DL

namespace DL
open PySem L2

/-- data by value; own k: the k-th cell (a list that may be changed); exn C: an exception of the own class at C; tab P: no value, but the table at P is tidy (a name that the text hasn't) -/
inductive D where
  | non
  | bl (b : Bool)
  | int (i : Int)
  | str (cs : List Nat)
  | lst (xs : List D)
  | tup (xs : List D)
  | own (k : Nat)
  | dct
  | exn (C : Nat)
  | tab (P : Nat)
  deriving Repr, BEq, Inhabited
abbrev Ow := List (List D)
/-- an expression's outcome -/
inductive R (α : Type) where
  | ok (a : α) (O : Ow)
  | exc (c : Nat) (O : Ow)
  | bad
  deriving Repr, BEq, Inhabited
def R.bnd {α β : Type} (r : R α) (k : α → Ow → R β) : R β := match r with
  | .ok a O => k a O
  | .exc c O => .exc c O
  | .bad => .bad
abbrev Sg := List (Option D)
abbrev DE := Sg → Ow → R D
abbrev DT := Sg → Ow → R Bool
abbrev DA := Sg → Ow → R (List D)

section
variable (K : PySem.W.Frag) (H : Hp) (hid μ : List Addr)
def modL (K : PySem.W.Frag) (a : Addr) (xs : List V) : Prop := ∃ (o : Obj) (its : Array Value) (n : Nat), K.lookup a = some o ∧ o.cls = .type "list" ∧ o.dict = none ∧ o.data = .seq its n ∧ its.size ≤ sizeLine ∧ Vals xs its.toList
def modT (K : PySem.W.Frag) (a : Addr) (xs : List V) : Prop := ∃ (o : Obj) (its : Array Value) (n : Nat), K.lookup a = some o ∧ o.cls = .type "tuple" ∧ o.data = .seq its n ∧ its.size ≤ sizeLine ∧ Vals xs its.toList
def LstAt (a : Addr) (vs : List V) : Prop := (Rd H a (.lst vs) ∧ a ∉ hid ∧ a ∉ μ) ∨ modL K a vs
def TupAt (a : Addr) (vs : List V) : Prop := (Rd H a (.tup vs) ∧ a ∉ hid ∧ a ∉ μ) ∨ modT K a vs
end
/-- the table at P of the codes made within a def -/
def Tidy (H : Hp) (P : Addr) : Prop := ∃ ps, H P = some (.tbl ps) ∧ TriplesOk ps.toList ∧ ∀ pos cv, codeAmong pos ps.toList = some cv → ∃ c φ, cv = .ref c ∧ H c = some (.ext φ) ∧ ∀ h : Heap, φ h → ∃ q, h.CodeRec (.ref c) q
def NoTab (o : HO) : Prop := ∀ ps, o ≠ .tbl ps
section
variable (K : PySem.W.Frag) (H : Hp) (hid μ : List Addr)
mutual
def Dat : D → V → Prop
  | .non, v => v = .non
  | .bl b, v => v = .bl b
  | .int i, v => v = .int i
  | .str cs, v => v = .str ⟨cs.toArray⟩
  | .lst ds, v => ∃ a vs, v = .ref a ∧ LstAt K H hid μ a vs ∧ Dats ds vs
  | .tup ds, v => ∃ a vs, v = .ref a ∧ TupAt K H hid μ a vs ∧ Dats ds vs
  | .own k, v => ∃ a, v = .ref a ∧ μ[k]? = some a
  | .dct, v => ∃ a, v = .ref a ∧ Rd H a (.dK []) ∧ a ∉ hid ∧ a ∉ μ
  | .exn C, v => ∃ a φ, v = .ref a ∧ (XcK K C ∧ ∀ h : Heap, φ h → ∃ ox, PySem.W.InstAt h a ox C none) ∧ Rd H a (.ext φ) ∧ a ∉ hid ∧ a ∉ μ
  | .tab P, v => v = .bl false ∧ Tidy H P
def Dats : List D → List V → Prop
  | [], vs => vs = []
  | d :: ds, vs => ∃ v r, vs = v :: r ∧ Dat d v ∧ Dats ds r
end
/-- the cells -/
structure Cells (O : Ow) : Prop where
  len : μ.length = O.length
  nd : μ.Nodup
  nh : ∀ a ∈ μ, a ∉ hid
  ht : ∀ a ∈ hid, H a ≠ none
  at_ : ∀ (k : Nat) a, μ[k]? = some a → ∃ ds vs, O[k]? = some ds ∧ H a = some (.lst vs) ∧ Dats K H hid μ ds vs
structure EnvOk (σ : Sg) (σv : St) : Prop where
  len : σ.length = σv.length
  at_ : ∀ (i : Nat) d, σ[i]? = some (some d) → ∃ v, σv[i]? = some (some v) ∧ Dat K H hid μ d v
end
/-- tables may grow, so long as they stay tidy -/
structure Ext (H : Hp) (μ : List Addr) (H' : Hp) (μ' : List Addr) : Prop where
  pre : ∃ ν, μ' = μ ++ ν
  kept : ∀ b o, H b = some o → b ∉ μ → NoTab o → H' b = some o
  fresh : ∀ b ∈ μ', b ∈ μ ∨ H b = none
  there : ∀ b, H b ≠ none → H' b ≠ none
  tab : ∀ P, Tidy H P → Tidy H' P
/-- the same, where the hidden ones may change, and fresh ones be hidden -/
structure Mv (H : Hp) (hid μ : List Addr) (H' : Hp) (hid' μ' : List Addr) : Prop where
  pre : ∃ ν, μ' = μ ++ ν
  kept : ∀ b o, H b = some o → b ∉ μ → b ∉ hid → NoTab o → H' b = some o
  fresh : ∀ b ∈ μ', b ∈ μ ∨ H b = none
  hids : ∀ b ∈ hid', b ∈ hid ∨ H b = none
  there : ∀ b, H b ≠ none → H' b ≠ none
  tab : ∀ P, Tidy H P → Tidy H' P

section
variable {K : PySem.W.Frag} {H H' H1 H2 : Hp} {hid hid' hid1 hid2 μ μ' μ1 μ2 : List Addr}
theorem Ext.keep (e : Ext H μ H' μ') (b : Addr) (o : HO) (h : H b = some o) (n : b ∉ μ) (ht : NoTab o := by intro ps z; cases z) : H' b = some o := e.kept b o h n ht
theorem Tidy.upd {P p : Addr} {o : HO} (t : Tidy H P) (hp : H p = none ∨ ∃ vs, H p = some (.lst vs)) : Tidy (L2.upd H p o) P := by
  obtain ⟨ps, h1, h2, h3⟩ := t
  have n1 : P ≠ p := by
    rintro rfl
    rcases hp with z | ⟨vs, z⟩ <;> (rw [z] at h1; cases h1)
  refine ⟨ps, by rw [upd_ne n1]; exact h1, h2, fun pos cv e => ?_⟩
  obtain ⟨c, φ, rfl, hc, hf⟩ := h3 pos cv e
  have n2 : c ≠ p := by
    rintro rfl
    rcases hp with z | ⟨vs, z⟩ <;> (rw [z] at hc; cases hc)
  exact ⟨c, φ, rfl, by rw [upd_ne n2]; exact hc, hf⟩
theorem Ext.refl : Ext H μ H μ := ⟨⟨[], by simp⟩, fun _ _ h _ _ => h, fun _ h => .inl h, fun _ h => h, fun _ t => t⟩
theorem Ext.trans (a : Ext H μ H1 μ1) (b : Ext H1 μ1 H2 μ2) : Ext H μ H2 μ2 := by
  refine ⟨?_, fun c o h n ht => ?_, fun c h => ?_, fun c h => b.there c (a.there c h), fun P t => b.tab P (a.tab P t)⟩
  · obtain ⟨x, rfl⟩ := a.pre
    obtain ⟨y, rfl⟩ := b.pre
    exact ⟨x ++ y, by simp⟩
  · refine b.kept c o (a.kept c o h n ht) (fun m => ?_) ht
    rcases a.fresh c m with z | z
    · exact n z
    · rw [z] at h; cases h
  · rcases b.fresh c h with z | z
    · exact a.fresh c z
    · by_cases hm : c ∈ μ
      · exact .inl hm
      · cases e : H c with
        | none => exact .inr rfl
        | some o => exact absurd z (a.there c (by rw [e]; simp))
theorem Ext.mv (a : Ext H μ H' μ') : Mv H hid μ H' hid μ' := ⟨a.pre, fun b o h n _ ht => a.kept b o h n ht, a.fresh, fun _ h => .inl h, a.there, a.tab⟩
theorem Mv.trans (a : Mv H hid μ H1 hid1 μ1) (b : Mv H1 hid1 μ1 H2 hid2 μ2) : Mv H hid μ H2 hid2 μ2 := by
  have nn : ∀ c, H1 c = none → H c = none := fun c h => by
    cases e : H c with
    | none => rfl
    | some o => exact absurd h (a.there c (by rw [e]; simp))
  refine ⟨?_, fun c o h n1 n2 ht => ?_, fun c h => ?_, fun c h => ?_, fun c h => b.there c (a.there c h), fun P t => b.tab P (a.tab P t)⟩
  · obtain ⟨x, rfl⟩ := a.pre
    obtain ⟨y, rfl⟩ := b.pre
    exact ⟨x ++ y, by simp⟩
  · refine b.kept c o (a.kept c o h n1 n2 ht) (fun m => ?_) (fun m => ?_) ht
    · rcases a.fresh c m with z | z
      · exact n1 z
      · rw [z] at h; cases h
    · rcases a.hids c m with z | z
      · exact n2 z
      · rw [z] at h; cases h
  · rcases b.fresh c h with z | z
    · exact a.fresh c z
    · exact .inr (nn c z)
  · rcases b.hids c h with z | z
    · exact a.hids c z
    · exact .inr (nn c z)
theorem Mv.hide {b : Addr} (h : H b = none) : Mv H hid μ H (b :: hid) μ := ⟨⟨[], by simp⟩, fun _ _ h _ _ _ => h, fun _ m => .inl m, fun c m => (List.mem_cons.mp m).elim (fun e => .inr (by rw [e]; exact h)) .inl, fun _ h => h, fun _ t => t⟩
theorem Mv.unhide {b : Addr} : Mv H (b :: hid) μ H hid μ := ⟨⟨[], by simp⟩, fun _ _ h _ _ _ => h, fun _ m => .inl m, fun _ m => .inl (List.mem_cons_of_mem _ m), fun _ h => h, fun _ t => t⟩
theorem Rd.mv {a : Addr} {u : HO} (r : Rd H a u) (e : Mv H hid μ H' hid' μ') (n1 : a ∉ hid) (n2 : a ∉ μ) (ht : NoTab u := by intro ps z; cases z) : Rd H' a u ∧ a ∉ hid' ∧ a ∉ μ' := by
  have out : ∀ o, H a = some o → a ∉ hid' ∧ a ∉ μ' := by
    intro o h
    constructor
    · intro m
      rcases e.hids a m with z | z
      · exact n1 z
      · rw [z] at h; cases h
    · intro m
      rcases e.fresh a m with z | z
      · exact n2 z
      · rw [z] at h; cases h
  rcases r with r | ⟨o, r⟩
  · exact ⟨.inl (e.kept _ _ r n2 n1 ht), out _ r⟩
  · exact ⟨.inr ⟨o, e.kept _ _ r n2 n1 (by intro ps z; cases z)⟩, out _ r⟩
theorem LstAt.mv {a : Addr} {vs : List V} (h : LstAt K H hid μ a vs) (e : Mv H hid μ H' hid' μ') : LstAt K H' hid' μ' a vs :=
  h.imp (fun z => Rd.mv z.1 e z.2.1 z.2.2) id
theorem TupAt.mv {a : Addr} {vs : List V} (h : TupAt K H hid μ a vs) (e : Mv H hid μ H' hid' μ') : TupAt K H' hid' μ' a vs :=
  h.imp (fun z => Rd.mv z.1 e z.2.1 z.2.2) id
theorem LstAt.sq {a : Addr} {vs : List V} (h : LstAt K H hid μ a vs) : SqL K H a vs := h.elim (fun z => .inl z.1) .inr
theorem TupAt.sq {a : Addr} {vs : List V} (h : TupAt K H hid μ a vs) : SqT K H a vs := h.elim (fun z => .inl z.1) .inr
mutual
theorem Dat.mv (e : Mv H hid μ H' hid' μ') : ∀ {d : D} {v : V}, Dat K H hid μ d v → Dat K H' hid' μ' d v
  | .non, _, h => h
  | .bl _, _, h => h
  | .int _, _, h => h
  | .str _, _, h => h
  | .lst ds, v, h => by
    unfold Dat at h ⊢
    obtain ⟨a, vs, r, l, q⟩ := h
    exact ⟨a, vs, r, l.mv e, Dats.mv e q⟩
  | .tup ds, v, h => by
    unfold Dat at h ⊢
    obtain ⟨a, vs, r, l, q⟩ := h
    exact ⟨a, vs, r, l.mv e, Dats.mv e q⟩
  | .own k, v, h => by
    unfold Dat at h ⊢
    obtain ⟨a, r, q⟩ := h
    obtain ⟨x, rfl⟩ := e.pre
    exact ⟨a, r, by rw [List.getElem?_append_left (List.getElem?_eq_some_iff.mp q).1]; exact q⟩
  | .dct, v, h => by
    unfold Dat at h ⊢
    obtain ⟨a, r, q, n1, n2⟩ := h
    exact ⟨a, r, Rd.mv q e n1 n2⟩
  | .exn C, v, h => by
    unfold Dat at h ⊢
    obtain ⟨a, φ, r, g, q, n1, n2⟩ := h
    exact ⟨a, φ, r, g, Rd.mv q e n1 n2⟩
  | .tab P, v, h => by
    unfold Dat at h ⊢
    exact ⟨h.1, e.tab _ h.2⟩
theorem Dats.mv (e : Mv H hid μ H' hid' μ') : ∀ {ds : List D} {vs : List V}, Dats K H hid μ ds vs → Dats K H' hid' μ' ds vs
  | [], _, h => h
  | d :: ds, vs, h => by
    unfold Dats at h ⊢
    obtain ⟨v, r, e1, h1, h2⟩ := h
    exact ⟨v, r, e1, Dat.mv e h1, Dats.mv e h2⟩
end
theorem Dat.ext (e : Ext H μ H' μ') {d : D} {v : V} (h : Dat K H hid μ d v) : Dat K H' hid μ' d v := h.mv e.mv
theorem Dats.ext (e : Ext H μ H' μ') {ds : List D} {vs : List V} (h : Dats K H hid μ ds vs) : Dats K H' hid μ' ds vs := h.mv e.mv
theorem EnvOk.mv {σ : Sg} {σv : St} (h : EnvOk K H hid μ σ σv) (e : Mv H hid μ H' hid' μ') : EnvOk K H' hid' μ' σ σv :=
  ⟨h.len, fun i d q => let ⟨v, a, b⟩ := h.at_ i d q; ⟨v, a, b.mv e⟩⟩
theorem EnvOk.ext {σ : Sg} {σv : St} (h : EnvOk K H hid μ σ σv) (e : Ext H μ H' μ') : EnvOk K H' hid μ' σ σv := h.mv e.mv
theorem EnvOk.set {σ : Sg} {σv : St} (h : EnvOk K H hid μ σ σv) {d : D} {v : V} (q : Dat K H hid μ d v) (i : Nat) : EnvOk K H hid μ (σ.set i (some d)) (σv.set i (some v)) := by
  refine ⟨by simp [h.len], fun j x e => ?_⟩
  by_cases hj : i = j
  · subst hj
    have hi : i < σ.length := by have := (List.getElem?_eq_some_iff.mp e).1; simpa using this
    rw [List.getElem?_set_self hi] at e
    cases e
    exact ⟨v, by rw [List.getElem?_set_self (by rw [← h.len]; exact hi)], q⟩
  · rw [List.getElem?_set_ne hj] at e
    obtain ⟨w, a, b⟩ := h.at_ j x e
    exact ⟨w, by rw [List.getElem?_set_ne hj]; exact a, b⟩
/-! lists of data -/
theorem Dats.length : ∀ {ds : List D} {vs : List V}, Dats K H hid μ ds vs → ds.length = vs.length
  | [], _, h => by unfold Dats at h; subst h; rfl
  | d :: ds, vs, h => by
    unfold Dats at h
    obtain ⟨v, r, rfl, _, h2⟩ := h
    simp [Dats.length h2]
theorem Dats.nil : Dats K H hid μ [] [] := by unfold Dats; rfl
theorem Dats.cons {d : D} {v : V} {ds : List D} {vs : List V} (h : Dat K H hid μ d v) (t : Dats K H hid μ ds vs) : Dats K H hid μ (d :: ds) (v :: vs) := by
  unfold Dats; exact ⟨v, vs, rfl, h, t⟩
theorem Dats.append : ∀ {ds es : List D} {vs ws : List V}, Dats K H hid μ ds vs → Dats K H hid μ es ws → Dats K H hid μ (ds ++ es) (vs ++ ws)
  | [], _, _, _, h, t => by unfold Dats at h; subst h; exact t
  | d :: ds, es, vs, ws, h, t => by
    unfold Dats at h
    obtain ⟨v, r, rfl, h1, h2⟩ := h
    exact .cons h1 (Dats.append h2 t)
theorem Dats.get : ∀ {ds : List D} {vs : List V} {i : Nat} {d : D}, Dats K H hid μ ds vs → ds[i]? = some d → ∃ v, vs[i]? = some v ∧ Dat K H hid μ d v
  | [], _, _, _, _, e => by simp at e
  | d :: ds, vs, 0, x, h, e => by
    unfold Dats at h
    obtain ⟨v, r, rfl, h1, h2⟩ := h
    simp at e; subst e
    exact ⟨v, by simp, h1⟩
  | d :: ds, vs, i + 1, x, h, e => by
    unfold Dats at h
    obtain ⟨v, r, rfl, h1, h2⟩ := h
    obtain ⟨z, a, b⟩ := Dats.get (i := i) h2 (by simpa using e)
    exact ⟨z, by simpa using a, b⟩
theorem Dats.take : ∀ {ds : List D} {vs : List V} (n : Nat), Dats K H hid μ ds vs → Dats K H hid μ (ds.take n) (vs.take n)
  | _, _, 0, _ => by simpa using Dats.nil
  | [], _, n + 1, h => by unfold Dats at h; subst h; simpa using Dats.nil
  | d :: ds, vs, n + 1, h => by
    unfold Dats at h
    obtain ⟨v, r, rfl, h1, h2⟩ := h
    simpa using Dats.cons h1 (Dats.take n h2)
theorem Dats.drop : ∀ {ds : List D} {vs : List V} (n : Nat), Dats K H hid μ ds vs → Dats K H hid μ (ds.drop n) (vs.drop n)
  | _, _, 0, h => by simpa using h
  | [], _, n + 1, h => by unfold Dats at h; subst h; simpa using Dats.nil
  | d :: ds, vs, n + 1, h => by
    unfold Dats at h
    obtain ⟨v, r, rfl, h1, h2⟩ := h
    simpa using Dats.drop n h2
theorem Dats.set {d : D} {v : V} (q : Dat K H hid μ d v) : ∀ {ds : List D} {vs : List V} (i : Nat), Dats K H hid μ ds vs → Dats K H hid μ (ds.set i d) (vs.set i v)
  | [], _, i, h => by unfold Dats at h; subst h; simpa using Dats.nil
  | x :: ds, vs, 0, h => by
    unfold Dats at h
    obtain ⟨w, r, rfl, h1, h2⟩ := h
    simpa using Dats.cons q h2
  | x :: ds, vs, i + 1, h => by
    unfold Dats at h
    obtain ⟨w, r, rfl, h1, h2⟩ := h
    simpa using Dats.cons h1 (Dats.set q i h2)
/-! steps of the heap -/
theorem upd_there {p : Addr} {o : HO} (b : Addr) (h : H b ≠ none) : upd H p o b ≠ none := by
  by_cases e : b = p
  · subst e; rw [upd_same]; simp
  · rw [upd_ne e]; exact h
/-- a new object by value -/
theorem Ext.laid {p : Addr} {o : HO} (h : H p = none) : Ext H μ (upd H p o) μ :=
  ⟨⟨[], by simp⟩, fun b u e _ _ => by rw [upd_ne (ne_of_none e h)]; exact e, fun _ m => .inl m, upd_there, fun _ t => t.upd (.inl h)⟩
theorem Cells.laid {p : Addr} {o : HO} {O : Ow} (c : Cells K H hid μ O) (h : H p = none) : Cells K (upd H p o) hid μ O := by
  refine ⟨c.len, c.nd, c.nh, fun a m => ?_, fun k a e => ?_⟩
  · by_cases q : a = p
    · subst q; rw [upd_same]; simp
    · rw [upd_ne q]; exact c.ht a m
  · obtain ⟨ds, vs, h1, h2, h3⟩ := c.at_ k a e
    exact ⟨ds, vs, h1, by rw [upd_ne (ne_of_none h2 h)]; exact h2, h3.ext (.laid h)⟩
theorem Cells.not_in {O : Ow} (c : Cells K H hid μ O) {p : Addr} (h : H p = none) : p ∉ hid ∧ p ∉ μ := by
  refine ⟨fun m => c.ht p m h, fun m => ?_⟩
  obtain ⟨k, hk, e⟩ := List.mem_iff_getElem.mp m
  obtain ⟨ds, vs, _, h2, _⟩ := c.at_ k p (by rw [List.getElem?_eq_some_iff]; exact ⟨hk, e⟩)
  rw [h] at h2; cases h2
/-- a new list by value, a new tuple by value -/
theorem Dat.newL {O : Ow} {p : Addr} {vs : List V} {ds : List D} (c : Cells K H hid μ O) (h : H p = none) (q : Dats K H hid μ ds vs) : Dat K (upd H p (.lst vs)) hid μ (.lst ds) (.ref p) := by
  unfold Dat
  exact ⟨p, vs, rfl, .inl ⟨.inl upd_same, c.not_in h⟩, q.ext (.laid h)⟩
theorem Dat.newT {O : Ow} {p : Addr} {vs : List V} {ds : List D} (c : Cells K H hid μ O) (h : H p = none) (q : Dats K H hid μ ds vs) : Dat K (upd H p (.tup vs)) hid μ (.tup ds) (.ref p) := by
  unfold Dat
  exact ⟨p, vs, rfl, .inl ⟨.inl upd_same, c.not_in h⟩, q.ext (.laid h)⟩
/-- a new cell -/
theorem Ext.cell {p : Addr} {o : HO} (h : H p = none) : Ext H μ (upd H p o) (μ ++ [p]) :=
  ⟨⟨[p], rfl⟩, fun b u e _ _ => by rw [upd_ne (ne_of_none e h)]; exact e, fun b m => by
    rcases List.mem_append.mp m with m | m
    · exact .inl m
    · have : b = p := by simpa using m
      subst this; exact .inr h, upd_there, fun _ t => t.upd (.inl h)⟩
theorem Cells.cell {O : Ow} {p : Addr} {vs : List V} {ds : List D} (c : Cells K H hid μ O) (h : H p = none) (q : Dats K H hid μ ds vs) : Cells K (upd H p (.lst vs)) hid (μ ++ [p]) (O ++ [ds]) := by
  have ni := c.not_in h
  refine ⟨by simp [c.len], ?_, fun a m => ?_, fun a m => ?_, fun k a e => ?_⟩
  · rw [List.nodup_append]
    refine ⟨c.nd, by simp, fun a ha b hb => ?_⟩
    have : b = p := by simpa using hb
    subst this
    rintro rfl
    exact ni.2 ha
  · rcases List.mem_append.mp m with m | m
    · exact c.nh a m
    · have : a = p := by simpa using m
      subst this; exact ni.1
  · by_cases q : a = p
    · subst q; rw [upd_same]; simp
    · rw [upd_ne q]; exact c.ht a m
  · by_cases hk : k < μ.length
    · rw [List.getElem?_append_left hk] at e
      obtain ⟨ds', vs', h1, h2, h3⟩ := c.at_ k a e
      exact ⟨ds', vs', by rw [List.getElem?_append_left (by rw [← c.len]; exact hk)]; exact h1, by rw [upd_ne (ne_of_none h2 h)]; exact h2, h3.ext (.cell h)⟩
    · rw [List.getElem?_append_right (by omega)] at e
      have e0 : k - μ.length = 0 := by
        have := (List.getElem?_eq_some_iff.mp e).1
        simp at this; omega
      rw [e0] at e
      simp at e; subst e
      refine ⟨ds, vs, ?_, upd_same, q.ext (.cell h)⟩
      have : k = O.length := by have := c.len; omega
      subst this; simp
/-- a cell is changed -/
theorem Ext.put {p : Addr} {o : HO} (h : p ∈ μ) (hl : ∃ vs, H p = some (.lst vs)) : Ext H μ (upd H p o) μ :=
  ⟨⟨[], by simp⟩, fun b u e n _ => by rw [upd_ne (by rintro rfl; exact n h)]; exact e, fun _ m => .inl m, upd_there, fun _ t => t.upd (.inr hl)⟩
theorem Cells.put {O : Ow} {p : Addr} {k : Nat} {vs : List V} {ds : List D} (c : Cells K H hid μ O) (hk : μ[k]? = some p) (q : Dats K H hid μ ds vs) : Cells K (upd H p (.lst vs)) hid μ (O.set k ds) := by
  have hm : p ∈ μ := List.mem_of_getElem? hk
  have hl : ∃ vs, H p = some (.lst vs) := let ⟨_, vs, _, h2, _⟩ := c.at_ k p hk; ⟨vs, h2⟩
  refine ⟨by simp [c.len], c.nd, c.nh, fun a m => ?_, fun j a e => ?_⟩
  · by_cases q : a = p
    · subst q; rw [upd_same]; simp
    · rw [upd_ne q]; exact c.ht a m
  · by_cases hj : j = k
    · subst hj
      rw [hk] at e; cases e
      refine ⟨ds, vs, ?_, upd_same, q.ext (.put hm hl)⟩
      rw [List.getElem?_set_self (by rw [← c.len]; exact (List.getElem?_eq_some_iff.mp hk).1)]
    · have ne : a ≠ p := by
        rintro rfl
        obtain ⟨h1, e1⟩ := List.getElem?_eq_some_iff.mp e
        obtain ⟨h2, e2⟩ := List.getElem?_eq_some_iff.mp hk
        exact hj ((List.getElem_inj c.nd).mp (e1.trans e2.symm))
      obtain ⟨ds', vs', h1, h2, h3⟩ := c.at_ j a e
      exact ⟨ds', vs', by rw [List.getElem?_set_ne (Ne.symm hj)]; exact h1, by rw [upd_ne ne]; exact h2, h3.ext (.put hm hl)⟩
end

/-! ### readings -/
section
variable (Ex : Nat → Hp → Prop) (K : PySem.W.Frag)
def post {α β : Type} (rel : Hp → List Addr → α → β → Prop) (H : Hp) (hid μ : List Addr) (r : R α) (Q : β → Hp → Prop) : Prop := match r with
  | .ok d O' => ∀ v H' μ', Ext H μ H' μ' → Cells K H' hid μ' O' → rel H' μ' d v → Q v H'
  | .exc c O' => ∀ H' μ', Ext H μ H' μ' → Cells K H' hid μ' O' → Ex c H'
  | .bad => False
abbrev postE (H : Hp) (hid μ : List Addr) (r : R D) (Q : VK) : Prop := post Ex K (fun H' μ' d v => Dat K H' hid μ' d v) H hid μ r Q
abbrev postT (H : Hp) (hid μ : List Addr) (r : R Bool) (Q : Bool → Hp → Prop) : Prop := post Ex K (fun _ _ d v => d = v) H hid μ r Q
abbrev postA (H : Hp) (hid μ : List Addr) (r : R (List D)) (Q : List V → Hp → Prop) : Prop := post Ex K (fun H' μ' d v => Dats K H' hid μ' d v) H hid μ r Q
def rd (t : DE) : TE := fun σv H Q => ∃ hid μ σ O, EnvOk K H hid μ σ σv ∧ Cells K H hid μ O ∧ postE Ex K H hid μ (t σ O) Q
def rdT (t : DT) : TT := fun σv H Q => ∃ hid μ σ O, EnvOk K H hid μ σ σv ∧ Cells K H hid μ O ∧ postT Ex K H hid μ (t σ O) Q
def rdA (t : DA) : TA := fun σv H Q => ∃ hid μ σ O, EnvOk K H hid μ σ σv ∧ Cells K H hid μ O ∧ postA Ex K H hid μ (t σ O) Q
end
section
variable {Ex : Nat → Hp → Prop} {K : PySem.W.Frag} {H H1 : Hp} {hid μ μ1 : List Addr}
theorem post.ext {α β : Type} {rel : Hp → List Addr → α → β → Prop} {r : R α} {Q : β → Hp → Prop} (h : post Ex K rel H hid μ r Q) (e : Ext H μ H1 μ1) : post Ex K rel H1 hid μ1 r Q := by
  cases r with
  | ok d O' => exact fun v H' μ' e' c q => h v H' μ' (e.trans e') c q
  | exc c O' => exact fun H' μ' e' c => h H' μ' (e.trans e') c
  | bad => exact h
/-- one step, then the rest -/
theorem post.bnd {α β α' β' : Type} {rel : Hp → List Addr → α → β → Prop} {rel' : Hp → List Addr → α' → β' → Prop} {r : R α} {k : α → Ow → R α'} {Q : β' → Hp → Prop} {Q1 : β → Hp → Prop}
    (h : post Ex K rel' H hid μ (r.bnd k) Q)
    (hk : ∀ d O1 v H1 μ1, Ext H μ H1 μ1 → Cells K H1 hid μ1 O1 → rel H1 μ1 d v → post Ex K rel' H1 hid μ1 (k d O1) Q → Q1 v H1) : post Ex K rel H hid μ r Q1 := by
  cases r with
  | ok d O' => exact fun v H' μ' e c q => hk d O' v H' μ' e c q (post.ext (show post Ex K rel' H hid μ (k d O') Q from h) e)
  | exc c O' => exact h
  | bad => exact h
theorem post.ok {α β : Type} {rel : Hp → List Addr → α → β → Prop} {d : α} {O : Ow} {Q : β → Hp → Prop} {v : β} (h : post Ex K rel H hid μ (.ok d O) Q) {H' : Hp} {μ' : List Addr} (e : Ext H μ H' μ') (c : Cells K H' hid μ' O) (q : rel H' μ' d v) : Q v H' := h v H' μ' e c q
theorem post.here {α β : Type} {rel : Hp → List Addr → α → β → Prop} {d : α} {O : Ow} {Q : β → Hp → Prop} {v : β} (h : post Ex K rel H hid μ (.ok d O) Q) (c : Cells K H hid μ O) (q : rel H μ d v) : Q v H := h v H μ .refl c q
end
/-! ### the judgements -/
structure PD (X : Cx) (Ex : Nat → Hp → Prop) (e : Expr) (t : DE) : Prop where
  out : PE X e (rd Ex X.K t)
structure PDT (X : Cx) (Ex : Nat → Hp → Prop) (e : Expr) (t : DT) : Prop where
  out : PT X e (rdT Ex X.K t)
structure PDA (X : Cx) (Ex : Nat → Hp → Prop) (es : List Expr) (t : DA) : Prop where
  out : PA X es (rdA Ex X.K t)
theorem PE.imp {X : Cx} {e : Expr} {t t' : TE} (h : PE X e t) (f : ∀ σ H Q, t' σ H Q → t σ H Q) : PE X e t' := fun pins s σ H Q I q => h pins s σ H Q I (f σ H Q q)
theorem PT.imp {X : Cx} {e : Expr} {t t' : TT} (h : PT X e t) (f : ∀ σ H Q, t' σ H Q → t σ H Q) : PT X e t' := fun pins s σ H Q I q => h pins s σ H Q I (f σ H Q q)
theorem PA.imp {X : Cx} {e : List Expr} {t t' : TA} (h : PA X e t) (f : ∀ σ H Q, t' σ H Q → t σ H Q) : PA X e t' := fun pos pins s σ H Q I q => h pos pins s σ H Q I (f σ H Q q)
theorem PW.imp {X : Cx} {e : Expr} {t t' : TT} (h : PW X e t) (f : ∀ σ H Q, t' σ H Q → t σ H Q) : PW X e t' := fun w pins s σ H Q I q => h w pins s σ H Q I (f σ H Q q)
end DL

namespace DL
open PySem L2

/-! ### names, constants -/
def dVar (i : Nat) : DE := fun σ O => match σ[i]? with
  | some (some d) => .ok d O
  | _ => .bad
def dC (d : D) : DE := fun _ O => .ok d O
section
variable {X : Cx} {Ex : Nat → Hp → Prop} {pos : Pos} {a b c : Expr} {ta tb tc : DE}
theorem pd_of {e : Expr} {t : TE} {t' : DE} (h : PE X e t) (f : ∀ hid μ σ O σv H Q, EnvOk X.K H hid μ σ σv → Cells X.K H hid μ O → postE Ex X.K H hid μ (t' σ O) Q → t σv H Q) : PD X Ex e t' :=
  ⟨PE.imp h fun σv H Q ⟨hid, μ, σ, O, e1, c1, q⟩ => f hid μ σ O σv H Q e1 c1 q⟩
theorem pdt_of {e : Expr} {t : TT} {t' : DT} (h : PT X e t) (f : ∀ hid μ σ O σv H Q, EnvOk X.K H hid μ σ σv → Cells X.K H hid μ O → postT Ex X.K H hid μ (t' σ O) Q → t σv H Q) : PDT X Ex e t' :=
  ⟨PT.imp h fun σv H Q ⟨hid, μ, σ, O, e1, c1, q⟩ => f hid μ σ O σv H Q e1 c1 q⟩
theorem pda_of {e : List Expr} {t : TA} {t' : DA} (h : PA X e t) (f : ∀ hid μ σ O σv H Q, EnvOk X.K H hid μ σ σv → Cells X.K H hid μ O → postA Ex X.K H hid μ (t' σ O) Q → t σv H Q) : PDA X Ex e t' :=
  ⟨PA.imp h fun σv H Q ⟨hid, μ, σ, O, e1, c1, q⟩ => f hid μ σ O σv H Q e1 c1 q⟩
/-- step into a part -/
theorem rd.go {α' β' : Type} {rel' : Hp → List Addr → α' → β' → Prop} {t : DE} {hid μ : List Addr} {σ : Sg} {O : Ow} {σv : St} {H : Hp} {Q1 : VK} {k : D → Ow → R α'} {Q : β' → Hp → Prop} (e1 : EnvOk X.K H hid μ σ σv) (c1 : Cells X.K H hid μ O)
    (q : post Ex X.K rel' H hid μ ((t σ O).bnd k) Q)
    (f : ∀ d O1 v H1 μ1, EnvOk X.K H1 hid μ1 σ σv → Ext H μ H1 μ1 → Cells X.K H1 hid μ1 O1 → Dat X.K H1 hid μ1 d v → post Ex X.K rel' H1 hid μ1 (k d O1) Q → Q1 v H1) : rd Ex X.K t σv H Q1 :=
  ⟨hid, μ, σ, O, e1, c1, post.bnd q fun d O1 v H1 μ1 x c r p => f d O1 v H1 μ1 (e1.ext x) x c r p⟩
theorem rdT.go {α' β' : Type} {rel' : Hp → List Addr → α' → β' → Prop} {t : DT} {hid μ : List Addr} {σ : Sg} {O : Ow} {σv : St} {H : Hp} {Q1 : Bool → Hp → Prop} {k : Bool → Ow → R α'} {Q : β' → Hp → Prop} (e1 : EnvOk X.K H hid μ σ σv) (c1 : Cells X.K H hid μ O)
    (q : post Ex X.K rel' H hid μ ((t σ O).bnd k) Q)
    (f : ∀ v O1 H1 μ1, EnvOk X.K H1 hid μ1 σ σv → Ext H μ H1 μ1 → Cells X.K H1 hid μ1 O1 → post Ex X.K rel' H1 hid μ1 (k v O1) Q → Q1 v H1) : rdT Ex X.K t σv H Q1 :=
  ⟨hid, μ, σ, O, e1, c1, post.bnd q fun d O1 v H1 μ1 x c r p => by
    have r : d = v := r
    subst r
    exact f d O1 H1 μ1 (e1.ext x) x c p⟩
theorem rdA.go {α' β' : Type} {rel' : Hp → List Addr → α' → β' → Prop} {t : DA} {hid μ : List Addr} {σ : Sg} {O : Ow} {σv : St} {H : Hp} {Q1 : List V → Hp → Prop} {k : List D → Ow → R α'} {Q : β' → Hp → Prop} (e1 : EnvOk X.K H hid μ σ σv) (c1 : Cells X.K H hid μ O)
    (q : post Ex X.K rel' H hid μ ((t σ O).bnd k) Q)
    (f : ∀ d O1 v H1 μ1, EnvOk X.K H1 hid μ1 σ σv → Ext H μ H1 μ1 → Cells X.K H1 hid μ1 O1 → Dats X.K H1 hid μ1 d v → post Ex X.K rel' H1 hid μ1 (k d O1) Q → Q1 v H1) : rdA Ex X.K t σv H Q1 :=
  ⟨hid, μ, σ, O, e1, c1, post.bnd q fun d O1 v H1 μ1 x c r p => f d O1 v H1 μ1 (e1.ext x) x c r p⟩

theorem pd_var {i : Nat} {x : Str} (hN : X.N[i]? = some x) (hv : Vis X.env.scope x) (hd : (x == ("__debug__" : Str)) = false := by decide) (hcd : (x == ("__classdict__" : Str)) = false := by decide) : PD X Ex (.Name x pos) (dVar i) :=
  pd_of (pe_var hN hv hd hcd) fun hid μ σ O σv H Q e1 c1 q => by
    unfold dVar at q
    split at q
    · rename_i d hd
      obtain ⟨v, h1, h2⟩ := e1.at_ i d hd
      exact ⟨v, h1, post.here q c1 h2⟩
    · exact False.elim q
theorem pd_int {i j} : PD X Ex (.Constant (.int i) j pos) (dC (.int i)) := pd_of pe_int fun hid μ σ O σv H Q e1 c1 q => post.here q c1 (by unfold Dat; rfl)
theorem pd_bl {i j} : PD X Ex (.Constant (.bool i) j pos) (dC (.bl i)) := pd_of pe_bl fun hid μ σ O σv H Q e1 c1 q => post.here q c1 (by unfold Dat; rfl)
theorem pd_non {j} : PD X Ex (.Constant .none j pos) (dC .non) := pd_of pe_non fun hid μ σ O σv H Q e1 c1 q => post.here q c1 (by unfold Dat; rfl)
theorem pd_str {x : Str} {j} (cs : List Nat) (h : x = ⟨cs.toArray⟩) : PD X Ex (.Constant (.str x) j pos) (dC (.str cs)) := pd_of pe_str fun hid μ σ O σv H Q e1 c1 q => post.here q c1 (by unfold Dat; rw [h])
theorem pd_globS {x : Str} {y : Str} {t : Tok} (cs : List Nat) (hg : Gl X x) (hm : X.mg x = some (.str y t)) (h : y = ⟨cs.toArray⟩) (hd : (x == ("__debug__" : Str)) = false := by decide) : PD X Ex (.Name x pos) (dC (.str cs)) :=
  pd_of (pe_glob (v := .str y) hg hm ⟨t, rfl⟩ hd) fun hid μ σ O σv H Q e1 c1 q => post.here q c1 (by unfold Dat; rw [h])

/-! ### operators -/
def dOp (f : Ow → D → D → R D) (ta tb : DE) : DE := fun σ O => (ta σ O).bnd fun x O1 => (tb σ O1).bnd fun y O2 => f O2 x y
/-- an operation by data -/
def OpD (X : Cx) (Ex : Nat → Hp → Prop) (r : R2) (f : Ow → D → D → R D) : Prop := ∀ (H : Hp) (hid μ : List Addr) (O : Ow) (x y : D) (v w : V) (Q : VK), Cells X.K H hid μ O → Dat X.K H hid μ x v → Dat X.K H hid μ y w → postE Ex X.K H hid μ (f O x y) Q → r v w H Q
theorem tOp_of {r : R2} {f : Ow → D → D → R D} (h : OpD X Ex r f) (hid μ : List Addr) (σ : Sg) (O : Ow) (σv : St) (H : Hp) (Q : VK) (e1 : EnvOk X.K H hid μ σ σv) (c1 : Cells X.K H hid μ O) (q : postE Ex X.K H hid μ (dOp f ta tb σ O) Q) :
    tOp r (rd Ex X.K ta) (rd Ex X.K tb) σv H Q :=
  rd.go e1 c1 q fun x O1 v H1 μ1 e2 x2 c2 d2 q2 => rd.go e2 c2 q2 fun y O2 w H2 μ2 e3 x3 c3 d3 q3 => h H2 hid μ2 O2 x y v w Q c3 (d2.ext x3) d3 q3
theorem pd_op {op : Operator} {r : R2} {f : Ow → D → D → R D} (ho : OpR X (binaryOp op) r) (h : OpD X Ex r f) (ha : PD X Ex a ta) (hb : PD X Ex b tb) : PD X Ex (.BinOp a op b pos) (dOp f ta tb) :=
  pd_of (pe_op ho ha.out hb.out) (tOp_of h)
theorem pd_cmp {op : CmpOp} {r : R2} {f : Ow → D → D → R D} (ho : OpR X (compareOp op) r) (h : OpD X Ex r f) (ha : PD X Ex a ta) (hb : PD X Ex b tb) (hm : behindInMarks op b = false) : PD X Ex (.Compare a [op] [b] pos) (dOp f ta tb) :=
  pd_of (pe_cmpR ho ha.out hb.out hm) (tOp_of h)
/-- a value as a test -/
def dTst (t : DE) : DT := fun σ O => (t σ O).bnd fun x O1 => match x with
  | .bl k => .ok k O1
  | _ => .bad
theorem tTest_of {t : TE} {td : DE} (f : ∀ hid μ σ O σv H Q, EnvOk X.K H hid μ σ σv → Cells X.K H hid μ O → postE Ex X.K H hid μ (td σ O) Q → t σv H Q) (hid μ : List Addr) (σ : Sg) (O : Ow) (σv : St) (H : Hp) (Q : Bool → Hp → Prop)
    (e1 : EnvOk X.K H hid μ σ σv) (c1 : Cells X.K H hid μ O) (q : postT Ex X.K H hid μ (dTst td σ O) Q) : tTest t σv H Q := by
  refine f hid μ σ O σv H _ e1 c1 ?_
  refine post.bnd q fun d O1 v H1 μ1 x c r p => ?_
  cases d with
  | bl k =>
    have r : v = .bl k := by unfold Dat at r; exact r
    exact ⟨k, r, post.here p c rfl⟩
  | _ => exact False.elim p
theorem pdt_cmp {op : CmpOp} {r : R2} {f : Ow → D → D → R D} (ho : OpR X (compareOp op) r) (h : OpD X Ex r f) (ha : PD X Ex a ta) (hb : PD X Ex b tb) (hm : behindInMarks op b = false) : PDT X Ex (.Compare a [op] [b] pos) (dTst (dOp f ta tb)) :=
  pdt_of (pt_cmpR ho ha.out hb.out hm) (tTest_of (tOp_of h))
/-- any value's truth -/
def truD (O : Ow) : D → R Bool
  | .non => .ok false O
  | .bl b => .ok b O
  | .int i => .ok (i != 0) O
  | .str cs => if cs.length ≤ 100000 then .ok (!cs.isEmpty) O else .bad
  | .lst ds => .ok (!ds.isEmpty) O
  | .tup ds => .ok (!ds.isEmpty) O
  | .own k => match O[k]? with
    | some ds => .ok (!ds.isEmpty) O
    | none => .bad
  | .dct => .bad
  | .exn _ => .bad
  | .tab _ => .bad
def dTru (t : DE) : DT := fun σ O => (t σ O).bnd fun x O1 => truD O1 x
theorem small_line {n : Nat} (h : n ≤ 100000) : n ≤ sizeLine := Nat.le_trans h (by decide)
theorem isEmpty_of_dats {K : PySem.W.Frag} {H : Hp} {hid μ : List Addr} {ds : List D} {vs : List V} (h : Dats K H hid μ ds vs) : (!ds.isEmpty) = !vs.isEmpty := by
  have e := h.length
  cases ds <;> cases vs <;> simp_all
theorem pdt_tru (ha : PD X Ex a ta) (he : ∀ whole, isTrue a X.env whole = (do let v ← whole; standAt a.pos; holding [v] (truthy v))) : PDT X Ex a (dTru ta) :=
  pdt_of (pt_truth ha.out he) fun hid μ σ O σv H Q e1 c1 q => rd.go e1 c1 q fun d O1 v H1 μ1 e2 x c r p => by
    cases d with
    | non => unfold Dat at r; subst r; exact ⟨_, rfl, post.here p c rfl⟩
    | bl b => unfold Dat at r; subst r; exact ⟨_, rfl, post.here p c rfl⟩
    | int b => unfold Dat at r; subst r; exact ⟨_, rfl, post.here p c rfl⟩
    | str cs =>
      unfold Dat at r; subst r
      by_cases hl : cs.length ≤ 100000
      · have p' : postT Ex X.K H1 hid μ1 (.ok (!cs.isEmpty) O1) Q := by
          have p2 : postT Ex X.K H1 hid μ1 (if cs.length ≤ 100000 then .ok (!cs.isEmpty) O1 else .bad) Q := p
          rw [if_pos hl] at p2; exact p2
        refine ⟨_, ⟨?_, rfl⟩, ?_⟩
        · show cs.toArray.size ≤ _
          rw [List.size_toArray]; exact small_line hl
        · have e : (((⟨cs.toArray⟩ : Str).length : Int) != 0) = !cs.isEmpty := by
            show ((cs.toArray.size : Int) != 0) = _
            rw [List.size_toArray]
            cases cs <;> simp [bne]
            omega
          rw [e]; exact post.here p' c rfl
      · have p2 : postT Ex X.K H1 hid μ1 (if cs.length ≤ 100000 then .ok (!cs.isEmpty) O1 else .bad) Q := p
        rw [if_neg hl] at p2; exact False.elim p2
    | lst ds =>
      unfold Dat at r
      obtain ⟨a, vs, rfl, l, q⟩ := r
      exact ⟨_, .inl ⟨vs, l.sq, rfl⟩, by rw [← isEmpty_of_dats q]; exact post.here p c rfl⟩
    | tup ds =>
      unfold Dat at r
      obtain ⟨a, vs, rfl, l, q⟩ := r
      exact ⟨_, .inr (.inl ⟨vs, l.sq, rfl⟩), by rw [← isEmpty_of_dats q]; exact post.here p c rfl⟩
    | own k =>
      unfold Dat at r
      obtain ⟨a, rfl, hk⟩ := r
      obtain ⟨ds, vs, h1, h2, h3⟩ := c.at_ k a hk
      have p' : postT Ex X.K H1 hid μ1 (.ok (!ds.isEmpty) O1) Q := by
        have p2 : postT Ex X.K H1 hid μ1 (match O1[k]? with | some ds => .ok (!ds.isEmpty) O1 | none => .bad) Q := p
        rw [h1] at p2; exact p2
      exact ⟨_, .inl ⟨vs, .of h2, rfl⟩, by rw [← isEmpty_of_dats h3]; exact post.here p' c rfl⟩
    | dct => exact False.elim p
    | exn _ => exact False.elim p
    | tab _ => exact False.elim p
/-! ints -/
def fI (g : Int → Int → Option D) : Ow → D → D → R D := fun O x y => match x, y with
  | .int i, .int j => match g i j with
    | some d => .ok d O
    | none => .bad
  | _, _ => .bad
theorem opd_int {C : Int → Int → Prop} {gv : Int → Int → V} {g : Int → Int → Option D} (h : ∀ i j d, g i j = some d → C i j ∧ ∀ K H hid μ, Dat K H hid μ d (gv i j)) : OpD X Ex (rI C gv) (fI g) := by
  intro H hid μ O x y v w Q c dx dy q
  unfold fI at q
  split at q
  · rename_i i j
    unfold Dat at dx dy
    subst dx; subst dy
    split at q
    · rename_i d hd
      obtain ⟨h1, h2⟩ := h i j d hd
      exact ⟨i, j, rfl, rfl, h1, post.here q c (h2 _ _ _ _)⟩
    · exact False.elim q
  · exact False.elim q
theorem opd_int0 {gv : Int → Int → V} {g : Int → Int → Option D} (h : ∀ i j d, g i j = some d → ∀ K H hid μ, Dat K H hid μ d (gv i j)) : OpD X Ex (rI0 gv) (fI g) := by
  intro H hid μ O x y v w Q c dx dy q
  unfold fI at q
  split at q
  · rename_i i j
    unfold Dat at dx dy
    subst dx; subst dy
    split at q
    · rename_i d hd
      exact ⟨i, j, rfl, rfl, post.here q c (h i j d hd _ _ _ _)⟩
    · exact False.elim q
  · exact False.elim q
theorem dat_int {K H hid μ} {i : Int} : Dat K H hid μ (.int i) (.int i) := by unfold Dat; rfl
theorem dat_bl {K H hid μ} {i : Bool} : Dat K H hid μ (.bl i) (.bl i) := by unfold Dat; rfl
theorem dat_non {K H hid μ} : Dat K H hid μ .non .non := by unfold Dat; rfl
theorem dat_str {K H hid μ} {cs : List Nat} : Dat K H hid μ (.str cs) (.str ⟨cs.toArray⟩) := by unfold Dat; rfl
def gB (p : Int → Int → Bool) : Int → Int → Option D := fun i j => some (.bl (p i j))
def gI (p : Int → Int → Int) : Int → Int → Option D := fun i j => some (.int (p i j))
def gSub : Int → Int → Option D := gI fun i j => i - j
def gMul : Int → Int → Option D := fun i j => if (-1000000000000000 < i ∧ i < 1000000000000000) ∨ (-1000000000000000 < j ∧ j < 1000000000000000) then some (.int (i * j)) else none
def gDiv : Int → Int → Option D := fun i j => if 0 < j ∧ j < 1073741824 then some (.int (i / j)) else none
def gMod : Int → Int → Option D := fun i j => if 0 < j then some (.int (i % j)) else none
def gPow : Int → Int → Option D := fun i j => if 0 ≤ j ∧ j ≤ 1000000 ∧ i.natAbs < 2 ^ 64 then some (.int (i ^ j.toNat)) else none
def gShl : Int → Int → Option D := fun i j => if 0 ≤ j ∧ j ≤ 1000000 ∧ i.natAbs < 2 ^ 64 then some (.int (i * 2 ^ j.toNat)) else none
theorem opd_sub : OpD X Ex (rI0 fun i j => .int (i - j)) (fI gSub) := opd_int0 fun i j d h _ _ _ _ => by cases h; exact dat_int
theorem opd_mul : OpD X Ex (rI CMul fun i j => .int (i * j)) (fI gMul) := opd_int fun i j d h => by
  unfold gMul at h; split at h
  · rename_i hc; cases h; exact ⟨hc.imp (fun z => ⟨by omega, by omega⟩) fun z => ⟨by omega, by omega⟩, fun _ _ _ _ => dat_int⟩
  · cases h
theorem opd_div : OpD X Ex (rI CDiv fun i j => .int (i / j)) (fI gDiv) := opd_int fun i j d h => by
  unfold gDiv at h; split at h
  · rename_i hc; cases h; exact ⟨hc, fun _ _ _ _ => dat_int⟩
  · cases h
theorem opd_mod : OpD X Ex (rI (fun _ j => 0 < j) fun i j => .int (i % j)) (fI gMod) := opd_int fun i j d h => by
  unfold gMod at h; split at h
  · rename_i hc; cases h; exact ⟨hc, fun _ _ _ _ => dat_int⟩
  · cases h
theorem opd_pow : OpD X Ex (rI CPow fun i j => .int (i ^ j.toNat)) (fI gPow) := opd_int fun i j d h => by
  unfold gPow at h; split at h
  · rename_i hc; cases h; exact ⟨hc, fun _ _ _ _ => dat_int⟩
  · cases h
theorem opd_shl : OpD X Ex (rI CPow fun i j => .int (i * 2 ^ j.toNat)) (fI gShl) := opd_int fun i j d h => by
  unfold gShl at h; split at h
  · rename_i hc; cases h; exact ⟨hc, fun _ _ _ _ => dat_int⟩
  · cases h
def fLt : Ow → D → D → R D := fI (gB fun i j => decide (i < j))
def fLe : Ow → D → D → R D := fI (gB fun i j => decide (i ≤ j))
def fGe : Ow → D → D → R D := fI (gB fun i j => decide (j ≤ i))
theorem opd_lt : OpD X Ex (rI0 fun i j => .bl (decide (i < j))) fLt := opd_int0 fun i j d h _ _ _ _ => by cases h; exact dat_bl
theorem opd_le : OpD X Ex (rI0 fun i j => .bl (decide (i ≤ j))) fLe := opd_int0 fun i j d h _ _ _ _ => by cases h; exact dat_bl
theorem opd_ge : OpD X Ex (rI0 fun i j => .bl (decide (j ≤ i))) fGe := opd_int0 fun i j d h _ _ _ _ => by cases h; exact dat_bl
/-! is None -/
def isNon : D → Bool
  | .non => true
  | _ => false
def fIsN : Ow → D → D → R D := fun O x y => match y with
  | .non => .ok (.bl (isNon x)) O
  | _ => .bad
theorem dat_isN {K H hid μ} {x : D} {v : V} (h : Dat K H hid μ x v) : decide (v = .non) = isNon x := by
  cases x with
  | non => unfold Dat at h; subst h; rfl
  | bl _ => unfold Dat at h; subst h; rfl
  | int _ => unfold Dat at h; subst h; rfl
  | str _ => unfold Dat at h; subst h; rfl
  | lst _ => unfold Dat at h; obtain ⟨_, _, rfl, _⟩ := h; rfl
  | tup _ => unfold Dat at h; obtain ⟨_, _, rfl, _⟩ := h; rfl
  | own _ => unfold Dat at h; obtain ⟨_, rfl, _⟩ := h; rfl
  | dct => unfold Dat at h; obtain ⟨_, rfl, _⟩ := h; rfl
  | exn _ => unfold Dat at h; obtain ⟨_, _, rfl, _⟩ := h; rfl
  | tab _ => unfold Dat at h; obtain ⟨rfl, _⟩ := h; rfl
theorem opd_isN : OpD X Ex (fun x y H Q => y = .non ∧ Q (.bl (decide (x = .non))) H) fIsN := by
  intro H hid μ O x y v w Q c dx dy q
  cases y with
  | non =>
    unfold Dat at dy; subst dy
    refine ⟨rfl, ?_⟩
    rw [dat_isN dx]
    exact post.here (show postE Ex X.K H hid μ (.ok (.bl (isNon x)) O) Q from q) c dat_bl
  | _ => exact False.elim q
/-! ### and, or, not, if -/
def dAnd (t u : DE) : DE := fun σ O => (t σ O).bnd fun x O1 => match x with
  | .bl true => u σ O1
  | .bl false => .ok (.bl false) O1
  | _ => .bad
def dOr (t u : DE) : DE := fun σ O => (t σ O).bnd fun x O1 => match x with
  | .bl true => .ok (.bl true) O1
  | .bl false => u σ O1
  | _ => .bad
def dNot (t : DE) : DE := fun σ O => (t σ O).bnd fun x O1 => match x with
  | .bl b => .ok (.bl (!b)) O1
  | _ => .bad
def dAndT (t u : DT) : DT := fun σ O => (t σ O).bnd fun x O1 => if x = true then u σ O1 else .ok false O1
def dOrT (t u : DT) : DT := fun σ O => (t σ O).bnd fun x O1 => if x = true then .ok true O1 else u σ O1
def dNotT (t : DT) : DT := fun σ O => (t σ O).bnd fun x O1 => .ok (!x) O1
theorem pd_one {op} (ha : PD X Ex a ta) : PD X Ex (.BoolOp op [a] pos) ta := ⟨pe_one ha.out⟩
theorem pd_and {rest : List Expr} (ha : PD X Ex a ta) (hb : PD X Ex (.BoolOp .And (b :: rest) pos) tb) : PD X Ex (.BoolOp .And (a :: b :: rest) pos) (dAnd ta tb) :=
  pd_of (pe_and ha.out hb.out) fun hid μ σ O σv H Q e1 c1 q => rd.go e1 c1 q fun d O1 v H1 μ1 e2 x c r p => by
    cases d with
    | bl k =>
      unfold Dat at r; subst r
      refine ⟨k, rfl, ?_⟩
      cases k with
      | true => rw [if_pos rfl]; exact ⟨hid, μ1, σ, O1, e2, c, p⟩
      | false => rw [if_neg Bool.false_ne_true]; exact post.here p c dat_bl
    | _ => exact False.elim p
theorem pd_or {rest : List Expr} (ha : PD X Ex a ta) (hb : PD X Ex (.BoolOp .Or (b :: rest) pos) tb) : PD X Ex (.BoolOp .Or (a :: b :: rest) pos) (dOr ta tb) :=
  pd_of (pe_or ha.out hb.out) fun hid μ σ O σv H Q e1 c1 q => rd.go e1 c1 q fun d O1 v H1 μ1 e2 x c r p => by
    cases d with
    | bl k =>
      unfold Dat at r; subst r
      refine ⟨k, rfl, ?_⟩
      cases k with
      | true => rw [if_pos rfl]; exact post.here p c dat_bl
      | false => rw [if_neg Bool.false_ne_true]; exact ⟨hid, μ1, σ, O1, e2, c, p⟩
    | _ => exact False.elim p
theorem pd_not (ha : PD X Ex a ta) : PD X Ex (.UnaryOp .Not a pos) (dNot ta) :=
  pd_of (pe_not ha.out) fun hid μ σ O σv H Q e1 c1 q => rd.go e1 c1 q fun d O1 v H1 μ1 e2 x c r p => by
    cases d with
    | bl k => unfold Dat at r; subst r; exact ⟨k, rfl, post.here p c dat_bl⟩
    | _ => exact False.elim p
structure PDW (X : Cx) (Ex : Nat → Hp → Prop) (e : Expr) (t : DT) : Prop where
  out : PW X e (rdT Ex X.K t)
theorem PDW.pt {e : Expr} {t : DT} (h : PDW X Ex e t) : PDT X Ex e t := ⟨L2.PW.pt h.out⟩
theorem pw_imp {e : Expr} {t : TT} {t' : DT} (h : PW X e t) (f : ∀ hid μ σ O σv H Q, EnvOk X.K H hid μ σ σv → Cells X.K H hid μ O → postT Ex X.K H hid μ (t' σ O) Q → t σv H Q) : PDW X Ex e t' :=
  ⟨PW.imp h fun σv H Q ⟨hid, μ, σ, O, e1, c1, q⟩ => f hid μ σ O σv H Q e1 c1 q⟩
theorem pwd_and {rest : List Expr} {tA tB : DT} (ha : PDT X Ex a tA) (hb : PDW X Ex (.BoolOp .And (b :: rest) pos) tB) : PDW X Ex (.BoolOp .And (a :: b :: rest) pos) (dAndT tA tB) :=
  pw_imp (pw_and ha.out hb.out) fun hid μ σ O σv H Q e1 c1 q => rdT.go e1 c1 q fun k O1 H1 μ1 e2 x c p => by
    cases k with
    | true => rw [if_pos rfl]; exact ⟨hid, μ1, σ, O1, e2, c, p⟩
    | false => rw [if_neg Bool.false_ne_true]; exact post.here p c rfl
theorem pwd_or {rest : List Expr} {tA tB : DT} (ha : PDT X Ex a tA) (hb : PDW X Ex (.BoolOp .Or (b :: rest) pos) tB) : PDW X Ex (.BoolOp .Or (a :: b :: rest) pos) (dOrT tA tB) :=
  pw_imp (pw_or ha.out hb.out) fun hid μ σ O σv H Q e1 c1 q => rdT.go e1 c1 q fun k O1 H1 μ1 e2 x c p => by
    cases k with
    | true => rw [if_pos rfl]; exact post.here p c rfl
    | false => rw [if_neg Bool.false_ne_true]; exact ⟨hid, μ1, σ, O1, e2, c, p⟩
theorem pwd_and1 {tA : DT} (ha : PDT X Ex a tA) : PDW X Ex (.BoolOp .And [a] pos) tA := ⟨pw_and1 ha.out⟩
theorem pwd_or1 {tA : DT} (ha : PDT X Ex a tA) : PDW X Ex (.BoolOp .Or [a] pos) tA := ⟨pw_or1 ha.out⟩
theorem pdt_not {tA : DT} (ha : PDT X Ex a tA) : PDT X Ex (.UnaryOp .Not a pos) (dNotT tA) :=
  pdt_of (pt_not ha.out) fun hid μ σ O σv H Q e1 c1 q => rdT.go e1 c1 q fun k O1 H1 μ1 e2 x c p => post.here p c rfl
/-- a <= b <= c as a value -/
def dChain (f g : Ow → D → D → R D) (ta tb tc : DE) : DE := fun σ O => (ta σ O).bnd fun x O1 => (tb σ O1).bnd fun y O2 => (f O2 x y).bnd fun z O3 => match z with
  | .bl true => (tc σ O3).bnd fun w O4 => g O4 y w
  | .bl false => .ok (.bl false) O3
  | _ => .bad
theorem pd_chain {op op' : CmpOp} {r r' : R2} {f g : Ow → D → D → R D} (ho : OpR X (compareOp op) r) (h : OpD X Ex r f) (ho' : OpR X (compareOp op') r') (h' : OpD X Ex r' g) (ha : PD X Ex a ta) (hb : PD X Ex b tb) (hc : PD X Ex c tc)
    (hm : lastMarks [op, op'] [b, c] = false := by with_unfolding_all rfl) : PD X Ex (.Compare a [op, op'] [b, c] pos) (dChain f g ta tb tc) :=
  pd_of (pe_chain ho ho' ha.out hb.out hc.out hm) fun hid μ σ O σv H Q e1 c1 q => rd.go e1 c1 q fun x O1 v H1 μ1 e2 x2 c2 d2 q2 => rd.go e2 c2 q2 fun y O2 w H2 μ2 e3 x3 c3 d3 q3 =>
    h H2 hid μ2 O2 x y v w _ c3 (d2.ext x3) d3 (post.bnd q3 fun z O3 u H3 μ3 x4 c4 r4 p => by
      cases z with
      | bl k =>
        unfold Dat at r4; subst r4
        refine ⟨k, rfl, ?_⟩
        cases k with
        | true => rw [if_pos rfl]; exact rd.go (e3.ext x4) c4 p fun w2 O4 v4 H4 μ4 e5 x5 c5 d5 q5 => h' H4 hid μ4 O4 y w2 w v4 Q c5 ((d3.ext x4).ext x5) d5 q5
        | false => rw [if_neg Bool.false_ne_true]; exact post.here p c4 dat_bl
      | _ => exact False.elim p)
/-! ### argument lists, displays -/
def dNil : DA := fun _ O => .ok [] O
def dCons (t : DE) (u : DA) : DA := fun σ O => (t σ O).bnd fun x O1 => (u σ O1).bnd fun xs O2 => .ok (x :: xs) O2
theorem pda_nil : PDA X Ex [] dNil := pda_of pa_nil fun hid μ σ O σv H Q e1 c1 q => post.here q c1 .nil
theorem pda_cons {es : List Expr} {t : DA} (ha : PD X Ex a ta) (hr : PDA X Ex es t) (hs : starEach (a :: es) X.env = (false, eval a X.env) :: starEach es X.env := by rfl) : PDA X Ex (a :: es) (dCons ta t) :=
  pda_of (pa_cons ha.out hr.out hs) fun hid μ σ O σv H Q e1 c1 q => rd.go e1 c1 q fun x O1 v H1 μ1 e2 x2 c2 d2 q2 => rdA.go e2 c2 q2 fun y O2 w H2 μ2 e3 x3 c3 d3 q3 => post.here q3 c3 (.cons (d2.ext x3) d3)
def dTup (t : DA) : DE := fun σ O => (t σ O).bnd fun xs O1 => if xs.length ≤ 100000 then .ok (.tup xs) O1 else .bad
def dLst (t : DA) : DE := fun σ O => (t σ O).bnd fun xs O1 => if xs.length ≤ 100000 then .ok (.lst xs) O1 else .bad
/-- a list that is a cell -/
def dLstO (t : DA) : DE := fun σ O => (t σ O).bnd fun xs O1 => if xs.length ≤ 100000 then .ok (.own O1.length) (O1 ++ [xs]) else .bad
theorem post.ite {α β : Type} {K : PySem.W.Frag} {H : Hp} {hid μ : List Addr} {rel : Hp → List Addr → α → β → Prop} {Q : β → Hp → Prop} {c : Prop} [Decidable c] {r : R α} (h : post Ex K rel H hid μ (if c then r else .bad) Q) : c ∧ post Ex K rel H hid μ r Q := by
  by_cases hc : c
  · rw [if_pos hc] at h; exact ⟨hc, h⟩
  · rw [if_neg hc] at h; exact False.elim h
theorem pd_tup {es : List Expr} {t : DA} {x1} (h : PDA X Ex es t) : PD X Ex (.Tuple es x1 pos) (dTup t) :=
  pd_of (pe_tup h.out) fun hid μ σ O σv H Q e1 c1 q => rdA.go e1 c1 q fun xs O1 vs H1 μ1 e2 x2 c2 d2 q2 => by
    obtain ⟨hl, q2⟩ := post.ite q2
    exact ⟨by rw [← d2.length]; exact small_line hl, fun p hp => post.ok q2 (.laid hp) (c2.laid hp) (Dat.newT c2 hp d2)⟩
theorem pd_lst {es : List Expr} {t : DA} (h : PDA X Ex es t) : PD X Ex (.List es pos) (dLst t) :=
  pd_of (pe_lst h.out) fun hid μ σ O σv H Q e1 c1 q => rdA.go e1 c1 q fun xs O1 vs H1 μ1 e2 x2 c2 d2 q2 => by
    obtain ⟨hl, q2⟩ := post.ite q2
    exact ⟨by rw [← d2.length]; exact small_line hl, fun p hp => post.ok q2 (.laid hp) (c2.laid hp) (Dat.newL c2 hp d2)⟩
theorem dat_own_last {K : PySem.W.Frag} {H : Hp} {hid μ : List Addr} {p : Addr} {n : Nat} (h : μ.length = n) : Dat K H hid (μ ++ [p]) (.own n) (.ref p) := by
  unfold Dat
  exact ⟨p, rfl, by rw [← h]; simp⟩
theorem pd_lstO {es : List Expr} {t : DA} (h : PDA X Ex es t) : PD X Ex (.List es pos) (dLstO t) :=
  pd_of (pe_lst h.out) fun hid μ σ O σv H Q e1 c1 q => rdA.go e1 c1 q fun xs O1 vs H1 μ1 e2 x2 c2 d2 q2 => by
    obtain ⟨hl, q2⟩ := post.ite q2
    exact ⟨by rw [← d2.length]; exact small_line hl, fun p hp => post.ok q2 (.cell hp) (c2.cell hp d2) (dat_own_last c2.len)⟩
end
end DL

namespace DL
open PySem L2

/-! ### what is walked -/
inductive Src where
  | val (ds : List D)
  | own (k : Nat)
  | zip (a b : Src)
  deriving Repr, Inhabited
def Src.get : Src → Ow → Nat → Option D
  | .val ds, _, i => ds[i]?
  | .own k, O, i => match O[k]? with
    | some ds => ds[i]?
    | none => none
  | .zip a b, O, i => match a.get O i, b.get O i with
    | some x, some y => some (.tup [x, y])
    | _, _ => none
def Src.size : Src → Ow → Nat
  | .val ds, _ => ds.length
  | .own k, O => match O[k]? with
    | some ds => ds.length
    | none => 0
  | .zip a b, O => min (a.size O) (b.size O)
abbrev DI := Sg → Ow → R Src
/-- the iterator J walks src, now and later -/
def SrcAt (K : PySem.W.Frag) (J : It) (src : Src) (H : Hp) (hid μ : List Addr) : Prop := ∀ hid' H' μ' O', Mv H hid μ H' hid' μ' → Cells K H' hid' μ' O' → ∀ i,
  match src.get O' i with
  | some d => J.go i H' ∧ ∀ x H'', J.yld i H' x H'' → Ext H' μ' H'' μ' ∧ Cells K H'' hid' μ' O' ∧ Dat K H'' hid' μ' d x
  | none => J.stop i H'
def rdI (Ex : Nat → Hp → Prop) (K : PySem.W.Frag) (t : DI) : TI := fun σv H Rr => ∃ hid μ σ O, EnvOk K H hid μ σ σv ∧ Cells K H hid μ O ∧ post Ex K (fun H' μ' s J => SrcAt K J s H' hid μ') H hid μ (t σ O) Rr
structure PDI (X : Cx) (Ex : Nat → Hp → Prop) (tg iter : Expr) (t : DI) : Prop where
  out : PI X tg iter (rdI Ex X.K t)
theorem SrcAt.mv {K : PySem.W.Frag} {J : It} {src : Src} {H H1 : Hp} {hid hid1 μ μ1 : List Addr} (h : SrcAt K J src H hid μ) (e : Mv H hid μ H1 hid1 μ1) : SrcAt K J src H1 hid1 μ1 :=
  fun hid' H' μ' O' m c => h hid' H' μ' O' (e.trans m) c
theorem SrcAt.val {K : PySem.W.Frag} {H : Hp} {hid μ : List Addr} {ds : List D} {vs : List V} {a : Addr} (l : LstAt K H hid μ a vs) (q : Dats K H hid μ ds vs) : SrcAt K (Itl K a) (.val ds) H hid μ := by
  intro hid' H' μ' O' m c i
  have sq := (l.mv m).sq
  have q' := q.mv m
  show match ds[i]? with | some d => _ | none => _
  cases e : ds[i]? with
  | some d =>
    obtain ⟨v, h1, h2⟩ := q'.get e
    refine ⟨⟨vs, v, sq, h1⟩, fun x H'' y => ?_⟩
    obtain ⟨rfl, y⟩ := y
    have := y vs sq
    rw [h1] at this; cases this
    exact ⟨.refl, c, h2⟩
  | none =>
    refine ⟨vs, sq, ?_⟩
    have := List.getElem?_eq_none_iff.mp e
    rw [← q.length]; exact this
theorem SrcAt.tup {K : PySem.W.Frag} {H : Hp} {hid μ : List Addr} {ds : List D} {vs : List V} {a : Addr} (l : TupAt K H hid μ a vs) (q : Dats K H hid μ ds vs) : SrcAt K (Itt K a) (.val ds) H hid μ := by
  intro hid' H' μ' O' m c i
  have sq := (l.mv m).sq
  have q' := q.mv m
  show match ds[i]? with | some d => _ | none => _
  cases e : ds[i]? with
  | some d =>
    obtain ⟨v, h1, h2⟩ := q'.get e
    refine ⟨⟨vs, v, sq, h1⟩, fun x H'' y => ?_⟩
    obtain ⟨rfl, y⟩ := y
    have := y vs sq
    rw [h1] at this; cases this
    exact ⟨.refl, c, h2⟩
  | none =>
    refine ⟨vs, sq, ?_⟩
    have := List.getElem?_eq_none_iff.mp e
    rw [← q.length]; exact this
theorem SrcAt.own {K : PySem.W.Frag} {H : Hp} {hid μ : List Addr} {k : Nat} {a : Addr} (hk : μ[k]? = some a) : SrcAt K (Itl K a) (.own k) H hid μ := by
  intro hid' H' μ' O' m c i
  obtain ⟨ν, rfl⟩ := m.pre
  have hk' : (μ ++ ν)[k]? = some a := by rw [List.getElem?_append_left (List.getElem?_eq_some_iff.mp hk).1]; exact hk
  obtain ⟨ds, vs, h1, h2, h3⟩ := c.at_ k a hk'
  have sq : SqL K H' a vs := .of h2
  show match (match O'[k]? with | some ds => ds[i]? | none => none) with | some d => _ | none => _
  rw [h1]
  show match ds[i]? with | some d => _ | none => _
  cases e : ds[i]? with
  | some d =>
    obtain ⟨v, g1, g2⟩ := h3.get e
    refine ⟨⟨vs, v, sq, g1⟩, fun x H'' y => ?_⟩
    obtain ⟨rfl, y⟩ := y
    have := y vs sq
    rw [g1] at this; cases this
    exact ⟨.refl, c, g2⟩
  | none =>
    refine ⟨vs, sq, ?_⟩
    have := List.getElem?_eq_none_iff.mp e
    rw [← h3.length]; exact this
/-- a text's signs -/
def Its (x : Str) : It := ⟨fun i _ => i < x.cps.size, fun i H v H' => H' = H ∧ ∃ c, x.cps[i]? = some c ∧ v = .str ⟨#[c]⟩, fun i _ => x.cps.size ≤ i⟩
theorem SrcAt.str {K : PySem.W.Frag} {H : Hp} {hid μ : List Addr} {cs : List Nat} : SrcAt K (Its ⟨cs.toArray⟩) (.val (cs.map fun c => .str [c])) H hid μ := by
  intro hid' H' μ' O' m c i
  show match (cs.map fun c => D.str [c])[i]? with | some d => _ | none => _
  rw [List.getElem?_map]
  cases e : cs[i]? with
  | some d =>
    have hi := (List.getElem?_eq_some_iff.mp e).1
    refine ⟨by show i < cs.toArray.size; simpa using hi, fun x H'' y => ?_⟩
    obtain ⟨rfl, z, h1, rfl⟩ := y
    have h1' : cs.toArray[i]? = some z := h1
    rw [List.getElem?_toArray, e] at h1'
    cases h1'
    refine ⟨.refl, c, ?_⟩
    unfold Dat
    rfl
  | none =>
    have := List.getElem?_eq_none_iff.mp e
    show cs.toArray.size ≤ i
    simpa using this
theorem SrcAt.rng {K : PySem.W.Frag} {H : Hp} {hid μ : List Addr} {lo : Int} {n : Nat} : SrcAt K (Itr lo n) (.val ((List.range n).map fun i => .int (lo + (i : Nat)))) H hid μ := by
  intro hid' H' μ' O' m c i
  show match ((List.range n).map fun i => D.int (lo + (i : Nat)))[i]? with | some d => _ | none => _
  rw [List.getElem?_map]
  by_cases hi : i < n
  · rw [List.getElem?_range hi]
    refine ⟨hi, fun x H'' y => ?_⟩
    obtain ⟨rfl, rfl⟩ := y
    exact ⟨.refl, c, dat_int⟩
  · rw [List.getElem?_eq_none_iff.mpr (by simpa using hi)]
    exact Nat.not_lt.mp hi
theorem turn_str {P : Program} {w : World} {K : PySem.W.Frag} {tg : Expr} (x : Str) (t : Tok) (it : Addr) : Turn P w K tg (Its x) [it] it (fun i h => h.IsStrIter it (strIterType x) x t i) where
  mem := by simp
  obj := fun i h st b hb => by
    have e : b = it := by simpa using hb
    subst e
    obtain ⟨o, e, c, d⟩ := st
    exact ⟨o, e, fun v z => by rw [d] at z; cases z⟩
  keep := fun i h h' st k => by
    obtain ⟨o, e, c, d⟩ := st
    exact ⟨o, k it (by simp) o e, c, d⟩
  item := by
    intro X hP hw hK hc i pins s σ H E I hf st hg
    subst hP hw hK
    obtain ⟨f0, f1, f2, f3, f4, f5⟩ := hf it (by simp)
    obtain ⟨ch, hx⟩ : ∃ c, x.cps[i]? = some c := ⟨_, Array.getElem?_eq_getElem (show i < x.cps.size from hg)⟩
    have go : ∀ (ty : String), (["enumerate", "zip", "dict_itemiterator", "dict_reverseitemiterator", "odict_iterator", "itertools.zip_longest", "itertools.pairwise"].contains ty = false) → strIterType x = ty → ∀ h', h'.IsStrIter it ty x t (i + 1) → Heap.SameBut it s.heap h' →
        ∃ u, some (Value.str ⟨#[ch]⟩ s.toks) = some u ∧ wpAny (model X.prog X.w) X.A (letOwnedTupleGo tg (.ref it) u) (fun _ s2 => ∃ y H', Inv X pins σ H' s2 ∧ RelV y u ∧ (Its x).yld i H y H' ∧ s2.heap.IsStrIter it (strIterType x) x t (i + 1) ∧ ∀ b ∈ [it], H' b = none) E { s with heap := h', toks := s.toks + 1 } := by
      intro ty hn et h' st' sb
      have I1 : Inv X pins σ H { s with heap := h', toks := s.toks + 1 } := I.turned (t' := s.toks + 1) (fun b o hb e => (sb.2 b hb).trans e) f0 f1 f3 f4 f5
      obtain ⟨o, e, c, d⟩ := id st'
      refine ⟨_, rfl, go_of (s := { s with heap := h', toks := s.toks + 1 }) e c d hn ⟨.str ⟨#[ch]⟩, H, I1, ⟨_, rfl⟩, ⟨rfl, _, hx, rfl⟩, ?_, fun b hb => (hf b hb).1⟩⟩
      rw [et]; exact st'
    unfold strIterType at st go ⊢
    split at st
    · rename_i ha
      exact wpAny_pyNext_ascii_item st hx fun h' st' sb => go "str_ascii_iterator" (by decide) (by rw [if_pos ha]) h' st' sb
    · rename_i ha
      exact wpAny_pyNext_wide_item st hx fun h' st' sb => go "str_iterator" (by decide) (by rw [if_neg ha]) h' st' sb
  done := by
    intro X hP hw hK hc i pins s σ H E I hf st hg
    subst hP hw hK
    obtain ⟨f0, f1, f2, f3, f4, f5⟩ := hf it (by simp)
    have hx : x.cps[i]? = none := by
      have : x.cps.size ≤ i := hg
      simp [this]
    unfold strIterType at st
    split at st
    · exact wpAny_pyNext_ascii_end (I.ok.hd hc) st hx fun h' eb => ⟨rfl, I.turned (t' := s.toks) (fun b o hb e => eb b o hb e) f0 f1 f3 f4 f5⟩
    · exact wpAny_pyNext_wide_end (I.ok.hd hc) st hx fun h' eb => ⟨rfl, I.turned (t' := s.toks) (fun b o hb e => eb b o hb e) f0 f1 f3 f4 f5⟩
  self := fun _ _ s _ _ st h => by
    unfold strIterType at st
    split at st
    · exact wpAny_pyIter_striter_ascii st h
    · exact wpAny_pyIter_striter_wide st h
end DL

namespace DL
open PySem L2

section
variable {X : Cx} {Ex : Nat → Hp → Prop} {pos : Pos} {a b c tg : Expr} {ta tb tc : DE}
/-! ### iterables -/
def srcOf (O : Ow) : D → R Src
  | .lst ds => .ok (.val ds) O
  | .tup ds => .ok (.val ds) O
  | .str cs => .ok (.val (cs.map fun c => .str [c])) O
  | .own k => .ok (.own k) O
  | _ => .bad
def dIt (t : DE) : DI := fun σ O => (t σ O).bnd fun x O1 => srcOf O1 x
theorem pdi_seq (ha : PD X Ex a ta) : PDI X Ex tg a (dIt ta) := by
  refine ⟨?_⟩
  rintro pins s σv H Rr I ⟨hid, μ, σ, O, e1, c1, q⟩
  refine thn (ha.out pins s σv H _ I (rd.go e1 c1 q (Q1 := fun v H1 => ∃ hid μ1 O1 d, Cells X.K H1 hid μ1 O1 ∧ Dat X.K H1 hid μ1 d v ∧ post Ex X.K (fun H' μ' s J => SrcAt X.K J s H' hid μ') H1 hid μ1 (srcOf O1 d) Rr)
    fun d O1 v H1 μ1 e2 x c r p => ⟨hid, μ1, O1, d, c, r, p⟩)) fun u s1 ⟨v, H1, I1, ru, hid, μ1, O1, d, c, r, p⟩ => ?_
  have new : ∀ (b : Addr), b ∈ [s1.heap.objs.size] → FpOk X pins H1 b := fun b hb => by
    have e : b = s1.heap.objs.size := by simpa using hb
    subst e
    exact I1.fpOk (Nat.le_refl _) (I1.hok.fresh (Nat.le_refl _))
  cases d with
  | lst ds =>
    unfold Dat at r
    obtain ⟨a, vs, rfl, l, q⟩ := r
    cases ru
    obtain ⟨its, rv, p1, hz⟩ := I1.list l.sq
    refine wpAny_pyIter_list p1.isList ?_
    exact ⟨s1.heap.objs.size, [s1.heap.objs.size], _, _, H1, rfl, I1.kept (t' := s1.toks) fun b o e => Heap.get?_push_of_some _ e, turn_list a _, ⟨_, Heap.get?_push_size _ rfl, rfl, rfl⟩, new, post.here p c (.val l q)⟩
  | tup ds =>
    unfold Dat at r
    obtain ⟨a, vs, rfl, l, q⟩ := r
    cases ru
    obtain ⟨its, rv, p1, hz⟩ := I1.tuple l.sq
    refine wpAny_pyIter_tuple (show s1.heap.IsTuple a its.toArray from p1) ?_
    exact ⟨s1.heap.objs.size, [s1.heap.objs.size], _, _, H1, rfl, I1.kept (t' := s1.toks) fun b o e => Heap.get?_push_of_some _ e, turn_tuple a _, ⟨_, Heap.get?_push_size _ rfl, rfl, rfl⟩, new, post.here p c (.tup l q)⟩
  | str cs =>
    unfold Dat at r
    subst r
    obtain ⟨t, rfl⟩ := ru
    refine wpAny_pyIter_strU ?_
    exact ⟨s1.heap.objs.size, [s1.heap.objs.size], _, _, H1, rfl, I1.kept (t' := s1.toks) fun b o e => Heap.get?_push_of_some _ e, turn_str ⟨cs.toArray⟩ t _, ⟨_, Heap.get?_push_size _ rfl, rfl, rfl⟩, new, post.here p c .str⟩
  | own k =>
    unfold Dat at r
    obtain ⟨a, rfl, hk⟩ := r
    cases ru
    obtain ⟨ds, vs, h1, h2, h3⟩ := c.at_ k a hk
    obtain ⟨its, rv, p1, hz⟩ := I1.list (.of h2)
    refine wpAny_pyIter_list p1.isList ?_
    exact ⟨s1.heap.objs.size, [s1.heap.objs.size], _, _, H1, rfl, I1.kept (t' := s1.toks) fun b o e => Heap.get?_push_of_some _ e, turn_list a _, ⟨_, Heap.get?_push_size _ rfl, rfl, rfl⟩, new, post.here p c (.own hk)⟩
  | _ => exact False.elim p
def rngSrc (lo hi : Int) : Src := .val ((List.range (hi - lo).toNat).map fun i => .int (lo + (i : Nat)))
def dRng1 (t : DA) : DI := fun σ O => (t σ O).bnd fun xs O1 => match xs with
  | [.int j] => if -1000000 ≤ j ∧ j ≤ 1000000 then .ok (rngSrc 0 j) O1 else .bad
  | _ => .bad
theorem PI.imp {iter : Expr} {t t' : TI} (h : PI X tg iter t) (f : ∀ σ H Q, t' σ H Q → t σ H Q) : PI X tg iter t' := fun pins s σ H Q I q => h pins s σ H Q I (f σ H Q q)
theorem dats1 {K : PySem.W.Frag} {H : Hp} {hid μ : List Addr} {d : D} {vs : List V} (h : Dats K H hid μ [d] vs) : ∃ v, vs = [v] ∧ Dat K H hid μ d v := by
  unfold Dats at h
  obtain ⟨v, r, rfl, h1, h2⟩ := h
  unfold Dats at h2
  subst h2
  exact ⟨v, rfl, h1⟩
theorem dats2 {K : PySem.W.Frag} {H : Hp} {hid μ : List Addr} {d e : D} {vs : List V} (h : Dats K H hid μ [d, e] vs) : ∃ v w, vs = [v, w] ∧ Dat K H hid μ d v ∧ Dat K H hid μ e w := by
  unfold Dats at h
  obtain ⟨v, r, rfl, h1, h2⟩ := h
  obtain ⟨w, rfl, h3⟩ := dats1 h2
  exact ⟨v, w, rfl, h1, h3⟩
theorem pdi_range1 {t : DA} {p pos : Pos} (hg : Gl X "range") (hm : X.mg "range" = none) (ha : PDA X Ex [a] t) (hs : starEach [a] X.env = [(false, eval a X.env)] := by rfl) : PDI X Ex tg (.Call (.Name "range" p) [a] [] pos) (dRng1 t) :=
  PDI.mk <| PI.imp (pi_range1 hg hm ha.out hs) fun σv H Q ⟨hid, μ, σ, O, e1, c1, q⟩ => rdA.go e1 c1 q fun d O1 vs H1 μ1 e2 x c r p => by
    split at p
    · rename_i j
      obtain ⟨⟨h1, h2⟩, p⟩ := post.ite p
      obtain ⟨v, rfl, hv⟩ := dats1 r
      unfold Dat at hv; subst hv
      refine ⟨j, rfl, by omega, by omega, ?_⟩
      have := post.here p c (SrcAt.rng (lo := 0) (n := (j - 0).toNat))
      simpa using this
    · exact False.elim p
end
/-! ### statements -/
inductive RS where
  | nx (σ : Sg) (O : Ow)
  | rt (d : D) (O : Ow)
  | bk (σ : Sg) (O : Ow)
  | ct (σ : Sg) (O : Ow)
  | exc (c : Nat) (O : Ow)
  | bad
  deriving Repr, Inhabited
abbrev DS := Sg → Ow → RS
def R.bnS {α : Type} (r : R α) (k : α → Ow → RS) : RS := match r with
  | .ok a O => k a O
  | .exc c O => .exc c O
  | .bad => .bad
section
variable (Ex : Nat → Hp → Prop) (K : PySem.W.Frag)
def postS (H : Hp) (hid μ : List Addr) (r : RS) (E : Ends) : Prop := match r with
  | .nx σ O => ∀ σv H' μ', Ext H μ H' μ' → EnvOk K H' hid μ' σ σv → Cells K H' hid μ' O → E.nx σv H'
  | .rt d O => ∀ v H' μ', Ext H μ H' μ' → Cells K H' hid μ' O → Dat K H' hid μ' d v → E.rt v H'
  | .bk σ O => ∀ σv H' μ', Ext H μ H' μ' → EnvOk K H' hid μ' σ σv → Cells K H' hid μ' O → E.bk σv H'
  | .ct σ O => ∀ σv H' μ', Ext H μ H' μ' → EnvOk K H' hid μ' σ σv → Cells K H' hid μ' O → E.ct σv H'
  | .exc c O => ∀ H' μ', Ext H μ H' μ' → Cells K H' hid μ' O → Ex c H'
  | .bad => False
def rds (t : DS) : TS := fun E σv H => ∃ hid μ σ O, EnvOk K H hid μ σ σv ∧ Cells K H hid μ O ∧ postS Ex K H hid μ (t σ O) E
end
structure PDS (X : Cx) (Ex : Nat → Hp → Prop) (st : Stmt) (t : DS) : Prop where
  out : PS X st (rds Ex X.K t)
structure PDSs (X : Cx) (Ex : Nat → Hp → Prop) (st : List Stmt) (t : DS) : Prop where
  out : PSs X st (rds Ex X.K t)
theorem PS.imp {X : Cx} {st : Stmt} {t t' : TS} (h : PS X st t) (f : ∀ E σ H, t' E σ H → t E σ H) : PS X st t' := fun pins s σ H D I q => h pins s σ H D I (f D σ H q)
theorem PSs.imp {X : Cx} {st : List Stmt} {t t' : TS} (h : PSs X st t) (f : ∀ E σ H, t' E σ H → t E σ H) : PSs X st t' := fun pins s σ H D I q => h pins s σ H D I (f D σ H q)
section
variable {Ex : Nat → Hp → Prop} {K : PySem.W.Frag} {H H1 : Hp} {hid μ μ1 : List Addr}
theorem postS.ext {r : RS} {E : Ends} (h : postS Ex K H hid μ r E) (e : Ext H μ H1 μ1) : postS Ex K H1 hid μ1 r E := by
  cases r with
  | nx σ O => exact fun σv H' μ' e' a b => h σv H' μ' (e.trans e') a b
  | bk σ O => exact fun σv H' μ' e' a b => h σv H' μ' (e.trans e') a b
  | ct σ O => exact fun σv H' μ' e' a b => h σv H' μ' (e.trans e') a b
  | rt d O => exact fun v H' μ' e' a b => h v H' μ' (e.trans e') a b
  | exc c O => exact fun H' μ' e' a => h H' μ' (e.trans e') a
  | bad => exact h
theorem postS.bnS {α β : Type} {rel : Hp → List Addr → α → β → Prop} {r : R α} {k : α → Ow → RS} {E : Ends} {Q1 : β → Hp → Prop} (h : postS Ex K H hid μ (r.bnS k) E)
    (hk : ∀ d O1 v H1 μ1, Ext H μ H1 μ1 → Cells K H1 hid μ1 O1 → rel H1 μ1 d v → postS Ex K H1 hid μ1 (k d O1) E → Q1 v H1) : post Ex K rel H hid μ r Q1 := by
  cases r with
  | ok d O' => exact fun v H' μ' e c q => hk d O' v H' μ' e c q (postS.ext (show postS Ex K H hid μ (k d O') E from h) e)
  | exc c O' => exact h
  | bad => exact h
end
section
variable {X : Cx} {Ex : Nat → Hp → Prop} {pos : Pos} {a b c e tg : Expr} {ta tb tc te : DE} {tA : DT}
theorem pds_of {st : Stmt} {t : TS} {t' : DS} (h : PS X st t) (f : ∀ hid μ σ O E σv H, EnvOk X.K H hid μ σ σv → Cells X.K H hid μ O → postS Ex X.K H hid μ (t' σ O) E → t E σv H) : PDS X Ex st t' :=
  ⟨PS.imp h fun E σv H ⟨hid, μ, σ, O, e1, c1, q⟩ => f hid μ σ O E σv H e1 c1 q⟩
theorem pdss_of {st : List Stmt} {t : TS} {t' : DS} (h : PSs X st t) (f : ∀ hid μ σ O E σv H, EnvOk X.K H hid μ σ σv → Cells X.K H hid μ O → postS Ex X.K H hid μ (t' σ O) E → t E σv H) : PDSs X Ex st t' :=
  ⟨PSs.imp h fun E σv H ⟨hid, μ, σ, O, e1, c1, q⟩ => f hid μ σ O E σv H e1 c1 q⟩
theorem rd.goS {t : DE} {hid μ : List Addr} {σ : Sg} {O : Ow} {σv : St} {H : Hp} {Q1 : VK} {k : D → Ow → RS} {E : Ends} (e1 : EnvOk X.K H hid μ σ σv) (c1 : Cells X.K H hid μ O)
    (q : postS Ex X.K H hid μ ((t σ O).bnS k) E)
    (f : ∀ d O1 v H1 μ1, EnvOk X.K H1 hid μ1 σ σv → Ext H μ H1 μ1 → Cells X.K H1 hid μ1 O1 → Dat X.K H1 hid μ1 d v → postS Ex X.K H1 hid μ1 (k d O1) E → Q1 v H1) : rd Ex X.K t σv H Q1 :=
  ⟨hid, μ, σ, O, e1, c1, postS.bnS q fun d O1 v H1 μ1 x c r p => f d O1 v H1 μ1 (e1.ext x) x c r p⟩
theorem rdT.goS {t : DT} {hid μ : List Addr} {σ : Sg} {O : Ow} {σv : St} {H : Hp} {Q1 : Bool → Hp → Prop} {k : Bool → Ow → RS} {E : Ends} (e1 : EnvOk X.K H hid μ σ σv) (c1 : Cells X.K H hid μ O)
    (q : postS Ex X.K H hid μ ((t σ O).bnS k) E)
    (f : ∀ v O1 H1 μ1, EnvOk X.K H1 hid μ1 σ σv → Ext H μ H1 μ1 → Cells X.K H1 hid μ1 O1 → postS Ex X.K H1 hid μ1 (k v O1) E → Q1 v H1) : rdT Ex X.K t σv H Q1 :=
  ⟨hid, μ, σ, O, e1, c1, postS.bnS q fun d O1 v H1 μ1 x c r p => by
    have r : d = v := r
    subst r
    exact f d O1 H1 μ1 (e1.ext x) x c p⟩
def sNil : DS := fun σ O => .nx σ O
def sSeq (t u : DS) : DS := fun σ O => match t σ O with
  | .nx σ' O' => u σ' O'
  | r => r
theorem pdss_nil : PDSs X Ex [] sNil := pdss_of pss_nil fun hid μ σ O E σv H e1 c1 q => q σv H μ .refl e1 c1
theorem pdss_cons {st : Stmt} {rest : List Stmt} {t u : DS} (h1 : PDS X Ex st t) (h2 : PDSs X Ex rest u) : PDSs X Ex (st :: rest) (sSeq t u) :=
  pdss_of (pss_cons h1.out h2.out) fun hid μ σ O E σv H e1 c1 q => by
    refine ⟨hid, μ, σ, O, e1, c1, ?_⟩
    unfold sSeq at q
    cases ht : t σ O with
    | nx σ' O' =>
      rw [ht] at q
      exact fun σv' H' μ' e2 a b => ⟨hid, μ', σ', O', a, b, q.ext e2⟩
    | rt d O' => rw [ht] at q; exact q
    | bk σ' O' => rw [ht] at q; exact q
    | ct σ' O' => rw [ht] at q; exact q
    | exc c O' => rw [ht] at q; exact q
    | bad => rw [ht] at q; exact q
theorem pdss_one {st : Stmt} {t : DS} (h1 : PDS X Ex st t) : PDSs X Ex [st] t := ⟨pss_one h1.out⟩
def sRet (t : DE) : DS := fun σ O => (t σ O).bnS fun d O1 => .rt d O1
theorem pds_ret (he : PD X Ex e te) : PDS X Ex (.Return (some e) pos) (sRet te) :=
  pds_of (ps_ret he.out) fun hid μ σ O E σv H e1 c1 q => rd.goS e1 c1 q fun d O1 v H1 μ1 e2 x c r p => p v H1 μ1 .refl c r
def sIf (c : DT) (t u : DS) : DS := fun σ O => (c σ O).bnS fun b O1 => if b = true then t σ O1 else u σ O1
theorem pds_if {c : Expr} {x y : List Stmt} {tc : DT} {t u : DS} (hc : PDT X Ex c tc) (ha : PDSs X Ex x t) (hb : PDSs X Ex y u) : PDS X Ex (.If c x y pos) (sIf tc t u) :=
  pds_of (ps_if hc.out ha.out hb.out) fun hid μ σ O E σv H e1 c1 q => rdT.goS e1 c1 q fun k O1 H1 μ1 e2 x c p => by
    cases k with
    | true => rw [if_pos rfl]; exact ⟨hid, μ1, σ, O1, e2, c, p⟩
    | false => rw [if_neg Bool.false_ne_true]; exact ⟨hid, μ1, σ, O1, e2, c, p⟩
def sBad : DS := fun _ _ => .bad
theorem pdss_bad {st : List Stmt} : PDSs X Ex st sBad := pdss_of pss_never fun hid μ σ O E σv H e1 c1 q => q
def sDrop (t : DE) : DS := fun σ O => (t σ O).bnS fun _ O1 => .nx σ O1
theorem pds_expr (he : PD X Ex e te) (hs : swapsWith e none pos.line X.env = pure false := by rfl) : PDS X Ex (.Expr e pos) (sDrop te) :=
  pds_of (ps_expr he.out hs) fun hid μ σ O E σv H e1 c1 q => rd.goS e1 c1 q fun d O1 v H1 μ1 e2 x c r p => p σv H1 μ1 .refl e2 c
def sSet (i : Nat) (t : DE) : DS := fun σ O => (t σ O).bnS fun d O1 => .nx (σ.set i (some d)) O1
theorem pds_set {i : Nat} {x : Str} {pos' : Pos} (hN : X.N.Nodup) (hi : X.N[i]? = some x) (hx : Loc X.env.scope x) (he : PD X Ex e te) (hs : swapsWith e (some (.Name x pos')) pos.line X.env = pure false := by rfl)
    (hf : X.fn x = true ∨ X.env.scope.names.lookup x = some .local := by first | exact .inl rfl | exact .inr rfl) : PDS X Ex (.Assign [.Name x pos'] e pos) (sSet i te) :=
  pds_of (ps_set hN hi hx he.out hs hf) fun hid μ σ O E σv H e1 c1 q => rd.goS e1 c1 q fun d O1 v H1 μ1 e2 x c r p => p (σv.set i (some v)) H1 μ1 .refl (e2.set r i) c
/-! targets -/
inductive Tg where
  | one (i : Nat)
  | two (i j : Nat)
def Tg.put : Tg → D → Sg → Option Sg
  | .one i, d, σ => some (σ.set i (some d))
  | .two i j, d, σ => match d with
    | .tup [x, y] => some ((σ.set i (some x)).set j (some y))
    | _ => none
def Tg.rd (K : PySem.W.Frag) : Tg → TG
  | .one i => gName i
  | .two i j => gTup K 2 (gCons (gName i) (gCons (gName j) gNil))
def Tg.slots : Tg → List Nat
  | .one i => [i]
  | .two i j => [i, j]
theorem Tg.ok2 {K : PySem.W.Frag} {H : Hp} {hid μ : List Addr} {σ σ' : Sg} {σv : St} {d : D} {v : V} {Q : St → Hp → Prop} (g : Tg) (e1 : EnvOk K H hid μ σ σv) (q : Dat K H hid μ d v) (h : g.put d σ = some σ')
    (k : ∀ σv', EnvOk K H hid μ σ' σv' → (∀ i, i ∉ g.slots → σv'[i]? = σv[i]?) → Q σv' H) : g.rd K v σv H Q := by
  cases g with
  | one i =>
    cases h
    exact k _ (e1.set q i) fun j hj => List.getElem?_set_ne (fun e => hj (by simp [Tg.slots, e]))
  | two i j =>
    unfold Tg.put at h
    dsimp only at h
    split at h
    · rename_i x y
      cases h
      unfold Dat at q
      obtain ⟨a, vs, rfl, l, q⟩ := q
      obtain ⟨u, w, rfl, q1, q2⟩ := dats2 q
      refine ⟨a, [u, w], rfl, l.sq, rfl, u, [w], rfl, w, [], rfl, rfl, k _ ((e1.set q1 i).set q2 j) fun m hm => ?_⟩
      rw [List.getElem?_set_ne (fun e => hm (by simp [Tg.slots, e])), List.getElem?_set_ne (fun e => hm (by simp [Tg.slots, e]))]
    · cases h
theorem Tg.ok {K : PySem.W.Frag} {H : Hp} {hid μ : List Addr} {σ σ' : Sg} {σv : St} {d : D} {v : V} {Q : St → Hp → Prop} (g : Tg) (e1 : EnvOk K H hid μ σ σv) (q : Dat K H hid μ d v) (h : g.put d σ = some σ') (k : ∀ σv', EnvOk K H hid μ σ' σv' → Q σv' H) : g.rd K v σv H Q := by
  cases g with
  | one i => cases h; exact k _ (e1.set q i)
  | two i j =>
    unfold Tg.put at h
    dsimp only at h
    split at h
    · rename_i x y
      cases h
      unfold Dat at q
      obtain ⟨a, vs, rfl, l, q⟩ := q
      obtain ⟨u, w, rfl, q1, q2⟩ := dats2 q
      exact ⟨a, [u, w], rfl, l.sq, rfl, u, [w], rfl, w, [], rfl, rfl, k _ ((e1.set q1 i).set q2 j)⟩
    · cases h
theorem pg_one {i : Nat} {x : Str} (hN : X.N.Nodup) (hi : X.N[i]? = some x) (hx : Loc X.env.scope x) (hf : X.fn x = true ∨ X.env.scope.names.lookup x = some .local := by first | exact .inl rfl | exact .inr rfl | assumption) : PG X (.Name x pos) ((Tg.one i).rd X.K) := pg_name hN hi hx hf
/-! for -/
def loopS (src : Src) (step : D → Sg → Ow → RS) : Nat → Nat → Sg → Ow → RS
  | 0, i, σ, O => match src.get O i with
    | none => .nx σ O
    | some _ => .bad
  | f + 1, i, σ, O => match src.get O i with
    | none => .nx σ O
    | some d => match step d σ O with
      | .nx σ' O' => loopS src step f (i + 1) σ' O'
      | .ct σ' O' => loopS src step f (i + 1) σ' O'
      | .bk σ' O' => .nx σ' O'
      | r => r
def sFor (it : DI) (g : Tg) (body : DS) : DS := fun σ O => (it σ O).bnS fun src O1 => loopS src (fun d σ O => match g.put d σ with | some σ' => body σ' O | none => .bad) (src.size O1) 0 σ O1
theorem pds_for {iter : Expr} {body : List Stmt} {it : DI} {g : Tg} {tb : DS} (hp : PassesOwn (model X.prog X.w) X.A X.env X.xe) (hc : X.calm = true) (hi : PDI X Ex tg iter it) (hg : PG X tg (g.rd X.K)) (hb : PDSs X Ex body tb)
    (hs : ∀ x, foldedSetIterable iter X.env x = pure x := by intro _; rfl) : PDS X Ex (.For tg iter body [] pos) (sFor it g tb) :=
  pds_of (ps_for hp hc hi.out hg hb.out hs) fun hid μ σ O E σv H e1 c1 q => by
    refine ⟨hid, μ, σ, O, e1, c1, postS.bnS q fun src O1 J H1 μ1 x1 c2 sa p => ?_⟩
    generalize hst : (fun (d : D) (σ : Sg) (O : Ow) => match g.put d σ with | some σ' => tb σ' O | none => RS.bad) = step at p
    refine ⟨fun i m σv' H' => ∃ μ' σ' O', Ext H1 μ1 H' μ' ∧ EnvOk X.K H' hid μ' σ' σv' ∧ Cells X.K H' hid μ' O' ∧ postS Ex X.K H' hid μ' (loopS src step m i σ' O') E, ⟨_, μ1, σ, O1, .refl, e1.ext x1, c2, p⟩, ?_⟩
    rintro i m σv2 H2 ⟨μ2, σ2, O2, x2, e2, c3, p2⟩
    have sa2 := sa hid H2 μ2 O2 x2.mv c3 i
    cases hget : src.get O2 i with
    | none =>
      rw [hget] at sa2
      refine .inl ⟨sa2, ?_⟩
      cases m with
      | zero =>
        have p3 : postS Ex X.K H2 hid μ2 (match src.get O2 i with | none => .nx σ2 O2 | some _ => .bad) E := p2
        rw [hget] at p3
        exact p3 σv2 H2 μ2 .refl e2 c3
      | succ f =>
        unfold loopS at p2
        rw [hget] at p2
        exact p2 σv2 H2 μ2 .refl e2 c3
    | some d =>
      rw [hget] at sa2
      obtain ⟨go, yl⟩ := sa2
      cases m with
      | zero =>
        have p3 : postS Ex X.K H2 hid μ2 (match src.get O2 i with | none => .nx σ2 O2 | some _ => .bad) E := p2
        rw [hget] at p3
        exact False.elim p3
      | succ f =>
        refine .inr ⟨go, fun σv' H' => ∃ μ' σ' O', Ext H1 μ1 H' μ' ∧ EnvOk X.K H' hid μ' σ' σv' ∧ Cells X.K H' hid μ' O' ∧ postS Ex X.K H' hid μ' (loopS src step f (i + 1) σ' O') E, fun σ' H' h => ⟨f, Nat.lt_succ_self f, h⟩, fun v H3 y => ?_⟩
        obtain ⟨x3, c4, r⟩ := yl v H3 y
        unfold loopS at p2
        rw [hget] at p2
        have p3 : postS Ex X.K H3 hid μ2 (match step d σ2 O2 with
          | .nx σ' O' => loopS src step f (i + 1) σ' O'
          | .ct σ' O' => loopS src step f (i + 1) σ' O'
          | .bk σ' O' => .nx σ' O'
          | r => r) E := postS.ext p2 x3
        cases hput : g.put d σ2 with
        | none =>
          rw [← hst] at p3
          simp only [hput] at p3
          exact False.elim p3
        | some σ3 =>
          refine Tg.ok g (e2.ext x3) r hput fun σv3 e3 => ⟨hid, μ2, σ3, O2, e3, c4, ?_⟩
          have hs1 : step d σ2 O2 = tb σ3 O2 := by rw [← hst]; simp only [hput]
          rw [hs1] at p3
          have x4 := x2.trans x3
          cases ht : tb σ3 O2 with
          | nx σ4 O4 => rw [ht] at p3; exact fun σv' H' μ' e5 a b => ⟨μ', σ4, O4, x4.trans e5, a, b, p3.ext e5⟩
          | ct σ4 O4 => rw [ht] at p3; exact fun σv' H' μ' e5 a b => ⟨μ', σ4, O4, x4.trans e5, a, b, p3.ext e5⟩
          | bk σ4 O4 => rw [ht] at p3; exact p3
          | rt d4 O4 => rw [ht] at p3; exact p3
          | exc c4 O4 => rw [ht] at p3; exact p3
          | bad => rw [ht] at p3; exact p3
end
end DL

namespace DL
open PySem L2

/-! ### comprehensions, by data -/
structure Cl where
  it : DI
  g : Tg
  ifs : List DT
def slotsOf : List Cl → List Nat
  | [] => []
  | c :: cs => c.g.slots ++ slotsOf cs
def clr {α : Type} (σ : List (Option α)) : List Nat → List (Option α)
  | [] => σ
  | i :: r => clr (σ.set i none) r
def dAll : List DT → DT
  | [] => fun _ O => .ok true O
  | c :: cs => fun σ O => (c σ O).bnd fun b O1 => if b = true then dAll cs σ O1 else .ok false O1
def walkD (src : Src) (step : D → Ow → List D → R (List D)) : Nat → Nat → Ow → List D → R (List D)
  | 0, i, O, acc => match src.get O i with
    | none => .ok acc O
    | some _ => .bad
  | f + 1, i, O, acc => match src.get O i with
    | none => .ok acc O
    | some d => (step d O acc).bnd fun acc' O' => walkD src step f (i + 1) O' acc'
def compD : List Cl → DE → Sg → Ow → List D → R (List D)
  | [], elt, σ, O, acc => (elt σ O).bnd fun v O1 => if acc.length < 100000 then .ok (acc ++ [v]) O1 else .bad
  | c :: cs, elt, σ, O, acc => (c.it σ O).bnd fun src O1 => walkD src (fun d O2 acc => match c.g.put d (clr σ (slotsOf (c :: cs))) with
      | some σ1 => (dAll c.ifs σ1 O2).bnd fun b O3 => if b = true then compD cs elt σ1 O3 acc else .ok acc O3
      | none => .bad) (src.size O1) 0 O1 acc
/-- a step of the loop -/
def stepD (c : Cl) (cs : List Cl) (elt : DE) (σ : Sg) : D → Ow → List D → R (List D) := fun d O2 acc => match c.g.put d (clr σ (slotsOf (c :: cs))) with
      | some σ1 => (dAll c.ifs σ1 O2).bnd fun b O3 => if b = true then compD cs elt σ1 O3 acc else .ok acc O3
      | none => .bad
theorem clr_len {α : Type} : ∀ (l : List Nat) (σ : List (Option α)), (clr σ l).length = σ.length
  | [], _ => rfl
  | i :: r, σ => by unfold clr; rw [clr_len r]; simp
theorem clr_out {α : Type} : ∀ (l : List Nat) (σ : List (Option α)) (i : Nat), i ∉ l → (clr σ l)[i]? = σ[i]?
  | [], σ, i, h => rfl
  | j :: r, σ, i, h => by
    unfold clr
    rw [clr_out r _ i fun z => h (List.mem_cons_of_mem _ z), List.getElem?_set_ne fun z => h (by simp [z])]
theorem clr_get {α : Type} : ∀ (l : List Nat) (σ : List (Option α)) (i : Nat) (d : α), (clr σ l)[i]? = some (some d) → σ[i]? = some (some d) ∧ i ∉ l
  | [], σ, i, d, h => ⟨h, by simp⟩
  | j :: r, σ, i, d, h => by
    unfold clr at h
    obtain ⟨h1, h2⟩ := clr_get r _ i d h
    by_cases e : j = i
    · subst e
      by_cases hl : j < σ.length
      · rw [List.getElem?_set_self hl] at h1; cases h1
      · rw [List.getElem?_eq_none_iff.mpr (by simp; omega)] at h1; cases h1
    · rw [List.getElem?_set_ne e] at h1
      exact ⟨h1, by simp [h2]; exact fun z => e z.symm⟩
/-- all but the one at A is kept -/
structure Ea (A : Addr) (H : Hp) (μ : List Addr) (H' : Hp) (μ' : List Addr) : Prop where
  pre : ∃ ν, μ' = μ ++ ν
  kept : ∀ b o, H b = some o → b ∉ μ → b ≠ A → NoTab o → H' b = some o
  fresh : ∀ b ∈ μ', b ∈ μ ∨ H b = none
  there : ∀ b, H b ≠ none → H' b ≠ none
  tab : ∀ P, Tidy H P → Tidy H' P
section
variable {K : PySem.W.Frag} {A : Addr} {H H' H1 H2 : Hp} {hid μ μ' μ1 μ2 : List Addr}
theorem Ext.ea (e : Ext H μ H' μ') : Ea A H μ H' μ' := ⟨e.pre, fun b o h n _ ht => e.kept b o h n ht, e.fresh, e.there, e.tab⟩
theorem Ea.refl : Ea A H μ H μ := Ext.refl.ea
theorem Ea.trans (a : Ea A H μ H1 μ1) (b : Ea A H1 μ1 H2 μ2) : Ea A H μ H2 μ2 := by
  have nn : ∀ c, H1 c = none → H c = none := fun c h => by
    cases e : H c with
    | none => rfl
    | some o => exact absurd h (a.there c (by rw [e]; simp))
  refine ⟨?_, fun c o h n1 n2 ht => ?_, fun c h => ?_, fun c h => b.there c (a.there c h), fun P t => b.tab P (a.tab P t)⟩
  · obtain ⟨x, rfl⟩ := a.pre
    obtain ⟨y, rfl⟩ := b.pre
    exact ⟨x ++ y, by simp⟩
  · refine b.kept c o (a.kept c o h n1 n2 ht) (fun m => ?_) n2 ht
    rcases a.fresh c m with z | z
    · exact n1 z
    · rw [z] at h; cases h
  · rcases b.fresh c h with z | z
    · exact a.fresh c z
    · exact .inr (nn c z)
theorem Ea.mv (e : Ea A H μ H' μ') : Mv H (A :: hid) μ H' (A :: hid) μ' := ⟨e.pre, fun b o h n1 n2 ht => e.kept b o h n1 (fun z => n2 (by simp [z])) ht, e.fresh, fun _ m => .inl m, e.there, e.tab⟩
theorem Ea.put {o : HO} (hl : ∃ vs, H A = some (.lst vs)) : Ea A H μ (upd H A o) μ := ⟨⟨[], by simp⟩, fun b u h _ n _ => by rw [upd_ne n]; exact h, fun _ m => .inl m, upd_there, fun _ t => t.upd (.inr hl)⟩
theorem Cells.putA {o : HO} {O : Ow} (c : Cells K H (A :: hid) μ O) (hl : ∃ vs, H A = some (.lst vs)) : Cells K (upd H A o) (A :: hid) μ O := by
  refine ⟨c.len, c.nd, c.nh, fun a m => upd_there a (c.ht a m), fun k a e => ?_⟩
  obtain ⟨ds, vs, h1, h2, h3⟩ := c.at_ k a e
  have ne : a ≠ A := fun z => c.nh a (List.mem_of_getElem? e) (by simp [z])
  exact ⟨ds, vs, h1, by rw [upd_ne ne]; exact h2, h3.mv (Ea.put (A := A) hl).mv⟩
theorem Cells.unhide (c : Cells K H (A :: hid) μ O) : Cells K H hid μ O :=
  ⟨c.len, c.nd, fun a m z => c.nh a m (List.mem_cons_of_mem _ z), fun a m => c.ht a (List.mem_cons_of_mem _ m), fun k a e =>
    let ⟨ds, vs, h1, h2, h3⟩ := c.at_ k a e
    ⟨ds, vs, h1, h2, h3.mv .unhide⟩⟩
end
abbrev Ex0 : Nat → Hp → Prop := fun _ _ => False
/-- the clauses of a block -/
inductive ClsOk (X : Cx) : List Comprehension → List Cl → Prop where
  | nil : ClsOk X [] []
  | cons {tg iter : Expr} {ifs : List Expr} {gs : List Comprehension} {c : Cl} {cs : List Cl} (hi : PDI X Ex0 tg iter c.it) (hs : ∀ x, foldedSetIterable iter X.env x = pure x) (hg : PG X tg (c.g.rd X.K))
      (hf : PySem.Paired (fun e t => PDT X Ex0 e t) ifs c.ifs) (r : ClsOk X gs cs) : ClsOk X (⟨tg, iter, ifs, 0⟩ :: gs) (c :: cs)
section
variable {X : Cx}
theorem any_of_nox {α : Type} {M : Model} {A : Around} {t : Sem α} {Q Q' : α → Shared → Prop} {E : Value → Shared → Prop} {s : Shared} (hx : X.xe = fun _ _ => False) (h : wpAny M A t Q X.xe s) (k : ∀ a s', Q a s' → Q' a s') : wpAny M A t Q' E s :=
  wpAny_mono h k fun e s' z => by rw [hx] at z; exact z.elim
theorem tests_false {env : Env} {M : Model} {A : Around} {E : Value → Shared → Prop} {s : Shared} {Q : Bool → Shared → Prop} (h : Q false s) : ∀ (ifs : List Expr), wpAny M A (forIn ifs false fun c r => if r = true then do let ok ← isTrue c env (eval c env); pure (ForInStep.yield ok) else pure (ForInStep.yield r)) Q E s
  | [] => wpAny_pure h
  | c :: cs => by
    simp only [List.forIn_cons, Bool.false_eq_true, if_false]
    exact wpAny_bind (wpAny_pure (tests_false h cs))
theorem tests_ok {E : Value → Shared → Prop} {hid : List Addr} (hx : X.xe = fun _ _ => False) : ∀ {ifs : List Expr} {ts : List DT}, PySem.Paired (fun e t => PDT X Ex0 e t) ifs ts → ∀ (pins : List (Addr × Obj)) (s : Shared) (σv : St) (H : Hp) (μ : List Addr) (σ : Sg) (O : Ow) (Q : Bool → Shared → Prop),
    L2.Inv X pins σv H s → EnvOk X.K H hid μ σ σv → Cells X.K H hid μ O →
    postT Ex0 X.K H hid μ (dAll ts σ O) (fun b H' => ∀ s', L2.Inv X pins σv H' s' → Q b s') →
    wpAny (model X.prog X.w) X.A (forIn ifs true fun c r => if r = true then do let ok ← isTrue c X.env (eval c X.env); pure (ForInStep.yield ok) else pure (ForInStep.yield r)) Q E s
  | _, _, .nil, pins, s, σv, H, μ, σ, O, Q, I, e1, c1, q => wpAny_pure (post.here (v := true) q c1 rfl s I)
  | _ :: ifs, _ :: ts, .cons hc hr, pins, s, σv, H, μ, σ, O, Q, I, e1, c1, q => by
    simp only [List.forIn_cons, if_true]
    refine wpAny_bind (wpAny_bind (any_of_nox hx (hc.out pins s σv H _ I (rdT.go e1 c1 q (Q1 := fun b H1 => ∃ μ1 O1, EnvOk X.K H1 hid μ1 σ σv ∧ Cells X.K H1 hid μ1 O1 ∧ postT Ex0 X.K H1 hid μ1 (if b = true then dAll ts σ O1 else .ok false O1) (fun b H' => ∀ s', L2.Inv X pins σv H' s' → Q b s'))
      fun b O1 H1 μ1 e2 x c p => ⟨μ1, O1, e2, c, p⟩)) fun b s1 ⟨H1, I1, μ1, O1, e2, c2, p⟩ => wpAny_pure ?_))
    show wpAny _ _ (forIn ifs b _) _ _ _
    cases b with
    | true => rw [if_pos rfl] at p; exact tests_ok hx hr pins s1 σv H1 μ1 σ O1 Q I1 e2 c2 p
    | false => rw [if_neg Bool.false_ne_true] at p; exact tests_false (post.here (v := false) p c2 rfl s1 I1) ifs
/-- the block between two steps: the list that grows stands at A -/
structure Bs (X : Cx) (A : Addr) (hid : List Addr) (pins : List (Addr × Obj)) (s : Shared) (σv : St) (H : Hp) (μ : List Addr) (σ : Sg) (O : Ow) (acc : List D) : Prop where
  inv : L2.Inv X pins σv H s
  env : EnvOk X.K H (A :: hid) μ σ σv
  cells : Cells X.K H (A :: hid) μ O
  grown : ∃ vs, H A = some (.lst vs) ∧ Dats X.K H (A :: hid) μ acc vs
/-- what is wanted behind the rest of the clauses -/
def BsEnd (X : Cx) (A : Addr) (hid : List Addr) (pins : List (Addr × Obj)) (σv : St) (H : Hp) (μ : List Addr) (sl : List Nat) (acc : List D) (O : Ow) (Q : Shared → Prop) : Prop :=
  ∀ s' σv' H' μ', L2.Inv X pins σv' H' s' → Ea A H μ H' μ' → Cells X.K H' (A :: hid) μ' O → (∃ vs, H' A = some (.lst vs) ∧ Dats X.K H' (A :: hid) μ' acc vs) → σv'.length = σv.length → (∀ i, i ∉ sl → σv'[i]? = σv[i]?) → Q s'
def BsPost (X : Cx) (A : Addr) (hid : List Addr) (pins : List (Addr × Obj)) (σv : St) (H : Hp) (μ : List Addr) (sl : List Nat) (r : R (List D)) (Q : Shared → Prop) : Prop := match r with
  | .ok acc O => BsEnd X A hid pins σv H μ sl acc O Q
  | _ => False
def emitC (elt : Expr) (acc : Value) (env : Env) : Sem Unit := do let _ ← call (.builtin "list.append") [acc, ← eval elt env]
def bodyC (e : Expr) (elt : Expr) (gens : List Comprehension) (k : Nat) (acc : Value) (env : Env) : Sem Unit := match gens[k]? with
  | some g' => do
    let x ← eval g'.iter env
    standAt g'.iter.pos
    let x ← if g'.is_async != 0 then foldedIterable g'.iter x else foldedSetIterable g'.iter env x
    let _ ← runOwn (.compStart e k (← holding [x] (if g'.is_async != 0 then asyncIter x else pyIter x)) acc env) env
  | none => emitC elt acc env
theorem compTurn_eq (elt : Expr) (gens : List Comprehension) (scope : Scope) (pos : Pos) (k : Nat) (it acc : Value) (env : Env) {tg iter : Expr} {ifs : List Expr} (hk : gens[k]? = some ⟨tg, iter, ifs, 0⟩)
    (hn : gens[k + 1]? = none ∨ ∃ tg' iter' ifs', gens[k + 1]? = some ⟨tg', iter', ifs', 0⟩) :
    compTurn (.ListComp elt gens scope pos) k it acc env = (do
      standAt iter.pos
      match ← pyNext it with
      | none => pure (.done .next)
      | some v =>
        letOwnedTupleGo tg it v
        assign tg env v
        let mut ok := true
        for c in ifs do
          if ok then ok ← isTrue c env (eval c env)
        if ok then bodyC (.ListComp elt gens scope pos) elt gens (k + 1) acc env
        again (.compLoop (.ListComp elt gens scope pos) k it acc env)) := by
  unfold compTurn bodyC emitC
  rcases hn with hn | ⟨tg', iter', ifs', hn⟩
  · simp only [hk, hn]
    rfl
  · simp only [hk, hn, bne_self_eq_false, Bool.false_eq_true, if_false, bind_assoc, pure_bind]
    first | rfl | congr 1
section
variable {A : Addr} {hid : List Addr} {elt : Expr} {gens : List Comprehension} {scope : Scope} {pos : Pos} {te : DE}
/-- the claim for the rest of the clauses -/
def BodyOk (X : Cx) (A : Addr) (hid : List Addr) (e elt : Expr) (gens : List Comprehension) (te : DE) (k : Nat) (cls : List Cl) : Prop := ∀ (pins : List (Addr × Obj)) (s : Shared) (σv : St) (H : Hp) (μ : List Addr) (σ : Sg) (O : Ow) (acc : List D) (Q : Shared → Prop) (E : Value → Shared → Prop),
  Bs X A hid pins s σv H μ σ O acc → BsPost X A hid pins σv H μ (slotsOf cls) (compD cls te σ O acc) Q → wpAny (model X.prog X.w) X.A (bodyC e elt gens k (.ref A) X.env) (fun _ s' => Q s') E s
theorem body_nil {k : Nat} {e : Expr} (hx : X.xe = fun _ _ => False) (he : PD X Ex0 elt te) (hk : gens[k]? = none) : BodyOk X A hid e elt gens te k [] := by
  intro pins s σv H μ σ O acc Q E B q
  unfold bodyC
  rw [hk]
  show wpAny _ _ (emitC elt (.ref A) X.env) _ _ s
  unfold emitC
  obtain ⟨vs, hA, dA⟩ := B.grown
  cases hte : te σ O with
  | ok d O1 =>
    have q2 : BsPost X A hid pins σv H μ (slotsOf []) (if acc.length < 100000 then .ok (acc ++ [d]) O1 else .bad) Q := by
      have := q
      unfold compD at this
      rw [hte] at this
      exact this
    by_cases hl : acc.length < 100000
    · rw [if_pos hl] at q2
      refine wpAny_bind (any_of_nox hx (he.out pins s σv H (fun v H1 => ∃ μ1, Ext H μ H1 μ1 ∧ Cells X.K H1 (A :: hid) μ1 O1 ∧ Dat X.K H1 (A :: hid) μ1 d v) B.inv ⟨A :: hid, μ, σ, O, B.env, B.cells, by rw [hte]; exact fun v H' μ' x c r => ⟨μ', x, c, r⟩⟩)
        fun u s1 ⟨v, H1, I1, ru, μ1, x, c, r⟩ => ?_)
      have nA : A ∉ μ := fun m => B.cells.nh A m (by simp)
      have hA1 : H1 A = some (.lst vs) := x.keep A _ hA nA
      have dA1 := dA.ext x
      refine wpAny_bind (any_of_nox hx (mt_append pins s1 σv H1 (.ref A) [v] (.ref A) [u] (fun _ H2 => H2 = upd H1 A (.lst (vs ++ [v]))) I1 rfl (.cons ru .nil)
        ⟨A, vs, v, rfl, rfl, hA1, Nat.lt_of_lt_of_le (by rw [← dA1.length]; exact hl) (by decide), rfl⟩) fun u2 s2 ⟨v2, H2, I2, r2, e2⟩ => ?_)
      subst e2
      refine wpAny_pure (q2 s2 σv _ μ1 I2 (x.ea.trans (.put ⟨_, hA1⟩)) (c.putA ⟨_, hA1⟩) ⟨_, upd_same, ?_⟩ rfl fun _ _ => rfl)
      exact (dA1.append (.cons r .nil)).mv (Ea.put ⟨_, hA1⟩).mv
    · rw [if_neg hl] at q2; exact q2.elim
  | exc c O1 =>
    unfold compD at q; rw [hte] at q; exact q.elim
  | bad =>
    unfold compD at q; rw [hte] at q; exact q.elim
/-- the loop of one clause -/
theorem loop_ok {k : Nat} {tg iter : Expr} {ifs : List Expr} {c : Cl} {cs : List Cl} (hx : X.xe = fun _ _ => False) (hcalm : X.calm = true) (hk : gens[k]? = some ⟨tg, iter, ifs, 0⟩) (hg : PG X tg (c.g.rd X.K)) (hf : PySem.Paired (fun e t => PDT X Ex0 e t) ifs c.ifs)
    (hb : BodyOk X A hid (.ListComp elt gens scope pos) elt gens te (k + 1) cs) (hn : gens[k + 1]? = none ∨ ∃ tg' iter' ifs', gens[k + 1]? = some ⟨tg', iter', ifs', 0⟩) {it : Addr} {fp : List Addr} {tn : Nat → Heap → Prop} {J : It} {src : Src} (T : Turn X.prog X.w X.K tg J fp it tn)
    (pins : List (Addr × Obj)) (s : Shared) (σv : St) (H : Hp) (μ : List Addr) (σ : Sg) (O : Ow) (acc : List D) (n : Nat) (Q : Shared → Prop) (st : tn 0 s.heap) (hfp : ∀ b ∈ fp, FpOk X pins H b) (sa : SrcAt X.K J src H (A :: hid) μ)
    (B : Bs X A hid pins s σv H μ σ O acc) (q : BsPost X A hid pins σv H μ (slotsOf (c :: cs)) (walkD src (stepD c cs te σ) n 0 O acc) Q) :
    codeAny (model X.prog X.w) X.A (.compLoop (.ListComp elt gens scope pos) k (.ref it) (.ref A) X.env) (fun r s' => ∃ f, r = .ok f ∧ Q s') s := by
  have stat : ∀ {H' : Hp}, (∀ b ∈ fp, H' b = none) → ∀ b ∈ fp, FpOk X pins H' b := fun hn b hb => ⟨hn b hb, (hfp b hb).2⟩
  let P : Nat → Shared → Prop := fun m s' => ∃ i σv' H' μ' O' acc', L2.Inv X pins σv' H' s' ∧ tn i s'.heap ∧ (∀ b ∈ fp, H' b = none) ∧ Ea A H μ H' μ' ∧ Cells X.K H' (A :: hid) μ' O' ∧ (∃ vs, H' A = some (.lst vs) ∧ Dats X.K H' (A :: hid) μ' acc' vs) ∧
    σv'.length = σv.length ∧ (∀ i, i ∉ slotsOf (c :: cs) → σv'[i]? = σv[i]?) ∧ BsPost X A hid pins σv H μ (slotsOf (c :: cs)) (walkD src (stepD c cs te σ) m i O' acc') Q
  refine codeAny_loop rfl P (fun m s1 hP => ?_) n ⟨0, σv, H, μ, O, acc, B.inv, st, fun b hb => (hfp b hb).1, .refl, B.cells, B.grown, rfl, fun _ _ => rfl, q⟩
  show wpAny _ X.A ((compTurn (.ListComp elt gens scope pos) k (.ref it) (.ref A) X.env).onRaise (fun x => do noteFrame x X.env; theTreesLotGoes x)) _ _ s1
  refine wpAny_noted ?_
  rw [compTurn_eq _ _ _ _ _ _ _ _ hk hn]
  obtain ⟨i, σv1, H1, μ1, O1, acc1, I1, st1, fr1, x1, c1, g1, l1, k1, q1⟩ := hP
  have sa1 := sa (A :: hid) H1 μ1 O1 x1.mv c1 i
  -- the names that stand
  have env1 : EnvOk X.K H1 (A :: hid) μ1 (clr σ (slotsOf (c :: cs))) σv1 := by
    refine ⟨by rw [clr_len, B.env.len, l1], fun j d hj => ?_⟩
    obtain ⟨h1, h2⟩ := clr_get _ _ _ _ hj
    obtain ⟨v, h3, h4⟩ := B.env.at_ j d h1
    exact ⟨v, by rw [k1 j h2]; exact h3, h4.mv x1.mv⟩
  cases hget : src.get O1 i with
  | none =>
    rw [hget] at sa1
    have q2 : BsEnd X A hid pins σv H μ (slotsOf (c :: cs)) acc1 O1 Q := by
      cases m with
      | zero => unfold walkD at q1; rw [hget] at q1; exact q1
      | succ f => unfold walkD at q1; rw [hget] at q1; exact q1
    refine wpAny_bind (wpAny_standAt (wpAny_bind (thn (T.done X rfl rfl rfl hcalm i pins s1 σv1 H1 _ I1 (stat fr1) st1 sa1) fun r s2 ⟨hr, I2⟩ => ?_)))
    subst hr
    exact wpAny_pure ⟨_, rfl, q2 s2 σv1 H1 μ1 I2 x1 c1 g1 l1 k1⟩
  | some d =>
    rw [hget] at sa1
    obtain ⟨go, yl⟩ := sa1
    cases m with
    | zero =>
      unfold walkD at q1; rw [hget] at q1; exact q1.elim
    | succ f =>
      have q2 : BsPost X A hid pins σv H μ (slotsOf (c :: cs)) ((stepD c cs te σ d O1 acc1).bnd fun acc' O' => walkD src (stepD c cs te σ) f (i + 1) O' acc') Q := by
        have := q1
        unfold walkD at this
        rw [hget] at this
        exact this
      refine wpAny_bind (wpAny_standAt (wpAny_bind (thn (T.item X rfl rfl rfl hcalm i pins s1 σv1 H1 _ I1 (stat fr1) st1 go) fun r s2 ⟨u, hr, h2⟩ => ?_)))
      subst hr
      refine wpAny_bind (thn h2 fun _ s3 ⟨v, H3, I3, r3, y3, st3, fr3⟩ => ?_)
      obtain ⟨x3, c3, d3⟩ := yl v H3 y3
      have I3' := I3.pinned (stat fr3) (T.obj _ _ st3)
      cases hput : c.g.put d (clr σ (slotsOf (c :: cs))) with
      | none =>
        unfold stepD at q2; rw [hput] at q2; exact q2.elim
      | some σ3 =>
        have hstep : stepD c cs te σ d O1 acc1 = ((dAll c.ifs σ3 O1).bnd fun b O3 => if b = true then compD cs te σ3 O3 acc1 else .ok acc1 O3) := by
          unfold stepD; rw [hput]
        rw [hstep] at q2
        refine wpAny_bind (any_of_nox hx (hg _ s3 σv1 H3 v u (fun σv4 H4 => H4 = H3 ∧ EnvOk X.K H3 (A :: hid) μ1 σ3 σv4 ∧ ∀ j, j ∉ c.g.slots → σv4[j]? = σv1[j]?) I3' r3 (Tg.ok2 c.g (env1.ext x3) d3 hput fun σv4 e4 k4 => ⟨rfl, e4, k4⟩)) fun _ s4 ⟨σv4, H4, I4, e4, env4, k4⟩ => ?_)
        subst e4
        have l4 : σv4.length = σv.length := by rw [I4.len, ← I3.len, l1]
        have k4' : ∀ j, j ∉ slotsOf (c :: cs) → σv4[j]? = σv[j]? := fun j hj => by
          rw [k4 j fun z => hj (List.mem_append_left _ z)]; exact k1 j hj
        have nA : A ∉ μ1 := fun m => c1.nh A m (by simp)
        obtain ⟨vs, hA, dA⟩ := g1
        have x13 : Ea A H μ H4 μ1 := x1.trans x3.ea
        have hA3 : H4 A = some (.lst vs) := x3.keep A _ hA nA
        have dA3 := dA.ext x3
        -- behind the step: the next turn
        have again : ∀ {s' : Shared} {σv' : St} {H' : Hp} {μ' : List Addr} {O' : Ow} {acc' : List D}, L2.Inv X (pins ++ pinsAt fp s3.heap) σv' H' s' → Ea A H μ H' μ' → Cells X.K H' (A :: hid) μ' O' → (∃ vs, H' A = some (.lst vs) ∧ Dats X.K H' (A :: hid) μ' acc' vs) → σv'.length = σv.length →
            (∀ i, i ∉ slotsOf (c :: cs) → σv'[i]? = σv[i]?) → BsPost X A hid pins σv H μ (slotsOf (c :: cs)) (walkD src (stepD c cs te σ) f (i + 1) O' acc') Q → ∃ m, m < f + 1 ∧ P m s' := by
          intro s' σv' H' μ' O' acc' I' x' c' g' l' k' p'
          refine ⟨f, Nat.lt_succ_self f, i + 1, σv', H', μ', O', acc', I'.unpinned, T.keep _ _ _ st3 fun b hb o e => (I'.pin (b, o) (List.mem_append_right _ (List.mem_append_right _ (mem_pinsAt hb e)))).1, fun b hb => ?_, x', c', g', l', k', p'⟩
          obtain ⟨o, e, d⟩ := T.obj _ _ st3 b hb
          exact (I'.pin (b, o) (List.mem_append_right _ (List.mem_append_right _ (mem_pinsAt hb e)))).2.1
        cases hall : dAll c.ifs σ3 O1 with
        | exc c' O' => rw [hall] at q2; exact q2.elim
        | bad => rw [hall] at q2; exact q2.elim
        | ok b O3 =>
          rw [hall] at q2
          have q3 : BsPost X A hid pins σv H μ (slotsOf (c :: cs)) ((if b = true then compD cs te σ3 O3 acc1 else .ok acc1 O3).bnd fun acc' O' => walkD src (stepD c cs te σ) f (i + 1) O' acc') Q := q2
          refine wpAny_bind (tests_ok (hid := A :: hid) hx hf _ s4 σv4 H4 μ1 σ3 O1 _ I4 env4 c3 ?_)
          rw [hall]
          intro b' H5 μ5 x5 c5 eb s5 I5
          have eb : b = b' := eb
          subst eb
          have hA5 : H5 A = some (.lst vs) := x5.keep A _ hA3 nA
          have x15 : Ea A H μ H5 μ5 := x13.trans x5.ea
          cases b with
          | false =>
            rw [if_neg Bool.false_ne_true] at q3
            exact wpAny_pure ⟨rfl, again I5 x15 c5 ⟨vs, hA5, dA3.ext x5⟩ l4 k4' q3⟩
          | true =>
            rw [if_pos rfl] at q3
            refine wpAny_bind (hb _ s5 σv4 H5 μ5 σ3 O3 acc1 _ _ ⟨I5, env4.ext x5, c5, vs, hA5, dA3.ext x5⟩ ?_)
            cases hcd : compD cs te σ3 O3 acc1 with
            | exc c' O' => rw [hcd] at q3; exact q3.elim
            | bad => rw [hcd] at q3; exact q3.elim
            | ok acc6 O6 =>
              rw [hcd] at q3
              intro s6 σv6 H6 μ6 I6 x6 c6 g6 l6 k6
              refine wpAny_pure ⟨rfl, again I6 (x15.trans x6) c6 g6 (l6.trans l4) (fun j hj => ?_) q3⟩
              rw [k6 j fun z => hj (List.mem_append_right _ z)]
              exact k4' j hj
end
end
end DL

namespace DL
open PySem L2

section
variable {X : Cx} {A : Addr} {hid : List Addr} {elt : Expr} {gens : List Comprehension} {scope : Scope} {pos : Pos} {te : DE}
/-- the start of a clause's loop -/
theorem start_ok {k : Nat} {tg iter : Expr} {ifs : List Expr} {it : Addr} {fp : List Addr} {tn : Nat → Heap → Prop} {J : It} {env : Env} {P : Result → Shared → Prop} {s : Shared} {acc : Value} (hk : gens[k]? = some ⟨tg, iter, ifs, 0⟩) (T : Turn X.prog X.w X.K tg J fp it tn) (i : Nat) (st : tn i s.heap)
    (h : codeAny (model X.prog X.w) X.A (.compLoop (.ListComp elt gens scope pos) k (.ref it) acc env) P s) :
    codeAny (model X.prog X.w) X.A (.compStart (.ListComp elt gens scope pos) k (.ref it) acc env) P s := by
  refine codeAny_of_tree ?_
  show wpAny _ _ ((compStart (.ListComp elt gens scope pos) k (.ref it) acc env).onRaise (fun x => do noteFrame x env; standAt theWindowsPlace)) _ _ s
  refine wpAny_notedAt ?_
  unfold compStart
  have hcl : clausesOf (.ListComp elt gens scope pos) = gens := rfl
  simp only [hcl, hk, Option.elim, bne_self_eq_false, Bool.false_eq_true, if_false]
  refine wpAny_bind (wpAny_askSetting (wpAny_ite ?_))
  split
  · exact wpAny_pure (And.intro rfl h)
  · refine wpAny_bind (wpAny_rule ?_)
    exact wpAny_bind (wpAny_standAt (wpAny_bind (T.self _ i s _ _ st (wpAny_pure (And.intro rfl h)))))
theorem body_ok (hx : X.xe = fun _ _ => False) (hcalm : X.calm = true) (he : PD X Ex0 elt te) : ∀ {rest : List Comprehension} {cls : List Cl}, ClsOk X rest cls → ∀ k, gens.drop k = rest → BodyOk X A hid (.ListComp elt gens scope pos) elt gens te k cls
  | _, _, .nil, k, hd => body_nil hx he (by
      have := congrArg List.length hd
      simp at this
      exact List.getElem?_eq_none_iff.mpr (by omega))
  | ⟨tg, iter, ifs, _⟩ :: gs, c :: cs, .cons hi hs hg hf r, k, hd => by
    have hk : gens[k]? = some ⟨tg, iter, ifs, 0⟩ := by
      have : (gens.drop k)[0]? = some ⟨tg, iter, ifs, 0⟩ := by rw [hd]; rfl
      simpa using this
    have hd' : gens.drop (k + 1) = gs := by
      have := congrArg (List.drop 1) hd
      simpa [List.drop_drop, Nat.add_comm] using this
    have hb := body_ok hx hcalm he r (k + 1) hd'
    have hn : gens[k + 1]? = none ∨ ∃ tg' iter' ifs', gens[k + 1]? = some ⟨tg', iter', ifs', 0⟩ := by
      have e : gens[k + 1]? = gs[0]? := by rw [← hd']; simp
      cases r with
      | nil => exact .inl (by rw [e]; rfl)
      | cons _ _ _ _ _ => exact .inr ⟨_, _, _, by rw [e]; rfl⟩
    intro pins s σv H μ σ O acc Q E B q
    unfold bodyC
    rw [hk]
    simp only [bne_self_eq_false, Bool.false_eq_true, if_false]
    cases hit : c.it σ O with
    | exc c' O' => unfold compD at q; rw [hit] at q; exact q.elim
    | bad => unfold compD at q; rw [hit] at q; exact q.elim
    | ok src O1 =>
      have q1 : BsPost X A hid pins σv H μ (slotsOf (c :: cs)) (walkD src (stepD c cs te σ) (src.size O1) 0 O1 acc) Q := by
        have := q
        unfold compD at this
        rw [hit] at this
        exact this
      refine wpAny_bind (any_of_nox hx (hi.out pins s σv H (fun J H1 => ∃ μ1, Ext H μ H1 μ1 ∧ Cells X.K H1 (A :: hid) μ1 O1 ∧ SrcAt X.K J src H1 (A :: hid) μ1) B.inv ⟨A :: hid, μ, σ, O, B.env, B.cells, by rw [hit]; exact fun J H1 μ1 x c sa => ⟨μ1, x, c, sa⟩⟩) fun v s1 h1 => ?_)
      refine wpAny_bind (wpAny_standAt ?_)
      refine wpAny_bind (wpAny_of_eq (hs v) ?_)
      refine wpAny_bind (wpAny_holding (any_of_nox hx h1 fun itv s2 h2 => ?_))
      obtain ⟨it, fp, tn, J, H2, e, I2, T, st2, f2, μ2, x2, c2, sa⟩ := h2
      subst e
      refine wpAny_bind (wpAny_runOwn (h := none) ?_)
      show codeAny _ X.A _ _ _
      obtain ⟨vs, hA, dA⟩ := B.grown
      have nA : A ∉ μ := fun m => B.cells.nh A m (by simp)
      refine start_ok hk T 0 st2 ?_
      refine codeAny_mono (loop_ok (A := A) (hid := hid) (te := te) (c := c) (cs := cs) hx hcalm hk hg hf hb hn T pins s2 σv H2 μ2 σ O1 acc (src.size O1) (fun s' => Q s') st2 f2 sa ⟨I2, B.env.ext x2, c2, vs, x2.keep A _ hA nA, dA.ext x2⟩ ?_) fun r s' hr => ?_
      · cases hw : walkD src (stepD c cs te σ) (src.size O1) 0 O1 acc with
        | exc c' O' => rw [hw] at q1; exact q1.elim
        | bad => rw [hw] at q1; exact q1.elim
        | ok acc' O' =>
          rw [hw] at q1
          exact fun s' σv' H' μ' I' x' c' g' l' k' => q1 s' σv' H' μ' I' (x2.ea.trans x') c' g' l' k'
      · obtain ⟨f, rfl, hq⟩ := hr
        exact wpAny_pure hq
end
end DL

namespace DL
open PySem L2

/-! ### the block of a comprehension -/
def cxB (X : Cx) (N' : List Str) (scope : Scope) (cells : List (Str × Addr)) (C : Addr) (s : Shared) (H : Hp) (fp : List Addr) : Cx :=
  { X with
    N := N', s₀ := s, H₀ := H
    env := { scope := relabel scope X.env, locals := C, globals := X.env.globals, cells := cells, qual := X.env.qual, func := none, code := X.env.code, frame := X.env.frame, builtins := X.env.builtins }
    outer := X.stack, ex := fp, fn := fun x => scope.names.lookup x == some .cell, pn := [], xe := fun _ _ => False }
/-- what of the names can be seen -/
structure BOk (sc scope : Scope) (N' : List Str) (sl : List Nat) : Prop where
  kind : scope.kind = .function
  nd : (scope.names.map (·.1)).Nodup
  frees : ∀ y ∈ scope.names, y.2 = .free → sc.names.lookup y.1 = some .cell ∨ sc.names.lookup y.1 = some .free
  own : ∀ (i : Nat) x, N'[i]? = some x → (x, NameKind.local) ∈ scope.names ∨ (x, NameKind.cell) ∈ scope.names → i ∈ sl
theorem lookup_mem {β : Type} : ∀ {l : List (Str × β)} {x : Str} {b : β}, (l.map (·.1)).Nodup → (x, b) ∈ l → l.lookup x = some b
  | [], _, _, _, h => by cases h
  | (y, c) :: r, x, b, nd, h => by
    obtain ⟨n1, n2⟩ := List.nodup_cons.mp nd
    rcases List.mem_cons.mp h with e | h
    · cases e; simp [List.lookup_cons]
    · have ne : x ≠ y := fun e => n1 (List.mem_map.mpr ⟨(x, b), h, e⟩)
      rw [List.lookup_cons]
      have : (x == y) = false := by simpa using ne
      rw [this]
      exact lookup_mem n2 h
theorem lookup_relabel (env : Env) (x : Str) : ∀ (names : List (Str × NameKind)), (names.map fun (n, k) => if (k == NameKind.free && env.scope.kind == .function && env.kindOf n == some .cell) then (n, NameKind.cell) else (n, k)).lookup x =
    (names.lookup x).map fun k => if (k == NameKind.free && env.scope.kind == .function && env.kindOf x == some .cell) then NameKind.cell else k
  | [] => rfl
  | (n, k) :: r => by
    show List.lookup x ((if (k == NameKind.free && env.scope.kind == .function && env.kindOf n == some .cell) = true then (n, NameKind.cell) else (n, k)) :: _) = _
    cases hx : x == n with
    | true =>
      have e : x = n := by simpa using hx
      subst e
      simp only [List.lookup_cons, hx, Option.map_some]
      split
      · rename_i h; simp [List.lookup_cons, h]
      · rename_i h; simp [List.lookup_cons, h]
    | false =>
      have ih := lookup_relabel env x r
      simp only [List.lookup_cons, hx]
      rw [← ih]
      split <;> simp only [List.lookup_cons, hx]
theorem vis_relabel {scope : Scope} {env : Env} {x : Str} (h : Vis (relabel scope env) x) : (x, NameKind.local) ∈ scope.names ∨ (x, NameKind.cell) ∈ scope.names ∨ (x, NameKind.free) ∈ scope.names := by
  unfold Vis relabel at h
  simp only [lookup_relabel] at h
  cases e : scope.names.lookup x with
  | none => rw [e] at h; simp at h
  | some k =>
    have m := PySem.mem_of_lookup e
    cases k with
    | «local» => exact .inl m
    | cell => exact .inr (.inl m)
    | free => exact .inr (.inr m)
    | _ => rw [e] at h; simp at h
/-! closures -/
def clFold (cells : List (Str × Addr)) : List (Str × NameKind) → List (Str × Addr) → List (Str × Addr)
  | [], acc => acc
  | (n, k) :: r, acc => if k == .free then clFold cells r ((n, (cells.lookup n).getD 0) :: acc) else clFold cells r acc
theorem closureFor_eq {scope : Scope} {env : Env} (h : ∀ y ∈ scope.names, y.2 = .free → ∃ c, env.cells.lookup y.1 = some c) : closureFor scope env = pure (clFold env.cells scope.names []) := by
  have key : ∀ (names : List (Str × NameKind)) (acc : List (Str × Addr)), (∀ y ∈ names, y.2 = .free → ∃ c, env.cells.lookup y.1 = some c) →
      (forIn names acc fun (x : Str × NameKind) (cs : List (Str × Addr)) => (if x.2 == .free then (do let a ← cellOf env x.1; pure (ForInStep.yield ((x.1, a) :: cs))) else pure (ForInStep.yield cs) : Sem _)) = pure (clFold env.cells names acc) := by
    intro names
    induction names with
    | nil => intro acc _; rfl
    | cons y r ih =>
      intro acc hn
      obtain ⟨n, k⟩ := y
      rw [List.forIn_cons]
      unfold clFold
      by_cases hk : (k == NameKind.free) = true
      · obtain ⟨c, hc⟩ := hn (n, k) List.mem_cons_self (by simpa using hk)
        have e1 : cellOf env n = pure c := by unfold cellOf; rw [hc]
        simp only [hk, if_true, e1, pure_bind, hc, Option.getD_some]
        exact ih _ fun y hy => hn y (List.mem_cons_of_mem _ hy)
      · simp only [hk, if_false, pure_bind, Bool.false_eq_true]
        exact ih _ fun y hy => hn y (List.mem_cons_of_mem _ hy)
  have := key scope.names [] h
  unfold closureFor
  refine Eq.trans ?_ (congrArg (fun m => m >>= fun cs => pure cs) this)
  congr 1
theorem clFold_mem {cells : List (Str × Addr)} {x : Str} {c : Addr} : ∀ (names : List (Str × NameKind)) (acc : List (Str × Addr)), (x, c) ∈ clFold cells names acc → (x, c) ∈ acc ∨ ((x, NameKind.free) ∈ names ∧ c = (cells.lookup x).getD 0)
  | [], acc, h => .inl h
  | (n, k) :: r, acc, h => by
    unfold clFold at h
    by_cases hk : (k == NameKind.free) = true
    · rw [if_pos hk] at h
      rcases clFold_mem r _ h with m | ⟨m, e⟩
      · rcases List.mem_cons.mp m with m | m
        · cases m
          have : k = .free := by simpa using hk
          subst this
          exact .inr ⟨List.mem_cons_self, rfl⟩
        · exact .inl m
      · exact .inr ⟨List.mem_cons_of_mem _ m, e⟩
    · rw [if_neg hk] at h
      rcases clFold_mem r _ h with m | ⟨m, e⟩
      · exact .inl m
      · exact .inr ⟨List.mem_cons_of_mem _ m, e⟩
theorem clFold_acc {cells : List (Str × Addr)} {p : Str × Addr} : ∀ (names : List (Str × NameKind)) (acc : List (Str × Addr)), p ∈ acc → p ∈ clFold cells names acc
  | [], acc, h => h
  | (n, k) :: r, acc, h => by
    unfold clFold
    split
    · exact clFold_acc r _ (List.mem_cons_of_mem _ h)
    · exact clFold_acc r _ h
theorem clFold_has {cells : List (Str × Addr)} {x : Str} : ∀ (names : List (Str × NameKind)) (acc : List (Str × Addr)), (x, NameKind.free) ∈ names → (x, (cells.lookup x).getD 0) ∈ clFold cells names acc
  | (n, k) :: r, acc, h => by
    unfold clFold
    rcases List.mem_cons.mp h with e | h
    · cases e
      rw [if_pos (by decide)]
      exact clFold_acc r _ List.mem_cons_self
    · split
      · exact clFold_has r _ h
      · exact clFold_has r _ h
/-! the cells of a block -/
theorem cf_mem {x : Str} {c : Addr} : ∀ (names : List (Str × NameKind)) (n : Nat) (acc : List (Str × Addr)), (x, c) ∈ cellsFrom n names acc → (x, c) ∈ acc ∨ ((x, NameKind.cell) ∈ names ∧ n ≤ c)
  | [], n, acc, h => .inl h
  | (y, k) :: r, n, acc, h => by
    unfold cellsFrom at h
    by_cases hk : (k == NameKind.cell) = true
    · rw [if_pos hk] at h
      rcases cf_mem r _ _ h with m | ⟨m, e⟩
      · rcases List.mem_cons.mp m with m | m
        · cases m
          have : k = .cell := by simpa using hk
          subst this
          exact .inr ⟨List.mem_cons_self, Nat.le_refl _⟩
        · exact .inl m
      · exact .inr ⟨List.mem_cons_of_mem _ m, Nat.le_of_succ_le e⟩
    · rw [if_neg hk] at h
      rcases cf_mem r _ _ h with m | ⟨m, e⟩
      · exact .inl m
      · exact .inr ⟨List.mem_cons_of_mem _ m, e⟩
theorem cf_acc {p : Str × Addr} : ∀ (names : List (Str × NameKind)) (n : Nat) (acc : List (Str × Addr)), p ∈ acc → p ∈ cellsFrom n names acc
  | [], _, _, h => h
  | (y, k) :: r, n, acc, h => by
    unfold cellsFrom
    split
    · exact cf_acc r _ _ (List.mem_cons_of_mem _ h)
    · exact cf_acc r _ _ h
theorem cf_apart : ∀ (names : List (Str × NameKind)) (n : Nat) (acc : List (Str × Addr)), (acc.Pairwise fun x y => x.2 ≠ y.2) → (∀ p ∈ acc, p.2 < n) → (cellsFrom n names acc).Pairwise fun x y => x.2 ≠ y.2
  | [], _, _, h, _ => h
  | (y, k) :: r, n, acc, h, hl => by
    unfold cellsFrom
    split
    · refine cf_apart r (n + 1) _ (List.pairwise_cons.mpr ⟨fun p hp => ?_, h⟩) fun p hp => ?_
      · exact fun e => absurd (hl p hp) (by show ¬ p.2 < n; rw [← e]; exact Nat.lt_irrefl _)
      · rcases List.mem_cons.mp hp with rfl | hp
        · exact Nat.lt_succ_self _
        · exact Nat.lt_succ_of_lt (hl p hp)
    · exact cf_apart r n acc h hl
theorem cf_names : ∀ (names : List (Str × NameKind)) (n : Nat) (acc : List (Str × Addr)), ((names.map (·.1)).Nodup) → (acc.map (·.1)).Nodup → (∀ p ∈ acc, ∀ k, (p.1, k) ∈ names → k ≠ NameKind.cell) → ((cellsFrom n names acc).map (·.1)).Nodup
  | [], _, _, _, h, _ => h
  | (y, k) :: r, n, acc, nd, h, hl => by
    obtain ⟨n1, n2⟩ := List.nodup_cons.mp nd
    unfold cellsFrom
    by_cases hk : (k == NameKind.cell) = true
    · rw [if_pos hk]
      have hk' : k = .cell := by simpa using hk
      refine cf_names r (n + 1) _ n2 (List.nodup_cons.mpr ⟨fun m => ?_, h⟩) fun p hp k' hk2 => ?_
      · obtain ⟨p, hp, e⟩ := List.mem_map.mp m
        exact hl p hp k (by rw [e]; exact List.mem_cons_self) hk'
      · rcases List.mem_cons.mp hp with rfl | hp
        · exact absurd (List.mem_map.mpr ⟨(y, k'), hk2, rfl⟩) n1
        · exact hl p hp k' (List.mem_cons_of_mem _ hk2)
    · rw [if_neg hk]
      exact cf_names r n acc n2 h fun p hp k' hk2 => hl p hp k' (List.mem_cons_of_mem _ hk2)
theorem clFold_nodup {cells : List (Str × Addr)} : ∀ (names : List (Str × NameKind)) (acc : List (Str × Addr)), ((names.map (·.1)).Nodup) → (acc.map (·.1)).Nodup → (∀ p ∈ acc, p.1 ∉ names.map (·.1)) → ((clFold cells names acc).map (·.1)).Nodup
  | [], _, _, h, _ => h
  | (y, k) :: r, acc, nd, h, hl => by
    obtain ⟨n1, n2⟩ := List.nodup_cons.mp nd
    unfold clFold
    split
    · refine clFold_nodup r _ n2 (List.nodup_cons.mpr ⟨fun m => ?_, h⟩) fun p hp => ?_
      · obtain ⟨p, hp, e⟩ := List.mem_map.mp m
        exact hl p hp (by rw [e]; simp)
      · rcases List.mem_cons.mp hp with rfl | hp
        · exact n1
        · exact fun m => hl p hp (List.mem_cons_of_mem _ m)
    · exact clFold_nodup r acc n2 h fun p hp m => hl p hp (List.mem_cons_of_mem _ m)
end DL

namespace DL
open PySem L2

theorem cf_cell {x : Str} {c : Addr} : ∀ (names : List (Str × NameKind)) (h : Heap) (acc : List (Str × Addr)), (x, c) ∈ cellsFrom h.objs.size names acc → (x, c) ∈ acc ∨ (pushCells h names).IsCell c none
  | [], _, _, m => .inl m
  | (y, k) :: r, h, acc, m => by
    unfold cellsFrom at m
    unfold pushCells
    by_cases hk : (k == NameKind.cell) = true
    · rw [if_pos hk] at m ⊢
      have e : h.objs.size + 1 = (h.push { cls := .type "cell", data := .cell none }).objs.size := (Heap.size_push ..).symm
      rw [e] at m
      rcases cf_cell r _ _ m with m | m
      · rcases List.mem_cons.mp m with m | m
        · cases m
          exact .inr ⟨_, pushCells_keeps _ _ _ _ (Heap.get?_push_size _ rfl), rfl⟩
        · exact .inl m
      · exact .inr m
    · rw [if_neg hk] at m ⊢
      exact cf_cell r _ _ m
theorem pairwise_snd {l : List (Str × Addr)} (nd : (l.map (·.1)).Nodup) (inj : ∀ p ∈ l, ∀ q ∈ l, p.2 = q.2 → p.1 = q.1) : l.Pairwise fun x y => x.2 ≠ y.2 := by
  induction l with
  | nil => exact .nil
  | cons p r ih =>
    obtain ⟨n1, n2⟩ := List.nodup_cons.mp nd
    refine List.pairwise_cons.mpr ⟨fun q hq e => n1 ?_, ih n2 fun a ha b hb => inj a (List.mem_cons_of_mem _ ha) b (List.mem_cons_of_mem _ hb)⟩
    exact List.mem_map.mpr ⟨q, hq, (inj p List.mem_cons_self q (List.mem_cons_of_mem _ hq) e).symm⟩
abbrev lstObj : Obj := { cls := .type "list", dict := none, data := .seq ([] : List Value).toArray }
abbrev dctObj : Obj := { cls := .type "dict", data := .dict #[] }
section
variable {X : Cx} {pins : List (Addr × Obj)} {σv : St} {H : Hp} {s : Shared}
abbrev bHeap (h : Heap) (names : List (Str × NameKind)) : Heap := pushCells ((h.push lstObj).push dctObj) names
theorem bHeap_keeps (h : Heap) (names : List (Str × NameKind)) (b : Addr) (o : Obj) (e : h.get? b = some o) : (bHeap h names).get? b = some o := pushCells_keeps _ _ _ _ (Heap.get?_push_of_some _ (Heap.get?_push_of_some _ e))
theorem bsize (h : Heap) : ((h.push lstObj).push dctObj).objs.size = h.objs.size + 2 := by rw [Heap.size_push, Heap.size_push]
theorem inv_block {scope : Scope} {ext : List Str} {sl : List Nat} {fp : List Addr} (I : L2.Inv X pins σv H s) (hfp : ∀ b ∈ fp, FpOk X pins H b) (hlt : ∀ b ∈ fp, b < s.heap.objs.size) (hb : BOk X.env.scope scope (X.N ++ ext) sl) :
    L2.Inv (cxB X (X.N ++ ext) scope (cellsFrom (s.heap.objs.size + 2) scope.names (clFold X.env.cells scope.names [])) (s.heap.objs.size + 1) s H fp) [] (clr (σv ++ List.replicate ext.length none) sl)
      (upd H s.heap.objs.size (.lst [])) { s with heap := bHeap s.heap scope.names } := by
  have hclt : ∀ x c, X.env.cells.lookup x = some c → c < s.heap.objs.size := fun x c e => by
    obtain ⟨v, z⟩ := I.cell x c e
    exact z.lt
  -- a free name of the block has its cell around
  have hfree : ∀ x, (x, NameKind.free) ∈ scope.names → ∃ c, X.env.cells.lookup x = some c := fun x hx => I.ok.has x (hb.frees _ hx rfl)
  have hcl : ∀ x c, (x, c) ∈ clFold X.env.cells scope.names [] → (x, NameKind.free) ∈ scope.names ∧ X.env.cells.lookup x = some c := fun x c hm => by
    rcases clFold_mem _ _ hm with m | ⟨m, e⟩
    · cases m
    · obtain ⟨c', hc'⟩ := hfree x m
      rw [hc'] at e
      exact ⟨m, by rw [e]; exact hc'⟩
  have hlc : ∀ x, (x, NameKind.free) ∈ scope.names → ∀ c, X.env.cells.lookup x = some c → (x, c) ∈ clFold X.env.cells scope.names [] := fun x hx c e => by
    have := clFold_has (cells := X.env.cells) scope.names [] hx
    rw [e] at this
    exact this
  have ndcl : ((clFold X.env.cells scope.names []).map (·.1)).Nodup := clFold_nodup _ _ hb.nd (by simp) (by intro p hp; cases hp)
  have ndc : ((cellsFrom (s.heap.objs.size + 2) scope.names (clFold X.env.cells scope.names [])).map (·.1)).Nodup := cf_names _ _ _ hb.nd ndcl fun p hp k hk e => by
    subst e
    have h1 := (hcl p.1 p.2 hp).1
    have := lookup_mem hb.nd h1
    rw [lookup_mem hb.nd hk] at this
    cases this
  have apart : (cellsFrom (s.heap.objs.size + 2) scope.names (clFold X.env.cells scope.names [])).Pairwise fun x y => x.2 ≠ y.2 := by
    refine cf_apart _ _ _ (pairwise_snd ndcl fun p hp q hq e => ?_) fun p hp => Nat.lt_of_lt_of_le (hclt _ _ (hcl p.1 p.2 hp).2) (Nat.le_add_right _ _)
    refine I.ok.inj p.1 q.1 p.2 (hcl p.1 p.2 hp).2 ?_
    rw [e]; exact (hcl q.1 q.2 hq).2
  have hsplit : ∀ x c, (cellsFrom (s.heap.objs.size + 2) scope.names (clFold X.env.cells scope.names [])).lookup x = some c → ((x, NameKind.free) ∈ scope.names ∧ X.env.cells.lookup x = some c) ∨ ((x, NameKind.cell) ∈ scope.names ∧ s.heap.objs.size + 2 ≤ c) := fun x c e => by
    rcases cf_mem _ _ _ (PySem.mem_of_lookup e) with m | m
    · exact .inl (hcl x c m)
    · exact .inr m
  have fresh : ∀ a, s.heap.objs.size ≤ a → H a = none := fun a ha => I.hok.fresh ha
  have kp := bHeap_keeps s.heap scope.names
  have oldc : ∀ x, (x, NameKind.free) ∈ scope.names → ∀ c, X.env.cells.lookup x = some c → (cellsFrom (s.heap.objs.size + 2) scope.names (clFold X.env.cells scope.names [])).lookup x = some c := fun x hx c e =>
    lookup_mem ndc (cf_acc _ _ _ (hlc x hx c e))
  refine ⟨⟨I.ok.mod, hb.kind, I.ok.glob, I.ok.blt, Nat.le_succ _, fun x y c h1 h2 => name_of_addr apart (PySem.mem_of_lookup h1) (PySem.mem_of_lookup h2), fun x hx => ?_, fun x c hx h => ?_, I.ok.hd, I.ok.frames, .inl rfl, fun b hbm => ⟨?_, fun x c e => ?_⟩, I.bs, ?_, fun b o e hbm => ?_, fun b hbm z => ?_, I.stack, I.stkFree⟩,
    rfl, I.bare, Un.laid kp (Nat.le_refl _) (fresh _ (Nat.le_refl _)), ?_, fun x c e => ?_, ?_, fun x c e => ?_, fun p hp => absurd (show p ∈ ([] : List (Addr × Obj)) from hp) (by simp), I.hok.laid kp (Nat.le_refl _) ?_, ?_⟩
  · -- has
    have hx : Vis (relabel scope X.env) x := .inr hx
    rcases vis_relabel hx with m | m | m
    · exfalso
      have e := lookup_mem hb.nd m
      have e2 : (relabel scope X.env).names.lookup x = some .local := lookup_relabel_local e
      rcases (show (relabel scope X.env).names.lookup x = some .cell ∨ (relabel scope X.env).names.lookup x = some .free by rename_i h0; exact h0) with q | q
      · rw [e2] at q; cases q
      · rw [e2] at q; cases q
    · exact Option.isSome_iff_exists.mp (PySem.W.cellsFrom_some scope.names _ _ (.inl (lookup_mem hb.nd m)))
    · obtain ⟨c, hc⟩ := hfree x m
      exact ⟨c, oldc x m c hc⟩
  · -- cab
    have hx : (scope.names.lookup x == some .cell) = true := hx
    rcases hsplit x c h with ⟨m, _⟩ | ⟨_, m⟩
    · rw [lookup_mem hb.nd m] at hx; cases hx
    · exact Nat.le_trans (Nat.le_add_right _ _) m
  · exact Nat.ne_of_lt (Nat.lt_succ_of_lt (hlt b hbm))
  · rcases hsplit x c e with ⟨_, m⟩ | ⟨_, m⟩
    · exact (hfp b hbm).2.2.2.2.1 x c m
    · have h0 : b < s.heap.objs.size := hlt b hbm
      exact fun z => by
        rw [z] at m
        exact absurd (Nat.lt_of_lt_of_le h0 (Nat.le_trans (Nat.le_add_right _ 2) m)) (Nat.lt_irrefl _)
  · exact Nat.le_trans I.ok.bsz I.sz
  · rcases (hfp b hbm).2.2.2.1 with z | z
    · exact I.ok.noex b o e z
    · exact absurd (Nat.lt_of_lt_of_le (Heap.lt_size e) (Nat.le_trans I.ok.bsz z)) (Nat.lt_irrefl _)
  · rcases List.mem_cons.mp (I.stkSub b z) with q | q
    · exact (hfp b hbm).2.1 q
    · exact (hfp b hbm).2.2.1 q
  · -- loc
    refine ⟨fun _ => none, ?_, fun i x v h1 h2 h3 => ?_⟩
    · have z := (Heap.Ns.new (s.heap.push lstObj) (.type "dict")).keeps (pushCells_keeps scope.names _)
      rw [Heap.size_push] at z
      exact z
    · obtain ⟨g1, g2⟩ := clr_get _ _ _ _ h2
      have hi : i < σv.length := by
        by_cases hi : i < σv.length
        · exact hi
        · rw [List.getElem?_append_right (by omega), List.getElem?_replicate] at g1
          split at g1 <;> cases g1
      rw [List.getElem?_append_left hi] at g1
      have hxN : X.N[i]? = some x := by
        have h1 : (X.N ++ ext)[i]? = some x := h1
        rw [List.getElem?_append_left (by rw [← I.len]; exact hi)] at h1
        exact h1
      rcases vis_relabel h3 with m | m | m
      · exact absurd (hb.own i x h1 (.inl m)) g2
      · exact absurd (hb.own i x h1 (.inr m)) g2
      · obtain ⟨m0, hn, hl⟩ := I.loc
        have kx := hb.frees _ m rfl
        obtain ⟨u, ru, lk⟩ := hl i x v hxN g1 (.inr kx)
        refine ⟨u, ru, ?_⟩
        rcases lk with ⟨q, _⟩ | ⟨q, c, hc, z⟩
        · exfalso
          have q : X.env.scope.names.lookup x = some .local := q
          rcases kx with k | k <;> (rw [q] at k; cases k)
        · refine .inr ⟨?_, c, oldc x m c hc, z.keeps kp⟩
          have e := lookup_mem hb.nd m
          show (relabel scope X.env).names.lookup x = some .cell ∨ (relabel scope X.env).names.lookup x = some .free
          unfold relabel
          simp only [lookup_relabel, e, Option.map_some]
          split
          · exact .inl rfl
          · exact .inr rfl
  · -- cell
    rcases cf_cell scope.names ((s.heap.push lstObj).push dctObj) (clFold X.env.cells scope.names []) (x := x) (c := c) (by rw [bsize]; exact PySem.mem_of_lookup e) with m | m
    · obtain ⟨v, z⟩ := I.cell x c (hcl x c m).2
      exact ⟨v, z.keeps kp⟩
    · exact ⟨none, m⟩
  · show upd H s.heap.objs.size (HO.lst []) (s.heap.objs.size + 1) = none
    rw [upd_ne (Nat.ne_of_gt (Nat.lt_succ_self _))]
    exact fresh _ (Nat.le_succ _)
  · rcases hsplit x c e with ⟨_, m⟩ | ⟨_, m⟩
    · rw [upd_ne (Nat.ne_of_lt (hclt x c m))]
      exact I.freeC x c m
    · have ne : c ≠ s.heap.objs.size := fun z => by
        rw [z] at m
        exact absurd m (by omega)
      rw [upd_ne ne]
      exact fresh c (Nat.le_trans (Nat.le_add_right _ 2) m)
  · exact ⟨Nat.zero_le _, [], 0, .nil, pushCells_keeps _ _ _ _ (Heap.get?_push_of_some _ (Heap.get?_push_size _ rfl))⟩
  · show _ = (X.N ++ ext).length
    rw [clr_len, List.length_append, List.length_replicate, List.length_append, I.len]
end
end DL

namespace DL
open PySem L2

def noX {α : Type} : R α → R α
  | .ok a O => .ok a O
  | _ => .bad
def compAll (ext : Nat) (it0 : DI) (g : Tg) (ts : List DT) (cs : List Cl) (te : DE) : Sg → Ow → R (List D) := fun σ O => (it0 σ O).bnd fun src O1 =>
  noX (walkD src (stepD ⟨it0, g, ts⟩ cs te (clr (σ ++ List.replicate ext none) (slotsOf (⟨it0, g, ts⟩ :: cs)))) (src.size O1) 0 O1 [])
section
variable {X : Cx} {Ex : Nat → Hp → Prop} {M : Model} {A : Around} {E : Value → Shared → Prop} {s : Shared}
theorem newEnv_block {scope : Scope} {globals : Addr} {cl : List (Str × Addr)} {qual : Str} {env : Env} {Q : Env → Shared → Prop}
    (h : Q { scope, locals := s.heap.objs.size, globals, cells := cellsFrom (s.heap.objs.size + 1) scope.names cl, qual, func := none, code := env.code, frame := env.frame, builtins := env.builtins } { s with heap := pushCells (s.heap.push dctObj) scope.names }) :
    wpAny M A (newFunctionEnv scope globals cl [] qual none .none (some env)) Q E s := by
  simp only [newFunctionEnv, Option.isSome_some, if_true]
  refine wpAny_bind (wpAny_alloc ?_)
  refine wpAny_bind (wpAny_layCells _ (fun name kind cells => by cases hkc : kind == NameKind.cell <;> simp [hkc]) _ _ _ _ ?_)
  rw [show ({ s with heap := s.heap.push dctObj } : Shared).heap.objs.size = s.heap.objs.size + 1 from Heap.size_push ..]
  simp only [List.forIn_nil, pure_bind]
  exact wpAny_pure h
/-- what stands behind the block: the list at L, the block's names at C -/
structure Behind (X : Cx) (pins : List (Addr × Obj)) (σv : St) (H : Hp) (hid μ : List Addr) (L C : Addr) (acc : List D) (O : Ow) (s' : Shared) : Prop where
  inv : ∃ H' μ', L2.Inv X pins σv H' s' ∧ Ext H μ H' μ' ∧ Cells X.K H' (L :: hid) μ' O ∧ H L = none ∧ H' C = none ∧ ∃ vs, H' L = some (.lst vs) ∧ Dats X.K H' (L :: hid) μ' acc vs
  ns : ∃ m, s'.heap.Ns C m
  loc : C ≠ X.env.locals
  young : X.s₀.heap.objs.size ≤ C
  cel : ∀ x c, X.env.cells.lookup x = some c → c ≠ C
  pns : ∀ p ∈ X.pn ++ pins, p.1 ≠ C
theorem Inv.bare {pins : List (Addr × Obj)} {σv : St} {H : Hp} {s' : Shared} {C : Addr} {h' : Heap} (I : L2.Inv X pins σv H s') (hs : Heap.SameBut C s'.heap h') (hn : H C = none) (loc : C ≠ X.env.locals) (young : X.s₀.heap.objs.size ≤ C) (cel : ∀ x c, X.env.cells.lookup x = some c → c ≠ C)
    (pns : ∀ p ∈ X.pn ++ pins, p.1 ≠ C) : L2.Inv X pins σv H { s' with heap := h' } := I.turned (t' := s'.toks) (fun b o hb e => (hs.2 b hb).trans e) hn loc (.inr young) cel pns
theorem comp_block {elt tg iter : Expr} {ifs : List Expr} {gs : List Comprehension} {scope : Scope} {pos : Pos} {ext : List Str} {it0 : DI} {g : Tg} {ts : List DT} {cs : List Cl} {te : DE} {pins : List (Addr × Obj)} {σv : St} {H : Hp} {hid μ : List Addr} {σ : Sg} {O : Ow} {src : Src} {acc : List D} {O2 : Ow}
    {it : Addr} {fp : List Addr} {tn : Nat → Heap → Prop} {J : It} {RR : Value → Addr → Result → Shared → Prop}
    (hcalm : X.calm = true) (hb : BOk X.env.scope scope (X.N ++ ext) (slotsOf (⟨it0, g, ts⟩ :: cs)))
    (blk : ∀ cells C s H fp, PG (cxB X (X.N ++ ext) scope cells C s H fp) tg (g.rd X.K) ∧ PySem.Paired (fun e t => PDT (cxB X (X.N ++ ext) scope cells C s H fp) Ex0 e t) ifs ts ∧ ClsOk (cxB X (X.N ++ ext) scope cells C s H fp) gs cs ∧ PD (cxB X (X.N ++ ext) scope cells C s H fp) Ex0 elt te)
    (I : L2.Inv X pins σv H s) (e1 : EnvOk X.K H hid μ σ σv) (c1 : Cells X.K H hid μ O) (T : Turn X.prog X.w X.K tg J fp it tn) (st : tn 0 s.heap) (hfp : ∀ b ∈ fp, FpOk X pins H b) (sa : SrcAt X.K J src H hid μ)
    (hw : walkD src (stepD ⟨it0, g, ts⟩ cs te (clr (σ ++ List.replicate ext.length none) (slotsOf (⟨it0, g, ts⟩ :: cs)))) (src.size O) 0 O [] = .ok acc O2)
    (hRR : ∀ f s', Behind X pins σv H hid μ s.heap.objs.size (s.heap.objs.size + 1) acc O2 s' → RR (.ref s.heap.objs.size) (s.heap.objs.size + 1) (.ok f) s') :
    wpAny (model X.prog X.w) X.A (newList []) (fun ac s₃ => wpAny (model X.prog X.w) X.A (newFunctionEnv scope X.env.globals (clFold X.env.cells scope.names []) [] X.env.qual none .none (some X.env)) (fun cenv s₄ =>
      codeAny (model X.prog X.w) X.A (.compStart (.ListComp elt (⟨tg, iter, ifs, 0⟩ :: gs) scope pos) 0 (.ref it) ac { cenv with scope := relabel scope X.env }) (RR ac cenv.locals) s₄) E s₃) E s := by
  refine wpAny_newObj_type ?_
  refine newEnv_block ?_
  have hsz : (s.heap.push lstObj).objs.size = s.heap.objs.size + 1 := Heap.size_push ..
  have hlt : ∀ b ∈ fp, b < s.heap.objs.size := fun b hb => by
    obtain ⟨o, ho, _⟩ := T.obj 0 _ st b hb
    exact Heap.lt_size ho
  have IB := inv_block I hfp hlt hb
  have nL : H s.heap.objs.size = none := I.hok.fresh (Nat.le_refl _)
  have hne : ∀ b ∈ fp, b ≠ s.heap.objs.size := fun b hb => Nat.ne_of_lt (hlt b hb)
  obtain ⟨b1, b2, b3, b4⟩ := blk (cellsFrom (s.heap.objs.size + 2) scope.names (clFold X.env.cells scope.names [])) (s.heap.objs.size + 1) s H fp
  generalize hX' : cxB X (X.N ++ ext) scope (cellsFrom (s.heap.objs.size + 2) scope.names (clFold X.env.cells scope.names [])) (s.heap.objs.size + 1) s H fp = X' at IB b1 b2 b3 b4
  have eP : X'.prog = X.prog := by rw [← hX']; rfl
  have eW : X'.w = X.w := by rw [← hX']; rfl
  have eK : X'.K = X.K := by rw [← hX']; rfl
  have eA : X'.A = X.A := by rw [← hX']; rfl
  have ex : X'.xe = fun _ _ => False := by rw [← hX']; rfl
  have ec : X'.calm = true := by rw [← hX']; exact hcalm
  have eenv : X'.env = { scope := relabel scope X.env, locals := s.heap.objs.size + 1, globals := X.env.globals, cells := cellsFrom (s.heap.objs.size + 2) scope.names (clFold X.env.cells scope.names []), qual := X.env.qual, func := none, code := X.env.code, frame := X.env.frame, builtins := X.env.builtins } := by rw [← hX']; rfl
  have eenv2 : ({ ({ scope, locals := (s.heap.push lstObj).objs.size, globals := X.env.globals, cells := cellsFrom ((s.heap.push lstObj).objs.size + 1) scope.names (clFold X.env.cells scope.names []), qual := X.env.qual, func := none, code := X.env.code, frame := X.env.frame, builtins := X.env.builtins } : Env) with scope := relabel scope X.env } : Env) = X'.env := by
    rw [eenv, hsz]
  show codeAny _ _ (.compStart _ 0 _ _ ({ ({ scope, locals := (s.heap.push lstObj).objs.size, globals := X.env.globals, cells := cellsFrom ((s.heap.push lstObj).objs.size + 1) scope.names (clFold X.env.cells scope.names []), qual := X.env.qual, func := none, code := X.env.code, frame := X.env.frame, builtins := X.env.builtins } : Env) with scope := relabel scope X.env } : Env)) (RR _ (s.heap.push lstObj).objs.size) _
  rw [eenv2, hsz]
  have mv0 : Mv H hid μ (upd H s.heap.objs.size (.lst [])) (s.heap.objs.size :: hid) μ := (Mv.hide nL).trans ⟨⟨[], by simp⟩, fun b o h _ n2 _ => by rw [upd_ne (fun z => n2 (by simp [z]))]; exact h, fun _ m => .inl m, fun _ m => .inl m, upd_there, fun _ t => t.upd (.inl nL)⟩
  have c2 : Cells X.K (upd H s.heap.objs.size (.lst [])) (s.heap.objs.size :: hid) μ O := by
    refine ⟨c1.len, c1.nd, fun a m z => ?_, fun a m => ?_, fun k a e => ?_⟩
    · rcases List.mem_cons.mp z with rfl | z
      · exact (c1.not_in nL).2 m
      · exact c1.nh a m z
    · rcases List.mem_cons.mp m with rfl | m
      · rw [upd_same]; simp
      · exact upd_there a (c1.ht a m)
    · obtain ⟨ds, vs, h1, h2, h3⟩ := c1.at_ k a e
      exact ⟨ds, vs, h1, by rw [upd_ne (ne_of_none h2 nL)]; exact h2, h3.mv mv0⟩
  have e2 : EnvOk X.K (upd H s.heap.objs.size (.lst [])) (s.heap.objs.size :: hid) μ (clr (σ ++ List.replicate ext.length none) (slotsOf (⟨it0, g, ts⟩ :: cs))) (clr (σv ++ List.replicate ext.length none) (slotsOf (⟨it0, g, ts⟩ :: cs))) := by
    refine ⟨by rw [clr_len, clr_len, List.length_append, List.length_append, e1.len]; simp, fun i d h => ?_⟩
    obtain ⟨g1, g2⟩ := clr_get _ _ _ _ h
    have hi : i < σ.length := by
      by_cases hi : i < σ.length
      · exact hi
      · rw [List.getElem?_append_right (by omega), List.getElem?_replicate] at g1
        split at g1 <;> cases g1
    rw [List.getElem?_append_left hi] at g1
    obtain ⟨v, h1, h2⟩ := e1.at_ i d g1
    exact ⟨v, by rw [clr_out _ _ _ g2, List.getElem?_append_left (by rw [← e1.len]; exact hi)]; exact h1, h2.mv mv0⟩
  have hfp' : ∀ b ∈ fp, FpOk X' [] (upd H s.heap.objs.size (.lst [])) b := fun b hbm => by
    obtain ⟨f0, f1, f2, f3, f4, f5⟩ := hfp b hbm
    have h1 := IB.ok.exf
    refine ⟨by rw [upd_ne (hne b hbm)]; exact f0, ?_, ?_, .inl ?_, ?_, ?_⟩
    · exact (h1 b (by rw [← hX']; exact hbm)).1
    · rw [← hX']
      exact fun z => IB.ok.exfs b (by rw [← hX']; exact hbm) (by rw [← hX']; exact z)
    · rw [← hX']; exact hbm
    · exact (h1 b (by rw [← hX']; exact hbm)).2
    · rw [← hX']
      exact fun p hp => absurd (show p ∈ ([] : List (Addr × Obj)) from hp) (by simp)
  have st' : tn 0 (bHeap s.heap scope.names) := T.keep _ _ _ st fun b _ o e => bHeap_keeps _ _ _ _ e
  have T' : Turn X'.prog X'.w X'.K tg J fp it tn := by rw [eP, eW, eK]; exact T
  have key := loop_ok (X := X') (A := s.heap.objs.size) (hid := hid) (elt := elt) (gens := ⟨tg, iter, ifs, 0⟩ :: gs) (scope := scope) (pos := pos) (te := te) (k := 0) (c := ⟨it0, g, ts⟩) (cs := cs) ex ec rfl (by rw [eK]; exact b1) b2 (body_ok ex ec b4 b3 1 rfl) (by
      cases b3 with
      | nil => exact .inl rfl
      | cons _ _ _ _ _ => exact .inr ⟨_, _, _, rfl⟩) T' [] { s with heap := bHeap s.heap scope.names } (clr (σv ++ List.replicate ext.length none) (slotsOf (⟨it0, g, ts⟩ :: cs))) (upd H s.heap.objs.size (.lst [])) μ (clr (σ ++ List.replicate ext.length none) (slotsOf (⟨it0, g, ts⟩ :: cs))) O [] (src.size O)
      (fun s' => Behind X pins σv H hid μ s.heap.objs.size (s.heap.objs.size + 1) acc O2 s') st' hfp' (by rw [eK]; exact sa.mv mv0) ⟨IB, by rw [eK]; exact e2, by rw [eK]; exact c2, [], upd_same, .nil⟩ ?_
  · have key2 := start_ok (X := X') (elt := elt) (gens := ⟨tg, iter, ifs, 0⟩ :: gs) (scope := scope) (pos := pos) (env := X'.env) rfl T' 0 st' key
    rw [eP, eW, eA] at key2
    exact codeAny_mono key2 fun r s' ⟨f, hr, q⟩ => by subst hr; exact hRR f s' q
  · rw [hw]
    intro s' σv' H' μ' I' x' c' g' l' k'
    rw [eK] at c'
    obtain ⟨vs, hv, dv⟩ := g'
    rw [eK] at dv
    have xe : Ext H μ H' μ' := ⟨x'.pre, fun b o h n ht => x'.kept b o (by rw [upd_ne (ne_of_none h nL)]; exact h) n (ne_of_none h nL) ht, fun b m => (x'.fresh b m).imp id fun z => by
      by_cases q : b = s.heap.objs.size
      · rw [q]; exact nL
      · rw [upd_ne q] at z; exact z, fun b h => x'.there b (upd_there b h), fun P t => x'.tab P (t.upd (.inl nL))⟩
    have un : Un (frs X.stack) fp H H' s.heap s'.heap := by
      have := I'.base
      rw [← hX'] at this
      exact this
    have os : s'.os = s.os := by
      have := I'.os
      rw [← hX'] at this
      exact this
    have hok : HOk X.prog X.w H' s'.heap := by
      have := I'.hok
      rw [eP, eW] at this
      exact this
    have IX : L2.Inv X pins σv H' s' := I.call' os un hok I'.bare fun b hbm => by
      obtain ⟨f0, f1, f2, f3, f4, f5⟩ := hfp b hbm
      exact ⟨f3, f1, f4, f5⟩
    have big : ∀ b, b < s.heap.objs.size → b ≠ s.heap.objs.size + 1 := fun b h => Nat.ne_of_lt (Nat.lt_succ_of_lt h)
    refine ⟨⟨H', μ', IX, xe, c', nL, ?_, vs, hv, dv⟩, ?_, ?_, ?_, fun x c e => ?_, fun p hp => ?_⟩
    · have := I'.free
      rw [eenv] at this
      exact this
    · obtain ⟨m, hn, _⟩ := I'.loc
      rw [eenv] at hn
      exact ⟨m, hn⟩
    · exact (big _ I.lt).symm
    · exact Nat.le_trans I.sz (Nat.le_succ _)
    · obtain ⟨v, z⟩ := I.cell x c e
      exact big _ z.lt
    · exact big _ (Heap.lt_size (I.pin p hp).1)
end
end DL

namespace DL
open PySem L2
section
variable {X : Cx} {Ex : Nat → Hp → Prop}
theorem noX_ok {α : Type} {r : R α} {a : α} {O : Ow} (h : noX r = .ok a O) : r = .ok a O := by
  cases r with
  | ok _ _ => exact h
  | exc _ _ => cases h
  | bad => cases h
theorem noX_exc {α : Type} {r : R α} {c : Nat} {O : Ow} (h : noX r = .exc c O) : False := by
  cases r <;> cases h
def postC (Ex : Nat → Hp → Prop) (K : PySem.W.Frag) (H : Hp) (hid μ : List Addr) (r : R (List D)) (Q : Addr → Hp → Prop) : Prop := match r with
  | .ok acc O' => ∀ L H' μ', H L = none → Ext H μ H' μ' → Cells K H' (L :: hid) μ' O' → (∃ vs, H' L = some (.lst vs) ∧ Dats K H' (L :: hid) μ' acc vs) → Q L H'
  | .exc c O' => ∀ H' μ', Ext H μ H' μ' → Cells K H' hid μ' O' → Ex c H'
  | .bad => False
theorem Ext.none {H H' : Hp} {μ μ' : List Addr} (e : Ext H μ H' μ') {L : Addr} (h : H' L = Option.none) : H L = Option.none := by
  cases q : H L with
  | none => rfl
  | some o => exact absurd h (e.there L (by rw [q]; simp))
/-- the common part: the first source, the block, and what is wanted behind -/
theorem comp_run {elt tg iter : Expr} {ifs : List Expr} {gs : List Comprehension} {scope : Scope} {pos cpos : Pos} {ext : List Str} {it0 : DI} {g : Tg} {ts : List DT} {cs : List Cl} {te : DE} {pins : List (Addr × Obj)} {σv : St} {H : Hp} {s : Shared} {hid μ : List Addr} {σ : Sg} {O : Ow}
    {use : Option (Value → Sem Unit)} {Q : Value → Shared → Prop} (hcalm : X.calm = true) (hi : PDI X Ex tg iter it0) (hb : BOk X.env.scope scope (X.N ++ ext) (slotsOf (⟨it0, g, ts⟩ :: cs)))
    (blk : ∀ cells C s H fp, PG (cxB X (X.N ++ ext) scope cells C s H fp) tg (g.rd X.K) ∧ PySem.Paired (fun e t => PDT (cxB X (X.N ++ ext) scope cells C s H fp) Ex0 e t) ifs ts ∧ ClsOk (cxB X (X.N ++ ext) scope cells C s H fp) gs cs ∧ PD (cxB X (X.N ++ ext) scope cells C s H fp) Ex0 elt te)
    (hs : ∀ x, foldedSetIterable iter X.env x = pure x) (I : L2.Inv X pins σv H s) (e1 : EnvOk X.K H hid μ σ σv) (c1 : Cells X.K H hid μ O)
    (q : postC Ex X.K H hid μ (compAll ext.length it0 g ts cs te σ O)
      (fun (L : Addr) H' => ∀ s' C, L2.Inv X pins σv H' s' → (∃ m, s'.heap.Ns C m) → H' C = none → C ≠ X.env.locals → X.s₀.heap.objs.size ≤ C → (∀ x c, X.env.cells.lookup x = some c → c ≠ C) → (∀ p ∈ X.pn ++ pins, p.1 ≠ C) →
        compPost (model X.prog X.w) X.A X.xe use Q (.ref L) C (.ok .next) s')) :
    wpAny (model X.prog X.w) X.A (comprehension (.ListComp elt (⟨tg, iter, ifs, 0⟩ :: gs) scope pos) scope X.env cpos (newList []) false (eval iter X.env) use) Q X.xe s := by
  have hfree : ∀ y ∈ scope.names, y.2 = .free → ∃ c, X.env.cells.lookup y.1 = some c := fun y hy hf => by
    obtain ⟨n, k⟩ := y
    subst hf
    exact I.ok.has n (hb.frees _ hy rfl)
  refine wpAny_comprehension_free (g := ⟨tg, iter, ifs, 0⟩) (gs := gs) rfl hs (closureFor_eq hfree) hb.kind (fun x hx hl => ?_) ?_
  · obtain ⟨n, k⟩ := x
    subst hl
    exact lookup_mem hb.nd hx
  unfold compAll at q
  cases hit : it0 σ O with
  | bad => rw [hit] at q; exact False.elim q
  | exc c' O' =>
    rw [hit] at q
    refine thn (hi.out pins s σv H (fun J H1 => False) I ⟨hid, μ, σ, O, e1, c1, by rw [hit]; exact q⟩) fun v s1 h1 => thn h1 fun itv s2 h2 => ?_
    obtain ⟨it, fp, tn, J, H2, e, I2, T, st2, f2, z⟩ := h2
    exact z.elim
  | ok src O2 =>
    rw [hit] at q
    refine thn (hi.out pins s σv H (fun J H1 => ∃ μ1, Ext H μ H1 μ1 ∧ Cells X.K H1 hid μ1 O2 ∧ SrcAt X.K J src H1 hid μ1) I ⟨hid, μ, σ, O, e1, c1, by rw [hit]; exact fun J H1 μ1 x c sa => ⟨μ1, x, c, sa⟩⟩) fun v s1 h1 => thn h1 fun itv s2 h2 => ?_
    obtain ⟨it, fp, tn, J, H2, e, I2, T, st2, f2, μ2, x2, c2, sa⟩ := h2
    subst e
    have p : postC Ex X.K H hid μ (noX (walkD src (stepD ⟨it0, g, ts⟩ cs te (clr (σ ++ List.replicate ext.length none) (slotsOf (⟨it0, g, ts⟩ :: cs)))) (src.size O2) 0 O2 [])) _ := q
    cases hw : noX (walkD src (stepD ⟨it0, g, ts⟩ cs te (clr (σ ++ List.replicate ext.length none) (slotsOf (⟨it0, g, ts⟩ :: cs)))) (src.size O2) 0 O2 []) with
    | bad => rw [hw] at p; exact False.elim p
    | exc c' O' => exact (noX_exc hw).elim
    | ok acc O3 =>
      rw [hw] at p
      refine comp_block (RR := fun ac C => compPost (model X.prog X.w) X.A X.xe use Q ac C) hcalm hb blk I2 (e1.ext x2) c2 T st2 f2 sa (noX_ok hw) fun f s' Bh => ?_
      obtain ⟨H', μ', I', x', c', nL, nC, vs, hv, dv⟩ := Bh.inv
      have := p (s2.heap.objs.size) H' μ' (x2.none nL) (x2.trans x') c' ⟨vs, hv, dv⟩ s' (s2.heap.objs.size + 1) I' Bh.ns nC Bh.loc Bh.young Bh.cel Bh.pns
      unfold compPost at this ⊢
      cases use <;> exact this
/-- a list that nobody else knows becomes data by value, or a cell -/
theorem dat_of_new {K : PySem.W.Frag} {H : Hp} {hid μ : List Addr} {O : Ow} {L : Addr} {vs : List V} {ds : List D} (c : Cells K H (L :: hid) μ O) (n1 : L ∉ hid) (h : H L = some (.lst vs)) (q : Dats K H (L :: hid) μ ds vs) : Dat K H hid μ (.lst ds) (.ref L) := by
  unfold Dat
  exact ⟨L, vs, rfl, .inl ⟨.inl h, n1, fun m => c.nh L m (by simp)⟩, q.mv .unhide⟩
mutual
theorem Dat.swap {K : PySem.W.Frag} {H : Hp} {hid μ : List Addr} {L : Addr} : ∀ {d : D} {v : V}, Dat K H (L :: hid) μ d v → Dat K H hid (μ ++ [L]) d v
  | .non, _, h => h
  | .bl _, _, h => h
  | .int _, _, h => h
  | .str _, _, h => h
  | .lst ds, v, h => by
    unfold Dat at h ⊢
    obtain ⟨a, vs, r, l, q⟩ := h
    refine ⟨a, vs, r, l.imp (fun z => ⟨z.1, fun m => z.2.1 (List.mem_cons_of_mem _ m), fun m => ?_⟩) id, Dats.swap q⟩
    rcases List.mem_append.mp m with m | m
    · exact z.2.2 m
    · exact z.2.1 (by simp at m; simp [m])
  | .tup ds, v, h => by
    unfold Dat at h ⊢
    obtain ⟨a, vs, r, l, q⟩ := h
    refine ⟨a, vs, r, l.imp (fun z => ⟨z.1, fun m => z.2.1 (List.mem_cons_of_mem _ m), fun m => ?_⟩) id, Dats.swap q⟩
    rcases List.mem_append.mp m with m | m
    · exact z.2.2 m
    · exact z.2.1 (by simp at m; simp [m])
  | .own k, v, h => by
    unfold Dat at h ⊢
    obtain ⟨a, r, q⟩ := h
    exact ⟨a, r, by rw [List.getElem?_append_left (List.getElem?_eq_some_iff.mp q).1]; exact q⟩
  | .dct, v, h => by
    unfold Dat at h ⊢
    obtain ⟨a, r, q, n1, n2⟩ := h
    refine ⟨a, r, q, fun m => n1 (List.mem_cons_of_mem _ m), fun m => ?_⟩
    rcases List.mem_append.mp m with m | m
    · exact n2 m
    · exact n1 (by simp at m; simp [m])
  | .exn C, v, h => by
    unfold Dat at h ⊢
    obtain ⟨a, φ, r, g, q, n1, n2⟩ := h
    refine ⟨a, φ, r, g, q, fun m => n1 (List.mem_cons_of_mem _ m), fun m => ?_⟩
    rcases List.mem_append.mp m with m | m
    · exact n2 m
    · exact n1 (by simp at m; simp [m])
  | .tab P, v, h => by
    unfold Dat at h ⊢
    exact h
theorem Dats.swap {K : PySem.W.Frag} {H : Hp} {hid μ : List Addr} {L : Addr} : ∀ {ds : List D} {vs : List V}, Dats K H (L :: hid) μ ds vs → Dats K H hid (μ ++ [L]) ds vs
  | [], _, h => h
  | d :: ds, vs, h => by
    unfold Dats at h ⊢
    obtain ⟨v, r, e1, h1, h2⟩ := h
    exact ⟨v, r, e1, Dat.swap h1, Dats.swap h2⟩
end
theorem Cells.swap {K : PySem.W.Frag} {H : Hp} {hid μ : List Addr} {O : Ow} {L : Addr} {vs : List V} {ds : List D} (c : Cells K H (L :: hid) μ O) (n1 : L ∉ hid) (h : H L = some (.lst vs)) (q : Dats K H (L :: hid) μ ds vs) : Cells K H hid (μ ++ [L]) (O ++ [ds]) := by
  have nm : L ∉ μ := fun m => c.nh L m (by simp)
  refine ⟨by simp [c.len], ?_, fun a m => ?_, fun a m => c.ht a (List.mem_cons_of_mem _ m), fun k a e => ?_⟩
  · rw [List.nodup_append]
    refine ⟨c.nd, by simp, fun a ha b hb => ?_⟩
    have : b = L := by simpa using hb
    subst this
    rintro rfl
    exact nm ha
  · rcases List.mem_append.mp m with m | m
    · exact fun z => c.nh a m (List.mem_cons_of_mem _ z)
    · have : a = L := by simpa using m
      subst this; exact n1
  · by_cases hk : k < μ.length
    · rw [List.getElem?_append_left hk] at e
      obtain ⟨ds', vs', h1, h2, h3⟩ := c.at_ k a e
      exact ⟨ds', vs', by rw [List.getElem?_append_left (by rw [← c.len]; exact hk)]; exact h1, h2, h3.swap⟩
    · rw [List.getElem?_append_right (by omega)] at e
      have e0 : k - μ.length = 0 := by
        have := (List.getElem?_eq_some_iff.mp e).1
        simp at this; omega
      rw [e0] at e
      simp at e; subst e
      refine ⟨ds, vs, ?_, h, q.swap⟩
      have : k = O.length := by have := c.len; omega
      subst this; simp
theorem Ext.grow {H H' : Hp} {μ μ' : List Addr} (e : Ext H μ H' μ') {L : Addr} (h : H L = Option.none) : Ext H μ H' (μ' ++ [L]) := by
  obtain ⟨ν, rfl⟩ := e.pre
  refine ⟨⟨ν ++ [L], by simp⟩, e.kept, fun b m => ?_, e.there, e.tab⟩
  rcases List.mem_append.mp m with m | m
  · exact e.fresh b m
  · have : b = L := by simpa using m
    subst this; exact .inr h
/-- how the outcome is handed on: by value (false) or as a cell (true) -/
def outC (o : Bool) (r : R (List D)) : R D := r.bnd fun acc O1 => if o = true then .ok (.own O1.length) (O1 ++ [acc]) else .ok (.lst acc) O1
theorem postC_of {K : PySem.W.Frag} {H : Hp} {hid μ : List Addr} {O : Ow} (c1 : Cells K H hid μ O) {r : R (List D)} {o : Bool} {Q : VK} (q : postE Ex K H hid μ (outC o r) Q) {Q1 : Addr → Hp → Prop} (h : ∀ L H', Q (.ref L) H' → Q1 L H') : postC Ex K H hid μ r Q1 := by
  cases r with
  | bad => exact q
  | exc c' O' => exact q
  | ok acc O' =>
    intro L H' μ' nL x c ⟨vs, hv, dv⟩
    have n1 : L ∉ hid := fun m => c1.ht L m nL
    cases o with
    | false => exact h L H' (post.ok (show postE Ex K H hid μ (.ok (.lst acc) O') Q from q) x c.unhide (dat_of_new c n1 hv dv))
    | true => exact h L H' (post.ok (show postE Ex K H hid μ (.ok (.own O'.length) (O' ++ [acc])) Q from q) (x.grow nL) (c.swap n1 hv dv) (dat_own_last c.len))
theorem postSC_of {K : PySem.W.Frag} {H : Hp} {hid μ : List Addr} {O : Ow} (c1 : Cells K H hid μ O) {σ : Sg} {σv : St} (e1 : EnvOk K H hid μ σ σv) {r : R (List D)} {o : Bool} {i : Nat} {E : Ends} (q : postS Ex K H hid μ ((outC o r).bnS fun d O1 => .nx (σ.set i (some d)) O1) E) {Q1 : Addr → Hp → Prop} (h : ∀ L H', E.nx (σv.set i (some (.ref L))) H' → Q1 L H') :
    postC Ex K H hid μ r Q1 := by
  cases r with
  | bad => exact q
  | exc c' O' => exact q
  | ok acc O' =>
    intro L H' μ' nL x c ⟨vs, hv, dv⟩
    have n1 : L ∉ hid := fun m => c1.ht L m nL
    cases o with
    | false =>
      have q : postS Ex K H hid μ (.nx (σ.set i (some (.lst acc))) O') E := q
      exact h L H' (q _ H' μ' x ((e1.ext x).set (dat_of_new c n1 hv dv) i) c.unhide)
    | true =>
      have q : postS Ex K H hid μ (.nx (σ.set i (some (.own O'.length))) (O' ++ [acc])) E := q
      exact h L H' (q _ H' (μ' ++ [L]) (x.grow nL) ((e1.ext (x.grow nL)).set (dat_own_last c.len) i) (c.swap n1 hv dv))
def dComp (o : Bool) (ext : Nat) (it0 : DI) (g : Tg) (ts : List DT) (cs : List Cl) (te : DE) : DE := fun σ O => outC o (compAll ext it0 g ts cs te σ O)
theorem pd_comp {elt tg iter : Expr} {ifs : List Expr} {gs : List Comprehension} {scope : Scope} {pos : Pos} (o : Bool) (ext : List Str) {it0 : DI} {g : Tg} {ts : List DT} {cs : List Cl} {te : DE} (hcalm : X.calm = true) (hi : PDI X Ex tg iter it0) (hb : BOk X.env.scope scope (X.N ++ ext) (slotsOf (⟨it0, g, ts⟩ :: cs)))
    (blk : ∀ cells C s H fp, PG (cxB X (X.N ++ ext) scope cells C s H fp) tg (g.rd X.K) ∧ PySem.Paired (fun e t => PDT (cxB X (X.N ++ ext) scope cells C s H fp) Ex0 e t) ifs ts ∧ ClsOk (cxB X (X.N ++ ext) scope cells C s H fp) gs cs ∧ PD (cxB X (X.N ++ ext) scope cells C s H fp) Ex0 elt te)
    (hs : ∀ x, foldedSetIterable iter X.env x = pure x := by intro _; rfl) : PD X Ex (.ListComp elt (⟨tg, iter, ifs, 0⟩ :: gs) scope pos) (dComp o ext.length it0 g ts cs te) := by
  refine ⟨?_⟩
  rintro pins s σv H Q I ⟨hid, μ, σ, O, e1, c1, q⟩
  rw [eval_ListComp]
  refine comp_run (use := none) hcalm hi hb blk hs I e1 c1 (postC_of c1 q fun L H' hQ s' C I' ns nC l1 y1 ce pn => ?_)
  obtain ⟨m, hn⟩ := ns
  exact ⟨m, hn, fun h' hs' => ⟨.ref L, H', Inv.bare I' hs' nC l1 y1 ce pn, rfl, hQ⟩⟩
/-- name = [..] on one row -/
theorem pds_setComp {elt tg iter : Expr} {ifs : List Expr} {gs : List Comprehension} {scope : Scope} {pos spos py : Pos} {y : Str} {i : Nat} (o : Bool) (ext : List Str) {it0 : DI} {g : Tg} {ts : List DT} {cs : List Cl} {te : DE} (hcalm : X.calm = true) (hN : X.N.Nodup) (hiy : X.N[i]? = some y) (hy : X.env.scope.names.lookup y = some .local)
    (hi : PDI X Ex tg iter it0) (hb : BOk X.env.scope scope (X.N ++ ext) (slotsOf (⟨it0, g, ts⟩ :: cs)))
    (blk : ∀ cells C s H fp, PG (cxB X (X.N ++ ext) scope cells C s H fp) tg (g.rd X.K) ∧ PySem.Paired (fun e t => PDT (cxB X (X.N ++ ext) scope cells C s H fp) Ex0 e t) ifs ts ∧ ClsOk (cxB X (X.N ++ ext) scope cells C s H fp) gs cs ∧ PD (cxB X (X.N ++ ext) scope cells C s H fp) Ex0 elt te)
    (hsw : swapsWith (.ListComp elt (⟨tg, iter, ifs, 0⟩ :: gs) scope pos) (some (.Name y py)) spos.line X.env = pure true)
    (hs : ∀ x, foldedSetIterable iter X.env x = pure x := by intro _; rfl) : PDS X Ex (.Assign [.Name y py] (.ListComp elt (⟨tg, iter, ifs, 0⟩ :: gs) scope pos) spos) (sSet i (dComp o ext.length it0 g ts cs te)) := by
  refine ⟨?_⟩
  rintro pins s σv H E I ⟨hid, μ, σ, O, e1, c1, q⟩
  rw [exec_Assign_Name_used _ _ _ _ hsw]
  refine wpAny_bind (wpAny_standAt (wpAny_bind ?_))
  show wpAny _ X.A (do let _ ← comprehension (.ListComp elt (⟨tg, iter, ifs, 0⟩ :: gs) scope pos) scope X.env _ (newList []) false (eval iter X.env) (some (assign (.Name y py) X.env))) _ _ s
  refine wpAny_bind (wpAny_mono (comp_run (use := some (assign (.Name y py) X.env)) (Q := fun _ s' => SP X pins E .next s') hcalm hi hb blk hs I e1 c1 (postSC_of c1 e1 q fun L H' hQ s' C I' ns nC l1 y1 ce pn => ?_)) (fun _ s' hq => wpAny_pure (wpAny_pure hq)) fun _ _ e => e)
  obtain ⟨m, hn⟩ := ns
  show wpAny _ _ (assign (.Name y py) X.env (.ref L)) _ _ s'
  refine wpAny_assign_Name (store_ok2 (v := .ref L) I' hN hiy (.inl hy) rfl (fun s'' I'' hsame => ?_) (.inr hy))
  obtain ⟨a, hsb, ha⟩ := hsame
  have hCa : C ≠ a := by
    rcases ha with z | z
    · rw [z]; exact l1
    · exact fun e => ce y a z e.symm
  refine ⟨m, hn.sameBut hsb hCa, fun h' hs' => ?_⟩
  exact ⟨_, H', Inv.bare I'' hs' nC l1 y1 ce pn, hQ⟩
end
end DL

namespace DL
open PySem L2

/-! ### == and in, by data -/
def mapO {α β : Type} (f : α → Option β) : List α → Option (List β)
  | [] => some []
  | x :: xs => match f x, mapO f xs with
    | some p, some ps => some (p :: ps)
    | _, _ => none
def strO (cs : List Nat) : Option PyData := if cs.all (· < 1114112) = true then some (.str ⟨cs.toArray⟩) else none
def toPy (O : Ow) : Nat → D → Option PyData
  | 0, d => match d with
    | .non => some .none
    | .bl b => some (.bool b)
    | .int i => some (.int i)
    | .str cs => strO cs
    | _ => none
  | n + 1, d => match d with
    | .non => some .none
    | .bl b => some (.bool b)
    | .int i => some (.int i)
    | .str cs => strO cs
    | .lst ds => (mapO (toPy O n) ds).map .list
    | .tup ds => (mapO (toPy O n) ds).map .tuple
    | .own k => match O[k]? with
      | some ds => (mapO (toPy O n) ds).map .list
      | none => none
    | .dct => none
    | .exn _ => none
    | .tab _ => none
section
variable {X : Cx} {pins : List (Addr × Obj)} {σv : St} {H : Hp} {s : Shared} {hid μ : List Addr} {O : Ow}
theorem toPys_reads {n : Nat} (I : L2.Inv X pins σv H s) (ih : ∀ (d : D) (v : V) (u : Value) (p : PyData), Dat X.K H hid μ d v → RelV v u → toPy O n d = some p → ∃ as, Reads s.heap u p as ∧ p.canLay0 = true ∧ p.depth ≤ n) :
    ∀ (ds : List D) (vs : List V) (us : List Value) (ps : List PyData), Dats X.K H hid μ ds vs → Vals vs us → mapO (toPy O n) ds = some ps → ∃ as, ReadsAll s.heap us ps as ∧ PyData.canLayAll0 ps = true ∧ PyData.depthAll ps ≤ n
  | [], vs, us, ps, h, r, e => by
    unfold Dats at h; subst h
    cases r
    cases e
    exact ⟨[], .nil, rfl, Nat.zero_le _⟩
  | d :: ds, vs, us, ps, h, r, e => by
    unfold Dats at h
    obtain ⟨v, t, rfl, h1, h2⟩ := h
    cases r with
    | cons r1 r2 =>
      unfold mapO at e
      split at e
      · rename_i p ps' e1 e2
        cases e
        obtain ⟨as, q1, q2, q3⟩ := ih d v _ p h1 r1 e1
        obtain ⟨bs, z1, z2, z3⟩ := toPys_reads I ih ds t _ ps' h2 r2 e2
        refine ⟨as ++ bs, .cons q1 z1, ?_, ?_⟩
        · unfold PyData.canLayAll0; rw [q2, z2]; rfl
        · unfold PyData.depthAll; exact Nat.max_le.mpr ⟨q3, z3⟩
      · cases e
theorem strO_reads {n : Nat} {cs : List Nat} {t : Tok} {p : PyData} (e : strO cs = some p) : ∃ as, Reads s.heap (.str ⟨cs.toArray⟩ t) p as ∧ p.canLay0 = true ∧ p.depth ≤ n := by
  unfold strO at e
  split at e
  · rename_i hc
    cases e
    exact ⟨[], .str _ _, by unfold PyData.canLay0 PyData.strOk; simpa using hc, Nat.zero_le _⟩
  · cases e
theorem toPy_reads (I : L2.Inv X pins σv H s) (c : Cells X.K H hid μ O) : ∀ (n : Nat) (d : D) (v : V) (u : Value) (p : PyData), Dat X.K H hid μ d v → RelV v u → toPy O n d = some p → ∃ as, Reads s.heap u p as ∧ p.canLay0 = true ∧ p.depth ≤ n := by
  intro n
  induction n with
  | zero =>
    intro d v u p h r e
    cases d with
    | non => unfold Dat at h; subst h; cases r; cases e; exact ⟨[], .none, rfl, Nat.zero_le _⟩
    | bl b => unfold Dat at h; subst h; cases r; cases e; exact ⟨[], .bool _, rfl, Nat.zero_le _⟩
    | int b => unfold Dat at h; subst h; obtain ⟨t, rfl⟩ := r; cases e; exact ⟨[], .int _ _, rfl, Nat.zero_le _⟩
    | str cs =>
      unfold Dat at h; subst h; obtain ⟨t, rfl⟩ := r
      exact strO_reads (show strO cs = some p from e)
    | _ => cases e
  | succ n ih =>
    intro d v u p h r e
    cases d with
    | non => unfold Dat at h; subst h; cases r; cases e; exact ⟨[], .none, rfl, Nat.zero_le _⟩
    | bl b => unfold Dat at h; subst h; cases r; cases e; exact ⟨[], .bool _, rfl, Nat.zero_le _⟩
    | int b => unfold Dat at h; subst h; obtain ⟨t, rfl⟩ := r; cases e; exact ⟨[], .int _ _, rfl, Nat.zero_le _⟩
    | str cs =>
      unfold Dat at h; subst h; obtain ⟨t, rfl⟩ := r
      exact strO_reads (show strO cs = some p from e)
    | lst ds =>
      unfold Dat at h
      obtain ⟨a, vs, rfl, l, q⟩ := h
      cases r
      have e : (mapO (toPy O n) ds).map PyData.list = some p := e
      cases e1 : mapO (toPy O n) ds with
      | none => rw [e1] at e; cases e
      | some ps =>
        rw [e1] at e; cases e
        obtain ⟨its, rv, ⟨o, k, ho, hc, hd, hdt⟩, hz⟩ := I.list l.sq
        obtain ⟨as, z1, z2, z3⟩ := toPys_reads I ih ds vs its ps q rv e1
        exact ⟨_, .list ho hc hdt (by simpa using z1), by unfold PyData.canLay0; exact z2, by unfold PyData.depth; omega⟩
    | tup ds =>
      unfold Dat at h
      obtain ⟨a, vs, rfl, l, q⟩ := h
      cases r
      have e : (mapO (toPy O n) ds).map PyData.tuple = some p := e
      cases e1 : mapO (toPy O n) ds with
      | none => rw [e1] at e; cases e
      | some ps =>
        rw [e1] at e; cases e
        obtain ⟨its, rv, ⟨o, ho, hc, k, hdt⟩, hz⟩ := I.tuple l.sq
        obtain ⟨as, z1, z2, z3⟩ := toPys_reads I ih ds vs its ps q rv e1
        exact ⟨_, .tuple ho hc hdt (by simpa using z1), by unfold PyData.canLay0; exact z2, by unfold PyData.depth; omega⟩
    | own k =>
      unfold Dat at h
      obtain ⟨a, rfl, hk⟩ := h
      cases r
      obtain ⟨ds, vs, h1, h2, h3⟩ := c.at_ k a hk
      have e : (match O[k]? with | some ds => (mapO (toPy O n) ds).map PyData.list | none => none) = some p := e
      rw [h1] at e
      cases e1 : mapO (toPy O n) ds with
      | none => simp only [e1] at e; cases e
      | some ps =>
        simp only [e1] at e; cases e
        obtain ⟨its, rv, ⟨o, k', ho, hc, hd, hdt⟩, hz⟩ := I.list (.of h2)
        obtain ⟨as, z1, z2, z3⟩ := toPys_reads I ih ds vs its ps h3 rv e1
        exact ⟨_, .list ho hc hdt (by simpa using z1), by unfold PyData.canLay0; exact z2, by unfold PyData.depth; omega⟩
    | dct => cases e
    | exn _ => cases e
    | tab _ => cases e
end
/-- eight deep is enough -/
def py (O : Ow) (d : D) : Option PyData := toPy O 8 d
def rPy (K : PySem.W.Frag) (f : PyData → PyData → Option Bool) : R2 := fun v w H Q => ∃ hid μ O x y a b k, Cells K H hid μ O ∧ Dat K H hid μ x v ∧ Dat K H hid μ y w ∧ py O x = some a ∧ py O y = some b ∧ f a b = some k ∧ Q (.bl k) H
def fPy (f : PyData → PyData → Option Bool) : Ow → D → D → R D := fun O x y => match py O x, py O y with
  | some a, some b => match f a b with
    | some k => .ok (.bl k) O
    | none => .bad
  | _, _ => .bad
section
variable {X : Cx} {Ex : Nat → Hp → Prop}
theorem opd_py {f : PyData → PyData → Option Bool} : OpD X Ex (rPy X.K f) (fPy f) := by
  intro H hid μ O x y v w Q c dx dy q
  unfold fPy at q
  split at q
  · rename_i a b e1 e2
    split at q
    · rename_i k e3
      exact ⟨hid, μ, O, x, y, a, b, k, c, dx, dy, e1, e2, e3, post.here q c dat_bl⟩
    · exact False.elim q
  · exact False.elim q
def eqF : PyData → PyData → Option Bool := fun a b => some (PyData.eqv a b)
def neF : PyData → PyData → Option Bool := fun a b => some (!PyData.eqv a b)
def inF : PyData → PyData → Option Bool := fun a b => match b with
  | .list xs => some (xs.any fun y => PyData.eqv y a)
  | .tuple xs => some (xs.any fun y => PyData.eqv y a)
  | _ => none
def ninF : PyData → PyData → Option Bool := fun a b => match b with
  | .list xs => some (!xs.any fun y => PyData.eqv y a)
  | .tuple xs => some (!xs.any fun y => PyData.eqv y a)
  | _ => none
theorem shaped8 {p : PyData} (h1 : p.canLay0 = true) (h2 : p.depth ≤ 8) : SeqAt.shaped p = true := by
  unfold SeqAt.shaped
  rw [h1, decide_eq_true (show p.depth ≤ 64 by omega)]; rfl
theorem op_eqPy (hu : X.A.units + 64 < cLine) : OpR X (compareOp .Eq) (rPy X.K eqF) := by
  intro pins s σ H x y v u Q I rx ry h
  obtain ⟨hid, μ, O, dx, dy, a, b, k, c, h1, h2, e1, e2, e3, q⟩ := h
  obtain ⟨as, z1, z2, z3⟩ := toPy_reads I c 8 dx x v a h1 rx e1
  obtain ⟨bs, y1, y2, y3⟩ := toPy_reads I c 8 dy y u b h2 ry e2
  cases e3
  exact PyProof.Rows.eq_dataH z1 y1 (shaped8 z2 z3) (shaped8 y2 y3) hu ⟨.bl _, H, I, rfl, q⟩
theorem op_nePy (hu : X.A.units + 64 < cLine) : OpR X (compareOp .NotEq) (rPy X.K neF) := by
  intro pins s σ H x y v u Q I rx ry h
  obtain ⟨hid, μ, O, dx, dy, a, b, k, c, h1, h2, e1, e2, e3, q⟩ := h
  obtain ⟨as, z1, z2, z3⟩ := toPy_reads I c 8 dx x v a h1 rx e1
  obtain ⟨bs, y1, y2, y3⟩ := toPy_reads I c 8 dy y u b h2 ry e2
  cases e3
  exact PyProof.Rows.ne_dataH z1 y1 (shaped8 z2 z3) (shaped8 y2 y3) hu ⟨.bl _, H, I, rfl, q⟩
theorem room8 {A : Around} {n m : Nat} (h : m ≤ 8) (hu : A.units + 64 < cLine) : A.units + 1 + min n m < cLine := by
  have := Nat.min_le_right n m
  omega
theorem op_ninPy (hu : X.A.units + 64 < cLine) : OpR X (compareOp .NotIn) (rPy X.K ninF) := by
  intro pins s σ H x y v u Q I rx ry h
  obtain ⟨hid, μ, O, dx, dy, a, b, k, c, h1, h2, e1, e2, e3, q⟩ := h
  obtain ⟨as, z1, z2, z3⟩ := toPy_reads I c 8 dx x v a h1 rx e1
  obtain ⟨bs, y1, y2, y3⟩ := toPy_reads I c 8 dy y u b h2 ry e2
  cases b with
  | list xs => cases e3; exact SeqAt.notIn_list_reads y1 z1 y2 z2 (room8 z3 hu) ⟨.bl _, H, I, rfl, q⟩
  | tuple xs => cases e3; exact SeqAt.notIn_tuple_reads y1 z1 y2 z2 (room8 z3 hu) ⟨.bl _, H, I, rfl, q⟩
  | _ => cases e3
end
end DL

namespace DL
open PySem L2
section
variable {X : Cx} {Ex : Nat → Hp → Prop} {pos : Pos} {a b c e : Expr} {ta tb tc te : DE}
/-! ### sequences as they are read -/
/-- the items of a list or a cell; of a tuple -/
def lsV (O : Ow) : D → Option (List D)
  | .lst ds => some ds
  | .own k => O[k]?
  | _ => none
def tpV : D → Option (List D)
  | .tup ds => some ds
  | _ => none
theorem lsV_at {K : PySem.W.Frag} {H : Hp} {hid μ : List Addr} {O : Ow} {d : D} {v : V} {ds : List D} (cl : Cells K H hid μ O) (h : Dat K H hid μ d v) (e : lsV O d = some ds) : ∃ p vs, v = .ref p ∧ SqL K H p vs ∧ Dats K H hid μ ds vs := by
  cases d with
  | lst xs =>
    unfold Dat at h
    obtain ⟨p, vs, rfl, l, q⟩ := h
    cases e
    exact ⟨p, vs, rfl, l.sq, q⟩
  | own k =>
    unfold Dat at h
    obtain ⟨p, rfl, hk⟩ := h
    obtain ⟨ds', vs, h1, h2, h3⟩ := cl.at_ k p hk
    have e : O[k]? = some ds := e
    rw [h1] at e; cases e
    exact ⟨p, vs, rfl, .of h2, h3⟩
  | _ => cases e
theorem tpV_at {K : PySem.W.Frag} {H : Hp} {hid μ : List Addr} {d : D} {v : V} {ds : List D} (h : Dat K H hid μ d v) (e : tpV d = some ds) : ∃ p vs, v = .ref p ∧ SqT K H p vs ∧ Dats K H hid μ ds vs := by
  cases d with
  | tup xs =>
    unfold Dat at h
    obtain ⟨p, vs, rfl, l, q⟩ := h
    cases e
    exact ⟨p, vs, rfl, l.sq, q⟩
  | _ => cases e
/-! x + y: ints, texts, lists by value -/
def fAddS : Ow → D → D → R D := fun O x y => match x, y with
  | .str s, .str t => if s.length + t.length ≤ 100000 then .ok (.str (s ++ t)) O else .bad
  | _, _ => .bad
end
/-! ### a[i] -/
theorem dats_atI {K : PySem.W.Frag} {H : Hp} {hid μ : List Addr} {ds : List D} {vs : List V} (h : Dats K H hid μ ds vs) {i : Int} {d : D} (e : atI ds i = some d) : ∃ v, atI vs i = some v ∧ Dat K H hid μ d v := by
  unfold atI at e ⊢
  rw [← h.length]
  cases q : ixN ds.length i with
  | none => rw [q] at e; cases e
  | some j => rw [q] at e; exact h.get e
def fIx : Ow → D → D → R D := fun O x y => match y with
  | .int i => match lsV O x with
    | some ds => match atI ds i with
      | some d => .ok d O
      | none => .bad
    | none => match tpV x with
      | some ds => match atI ds i with
        | some d => .ok d O
        | none => .bad
      | none => match x with
        | .str cs => if cs.length ≤ 100000 then match atI cs i with
            | some ch => .ok (.str [ch]) O
            | none => .bad
          else .bad
        | _ => .bad
  | _ => .bad
section
variable {X : Cx} {Ex : Nat → Hp → Prop} {pos : Pos} {a b c e : Expr} {ta tb tc te : DE}
theorem opd_ix : OpD X Ex (rIx X.K) fIx := by
  intro H hid μ O x y v w Q c dx dy q
  unfold fIx at q
  split at q
  · rename_i i
    unfold Dat at dy; subst dy
    split at q
    · rename_i ds e
      obtain ⟨p, vs, rfl, sq, dd⟩ := lsV_at c dx e
      split at q
      · rename_i d ed
        obtain ⟨z, h1, h2⟩ := dats_atI dd ed
        exact .inl ⟨p, vs, i, z, rfl, rfl, sq, h1, post.here q c h2⟩
      · exact False.elim q
    · split at q
      · rename_i ds e
        obtain ⟨p, vs, rfl, sq, dd⟩ := tpV_at dx e
        split at q
        · rename_i d ed
          obtain ⟨z, h1, h2⟩ := dats_atI dd ed
          exact .inr (.inl ⟨p, vs, i, z, rfl, rfl, sq, h1, post.here q c h2⟩)
        · exact False.elim q
      · split at q
        · rename_i cs _ _
          unfold Dat at dx; subst dx
          obtain ⟨hl, q⟩ := post.ite q
          split at q
          · rename_i ch ed
            refine .inr (.inr ⟨_, i, ch, rfl, rfl, ?_, ?_, post.here q c dat_str⟩)
            · show cs.toArray.size ≤ _
              rw [List.size_toArray]; exact small_line hl
            · simpa using ed
          · exact False.elim q
        · exact False.elim q
  · exact False.elim q
theorem pd_ix (ha : PD X Ex a ta) (hb : PD X Ex b tb) (hs : PlainIx b) : PD X Ex (.Subscript a b pos) (dOp fIx ta tb) := pd_of (pe_ix ix_seq ha.out hb.out hs) (tOp_of opd_ix)
/-! ### calls -/
def dCall (f : Ow → List D → R D) (t : DA) : DE := fun σ O => (t σ O).bnd fun xs O1 => f O1 xs
def CallD (X : Cx) (Ex : Nat → Hp → Prop) (r : List V → Hp → VK → Prop) (f : Ow → List D → R D) : Prop := ∀ (H : Hp) (hid μ : List Addr) (O : Ow) (xs : List D) (vs : List V) (Q : VK), Cells X.K H hid μ O → Dats X.K H hid μ xs vs → postE Ex X.K H hid μ (f O xs) Q → r vs H Q
theorem tCB_of {r : List V → Hp → VK → Prop} {f : Ow → List D → R D} {t : DA} (h : CallD X Ex r f) (hid μ : List Addr) (σ : Sg) (O : Ow) (σv : St) (H : Hp) (Q : VK) (e1 : EnvOk X.K H hid μ σ σv) (c1 : Cells X.K H hid μ O) (q : postE Ex X.K H hid μ (dCall f t σ O) Q) : tCB r (rdA Ex X.K t) σv H Q :=
  rdA.go e1 c1 q fun xs O1 vs H1 μ1 e2 x c d p => h H1 hid μ1 O1 xs vs Q c d p
theorem pd_callB {x : Str} {id : String} {p : Pos} {es : List Expr} {r : List V → Hp → VK → Prop} {f : Ow → List D → R D} {t : DA} (hc : CallR X (.builtin id) r) (h : CallD X Ex r f) (hg : Gl X x) (hm : X.mg x = none) (hv : bootBuiltins x = some (.builtin id)) (ha : PDA X Ex (e :: es) t)
    (hn : x ≠ "__name__" := by decide) (hdb : (x == ("__debug__" : Str)) = false := by decide) (he : starEach (e :: es) X.env = (false, eval e X.env) :: starEach es X.env := by rfl) (hpl : (backTo pos (starEach es X.env)).any (·.1) = false := by rfl) :
    PD X Ex (.Call (.Name x p) (e :: es) [] pos) (dCall f t) := pd_of (pe_callB hc hg hm hv ha.out hn hdb he hpl) (tCB_of h)
theorem pd_callTy {x : Str} {T : String} {p : Pos} {es : List Expr} {r : List V → Hp → VK → Prop} {f : Ow → List D → R D} {t : DA} (hc : CallR X (.type T) r) (h : CallD X Ex r f) (hg : Gl X x) (hm : X.mg x = none) (hv : bootBuiltins x = some (.type T)) (ha : PDA X Ex (e :: es) t)
    (hn : x ≠ "__name__" := by decide) (hdb : (x == ("__debug__" : Str)) = false := by decide) (he : starEach (e :: es) X.env = (false, eval e X.env) :: starEach es X.env := by rfl) (hpl : (backTo pos (starEach es X.env)).any (·.1) = false := by rfl) :
    PD X Ex (.Call (.Name x p) (e :: es) [] pos) (dCall f t) := pd_of (pe_callTy hc hg hm hv ha.out hn hdb he hpl) (tCB_of h)
/-! len -/
def fLen : Ow → List D → R D := fun O xs => match xs with
  | [x] => match lsV O x with
    | some ds => .ok (.int ds.length) O
    | none => match tpV x with
      | some ds => .ok (.int ds.length) O
      | none => match x with
        | .str cs => if cs.length ≤ 100000 then .ok (.int cs.length) O else .bad
        | _ => .bad
  | _ => .bad
theorem cd_len : CallD X Ex (fun xs H Q => ∃ x n, xs = [x] ∧ LenV X.K x H n ∧ Q (.int n) H) fLen := by
  intro H hid μ O xs vs Q c d q
  unfold fLen at q
  split at q
  · rename_i x
    obtain ⟨v, rfl, dx⟩ := dats1 d
    split at q
    · rename_i ds e
      obtain ⟨p, ws, rfl, sq, dd⟩ := lsV_at c dx e
      exact ⟨_, ds.length, rfl, .inl ⟨ws, sq, dd.length⟩, post.here q c dat_int⟩
    · split at q
      · rename_i ds e
        obtain ⟨p, ws, rfl, sq, dd⟩ := tpV_at dx e
        exact ⟨_, ds.length, rfl, .inr ⟨ws, sq, dd.length⟩, post.here q c dat_int⟩
      · split at q
        · rename_i cs _ _
          unfold Dat at dx; subst dx
          obtain ⟨hl, q⟩ := post.ite q
          refine ⟨_, cs.length, rfl, ⟨?_, ?_⟩, post.here q c dat_int⟩
          · show cs.toArray.size ≤ _
            rw [List.size_toArray]; exact small_line hl
          · show cs.length = cs.toArray.size
            rw [List.size_toArray]
        · exact False.elim q
  · exact False.elim q
/-! int, str, tuple, list -/
def fInt : Ow → List D → R D := fun O xs => match xs with
  | [.int i] => .ok (.int i) O
  | [.bl k] => .ok (.int (if k then 1 else 0)) O
  | _ => .bad
theorem cd_int : CallD X Ex (fun xs H Q => (∃ i, xs = [.int i] ∧ Q (.int i) H) ∨ ∃ k, xs = [.bl k] ∧ Q (.int (if k then 1 else 0)) H) fInt := by
  intro H hid μ O xs vs Q c d q
  unfold fInt at q
  split at q
  · obtain ⟨v, rfl, dx⟩ := dats1 d
    unfold Dat at dx; subst dx
    exact .inl ⟨_, rfl, post.here q c dat_int⟩
  · obtain ⟨v, rfl, dx⟩ := dats1 d
    unfold Dat at dx; subst dx
    exact .inr ⟨_, rfl, post.here q c dat_int⟩
  · exact False.elim q
def fTuple : Ow → List D → R D := fun O xs => match xs with
  | [x] => match lsV O x with
    | some ds => .ok (.tup ds) O
    | none => match tpV x with
      | some ds => .ok (.tup ds) O
      | none => .bad
  | _ => .bad
theorem cd_tuple : CallD X Ex (fun xs H Q => ∃ p ys, xs = [.ref p] ∧ ((SqL X.K H p ys ∧ ∀ l, H l = none → Q (.ref l) (upd H l (.tup ys))) ∨ (SqT X.K H p ys ∧ Q (.ref p) H))) fTuple := by
  intro H hid μ O xs vs Q c d q
  unfold fTuple at q
  split at q
  · rename_i x
    obtain ⟨v, rfl, dx⟩ := dats1 d
    split at q
    · rename_i ds e
      obtain ⟨p, ws, rfl, sq, dd⟩ := lsV_at c dx e
      exact ⟨p, ws, rfl, .inl ⟨sq, fun l hl => post.ok q (.laid hl) (c.laid hl) (Dat.newT c hl dd)⟩⟩
    · split at q
      · rename_i ds e
        obtain ⟨p, ws, rfl, sq, dd⟩ := tpV_at dx e
        refine ⟨p, ws, rfl, .inr ⟨sq, post.here q c ?_⟩⟩
        cases x with
        | tup ys => cases e; exact dx
        | _ => cases e
      · exact False.elim q
  · exact False.elim q
/-! max, min of two ints -/
def fMax2 : Ow → List D → R D := fun O xs => match xs with
  | [.int i, .int j] => .ok (.int (if j > i then j else i)) O
  | _ => .bad
def fMin2 : Ow → List D → R D := fun O xs => match xs with
  | [.int i, .int j] => .ok (.int (if j < i then j else i)) O
  | _ => .bad
theorem cd_max2 : CallD X Ex (fun xs H Q => ∃ i j, xs = [.int i, .int j] ∧ Q (.int (if j > i then j else i)) H) fMax2 := by
  intro H hid μ O xs vs Q c d q
  unfold fMax2 at q
  split at q
  · obtain ⟨v, w, rfl, d1, d2⟩ := dats2 d
    unfold Dat at d1 d2; subst d1; subst d2
    exact ⟨_, _, rfl, post.here q c dat_int⟩
  · exact False.elim q
theorem cd_min2 : CallD X Ex (fun xs H Q => ∃ i j, xs = [.int i, .int j] ∧ Q (.int (if j < i then j else i)) H) fMin2 := by
  intro H hid μ O xs vs Q c d q
  unfold fMin2 at q
  split at q
  · obtain ⟨v, w, rfl, d1, d2⟩ := dats2 d
    unfold Dat at d1 d2; subst d1; subst d2
    exact ⟨_, _, rfl, post.here q c dat_int⟩
  · exact False.elim q
end
/-! ### defs of the text -/
/-- what a def promises, by data; exceptions: E of the class by number -/
def DSp (K : PySem.W.Frag) (Ec : XK → Nat → Hp → Prop) (n : Nat) (F : List D → Ow → R D) : Sp := fun vs H Q E => vs.length = n ∧ ∃ hid μ ds O, Dats K H hid μ ds vs ∧ Cells K H hid μ O ∧ postE (Ec E) K H hid μ (F ds O) Q
abbrev Ec0 : XK → Nat → Hp → Prop := fun _ _ _ => False
section
variable {X : Cx} {CX : CXT} {k : Nat} {f : Addr} {fd : FuncData} {ps : List Str} {E : XK} {Ec : XK → Nat → Hp → Prop} {x : Str} {p pos : Pos} {e : Expr} {es : List Expr} {t : DA} {F : List D → Ow → R D} {n : Nat}
def dFn (n : Nat) (F : List D → Ow → R D) (t : DA) : DE := fun σ O => (t σ O).bnd fun ds O1 => if ds.length = n then F ds O1 else .bad
theorem pd_fn (G : FnOk X.prog X.w X.K X.mg X.base CX k f fd ps (DSp X.K Ec n F)) (hr : Room k X.A) (hg : Gl X x) (hm : X.mg x = some (.ref f)) (hk : PySem.W.keepIn X.K (.ref f) = true) (hb : Binds X.K fd ps []) (hx : Passes CX X E) (ha : PDA X (Ec E) (e :: es) t)
    (hdb : (x == ("__debug__" : Str)) = false := by decide) (he : starEach (e :: es) X.env = (false, eval e X.env) :: starEach es X.env := by rfl) (hpl : (backTo pos (starEach es X.env)).any (·.1) = false := by rfl) :
    PD X (Ec E) (.Call (.Name x p) (e :: es) [] pos) (dFn n F t) :=
  pd_of (pe_call (dvs := []) (ds := []) G hr hg hm hk hb .nil hx ha.out hdb he hpl) fun hid μ σ O σv H Q e1 c1 q => rdA.go e1 c1 q fun ds O1 vs H1 μ1 e2 x2 c2 d2 q2 => by
    obtain ⟨hl, q2⟩ := post.ite q2
    refine ⟨by rw [List.append_nil, ← d2.length]; exact hl, hid, μ1, ds, O1, ?_, c2, q2⟩
    rw [List.append_nil]; exact d2
end
/-- a body's outcome as a def's -/
def fin (r : RS) : R D := match r with
  | .nx _ O => .ok .non O
  | .rt d O => .ok d O
  | .exc c O => .exc c O
  | _ => .bad
def runF (n : Nat) (t : DS) : List D → Ow → R D := fun ds O => fin (t (ds.map some ++ List.replicate (n - ds.length) none) O)
theorem envOk_start {K : PySem.W.Frag} {H : Hp} {hid μ : List Addr} {ds : List D} {vs : List V} (h : Dats K H hid μ ds vs) (N : List Str) : EnvOk K H hid μ (ds.map some ++ List.replicate (N.length - ds.length) none) (L2.start N vs) := by
  unfold L2.start
  have hl := h.length
  refine ⟨by simp [hl], fun i d e => ?_⟩
  have hi : i < ds.length := by
    by_cases hi : i < ds.length
    · exact hi
    · rw [List.getElem?_append_right (by simpa using hi), List.getElem?_replicate] at e
      split at e <;> cases e
  rw [List.getElem?_append_left (by simpa using hi), List.getElem?_map] at e
  cases q : ds[i]? with
  | none => rw [q] at e; cases e
  | some d' =>
    rw [q] at e; cases e
    obtain ⟨v, h1, h2⟩ := h.get q
    exact ⟨v, by rw [List.getElem?_append_left (by simp; omega), List.getElem?_map, h1]; rfl, h2⟩
abbrev cx0 (P : Program) (w : World) (K : PySem.W.Frag) (mg : Str → Option Value) (base : Heap) (N : List Str) (qual : Str) (scope : Scope) (f : Addr) (cdv : Value) (A : Around) (outer : List Env) (s : Shared) (H : Hp) (E : XK) : Cx :=
  (cxOf (fun _ _ _ _ _ _ => False) P w K mg base N qual scope f cdv A outer s H E).nox
/-- THE RULE, no exception leaves: a def of the text by its body's data -/
theorem fn_ok {P : Program} {w : World} {K : PySem.W.Frag} {mg : Str → Option Value} {base : Heap} {k : Nat} {f : Addr} {name qual : Str} {params : Arguments} {body : List Stmt} {scope : Scope} {dV kV doc pm cdv ct oc : Value} {an od : Option Addr} {osl : Array (Option Value)} {N ps : List Str} {t : DS}
    (lk : K.lookup f = some ⟨oc, od, .func (PySem.W.fnOf name qual params body scope dV kV doc pm an cdv ct), osl⟩) (hcd : PySem.W.codeIn K cdv qual = true) (S : FnScope N ps scope)
    (hbody : ∀ (A : Around) (outer : List Env) (s : Shared) (H : Hp) (E : XK), Room k (A.deeper (PyProof.Rows.envOfC qual scope s.heap.objs.size f cdv)) → PDSs (cx0 P w K mg base N qual scope f cdv A outer s H E) Ex0 body t) :
    FnOk P w K mg base (fun _ _ _ _ _ _ => False) (k + 1) f (PySem.W.fnOf name qual params body scope dV kV doc pm an cdv ct) ps (DSp K Ec0 ps.length (runF N.length t)) := by
  refine fn_of lk hcd S (fun vs H Q E h => h.1) fun A outer s H vs Q E hr h => ?_
  obtain ⟨hl, hid, μ, ds, O, d, c, q⟩ := h
  refine ⟨_, (hbody A outer s H E hr).out.nox, hid, μ, _, O, envOk_start d N, c, ?_⟩
  unfold runF at q
  generalize t (ds.map some ++ List.replicate (N.length - ds.length) none) O = r at q
  cases r with
  | nx σ O' => exact fun σv H' μ' x e c' => q .non H' μ' x c' dat_non
  | rt d' O' => exact fun v H' μ' x c' r => q v H' μ' x c' r
  | bk σ O' => exact False.elim q
  | ct σ O' => exact False.elim q
  | exc c' O' => exact fun H' μ' x c2 => q H' μ' x c2
  | bad => exact False.elim q
end DL

namespace DL
open PySem L2
/-! ### isinstance -/
def kindD : D → String
  | .non => "NoneType"
  | .bl _ => "bool"
  | .int _ => "int"
  | .str _ => "str"
  | .lst _ => "list"
  | .own _ => "list"
  | .tup _ => "tuple"
  | .dct => "dict"
  | .exn _ => "exception"
  | .tab _ => "bool"
/-- of the built-in kinds -/
def isiB (t c : String) : Bool := t == c || (t == "bool" && c == "int")
section
variable {X : Cx} {Ex : Nat → Hp → Prop} {pos : Pos} {a b c e : Expr} {ta tb tc te : DE} {pins : List (Addr × Obj)} {σv : St} {H : Hp} {s : Shared} {hid μ : List Addr} {O : Ow}
def kinds : List String := ["NoneType", "bool", "int", "str", "list", "tuple", "dict"]
theorem kit_all (K : PySem.W.Frag) {t c : String} (ht : t ∈ kinds) (hc : c ∈ ["int", "bool", "str", "list", "tuple", "dict"]) : PySem.W.kitOne K (.type t) (.type c) = some (isiB t c) := by
  simp only [kinds, List.mem_cons, List.not_mem_nil, or_false] at ht hc
  rcases ht with rfl | rfl | rfl | rfl | rfl | rfl | rfl <;> rcases hc with rfl | rfl | rfl | rfl | rfl | rfl <;> first | rfl | decide
/-- the value's kind, as the library asks for it -/
theorem kitx_of_dat {v : V} {u : Value} {d : D} (I : L2.Inv X pins σv H s) (cl : Cells X.K H hid μ O) (h : Dat X.K H hid μ d v) (r : RelV v u) : ∃ (T : Value) (Hh : Heap → Prop), PySem.W.KitX X.K u T Hh ∧ Hh s.heap ∧ u ≠ .builtin "__main__.__loader__#opaque" ∧ ∀ c ∈ (["int", "bool", "str", "list", "tuple", "dict"] : List String), PySem.W.kitOne X.K T (.type c) = some (isiB (kindD d) c) := by
  cases d with
  | non => unfold Dat at h; subst h; cases r; exact ⟨.type "NoneType", _, PySem.W.kitx_none, True.intro, (fun z => nomatch z), fun c hc => kit_all X.K (t := "NoneType") (by simp [kinds]) hc⟩
  | bl _ => unfold Dat at h; subst h; cases r; exact ⟨.type "bool", _, PySem.W.kitx_bool, True.intro, (fun z => nomatch z), fun c hc => kit_all X.K (t := "bool") (by simp [kinds]) hc⟩
  | int _ => unfold Dat at h; subst h; obtain ⟨t, rfl⟩ := r; exact ⟨.type "int", _, PySem.W.kitx_int, True.intro, (fun z => nomatch z), fun c hc => kit_all X.K (t := "int") (by simp [kinds]) hc⟩
  | str _ => unfold Dat at h; subst h; obtain ⟨t, rfl⟩ := r; exact ⟨.type "str", _, PySem.W.kitx_str, True.intro, (fun z => nomatch z), fun c hc => kit_all X.K (t := "str") (by simp [kinds]) hc⟩
  | lst ds =>
    unfold Dat at h
    obtain ⟨p, vs, rfl, l, q⟩ := h
    cases r
    obtain ⟨its, rv, ⟨o, n, h1, h2, _⟩, _⟩ := I.list l.sq
    exact ⟨.type "list", _, PySem.W.kitx_list, ⟨o, h1, h2⟩, (fun z => nomatch z), fun c hc => kit_all X.K (t := "list") (by simp [kinds]) hc⟩
  | own k =>
    unfold Dat at h
    obtain ⟨p, rfl, hk⟩ := h
    cases r
    obtain ⟨ds, vs, _, h2, _⟩ := cl.at_ k p hk
    obtain ⟨its, rv, ⟨o, n, h1, h2, _⟩, _⟩ := I.list (.of h2)
    exact ⟨.type "list", _, PySem.W.kitx_list, ⟨o, h1, h2⟩, (fun z => nomatch z), fun c hc => kit_all X.K (t := "list") (by simp [kinds]) hc⟩
  | tup ds =>
    unfold Dat at h
    obtain ⟨p, vs, rfl, l, q⟩ := h
    cases r
    obtain ⟨its, rv, ⟨o, h1, h2, _⟩, _⟩ := I.tuple l.sq
    exact ⟨.type "tuple", _, PySem.W.kitx_tuple, ⟨o, h1, h2⟩, (fun z => nomatch z), fun c hc => kit_all X.K (t := "tuple") (by simp [kinds]) hc⟩
  | dct =>
    unfold Dat at h
    obtain ⟨p, rfl, hr, _⟩ := h
    cases r
    obtain ⟨_, _, vs, _, o, es, ep, h1, h2, _⟩ := Rd.ok hr I.hok
    exact ⟨.type "dict", _, PySem.W.kitx_dict, ⟨o, h1, h2.1⟩, (fun z => nomatch z), fun c hc => kit_all X.K (t := "dict") (by simp [kinds]) hc⟩
  | tab _ => unfold Dat at h; obtain ⟨rfl, _⟩ := h; cases r; exact ⟨.type "bool", _, PySem.W.kitx_bool, True.intro, (fun z => nomatch z), fun c hc => kit_all X.K (t := "bool") (by simp [kinds]) hc⟩
  | exn C =>
    unfold Dat at h
    obtain ⟨p, φ, rfl, ⟨k, g⟩, hr, _⟩ := h
    cases r
    obtain ⟨y, _⟩ := Rd.ok hr I.hok
    refine ⟨_, _, kitx_x k, g _ y, (fun z => nomatch z), fun c hc => ?_⟩
    rw [k.kit c hc]
    simp only [List.mem_cons, List.not_mem_nil, or_false] at hc
    rcases hc with rfl | rfl | rfl | rfl | rfl | rfl <;> rfl
def kOk : List String := ["int", "bool", "str", "list", "tuple", "dict"]
theorem call_isi1 : CallR X (.builtin "isinstance") (fun xs H Q => ∃ x C hid μ O d, xs = [x, .ty C] ∧ C ∈ kOk ∧ Cells X.K H hid μ O ∧ Dat X.K H hid μ d x ∧ Q (.bl (isiB (kindD d) C)) H) := by
  intro pins s σ H xs us Q I r h
  obtain ⟨x, C, hid, μ, O, d, rfl, hC, cl, dx, q⟩ := h
  obtain ⟨u, w', rfl, rx, rc⟩ := vals2 r
  cases rc
  obtain ⟨T, Hh, Z, p, hx, hk⟩ := kitx_of_dat I cl dx rx
  exact PySem.W.kia_one Z I.kIn p (hk _ hC) hx fun tk => ⟨.bl _, H, I.tok tk, rfl, q⟩
/-- isinstance(x, T) -/
def dIsi (C : String) (t : DE) : DE := fun σ O => (t σ O).bnd fun d O1 => .ok (.bl (isiB (kindD d) C)) O1
theorem pd_isi {C : Str} {n : String} {p p' : Pos} (ha : PD X Ex a ta) (hn : n ∈ kOk) (hg : Gl X "isinstance") (hm : X.mg "isinstance" = none) (hv : bootBuiltins "isinstance" = some (.builtin "isinstance")) (hgC : Gl X C) (hmC : X.mg C = none) (hvC : bootBuiltins C = some (.type n)) (hCn : C ≠ "__name__" := by decide)
    (hCd : (C == ("__debug__" : Str)) = false := by decide) (he : starEach [a, .Name C p'] X.env = (false, eval a X.env) :: starEach [.Name C p'] X.env := by rfl) (he2 : starEach [.Name C p'] X.env = [(false, eval (.Name C p') X.env)] := by rfl) (hpl : (backTo pos (starEach [.Name C p'] X.env)).any (·.1) = false := by rfl) :
    PD X Ex (.Call (.Name "isinstance" p) [a, .Name C p'] [] pos) (dIsi n ta) :=
  pd_of (pe_callB (call_isi1 (X := X)) hg hm hv (pa_cons ha.out (pa_cons (pe_bltn (v := .ty n) hgC hmC hvC rfl hCn hCd) pa_nil he2) he) (by decide) (by decide) he hpl) fun hid μ σ O σv H Q e1 c1 q => rd.go e1 c1 q fun d O1 v H1 μ1 e2 x cl r p2 =>
    ⟨v, n, hid, μ1, O1, d, rfl, hn, cl, r, post.here p2 cl dat_bl⟩
/-! ### x.append(e) -/
def dApp (to : DE) (t : DA) : DE := fun σ O => (to σ O).bnd fun x O1 => match x with
  | .own k => (t σ O1).bnd fun ys O2 => match ys, O2[k]? with
    | [y], some ds => if ds.length < 100000 then .ok .non (O2.set k (ds ++ [y])) else .bad
    | _, _ => .bad
  | _ => .bad
theorem pd_append {o : Expr} {to : DE} {t : DA} {es : List Expr} {apos cpos : Pos} (ho : PD X Ex o to) (ha : PDA X Ex (e :: es) t) (hbase : attributeBase o "append" X.env (eval o X.env) = eval o X.env := by rfl)
    (hfew : ((backTo cpos (starEach (e :: es) X.env)).all (fun x => !x.1) && (backToKw cpos (keywordEach [] X.env)).all (fun x => x.1.isSome) && decide ((e :: es).length + ([] : List Keyword).length + (if ([] : List Keyword).isEmpty then 0 else 1) < 30)) = true := by rfl)
    (hline : (apos.endLine == cpos.line) = true := by rfl) (hs : starEach (e :: es) X.env = (false, eval e X.env) :: starEach es X.env := by rfl) (hplain : (backTo cpos (starEach es X.env)).any (·.1) = false := by rfl) :
    PD X Ex (.Call (.Attribute o "append" apos) (e :: es) [] cpos) (dApp to t) :=
  pd_of (pe_bm PySem.F.plainAttrs_list PySem.F.slot_list_append PySem.F.type_list_append mt_append ho.out ha.out hbase hfew hline hs hplain) fun hid μ σ O σv H Q e1 c1 q => rd.go e1 c1 q fun d O1 v H1 μ1 e2 x cl r p => by
    cases d with
    | own k =>
      have hr := r
      unfold Dat at r
      obtain ⟨A, rfl, hk⟩ := r
      obtain ⟨ds, vs, h1, h2, h3⟩ := cl.at_ k A hk
      refine ⟨.inl ⟨rfl, vs, .of h2⟩, rdA.go e2 cl p fun ys O2 ws H2 μ2 e3 x3 c3 d3 p3 => ?_⟩
      split at p3
      · rename_i y es' hds
        obtain ⟨hl, p3⟩ := post.ite p3
        obtain ⟨w, rfl, dw⟩ := dats1 d3
        have hk2 : μ2[k]? = some A := by
          have := hr.ext x3
          unfold Dat at this
          obtain ⟨A', e', hk'⟩ := this
          cases e'; exact hk'
        obtain ⟨ds2, vs2, g1, g2, g3⟩ := c3.at_ k A hk2
        rw [hds] at g1; cases g1
        refine ⟨A, vs2, w, rfl, rfl, g2, Nat.lt_of_lt_of_le (by rw [← g3.length]; exact hl) (by decide), ?_⟩
        exact post.ok p3 (.put (List.mem_of_getElem? hk2) ⟨_, g2⟩) (c3.put hk2 (g3.append (.cons dw .nil))) dat_non
      · exact False.elim p3
    | _ => exact False.elim p
/-! ### x[i] = e -/
def sPut (te to ti : DE) : DS := fun σ O => (te σ O).bnS fun y O1 => (to σ O1).bnS fun x O2 => (ti σ O2).bnS fun i O3 => match x, i with
  | .own k, .int i => match O3[k]? with
    | some ds => match ixN ds.length i with
      | some j => .nx σ (O3.set k (ds.set j y))
      | none => .bad
    | none => .bad
  | _, _ => .bad
theorem pds_put {o i : Expr} {to ti : DE} {spos : Pos} (he : PD X Ex e te) (ho : PD X Ex o to) (hi : PD X Ex i ti) (ha : ∀ v, assign (.Subscript o i pos) X.env v = (do
      let ov ← holding [v] (eval o X.env)
      let iv ← holding [v, ov] (eval i X.env)
      standAt pos
      holding [v, ov, iv] (setItem ov iv v)
      release [v, ov, iv] []) := by intro _; rfl) (hs : swapsWithSole [.Subscript o i pos] e spos.line X.env = pure false := by rfl) (hw : swappedStores [.Subscript o i pos] e X.env = pure none := by rfl)
    (h1 : (assignEach [.Subscript o i pos] X.env).map (·.2) = [assign (.Subscript o i pos) X.env] := by rfl) : PDS X Ex (.Assign [.Subscript o i pos] e spos) (sPut te to ti) :=
  pds_of (ps_asg he.out (pg_sub ho.out hi.out set_list ha) hs hw h1) fun hid μ σ O E σv H e1 c1 q => rd.goS e1 c1 q fun y O1 v H1 μ1 e2 x1 c2 d2 q2 => rd.goS e2 c2 q2 fun x O2 u H2 μ2 e3 x2 c3 d3 q3 => rd.goS e3 c3 q3 fun ii O3 w H3 μ3 e4 x3 c4 d4 q4 => by
    split at q4
    · rename_i k j
      split at q4
      · rename_i ds hds
        split at q4
        · rename_i m hm
          have d3' := d3.ext x3
          unfold Dat at d3' d4
          obtain ⟨A, rfl, hk⟩ := d3'
          subst d4
          obtain ⟨ds2, vs2, g1, g2, g3⟩ := c4.at_ k A hk
          rw [hds] at g1; cases g1
          refine ⟨A, vs2, j, m, rfl, rfl, g2, by rw [← g3.length]; exact hm, ?_⟩
          exact q4 σv _ μ3 (.put (List.mem_of_getElem? hk) ⟨_, g2⟩) (e4.ext (.put (List.mem_of_getElem? hk) ⟨_, g2⟩)) (c4.put hk (g3.set ((d2.ext x2).ext x3) m))
        · exact False.elim q4
      · exact False.elim q4
    · exact False.elim q4
/-! ### all, any of truths -/
def bls : List D → Option (List Bool)
  | [] => some []
  | .bl b :: r => (bls r).map (b :: ·)
  | _ => none
theorem bls_at {K : PySem.W.Frag} : ∀ {ds : List D} {vs : List V} {bs : List Bool}, Dats K H hid μ ds vs → bls ds = some bs → vs = bs.map V.bl
  | [], vs, bs, h, e => by unfold Dats at h; subst h; cases e; rfl
  | d :: ds, vs, bs, h, e => by
    unfold Dats at h
    obtain ⟨v, r, rfl, h1, h2⟩ := h
    cases d with
    | bl b =>
      unfold bls at e
      cases q : bls ds with
      | none => rw [q] at e; cases e
      | some cs =>
        rw [q] at e; cases e
        unfold Dat at h1; subst h1
        rw [bls_at h2 q]; rfl
    | _ => cases e
def fAll : Ow → List D → R D := fun O xs => match xs with
  | [x] => match lsV O x with
    | some ds => match bls ds with
      | some bs => .ok (.bl (bs.all id)) O
      | none => .bad
    | none => .bad
  | _ => .bad
def fAny : Ow → List D → R D := fun O xs => match xs with
  | [x] => match lsV O x with
    | some ds => match bls ds with
      | some bs => .ok (.bl (bs.any id)) O
      | none => .bad
    | none => .bad
  | _ => .bad
theorem cd_all : CallD X Ex (fun xs H Q => ∃ (p : Addr) (bs : List Bool), xs = [.ref p] ∧ SqL X.K H p (bs.map V.bl) ∧ Q (.bl (bs.all id)) H) fAll := by
  intro H hid μ O xs vs Q c d q
  unfold fAll at q
  split at q
  · rename_i x
    obtain ⟨v, rfl, dx⟩ := dats1 d
    split at q
    · rename_i ds e
      obtain ⟨p, ws, rfl, sq, dd⟩ := lsV_at c dx e
      split at q
      · rename_i bs eb
        refine ⟨p, bs, rfl, ?_, post.here q c dat_bl⟩
        rw [← bls_at dd eb]; exact sq
      · exact False.elim q
    · exact False.elim q
  · exact False.elim q
theorem cd_any : CallD X Ex (fun xs H Q => ∃ (p : Addr) (bs : List Bool), xs = [.ref p] ∧ SqL X.K H p (bs.map V.bl) ∧ Q (.bl (bs.any id)) H) fAny := by
  intro H hid μ O xs vs Q c d q
  unfold fAny at q
  split at q
  · rename_i x
    obtain ⟨v, rfl, dx⟩ := dats1 d
    split at q
    · rename_i ds e
      obtain ⟨p, ws, rfl, sq, dd⟩ := lsV_at c dx e
      split at q
      · rename_i bs eb
        refine ⟨p, bs, rfl, ?_, post.here q c dat_bl⟩
        rw [← bls_at dd eb]; exact sq
      · exact False.elim q
    · exact False.elim q
  · exact False.elim q
theorem range_all (bs : List Bool) : (List.range bs.length).all (fun i => bs.getD i true) = bs.all id := by
  rw [Bool.eq_iff_iff, List.all_eq_true, List.all_eq_true]
  constructor
  · intro h b hb
    obtain ⟨i, hi, e⟩ := List.mem_iff_getElem.mp hb
    have := h i (by simpa using hi)
    rw [List.getD_eq_getElem?_getD, List.getElem?_eq_getElem hi, e] at this
    exact this
  · intro h i hi
    have hi : i < bs.length := by simpa using hi
    rw [List.getD_eq_getElem?_getD, List.getElem?_eq_getElem hi]
    exact h _ (List.getElem_mem hi)
theorem range_any (bs : List Bool) : (List.range bs.length).any (fun i => bs.getD i true) = bs.any id := by
  rw [Bool.eq_iff_iff, List.any_eq_true, List.any_eq_true]
  constructor
  · rintro ⟨i, hi, h⟩
    have hi : i < bs.length := by simpa using hi
    rw [List.getD_eq_getElem?_getD, List.getElem?_eq_getElem hi] at h
    exact ⟨_, List.getElem_mem hi, h⟩
  · rintro ⟨b, hb, h⟩
    obtain ⟨i, hi, e⟩ := List.mem_iff_getElem.mp hb
    exact ⟨i, by simpa using hi, by rw [List.getD_eq_getElem?_getD, List.getElem?_eq_getElem hi, e]; exact h⟩
theorem bool_at {bs : List Bool} {its : List Value} (r : Vals (bs.map V.bl) its) {i : Nat} {v : Value} (h : its.toArray[i]? = some v) : v = .bool (bs.getD i true) := by
  have h : its[i]? = some v := by simpa using h
  have hi : i < bs.length := by
    have := r.length
    have := (List.getElem?_eq_some_iff.mp h).1
    simp at *; omega
  obtain ⟨u, h1, h2⟩ := r.get (i := i) (x := .bl bs[i]) (by rw [List.getElem?_map, List.getElem?_eq_getElem hi]; rfl)
  rw [h] at h1; cases h1
  cases h2
  rw [List.getD_eq_getElem?_getD, List.getElem?_eq_getElem hi]; rfl
theorem call_allB (hc : X.calm = true) : CallR X (.builtin "all") (fun xs H Q => ∃ (p : Addr) (bs : List Bool), xs = [.ref p] ∧ SqL X.K H p (bs.map V.bl) ∧ Q (.bl (bs.all id)) H) := by
  intro pins s σ H xs us Q I r h
  obtain ⟨p, bs, rfl, sq, q⟩ := h
  obtain ⟨u, rfl, ru⟩ := vals1 r
  cases ru
  obtain ⟨its, rv, pl, hz⟩ := I.list sq
  have hl : its.toArray.size = bs.length := by have := rv.length; simp at *; omega
  have hne : p ≠ s.heap.objs.size := by obtain ⟨o, n, e, _⟩ := pl; exact Nat.ne_of_lt (Heap.lt_size e)
  refine call_all_walk (wpAny_pyIter_list pl.isList ?_)
  refine ⟨s.heap.objs.size, _, _, its.toArray.size, _, _, fun i => bs.getD i true, rfl, Walks.list (show X.A.in1.handled = none from I.ok.hd hc) _ p hne its.toArray, ⟨⟨_, Heap.get?_push_size _ rfl, rfl, rfl⟩, pl.isList.push _⟩, fun i v s' Q' E' hP hQ => ?_, fun h' tk hk => ?_⟩
  · rw [bool_at rv hP]; exact wpAny_truthy_bool hQ
  · rw [hl, range_all]
    exact ⟨.bl _, H, I.kept (t' := tk) fun b o e => hk b o (by simpa using Nat.ne_of_lt (Heap.lt_size e)) (Heap.get?_push_of_some _ e), rfl, q⟩
theorem call_anyB (hc : X.calm = true) : CallR X (.builtin "any") (fun xs H Q => ∃ (p : Addr) (bs : List Bool), xs = [.ref p] ∧ SqL X.K H p (bs.map V.bl) ∧ Q (.bl (bs.any id)) H) := by
  intro pins s σ H xs us Q I r h
  obtain ⟨p, bs, rfl, sq, q⟩ := h
  obtain ⟨u, rfl, ru⟩ := vals1 r
  cases ru
  obtain ⟨its, rv, pl, hz⟩ := I.list sq
  have hl : its.toArray.size = bs.length := by have := rv.length; simp at *; omega
  have hne : p ≠ s.heap.objs.size := by obtain ⟨o, n, e, _⟩ := pl; exact Nat.ne_of_lt (Heap.lt_size e)
  refine call_any_walk (wpAny_pyIter_list pl.isList ?_)
  refine ⟨s.heap.objs.size, _, _, its.toArray.size, _, _, fun i => bs.getD i true, rfl, Walks.list (show X.A.in1.handled = none from I.ok.hd hc) _ p hne its.toArray, ⟨⟨_, Heap.get?_push_size _ rfl, rfl, rfl⟩, pl.isList.push _⟩, fun i v s' Q' E' hP hQ => ?_, fun h' tk hk => ?_⟩
  · rw [bool_at rv hP]; exact wpAny_truthy_bool hQ
  · rw [hl, range_any]
    exact ⟨.bl _, H, I.kept (t' := tk) fun b o e => hk b o (by simpa using Nat.ne_of_lt (Heap.lt_size e)) (Heap.get?_push_of_some _ e), rfl, q⟩
end
end DL

namespace DL
open PySem L2
section
variable {X : Cx} {Ex : Nat → Hp → Prop} {pos : Pos} {a b c e o : Expr} {ta tb tc te to : DE} {pins : List (Addr × Obj)} {σv : St} {H : Hp} {s : Shared} {hid μ : List Addr} {O : Ow}
/-! ### x + y -/
def rCatL (K : PySem.W.Frag) : R2 := fun x y H Q => ∃ l b xs zs, x = .ref l ∧ y = .ref b ∧ SqL K H l xs ∧ SqL K H b zs ∧ xs.length + zs.length ≤ sizeLine ∧ ∀ p, H p = none → Q (.ref p) (upd H p (.lst (xs ++ zs)))
theorem op_catL : OpR X (binaryOp .Add) (rCatL X.K) := by
  intro pins s σ H x y v u Q I rx ry h
  obtain ⟨l, b, xs, zs, rfl, rfl, h1, h2, hz, q⟩ := h
  cases rx
  cases ry
  obtain ⟨its, r1, p1, z1⟩ := I.list h1
  obtain ⟨its2, r2, p2, z2⟩ := I.list h2
  obtain ⟨⟨c1, d1, t1, s1⟩, n1, g1, k1, m1, w1⟩ := p1
  obtain ⟨⟨c2, d2, t2, s2⟩, n2, g2, k2, m2, w2⟩ := p2
  simp only at k1 m1 w1 k2 m2 w2
  subst k1 m1 w1 k2 m2 w2
  have ea : its.toArray ++ its2.toArray = (its ++ its2).toArray := by simp
  have l1 := r1.length
  have l2 := r2.length
  refine PySem.concat_meets ⟨_, g1, rfl⟩ ⟨_, g2, rfl⟩ PySem.noFill_list_add PySem.seq_list_add PySem.F.slot_list_add PySem.F.entry_list_add (PySem.F.args_list_add_2 _ _)
    (PyProof.Rows.list_addW l b its.toArray its2.toArray n1 n2 none none s1 s2 (by simp only [List.size_toArray]; omega)) ⟨g1, g2, ?_⟩
  rw [ea]
  exact ⟨.ref _, _, I.lnew (t' := s.toks) (r1.append r2) (by rw [List.length_append]; omega), rfl, q _ I.fresh⟩
/-- ints, texts, lists, tuples (the left one not empty) -/
def fAdd : Ow → D → D → R D := fun O x y => match x, y with
  | .int i, .int j => .ok (.int (i + j)) O
  | .str p, .str q => if p.length + q.length ≤ 100000 then .ok (.str (p ++ q)) O else .bad
  | .tup xs, .tup ys => if xs ≠ [] ∧ xs.length + ys.length ≤ 100000 then .ok (.tup (xs ++ ys)) O else .bad
  | x, y => match lsV O x, lsV O y with
    | some xs, some ys => if xs.length + ys.length ≤ 100000 then .ok (.lst (xs ++ ys)) O else .bad
    | _, _ => .bad
def rAdd' (K : PySem.W.Frag) : R2 := fun x y H Q => (∃ i j, x = .int i ∧ y = .int j ∧ Q (.int (i + j)) H) ∨ (∃ i j, x = .str i ∧ y = .str j ∧ i.length + j.length ≤ sizeLine ∧ Q (.str (i ++ j)) H) ∨ rCatT K x y H Q ∨ rCatL K x y H Q
theorem op_addA : OpR X (binaryOp .Add) (rAdd' X.K) := OpR.or op_add (OpR.or op_add_str (OpR.or op_catT op_catL))
theorem opd_add : OpD X Ex (rAdd' X.K) fAdd := by
  intro H hid μ O x y v w Q c dx dy q
  unfold fAdd at q
  split at q
  · unfold Dat at dx dy; subst dx; subst dy
    exact .inl ⟨_, _, rfl, rfl, post.here q c dat_int⟩
  · rename_i p q'
    unfold Dat at dx dy; subst dx; subst dy
    obtain ⟨hl, q⟩ := post.ite q
    refine .inr (.inl ⟨_, _, rfl, rfl, ?_, ?_⟩)
    · show p.toArray.size + q'.toArray.size ≤ _
      simp only [List.size_toArray]; exact small_line hl
    · have e : ((⟨p.toArray⟩ : Str) ++ (⟨q'.toArray⟩ : Str)) = ⟨(p ++ q').toArray⟩ := by
        show (⟨p.toArray ++ q'.toArray⟩ : Str) = _
        simp
      rw [e]
      exact post.here q c dat_str
  · rename_i xs ys
    have dx0 := dx
    unfold Dat at dx dy
    obtain ⟨p, vs, rfl, l1, q1⟩ := dx
    obtain ⟨p', vs', rfl, l2, q2⟩ := dy
    obtain ⟨⟨hn, hl⟩, q⟩ := post.ite q
    have e1 := q1.length
    have e2 := q2.length
    refine .inr (.inr (.inl ⟨p, p', vs, vs', rfl, rfl, l1.sq, l2.sq, ?_, small_line (by omega), ?_, ?_⟩))
    · rintro rfl
      exact hn (List.length_eq_zero_iff.mp e1)
    · rintro rfl
      have : ys = [] := List.length_eq_zero_iff.mp e2
      subst this
      rw [List.append_nil] at q
      exact post.here q c dx0
    · intro _ l hl0
      exact post.ok q (.laid hl0) (c.laid hl0) (Dat.newT c hl0 (q1.append q2))
  · split at q
    · rename_i xs ys e1 e2
      obtain ⟨p, vs, rfl, s1, q1⟩ := lsV_at c dx e1
      obtain ⟨p', vs', rfl, s2, q2⟩ := lsV_at c dy e2
      obtain ⟨hl, q⟩ := post.ite q
      have l1 := q1.length
      have l2 := q2.length
      exact .inr (.inr (.inr ⟨p, p', vs, vs', rfl, rfl, s1, s2, small_line (by omega), fun l hl0 => post.ok q (.laid hl0) (c.laid hl0) (Dat.newL c hl0 (q1.append q2))⟩))
    · exact False.elim q
theorem pd_add (ha : PD X Ex a ta) (hb : PD X Ex b tb) : PD X Ex (.BinOp a .Add b pos) (dOp fAdd ta tb) := pd_op op_addA opd_add ha hb
/-! ### str(i) -/
def txtI (i : Int) : List Nat := ((toString i : Str)).cps.toList
def fStrI : Ow → List D → R D := fun O xs => match xs with
  | [.int i] => if i.natAbs < 2 ^ 64 then .ok (.str (txtI i)) O else .bad
  | _ => .bad
theorem log2_small {n : Nat} (h : n < 2 ^ 64) : n.log2 < 1920 := by
  by_cases hn : n = 0
  · subst hn; decide
  · have := (Nat.log2_lt hn (k := 64)).mpr h
    omega
theorem str_eta (x : Str) : (⟨x.cps.toList.toArray⟩ : Str) = x := by
  cases x; simp
theorem cd_strI : CallD X Ex (fun xs H Q => ∃ i, xs = [.int i] ∧ i.natAbs.log2 < 1920 ∧ Q (.str (toString i)) H) fStrI := by
  intro H hid μ O xs vs Q c d q
  unfold fStrI at q
  split at q
  · rename_i i
    obtain ⟨v, rfl, dx⟩ := dats1 d
    unfold Dat at dx; subst dx
    obtain ⟨hl, q⟩ := post.ite q
    refine ⟨i, rfl, log2_small hl, post.here q c ?_⟩
    unfold Dat txtI
    rw [str_eta]
  · exact False.elim q
/-! ### methods of texts: one text more -/
/-! ### sep.join(list of texts) -/
def strsD : List D → Option (List Str)
  | [] => some []
  | .str cs :: r => (strsD r).map (⟨cs.toArray⟩ :: ·)
  | _ => none
def dJoin (to : DE) (t : DA) : DE := fun σ O => (to σ O).bnd fun x O1 => match x with
  | .str i => (t σ O1).bnd fun ys O2 => match ys with
    | [z] => match (match lsV O2 z with | some ds => some ds | none => tpV z) with
      | some ds => match strsD ds with
        | some zs => if i.length ≤ 16 ∧ (zs.map (·.length)).sum + zs.length ≤ 1048576 then .ok (.str (Txt.join ⟨i.toArray⟩ zs).cps.toList) O2 else .bad
        | none => .bad
      | none => .bad
    | _ => .bad
  | _ => .bad
/-! ### slices of texts, lists -/
abbrev DO := Sg → Ow → R (Option Int)
def rdO (Ex : Nat → Hp → Prop) (K : PySem.W.Frag) (t : DO) : TO := fun σv H Q => ∃ hid μ σ O, EnvOk K H hid μ σ σv ∧ Cells K H hid μ O ∧ post Ex K (fun _ _ (d v : Option Int) => d = v) H hid μ (t σ O) Q
structure PDO (X : Cx) (Ex : Nat → Hp → Prop) (e : Option Expr) (t : DO) : Prop where
  out : PO X e (rdO Ex X.K t)
def oNone : DO := fun _ O => .ok none O
def oSome (t : DE) : DO := fun σ O => (t σ O).bnd fun d O1 => match d with
  | .int i => .ok (some i) O1
  | _ => .bad
theorem PO.imp {e : Option Expr} {t t' : TO} (h : PO X e t) (f : ∀ σ H Q, t' σ H Q → t σ H Q) : PO X e t' := fun pins s σ H Q I q => h pins s σ H Q I (f σ H Q q)
theorem pdo_none : PDO X Ex none oNone := PDO.mk <| PO.imp po_none fun σv H Q ⟨hid, μ, σ, O, e1, c1, q⟩ => post.here (v := none) q c1 rfl
theorem pdo_some (h : PD X Ex e te) : PDO X Ex (some e) (oSome te) := PDO.mk <| PO.imp (po_some h.out) fun σv H Q ⟨hid, μ, σ, O, e1, c1, q⟩ => rd.go e1 c1 q fun d O1 v H1 μ1 e2 x cl r p => by
  cases d with
  | int i => unfold Dat at r; subst r; exact ⟨i, rfl, post.here (v := some i) p cl rfl⟩
  | _ => exact False.elim p
theorem rdO.go {α' β' : Type} {rel' : Hp → List Addr → α' → β' → Prop} {t : DO} {hid μ : List Addr} {σ : Sg} {O : Ow} {σv : St} {H : Hp} {Q1 : Option Int → Hp → Prop} {k : Option Int → Ow → R α'} {Q : β' → Hp → Prop} (e1 : EnvOk X.K H hid μ σ σv) (c1 : Cells X.K H hid μ O)
    (q : post Ex X.K rel' H hid μ ((t σ O).bnd k) Q)
    (f : ∀ v O1 H1 μ1, EnvOk X.K H1 hid μ1 σ σv → Ext H μ H1 μ1 → Cells X.K H1 hid μ1 O1 → post Ex X.K rel' H1 hid μ1 (k v O1) Q → Q1 v H1) : rdO Ex X.K t σv H Q1 :=
  ⟨hid, μ, σ, O, e1, c1, post.bnd q fun d O1 v H1 μ1 x c r p => by
    have r : d = v := r
    subst r
    exact f d O1 H1 μ1 (e1.ext x) x c p⟩
def rSlS : V → Option Int → Option Int → Hp → VK → Prop := fun x lo hi H Q => ∃ i, x = .str i ∧ i.length ≤ sizeLine ∧ Q (.str (Txt.slice i lo hi)) H
theorem isSlice_of {h : Heap} {sl : Addr} {vl vu : Value} {lo hi : Option Int} (hs : h.IsSliceOf sl vl vu .none) (pl : IsPart vl lo) (pu : IsPart vu hi) : ∃ l u : Option (Int × Tok), h.IsSlice sl l u none ∧ l.map (·.1) = lo ∧ u.map (·.1) = hi := by
  obtain ⟨ob, g, k1, k2⟩ := hs
  cases pl with
  | none =>
    cases pu with
    | none => exact ⟨none, none, ⟨ob, g, k1, k2⟩, rfl, rfl⟩
    | int j t => exact ⟨none, some (j, t), ⟨ob, g, k1, k2⟩, rfl, rfl⟩
  | int i t =>
    cases pu with
    | none => exact ⟨some (i, t), none, ⟨ob, g, k1, k2⟩, rfl, rfl⟩
    | int j t' => exact ⟨some (i, t), some (j, t'), ⟨ob, g, k1, k2⟩, rfl, rfl⟩
theorem sl_str : SlR X rSlS := by
  intro pins s σ H x v vl vu lo hi sl Q I rx hs pl pu h
  obtain ⟨i, rfl, hz, q⟩ := h
  obtain ⟨t, rfl⟩ := rx
  obtain ⟨l, u, hs2, rfl, rfl⟩ := isSlice_of hs pl pu
  refine ⟨"str", _, PySem.F.slot_str_getitem.lookup, typeIs_str s i t, ?_⟩
  exact wpAny_getItem_str_slice (l := l) (u := u) (st := none) hs2 rfl (post_val_or_str ⟨Nat.le_trans (Txt.slice_le i _ _) hz, fun t' k => ⟨.str _, H, I.tok k, ⟨_, rfl⟩, q⟩⟩)
def cutD (xs : List D) (lo hi : Option Int) : List D := (xs.drop (HT.sIx xs.length 0 lo)).take (HT.sIx xs.length xs.length hi - HT.sIx xs.length 0 lo)
def fSl (O : Ow) (x : D) (lo hi : Option Int) : R D := match x with
  | .str i => if i.length ≤ 100000 then .ok (.str (Txt.slice ⟨i.toArray⟩ lo hi).cps.toList) O else .bad
  | .tup ds => if HT.sIx ds.length 0 lo = 0 ∧ HT.sIx ds.length ds.length hi = ds.length then .bad else .ok (.tup (cutD ds lo hi)) O
  | x => match lsV O x with
    | some ds => .ok (.lst (cutD ds lo hi)) O
    | none => .bad
def dSl (te : DE) (tl th : DO) : DE := fun σ O => (te σ O).bnd fun x O1 => (tl σ O1).bnd fun lo O2 => (th σ O2).bnd fun hi O3 => fSl O3 x lo hi
def rSlA (K : PySem.W.Frag) : V → Option Int → Option Int → Hp → VK → Prop := fun x lo hi H Q => rSlS x lo hi H Q ∨ rSlT K x lo hi H Q ∨ rSlL K x lo hi H Q
theorem dats_cut {K : PySem.W.Frag} {ds : List D} {vs : List V} (h : Dats K H hid μ ds vs) (lo hi : Option Int) : Dats K H hid μ (cutD ds lo hi) (cutV vs lo hi) := by
  unfold cutD cutV
  rw [h.length]
  exact Dats.take _ (Dats.drop _ h)
theorem pd_sl {lo hi : Option Expr} {tl th : DO} {p2 : Pos} (he : PD X Ex e te) (hl : PDO X Ex lo tl) (hu : PDO X Ex hi th) : PD X Ex (.Subscript e (.Slice lo hi none p2) pos) (dSl te tl th) :=
  pd_of (pe_slice (r := rSlA X.K) (SlR.or sl_str (SlR.or sl_tup sl_list)) he.out hl.out hu.out) fun hid μ σ O σv H Q e1 c1 q => rd.go e1 c1 q fun d O1 v H1 μ1 e2 x cl r p => rdO.go e2 cl p fun l O2 H2 μ2 e3 x3 c3 p3 => rdO.go e3 c3 p3 fun u O3 H3 μ3 e4 x4 c4 p4 => by
    have r' := (r.ext x3).ext x4
    unfold fSl at p4
    split at p4
    · rename_i i
      unfold Dat at r'; subst r'
      obtain ⟨hl.out, p4⟩ := post.ite p4
      refine .inl ⟨_, rfl, ?_, post.here p4 c4 ?_⟩
      · show i.toArray.size ≤ _
        rw [List.size_toArray]; exact small_line hl.out
      · unfold Dat; rw [str_eta]
    · rename_i ds
      unfold Dat at r'
      obtain ⟨pa, vs, rfl, la, q1⟩ := r'
      split at p4
      · exact False.elim p4
      · rename_i hw
        refine .inr (.inl ⟨pa, vs, rfl, la.sq, by rw [← q1.length]; exact hw, fun l' hl' => post.ok p4 (.laid hl') (c4.laid hl') (Dat.newT c4 hl' (dats_cut q1 l u))⟩)
    · split at p4
      · rename_i ds eds
        obtain ⟨pa, vs, rfl, sq, q1⟩ := lsV_at c4 r' eds
        exact .inr (.inr ⟨pa, vs, rfl, sq, fun l' hl' => post.ok p4 (.laid hl') (c4.laid hl') (Dat.newL c4 hl' (dats_cut q1 l u))⟩)
      · exact False.elim p4
/-! ### a text in a text -/
def fInS : Ow → D → D → R D := fun O x y => match x, y with
  | .str i, .str j => .ok (.bl (!(PySem.Builtin.Str.occurrences ⟨j.toArray⟩ ⟨i.toArray⟩ 0 j.length 1).isEmpty)) O
  | _, _ => .bad
/-! ### a, b = x, y -/
end
end DL

namespace DL
open PySem L2
/-! ### defs of the text, by name -/
def FunAt (K : PySem.W.Frag) (mg : Str → Option Value) (x : Str) (st : Stmt) : Prop := ∃ f fd, mg x = some (.ref f) ∧ L2.Fun K x x st f fd
structure Callee (P : Program) (w : World) (K : PySem.W.Frag) (mg : Str → Option Value) (base : Heap) (x : Str) (k n : Nat) (F : List D → Ow → R D) : Prop where
  ex : ∃ f fd ps, mg x = some (.ref f) ∧ PySem.W.keepIn K (.ref f) = true ∧ Binds K fd ps [] ∧ FnOk P w K mg base CX0 k f fd ps (DSp K Ec0 n F)
theorem pd_fnC {X : Cx} {x : Str} {k j n : Nat} {F : List D → Ow → R D} {p pos : Pos} {e : Expr} {es : List Expr} {t : DA} (c : Callee X.prog X.w X.K X.mg X.base x k n F) (hr : Room j X.A) (hk : k ≤ j) (hg : Gl X x) (ha : PDA X Ex0 (e :: es) t)
    (hdb : (x == ("__debug__" : Str)) = false := by decide) (he : starEach (e :: es) X.env = (false, eval e X.env) :: starEach es X.env := by rfl) (hpl : (backTo pos (starEach es X.env)).any (·.1) = false := by rfl) :
    PD X Ex0 (.Call (.Name x p) (e :: es) [] pos) (dFn n F t) := by
  obtain ⟨f, fd, ps, hm, hkp, hb, G⟩ := c.ex
  exact pd_fn (Ec := Ec0) (E := E0) (G.mono hk) hr hg hm hkp hb pass0 ha hdb he hpl
theorem fnC {P : Program} {w : World} {K : PySem.W.Frag} {mg : Str → Option Value} {base : Heap} {k : Nat} {x : Str} {st : Stmt} {N ps : List Str} {t : DS} (h : FunAt K mg x st) (S : FnScope N ps (defScope st))
    (hb : ∀ (kV doc pm : Value) (an : Option Addr) (cdv ct : Value) (us : List Value), us.length = ps.length → bindArgs (PySem.W.fnOf x x (defArgs st) (defBody st) (defScope st) .none kV doc pm an cdv ct) ⟨us, []⟩ = pure (ps.zip us))
    (hbody : ∀ (f : Addr) (cdv : Value) (A : Around) (outer : List Env) (s : Shared) (H : Hp) (E : XK), Room k (A.deeper (PyProof.Rows.envOfC x (defScope st) s.heap.objs.size f cdv)) → PDSs (cx0 P w K mg base N x (defScope st) f cdv A outer s H E) Ex0 (defBody st) t) :
    Callee P w K mg base x (k + 1) ps.length (runF N.length t) := by
  obtain ⟨f, fd, hm, F⟩ := h
  refine ⟨f, fd, ps, hm, F.kp, F.binds hb, ?_⟩
  obtain ⟨oc, od, kV, doc, pm, an, cdv, ct, osl, rfl, lk, hcd⟩ := F.ex
  exact fn_ok lk hcd S fun A outer s H E hr => hbody f cdv A outer s H E hr
theorem Callee.imp {P : Program} {w : World} {K : PySem.W.Frag} {mg : Str → Option Value} {base : Heap} {k n : Nat} {x : Str} {F G : List D → Ow → R D} (c : Callee P w K mg base x k n F)
    (h : ∀ ds O H hid μ Q, Cells K H hid μ O → postE Ex0 K H hid μ (G ds O) Q → postE Ex0 K H hid μ (F ds O) Q) : Callee P w K mg base x k n G := by
  obtain ⟨f, fd, ps, hm, hkp, hb, Fo⟩ := c.ex
  refine ⟨f, fd, ps, hm, hkp, hb, Fo.imp fun vs H Q E ⟨hl, hid, μ, ds, O, d, cl, q⟩ => ⟨hl, hid, μ, ds, O, d, cl, h ds O H hid μ Q cl q⟩⟩
theorem Callee.bad {P : Program} {w : World} {K : PySem.W.Frag} {mg : Str → Option Value} {base : Heap} {k n : Nat} {x : Str} {F : List D → Ow → R D} (c : Callee P w K mg base x k n F) : Callee P w K mg base x k n (fun _ _ => .bad) :=
  c.imp fun _ _ _ _ _ _ _ q => False.elim q
/-! ### lists that nobody changes any more are data by value -/
def frz (O : Ow) (n : Nat) : Nat → D → Option D
  | 0, d => match d with
    | .own k => if k < n then some (.own k) else none
    | .lst _ => none
    | .tup _ => none
    | d => some d
  | f + 1, d => match d with
    | .own k => if k < n then some (.own k) else match O[k]? with
      | some ds => (mapO (frz O n f) ds).map .lst
      | none => none
    | .lst ds => (mapO (frz O n f) ds).map .lst
    | .tup ds => (mapO (frz O n f) ds).map .tup
    | d => some d
/-- the cells from n on are given up -/
def frzR (n : Nat) (r : R D) : R D := match r with
  | .ok d O => match frz O n 8 d, mapO (mapO (frz O n 8)) (O.take n) with
    | some d', some O' => .ok d' O'
    | _, _ => .bad
  | r => r
section
variable {K : PySem.W.Frag} {H : Hp} {hid μ ν : List Addr} {O : Ow} {n : Nat}
theorem mapO_dats {f : D → Option D} {μ' : List Addr} (ih : ∀ d d' v, f d = some d' → Dat K H hid μ d v → Dat K H hid μ' d' v) : ∀ (ds ds' : List D) (vs : List V), mapO f ds = some ds' → Dats K H hid μ ds vs → Dats K H hid μ' ds' vs
  | [], ds', vs, e, h => by cases e; unfold Dats at h ⊢; exact h
  | d :: ds, ds', vs, e, h => by
    unfold mapO at e
    split at e
    · rename_i p ps e1 e2
      cases e
      unfold Dats at h
      obtain ⟨v, r, rfl, h1, h2⟩ := h
      exact .cons (ih d p v e1 h1) (mapO_dats ih ds ps r e2 h2)
    · cases e
theorem frz_ok (c : Cells K H hid (μ ++ ν) O) (hn : μ.length = n) : ∀ (f : Nat) (d d' : D) (v : V), frz O n f d = some d' → Dat K H hid (μ ++ ν) d v → Dat K H hid μ d' v := by
  have sub : ∀ {a : Addr}, a ∉ μ ++ ν → a ∉ μ := fun h m => h (List.mem_append_left _ m)
  have low : ∀ {k : Nat} {v : V}, k < n → Dat K H hid (μ ++ ν) (.own k) v → Dat K H hid μ (.own k) v := fun {k v} hk h => by
    unfold Dat at h ⊢
    obtain ⟨a, rfl, e⟩ := h
    rw [List.getElem?_append_left (by omega)] at e
    exact ⟨a, rfl, e⟩
  have dc : ∀ {v : V}, Dat K H hid (μ ++ ν) .dct v → Dat K H hid μ .dct v := fun {v} h => by
    unfold Dat at h ⊢
    obtain ⟨a, rfl, r, n1, n2⟩ := h
    exact ⟨a, rfl, r, n1, sub n2⟩
  have xc : ∀ {C : Nat} {v : V}, Dat K H hid (μ ++ ν) (.exn C) v → Dat K H hid μ (.exn C) v := fun {C v} h => by
    unfold Dat at h ⊢
    obtain ⟨a, φ, rfl, g, r, n1, n2⟩ := h
    exact ⟨a, φ, rfl, g, r, n1, sub n2⟩
  intro f
  induction f with
  | zero =>
    intro d d' v e h
    cases d with
    | own k =>
      unfold frz at e; dsimp only at e
      split at e
      · rename_i hk; cases e; exact low hk h
      · cases e
    | lst ds => cases e
    | tup ds => cases e
    | dct => cases e; exact dc h
    | exn C => cases e; exact xc h
    | tab P => cases e; unfold Dat at h ⊢; exact h
    | non => cases e; unfold Dat at h ⊢; exact h
    | bl b => cases e; unfold Dat at h ⊢; exact h
    | int i => cases e; unfold Dat at h ⊢; exact h
    | str i => cases e; unfold Dat at h ⊢; exact h
  | succ f ih =>
    intro d d' v e h
    cases d with
    | own k =>
      unfold frz at e; dsimp only at e
      split at e
      · rename_i hk; cases e; exact low hk h
      · rename_i hk
        unfold Dat at h
        obtain ⟨a, rfl, hk2⟩ := h
        obtain ⟨ds, vs, h1, h2, h3⟩ := c.at_ k a hk2
        rw [h1] at e
        dsimp only at e
        cases e1 : mapO (frz O n f) ds with
        | none => rw [e1] at e; cases e
        | some ps =>
          rw [e1] at e; cases e
          unfold Dat
          refine ⟨a, vs, rfl, .inl ⟨.inl h2, c.nh a (List.mem_of_getElem? hk2), fun m => ?_⟩, mapO_dats ih ds ps vs e1 h3⟩
          obtain ⟨j, hj, ej⟩ := List.mem_iff_getElem.mp m
          have q1 : (μ ++ ν)[j]? = some a := by rw [List.getElem?_append_left hj, List.getElem?_eq_getElem hj, ej]
          obtain ⟨w1, z1⟩ := List.getElem?_eq_some_iff.mp q1
          obtain ⟨w2, z2⟩ := List.getElem?_eq_some_iff.mp hk2
          have := (List.getElem_inj c.nd).mp (z1.trans z2.symm)
          omega
    | lst ds =>
      unfold frz at e; dsimp only at e
      unfold Dat at h
      obtain ⟨a, vs, rfl, l, q⟩ := h
      cases e1 : mapO (frz O n f) ds with
      | none => rw [e1] at e; cases e
      | some ps =>
        rw [e1] at e; cases e
        unfold Dat
        exact ⟨a, vs, rfl, l.imp (fun z => ⟨z.1, z.2.1, sub z.2.2⟩) id, mapO_dats ih ds ps vs e1 q⟩
    | tup ds =>
      unfold frz at e; dsimp only at e
      unfold Dat at h
      obtain ⟨a, vs, rfl, l, q⟩ := h
      cases e1 : mapO (frz O n f) ds with
      | none => rw [e1] at e; cases e
      | some ps =>
        rw [e1] at e; cases e
        unfold Dat
        exact ⟨a, vs, rfl, l.imp (fun z => ⟨z.1, z.2.1, sub z.2.2⟩) id, mapO_dats ih ds ps vs e1 q⟩
    | dct => cases e; exact dc h
    | exn C => cases e; exact xc h
    | tab P => cases e; unfold Dat at h ⊢; exact h
    | non => cases e; unfold Dat at h ⊢; exact h
    | bl b => cases e; unfold Dat at h ⊢; exact h
    | int i => cases e; unfold Dat at h ⊢; exact h
    | str i => cases e; unfold Dat at h ⊢; exact h
theorem mapO_len {α β : Type} {f : α → Option β} : ∀ {l : List α} {r : List β}, mapO f l = some r → r.length = l.length
  | [], r, e => by cases e; rfl
  | x :: l, r, e => by
    unfold mapO at e
    split at e
    · rename_i p ps e1 e2; cases e; simp [mapO_len e2]
    · cases e
theorem mapO_get {α β : Type} {f : α → Option β} : ∀ {l : List α} {r : List β} {k : Nat} {y : β}, mapO f l = some r → r[k]? = some y → ∃ x, l[k]? = some x ∧ f x = some y
  | [], r, k, y, e, h => by cases e; simp at h
  | x :: l, r, k, y, e, h => by
    unfold mapO at e
    split at e
    · rename_i p ps e1 e2
      cases e
      cases k with
      | zero => simp at h; subst h; exact ⟨x, by simp, e1⟩
      | succ k => obtain ⟨z, h1, h2⟩ := mapO_get (k := k) e2 (by simpa using h); exact ⟨z, by simpa using h1, h2⟩
    · cases e
theorem post_frz {Ex : Nat → Hp → Prop} {r : R D} {Q : VK} (hn : μ.length = n) (q : postE Ex K H hid μ (frzR n r) Q) : postE Ex K H hid μ r Q := by
  cases r with
  | bad => exact q
  | exc c O' => exact q
  | ok d O' =>
    intro v H' μ' x c h
    obtain ⟨ν, rfl⟩ := x.pre
    have q1 : postE Ex K H hid μ (match frz O' n 8 d, mapO (mapO (frz O' n 8)) (O'.take n) with | some d', some O2 => .ok d' O2 | _, _ => .bad) Q := q
    cases e1 : frz O' n 8 d with
    | none => rw [e1] at q1; exact False.elim q1
    | some d' =>
      cases e2 : mapO (mapO (frz O' n 8)) (O'.take n) with
      | none => rw [e1, e2] at q1; exact False.elim q1
      | some O2 =>
        rw [e1, e2] at q1
        have xe : Ext H μ H' μ := ⟨⟨[], by simp⟩, x.kept, fun _ m => .inl m, x.there, x.tab⟩
        have hl : O'.length = (μ ++ ν).length := c.len.symm
        have c2 : Cells K H' hid μ O2 := by
          refine ⟨?_, (List.nodup_append.mp c.nd).1, fun a m => c.nh a (List.mem_append_left _ m), c.ht, fun k a e => ?_⟩
          · rw [mapO_len e2, List.length_take, hl, List.length_append, hn]; omega
          · have hk : k < μ.length := (List.getElem?_eq_some_iff.mp e).1
            obtain ⟨ds, vs, h1, h2, h3⟩ := c.at_ k a (by rw [List.getElem?_append_left hk]; exact e)
            have hk2 : k < O2.length := by rw [mapO_len e2, List.length_take, hl, List.length_append, hn]; omega
            obtain ⟨ds', g1, g2⟩ := mapO_get e2 (List.getElem?_eq_getElem hk2)
            have : ds' = ds := by
              rw [List.getElem?_take, if_pos (by omega), h1] at g1
              cases g1; rfl
            subst this
            exact ⟨_, vs, List.getElem?_eq_getElem hk2, h2, mapO_dats (frz_ok c hn 8) _ _ vs g2 h3⟩
        exact q1 v H' μ xe c2 (frz_ok c hn 8 d d' v e1 h)
end
def frzF (F : List D → Ow → R D) : List D → Ow → R D := fun ds O => frzR O.length (F ds O)
theorem Callee.frz {P : Program} {w : World} {K : PySem.W.Frag} {mg : Str → Option Value} {base : Heap} {k n : Nat} {x : Str} {F : List D → Ow → R D} (c : Callee P w K mg base x k n F) : Callee P w K mg base x k n (frzF F) :=
  c.imp fun ds O H hid μ Q cl q => post_frz cl.len q
/-! ### the names of a block, checked -/
def bokB (sc scope : Scope) (N' : List Str) (sl : List Nat) : Bool :=
  (match scope.kind with | .function => true | _ => false) && decide ((scope.names.map (·.1)).Nodup) && (scope.names.all fun y => !(y.2 == .free) || sc.names.lookup y.1 == some .cell || sc.names.lookup y.1 == some .free) &&
  (N'.zipIdx.all fun p => !((scope.names.any fun y => y.1 == p.1 && y.2 == .local) || (scope.names.any fun y => y.1 == p.1 && y.2 == .cell)) || sl.contains p.2)
theorem bok_of {sc scope : Scope} {N' : List Str} {sl : List Nat} (h : bokB sc scope N' sl = true) : BOk sc scope N' sl := by
  unfold bokB at h
  simp only [Bool.and_eq_true, decide_eq_true_eq, List.all_eq_true] at h
  obtain ⟨⟨⟨h1, h2⟩, h3⟩, h4⟩ := h
  refine ⟨?_, h2, fun y hy hf => ?_, fun i x hx hm => ?_⟩
  · cases e : scope.kind <;> rw [e] at h1 <;> first | rfl | cases h1
  · have := h3 y hy
    rw [hf] at this
    simpa using this
  · have hp : (x, i) ∈ N'.zipIdx := by
      rw [List.mem_zipIdx_iff_getElem?]; exact hx
    have h := h4 _ hp
    have hany : ((scope.names.any fun y => y.1 == x && y.2 == .local) || (scope.names.any fun y => y.1 == x && y.2 == .cell)) = true := by
      rw [Bool.or_eq_true]
      exact hm.imp (fun m => List.any_eq_true.mpr ⟨_, m, by simp⟩) fun m => List.any_eq_true.mpr ⟨_, m, by simp⟩
    have h : (!((scope.names.any fun y => y.1 == x && y.2 == .local) || (scope.names.any fun y => y.1 == x && y.2 == .cell)) || sl.contains i) = true := h
    rw [hany] at h
    simpa using h
/-! ### a module's text -/
structure GStr (mg : Str → Option Value) (x : Str) (cs : List Nat) : Prop where
  ex : ∃ t, mg x = some (.str ⟨cs.toArray⟩ t)
section
variable {X : Cx} {Ex : Nat → Hp → Prop} {pos : Pos} {a b c e o : Expr} {ta tb tc te to : DE} {pins : List (Addr × Obj)} {σv : St} {H : Hp} {s : Shared} {hid μ : List Addr} {O : Ow}
theorem pd_gstr {x : Str} {cs : List Nat} (h : GStr X.mg x cs) (hg : Gl X x := by rfl) (hd : (x == ("__debug__" : Str)) = false := by decide) : PD X Ex (.Name x pos) (dC (.str cs)) := by
  obtain ⟨t, h⟩ := h.ex
  exact pd_globS cs hg h rfl hd
/-! ### isinstance(x, (T, U)) -/
def dIsi2 (C C' : String) (t : DE) : DE := fun σ O => (t σ O).bnd fun d O1 => .ok (.bl (isiB (kindD d) C || isiB (kindD d) C')) O1
theorem call_isi2 : CallR X (.builtin "isinstance") (fun xs H Q => ∃ x p C C' hid μ O d, xs = [x, .ref p] ∧ SqT X.K H p [.ty C, .ty C'] ∧ C ∈ kOk ∧ C' ∈ kOk ∧ Cells X.K H hid μ O ∧ Dat X.K H hid μ d x ∧ Q (.bl (isiB (kindD d) C || isiB (kindD d) C')) H) := by
  intro pins s σ H xs us Q I r h
  obtain ⟨x, tp, C, C', hid, μ, O, d, rfl, sq, hC, hC', cl, dx, q⟩ := h
  obtain ⟨u, w', rfl, rx, rc⟩ := vals2 r
  cases rc
  obtain ⟨T, Hh, Z, p, hx, hk⟩ := kitx_of_dat I cl dx rx
  obtain ⟨its, rv, ⟨⟨c1, d1, t1, s1⟩, h1, h2, n, h3⟩, hz⟩ := I.tuple sq
  simp only at h2 h3
  subst h2 h3
  obtain ⟨v1, v2, rfl, r1, r2⟩ := vals2 rv
  cases r1; cases r2
  refine PySem.W.kia_tup (b := isiB (kindD d) C || isiB (kindD d) C') Z I.kIn p h1 ?_ hx fun tk => ⟨.bl _, H, I.tok tk, rfl, q⟩
  unfold PySem.W.kitAny
  rw [hk _ hC]
  cases isiB (kindD d) C with
  | true => rfl
  | false =>
    dsimp only
    unfold PySem.W.kitAny
    rw [hk _ hC']
    cases isiB (kindD d) C' <;> rfl
theorem pd_isi2 {C C' : Str} {n n' : String} {p p' p'' pt : Pos} {kt} (ha : PD X Ex a ta) (hn : n ∈ kOk) (hn' : n' ∈ kOk) (hg : Gl X "isinstance") (hm : X.mg "isinstance" = none) (hv : bootBuiltins "isinstance" = some (.builtin "isinstance")) (hgC : Gl X C) (hmC : X.mg C = none) (hvC : bootBuiltins C = some (.type n))
    (hgC' : Gl X C') (hmC' : X.mg C' = none) (hvC' : bootBuiltins C' = some (.type n')) (hCn : C ≠ "__name__" := by decide) (hCd : (C == ("__debug__" : Str)) = false := by decide) (hCn' : C' ≠ "__name__" := by decide) (hCd' : (C' == ("__debug__" : Str)) = false := by decide)
    (he : starEach [a, .Tuple [.Name C p', .Name C' p''] kt pt] X.env = (false, eval a X.env) :: starEach [.Tuple [.Name C p', .Name C' p''] kt pt] X.env := by rfl) (he2 : starEach [.Tuple [.Name C p', .Name C' p''] kt pt] X.env = [(false, eval (.Tuple [.Name C p', .Name C' p''] kt pt) X.env)] := by rfl)
    (hpl : (backTo pos (starEach [.Tuple [.Name C p', .Name C' p''] kt pt] X.env)).any (·.1) = false := by rfl) (h3 : starEach [.Name C p', .Name C' p''] X.env = (false, eval (.Name C p') X.env) :: starEach [.Name C' p''] X.env := by rfl) (h4 : starEach [.Name C' p''] X.env = [(false, eval (.Name C' p'') X.env)] := by rfl) :
    PD X Ex (.Call (.Name "isinstance" p) [a, .Tuple [.Name C p', .Name C' p''] kt pt] [] pos) (dIsi2 n n' ta) :=
  pd_of (pe_callB (call_isi2 (X := X)) hg hm hv (pa_cons ha.out (pa_cons (pe_tup (pa_cons (pe_bltn (v := .ty n) hgC hmC hvC rfl hCn hCd) (pa_cons (pe_bltn (v := .ty n') hgC' hmC' hvC' rfl hCn' hCd') pa_nil h4) h3)) pa_nil he2) he) (by decide) (by decide) he hpl) fun hid μ σ O σv H Q e1 c1 q => rd.go e1 c1 q fun d O1 v H1 μ1 e2 x cl r p2 =>
    ⟨by show 2 ≤ sizeLine; decide, fun l hl => ⟨v, l, n, n', hid, μ1, O1, d, rfl, .of upd_same, hn, hn', cl.laid hl, r.ext (.laid hl), post.ok p2 (.laid hl) (cl.laid hl) dat_bl⟩⟩
/-! ### not, minus -/
/-! ### x in y: texts, lists, tuples -/
def fIn : Ow → D → D → R D := fun O x y => match y with
  | .str _ => fInS O x y
  | _ => fPy inF O x y
def fNin : Ow → D → D → R D := fun O x y => match y with
  | .str _ => match fInS O x y with
    | .ok (.bl b) O1 => .ok (.bl (!b)) O1
    | _ => .bad
  | _ => fPy ninF O x y
theorem op_ninA (hu : X.A.units + 64 < cLine) : OpR X (compareOp .NotIn) (fun x y H Q => rPy X.K ninF x y H Q ∨ ∃ i j, x = .str i ∧ y = .str j ∧ Q (.bl (!(!(Builtin.Str.occurrences j i 0 j.length 1).isEmpty))) H) := OpR.or (op_ninPy hu) op_notin_str
theorem opd_nin : OpD X Ex (fun x y H Q => rPy X.K ninF x y H Q ∨ ∃ i j, x = .str i ∧ y = .str j ∧ Q (.bl (!(!(Builtin.Str.occurrences j i 0 j.length 1).isEmpty))) H) fNin := by
  intro H hid μ O x y v w Q c dx dy q
  unfold fNin at q
  split at q
  · rename_i cs
    cases x with
    | str i =>
      unfold Dat at dx dy; subst dx; subst dy
      refine .inr ⟨_, _, rfl, rfl, post.here (d := D.bl (!(!(PySem.Builtin.Str.occurrences ⟨cs.toArray⟩ ⟨i.toArray⟩ 0 cs.length 1).isEmpty))) q c ?_⟩
      have e : (⟨cs.toArray⟩ : Str).length = cs.length := by show cs.toArray.size = _; simp
      rw [e]; exact dat_bl
    | _ => exact False.elim q
  · exact .inl (opd_py H hid μ O x y v w Q c dx dy q)
end
end DL

namespace DL
open PySem L2
section
variable {X : Cx} {pins : List (Addr × Obj)} {σv : St} {H : Hp} {s : Shared}
/-- records of ours have turned -/
theorem Inv.turns {h' : Heap} {t' : Nat} (ch : List Addr) (I : L2.Inv X pins σv H s) (k : ∀ b o, b ∉ ch → s.heap.get? b = some o → h'.get? b = some o) (hf : ∀ b ∈ ch, FpOk X pins H b) : L2.Inv X pins σv H { s with heap := h', toks := t' } := by
  have nit : ∀ b u, H b = some u → b ∉ ch := fun b u e z => by rw [(hf b z).1] at e; cases e
  have un : Un (frs X.stack) ch H H s.heap h' := ⟨fun b o e _ _ n => k b o n e, fun b o e _ _ n => ⟨o.slots, k b o n e⟩, fun _ _ _ n _ => n, fun b o e n => ⟨o, k b o n e⟩, fun _ _ e => e, fun _ _ _ e => e, fun b ps e => ⟨#[], by rw [e]; simp⟩⟩
  have hok : HOk X.prog X.w H h' := fun b u e => (I.hok b u e).stay (fun c v hc q => k c v (by
    rcases hc with z | z
    · rw [z]; exact nit b u e
    · exact nit c _ z) q) (fun _ q => q) fun _ _ q => q
  exact I.call (t' := t') (d' := s.drawn) un hok I.bare fun b hb => let ⟨_, f1, _, f3, f4, f5⟩ := hf b hb; ⟨f3, f1, f4, f5⟩
end
/-! ### zip of two lists -/
def Itz (K : PySem.W.Frag) (l m : Addr) : It :=
  ⟨fun i H => ∃ xs ys x y, SqL K H l xs ∧ SqL K H m ys ∧ xs[i]? = some x ∧ ys[i]? = some y,
   fun i H v H' => ∃ p x y, H p = none ∧ v = .ref p ∧ (∀ xs, SqL K H l xs → xs[i]? = some x) ∧ (∀ ys, SqL K H m ys → ys[i]? = some y) ∧ H' = upd H p (.tup [x, y]),
   fun i H => ∃ xs ys, SqL K H l xs ∧ SqL K H m ys ∧ (xs.length ≤ i ∨ ys.length ≤ i)⟩
def ZipSt (z t o i j l m : Addr) (n : Nat) (h : Heap) : Prop := IsZip h z t o .none ∧ IsPair h t (.ref i) (.ref j) ∧ (∃ a b, IsPair h o a b) ∧ h.IsListIter i l n ∧ h.IsListIter j m n
theorem turn_zip {P : Program} {w : World} {K : PySem.W.Frag} {es : List Expr} {kt} {pt : Pos} (z t o i j l m : Addr) (ap : [z, t, o, i, j].Nodup) : Turn P w K (.Tuple es kt pt) (Itz K l m) [z, t, o, i, j] z (ZipSt z t o i j l m) := by
  have apart : ∀ {X : Cx} {pins : List (Addr × Obj)} {s : Shared} {σ : St} {H : Hp} {xs ys : List V}, X.K = K → L2.Inv X pins σ H s → (∀ b ∈ [z, t, o, i, j], FpOk X pins H b) → ZipSt z t o i j l m 0 s.heap ∨ True → SqL K H l xs → SqL K H m ys →
      (∃ k, ZipSt z t o i j l m k s.heap) → ZipApart z t o i j l m := by
    intro X pins s σ H xs ys hK I hf _ h1 h2 ⟨k, hz, ht, ⟨a, b, ho⟩, hi, hj⟩
    subst hK
    simp only [List.nodup_cons, List.mem_cons, List.not_mem_nil, or_false, not_or, List.nodup_nil, and_true] at ap
    obtain ⟨⟨a1, a2, a3, a4⟩, ⟨b1, b2, b3⟩, ⟨c1, c2⟩, d1, _⟩ := ap
    obtain ⟨its, _, p1, _⟩ := I.list h1
    obtain ⟨its2, _, p2, _⟩ := I.list h2
    have cz : ∀ {q : Addr} {vs : Array Value}, s.heap.IsList q vs → q ≠ z := fun {q vs} hl e => by
      subst e
      obtain ⟨ob, g, k1, _⟩ := hl
      have hz : s.heap.get? q = some _ := hz
      rw [hz] at g; cases g; simp at k1
    have co : ∀ {q : Addr} {vs : Array Value}, s.heap.IsList q vs → q ≠ o := fun {q vs} hl e => by
      subst e
      obtain ⟨ob, g, k1, _⟩ := hl
      have ho : s.heap.get? q = some _ := ho
      rw [ho] at g; cases g; simp at k1
    have ci : ∀ {q x : Addr} {n : Nat} {vs : Array Value} {y : Addr}, s.heap.IsList q vs → s.heap.IsListIter x y n → q ≠ x := fun {q x n vs y} hl hx e => by
      subst e
      obtain ⟨ob, g, k1, _⟩ := hl
      obtain ⟨ob2, g2, k2, _⟩ := hx
      rw [g] at g2; cases g2; rw [k1] at k2; injection k2 with h; exact absurd h (by decide)
    exact ⟨Ne.symm a1, Ne.symm a2, Ne.symm a3, Ne.symm a4, b1, b2, b3, c1, c2, d1, cz p1.isList, co p1.isList, ci p1.isList hi, ci p1.isList hj, cz p2.isList, co p2.isList, ci p2.isList hi, ci p2.isList hj⟩
  refine ⟨by simp, fun n h st b hb => ?_, fun n h h' st k => ?_, ?_, ?_, fun A n s Q E st q => wpAny_pyIter_zip st.1 q⟩
  · obtain ⟨hz, ht, ⟨a, b', ho⟩, ⟨o1, g1, k1, m1⟩, ⟨o2, g2, k2, m2⟩⟩ := st
    simp only [List.mem_cons, List.not_mem_nil, or_false] at hb
    rcases hb with rfl | rfl | rfl | rfl | rfl
    · exact ⟨_, hz, fun v e => by cases e⟩
    · exact ⟨_, ht, fun v e => by cases e⟩
    · exact ⟨_, ho, fun v e => by cases e⟩
    · exact ⟨_, g1, fun v e => by rw [m1] at e; cases e⟩
    · exact ⟨_, g2, fun v e => by rw [m2] at e; cases e⟩
  · obtain ⟨hz, ht, ⟨a, b', ho⟩, ⟨o1, g1, k1, m1⟩, ⟨o2, g2, k2, m2⟩⟩ := st
    exact ⟨k z (by simp) _ hz, k t (by simp) _ ht, ⟨a, b', k o (by simp) _ ho⟩, ⟨o1, k i (by simp) _ g1, k1, m1⟩, ⟨o2, k j (by simp) _ g2, k2, m2⟩⟩
  · intro X hP hw hK hc n pins s σ H E I hf st hg
    have hK0 := hK
    subst hP hw hK
    obtain ⟨xs, ys, x, y, h1, h2, e1, e2⟩ := hg
    have D := apart rfl I hf (.inr trivial) h1 h2 ⟨n, st⟩
    obtain ⟨hz, ht, ⟨a, b, ho⟩, hi, hj⟩ := st
    obtain ⟨its, r1, p1, z1⟩ := I.list h1
    obtain ⟨its2, r2, p2, z2⟩ := I.list h2
    obtain ⟨u, g1, q1⟩ := r1.get e1
    obtain ⟨v, g2, q2⟩ := r2.get e2
    refine wpAny_pyNext_zip_item D hz ht ho hi hj p1.isList p2.isList (by simpa using g1) (by simpa using g2) fun h' b1 b2 b3 b4 b5 b6 hk => ⟨_, rfl, ?_⟩
    refine wpAny_letOwnedTupleGo_zip b1 fun h'' c1 c2 => ?_
    have nb : ∀ q ∈ [z, t, o, i, j], s.heap.objs.size ≠ q := fun q hq e => by
      have : ∃ ob, s.heap.get? q = some ob := by
        simp only [List.mem_cons, List.not_mem_nil, or_false] at hq
        rcases hq with rfl | rfl | rfl | rfl | rfl
        · exact ⟨_, hz⟩
        · exact ⟨_, ht⟩
        · exact ⟨_, ho⟩
        · obtain ⟨ob, g, _⟩ := hi; exact ⟨_, g⟩
        · obtain ⟨ob, g, _⟩ := hj; exact ⟨_, g⟩
      obtain ⟨ob, g⟩ := this
      exact absurd (Heap.lt_size g) (by rw [e]; exact Nat.lt_irrefl _)
    have keep : ∀ c ob, c ∉ [z, t, o, i, j] → s.heap.get? c = some ob → h''.get? c = some ob := fun c ob hc e => by
      simp only [List.mem_cons, List.not_mem_nil, or_false, not_or] at hc
      exact c2.extBut _ _ hc.1 (hk c ob hc.1 hc.2.2.1 hc.2.2.2.1 hc.2.2.2.2 e)
    have I1 : L2.Inv X pins σ H { s with heap := h'', toks := s.toks } := Inv.turns [z, t, o, i, j] I keep hf
    have hnew : h''.get? s.heap.objs.size = some { cls := .type "tuple", data := .seq #[u, v] } := c2.extBut _ _ (nb z (by simp)) b5
    have fr : H s.heap.objs.size = none := I.hok.fresh (Nat.le_refl _)
    -- the pair is laid: all stands already
    have I2 : L2.Inv X pins σ (upd H s.heap.objs.size (.tup [x, y])) { s with heap := h'', toks := s.toks } := by
      have un : Un (frs X.stack) [z, t, o, i, j] H (upd H s.heap.objs.size (.tup [x, y])) s.heap h'' := by
        refine ⟨fun c ob e _ _ hc => keep c ob hc e, fun c ob e _ _ hc => ⟨ob.slots, keep c ob hc e⟩, fun c ob e hn _ => ?_, fun c ob e hc => ⟨ob, keep c ob hc e⟩, fun c zs e => ?_, fun c ob u e => ?_, fun c ps e => ⟨#[], ?_⟩⟩
        · rw [upd_ne (Nat.ne_of_lt (Heap.lt_size e))]; exact hn
        · rw [upd_ne (ne_of_none e fr)]; exact e
        · rw [upd_ne (ne_of_none e fr)]; exact e
        · rw [upd_ne (ne_of_none e fr), e]; simp
      have hok : HOk X.prog X.w (upd H s.heap.objs.size (.tup [x, y])) h'' := by
        intro c u' e
        by_cases hc : c = s.heap.objs.size
        · subst hc
          rw [upd_same] at e; cases e
          exact ⟨by show 2 ≤ sizeLine; decide, [u, v], .cons q1 (.cons q2 .nil), ⟨_, hnew, rfl, _, rfl⟩⟩
        · rw [upd_ne hc] at e
          refine (I1.hok c u' e).stay (fun _ _ _ q => q) (fun p q => ?_) fun p zs q => ?_
          · by_cases hp : p = s.heap.objs.size
            · subst hp; rw [fr] at q; cases q
            · rw [upd_ne hp]; exact q
          · by_cases hp : p = s.heap.objs.size
            · subst hp; rw [fr] at q; cases q
            · rw [upd_ne hp]; exact q
      exact I.call (t' := s.toks) (d' := s.drawn) un hok I.bare fun b hb => let ⟨_, f1, _, f3, f4, f5⟩ := hf b hb; ⟨f3, f1, f4, f5⟩
    refine ⟨.ref s.heap.objs.size, _, I2, rfl, ⟨_, x, y, fr, rfl, fun zs hz => ?_, fun zs hz => ?_, rfl⟩, ⟨c1, ?_, ⟨_, _, c2.extBut _ _ D.TOz b2⟩, b3.extBut c2.extBut D.i1z, b4.extBut c2.extBut D.i2z⟩, fun b hb => ?_⟩
    · rw [I.list_inj hz h1]; exact e1
    · rw [I.list_inj hz h2]; exact e2
    · exact c2.extBut _ _ D.TIz (hk _ _ D.TIz D.TITO D.TIi1 D.TIi2 ht)
    · rw [upd_ne (Ne.symm (nb b hb))]; exact (hf b hb).1
  · intro X hP hw hK hc n pins s σ H E I hf st hg
    subst hP hw hK
    obtain ⟨xs, ys, h1, h2, e1⟩ := hg
    have D := apart rfl I hf (.inr trivial) h1 h2 ⟨n, st⟩
    obtain ⟨hz, ht, ⟨a, b, ho⟩, hi, hj⟩ := st
    obtain ⟨its, r1, p1, z1⟩ := I.list h1
    obtain ⟨its2, r2, p2, z2⟩ := I.list h2
    have l1 := r1.length
    have l2 := r2.length
    refine wpAny_pyNext_zip_end (I.ok.hd hc) D hz ht ho hi hj p1.isList p2.isList (e1.imp (fun z => ?_) fun z => ?_) fun h' hk => ⟨rfl, ?_⟩
    · simp; omega
    · simp; omega
    · refine Inv.turns (t' := s.toks) [z, t, o, i, j] I (fun c ob hc e => ?_) hf
      simp only [List.mem_cons, List.not_mem_nil, or_false, not_or] at hc
      exact hk c ob hc.1 hc.2.2.1 hc.2.2.2.1 hc.2.2.2.2 e
/-- a list, as it is read now and later -/
def LsAt (K : PySem.W.Frag) (src : Src) (a : Addr) (H : Hp) (hid μ : List Addr) : Prop := ∀ hid' H' μ' O', Mv H hid μ H' hid' μ' → Cells K H' hid' μ' O' → ∃ ds vs, SqL K H' a vs ∧ Dats K H' hid' μ' ds vs ∧ ∀ i, src.get O' i = ds[i]?
section
variable {K : PySem.W.Frag} {H : Hp} {hid μ : List Addr}
theorem LsAt.val {ds : List D} {vs : List V} {a : Addr} (l : LstAt K H hid μ a vs) (q : Dats K H hid μ ds vs) : LsAt K (.val ds) a H hid μ := fun hid' H' μ' O' m c => ⟨ds, vs, (l.mv m).sq, q.mv m, fun _ => rfl⟩
theorem LsAt.own {k : Nat} {a : Addr} (hk : μ[k]? = some a) : LsAt K (.own k) a H hid μ := by
  intro hid' H' μ' O' m c
  obtain ⟨ν, rfl⟩ := m.pre
  have hk' : (μ ++ ν)[k]? = some a := by rw [List.getElem?_append_left (List.getElem?_eq_some_iff.mp hk).1]; exact hk
  obtain ⟨ds, vs, h1, h2, h3⟩ := c.at_ k a hk'
  exact ⟨ds, vs, .of h2, h3, fun i => by show (match O'[k]? with | some ds => ds[i]? | none => none) = _; rw [h1]⟩
theorem SrcAt.zip {a b : Addr} {s1 s2 : Src} (h1 : LsAt K s1 a H hid μ) (h2 : LsAt K s2 b H hid μ) : SrcAt K (Itz K a b) (.zip s1 s2) H hid μ := by
  intro hid' H' μ' O' m c i
  obtain ⟨ds, vs, q1, d1, g1⟩ := h1 hid' H' μ' O' m c
  obtain ⟨es, ws, q2, d2, g2⟩ := h2 hid' H' μ' O' m c
  show match (match s1.get O' i, s2.get O' i with | some x, some y => some (D.tup [x, y]) | _, _ => none) with | some d => _ | none => _
  rw [g1, g2]
  cases e1 : ds[i]? with
  | none =>
    dsimp only
    exact ⟨vs, ws, q1, q2, .inl (by rw [← d1.length]; exact List.getElem?_eq_none_iff.mp e1)⟩
  | some x =>
    cases e2 : es[i]? with
    | none =>
      dsimp only
      exact ⟨vs, ws, q1, q2, .inr (by rw [← d2.length]; exact List.getElem?_eq_none_iff.mp e2)⟩
    | some y =>
      dsimp only
      obtain ⟨v, w1, r1⟩ := d1.get e1
      obtain ⟨w, w2, r2⟩ := d2.get e2
      refine ⟨⟨vs, ws, v, w, q1, q2, w1, w2⟩, fun z H'' yl => ?_⟩
      obtain ⟨p, v', w', hp, rfl, f1, f2, rfl⟩ := yl
      have t1 := f1 vs q1
      rw [w1] at t1; cases t1
      have t2 := f2 ws q2
      rw [w2] at t2; cases t2
      exact ⟨.laid hp, c.laid hp, Dat.newT c hp (.cons r1 (.cons r2 .nil))⟩
end
def lsSrc : D → Option Src
  | .lst ds => some (.val ds)
  | .own k => some (.own k)
  | _ => none
theorem lsSrc_at {K : PySem.W.Frag} {H : Hp} {hid μ : List Addr} {O : Ow} {d : D} {v : V} {src : Src} (c : Cells K H hid μ O) (h : Dat K H hid μ d v) (e : lsSrc d = some src) : ∃ a vs, v = .ref a ∧ SqL K H a vs ∧ LsAt K src a H hid μ := by
  cases d with
  | lst ds =>
    unfold Dat at h
    obtain ⟨a, vs, rfl, l, q⟩ := h
    cases e
    exact ⟨a, vs, rfl, l.sq, .val l q⟩
  | own k =>
    unfold Dat at h
    obtain ⟨a, rfl, hk⟩ := h
    cases e
    obtain ⟨ds, vs, h1, h2, h3⟩ := c.at_ k a hk
    exact ⟨a, vs, rfl, .of h2, .own hk⟩
  | _ => cases e
def dZip (t : DA) : DI := fun σ O => (t σ O).bnd fun xs O1 => match xs with
  | [x, y] => match lsSrc x, lsSrc y with
    | some p, some q => .ok (.zip p q) O1
    | _, _ => .bad
  | _ => .bad
section
variable {X : Cx} {Ex : Nat → Hp → Prop} {pos : Pos} {a b c e o : Expr} {ta tb tc te to : DE} {pins : List (Addr × Obj)} {σv : St} {H : Hp} {s : Shared} {hid μ : List Addr} {O : Ow}
theorem boot_zip : bootBuiltins "zip" = some (.type "zip") := by boot_by_name
theorem pdi_zip {es' : List Expr} {kt} {pt : Pos} {t : DA} {p : Pos} (hg : Gl X "zip") (hm : X.mg "zip" = none) (ha : PDA X Ex [a, b] t) (hs : starEach [a, b] X.env = [(false, eval a X.env), (false, eval b X.env)] := by rfl) (hs2 : starEach [b] X.env = [(false, eval b X.env)] := by rfl) :
    PDI X Ex (.Tuple es' kt pt) (.Call (.Name "zip" p) [a, b] [] pos) (dZip t) := by
  refine ⟨?_⟩
  rintro pins s σv H Rr I ⟨hid, μ, σ, O, e1, c1, q⟩
  refine PyProof.Rows.Call_ (ld_blt I hg hm boot_zip (PyProof.Rows.callWith_type1 (thn (ha.out pos pins s σv H _ I (rdA.go e1 c1 q (Q1 := fun vs H1 => ∃ hid μ1 O1 ds, Cells X.K H1 hid μ1 O1 ∧ Dats X.K H1 hid μ1 ds vs ∧
      post Ex X.K (fun H' μ' s J => SrcAt X.K J s H' hid μ') H1 hid μ1 (match ds with | [x, y] => (match lsSrc x, lsSrc y with | some p, some q => .ok (.zip p q) O1 | _, _ => .bad) | _ => .bad) Rr)
    fun ds O1 vs H1 μ1 e2 x cl d p => ⟨hid, μ1, O1, ds, cl, d, p⟩)) fun us s1 ⟨vs, H1, I1, r1, hid, μ1, O1, ds, cl, d, p⟩ => ?_) (by rw [hs, hs2]) (by rw [hs2]; rfl)))
  split at p
  · rename_i x y
    split at p
    · rename_i sp sq e1 e2
      obtain ⟨v, w, rfl, dx, dy⟩ := dats2 d
      obtain ⟨l, vs1, rfl, q1, la1⟩ := lsSrc_at cl dx e1
      obtain ⟨m, vs2, rfl, q2, la2⟩ := lsSrc_at cl dy e2
      obtain ⟨u1, u2, rfl, ru1, ru2⟩ := vals2 r1
      cases ru1; cases ru2
      obtain ⟨its, _, p1, _⟩ := I1.list q1
      obtain ⟨its2, _, p2, _⟩ := I1.list q2
      refine call_zip_2 p1.isList p2.isList fun h' g5 g3 g4 g1 g2 hz hk => ?_
      refine wpAny_pyIter_zip g5 ?_
      have I2 : L2.Inv X pins σv H1 { s1 with heap := h', toks := s1.toks } := I1.kept hk
      refine ⟨s1.heap.objs.size + 4, [s1.heap.objs.size + 4, s1.heap.objs.size + 2, s1.heap.objs.size + 3, s1.heap.objs.size, s1.heap.objs.size + 1], _, _, H1, rfl, I2, turn_zip _ _ _ _ _ l m ?_, ⟨g5, g3, ⟨_, _, g4⟩, g1, g2⟩, fun b hb => ?_, post.here p cl (.zip la1 la2)⟩
      · have nn : ∀ (n : Addr), [n + 4, n + 2, n + 3, n, n + 1].Nodup := fun n => by
          simp only [List.nodup_cons, List.mem_cons, List.not_mem_nil, or_false, not_or, List.nodup_nil, and_true]
          refine ⟨⟨?_, ?_, ?_, ?_⟩, ⟨?_, ?_, ?_⟩, ⟨?_, ?_⟩, ?_, not_false⟩ <;> simp [Addr] at * <;> omega
        exact nn _
      · have hb' : s1.heap.objs.size ≤ b := by
          simp only [List.mem_cons, List.not_mem_nil, or_false] at hb
          rcases hb with rfl | rfl | rfl | rfl | rfl <;> omega
        have f := I1.fpOk (H' := H1) hb' (I1.hok.fresh hb')
        exact f
    · exact False.elim p
  · exact False.elim p
theorem pg_two {i j : Nat} {x y : Str} {px py pt : Pos} {kt : Nat} (hc : X.calm = true) (hN : X.N.Nodup) (hi : X.N[i]? = some x) (hj : X.N[j]? = some y) (hx : Loc X.env.scope x) (hy : Loc X.env.scope y)
    (hf : X.fn x = true ∨ X.env.scope.names.lookup x = some .local) (hf2 : X.fn y = true ∨ X.env.scope.names.lookup y = some .local) : PG X (.Tuple [.Name x px, .Name y py] kt pt) ((Tg.two i j).rd X.K) :=
  pg_tup hc (pgs_cons (pg_name hN hi hx hf) (pgs_cons (pg_name hN hj hy hf2) pgs_nil))
/-! ### max, min of a list of ints -/
/-! ### int of a text -/
def fIntA : Ow → List D → R D := fun O xs => match xs with
  | [.str cs] => match PySem.intText? ⟨cs.toArray⟩ with
    | some n => if cs.length ≤ 640 then .ok (.int n) O else .bad
    | none => .bad
  | xs => fInt O xs
theorem call_intT : CallR X (.type "int") (fun xs H Q => ∃ x n, xs = [.str x] ∧ PySem.intText? x = some n ∧ x.length ≤ 640 ∧ Q (.int n) H) := by
  intro pins s σ H xs us Q I r h
  obtain ⟨x, n, rfl, hn, hl, q⟩ := h
  obtain ⟨u, rfl, t, rfl⟩ := vals1 r
  exact PySem.W.KIN.call_text hn hl ⟨.int _, H, I.tok _, ⟨_, rfl⟩, q⟩
def rIntA : List V → Hp → VK → Prop := fun xs H Q => ((∃ i, xs = [.int i] ∧ Q (.int i) H) ∨ ∃ k, xs = [.bl k] ∧ Q (.int (if k then 1 else 0)) H) ∨ ∃ x n, xs = [.str x] ∧ PySem.intText? x = some n ∧ x.length ≤ 640 ∧ Q (.int n) H
theorem call_intA : CallR X (.type "int") rIntA := CallR.or call_int1 call_intT
theorem cd_intA : CallD X Ex rIntA fIntA := by
  intro H hid μ O xs vs Q c d q
  unfold fIntA at q
  split at q
  · rename_i cs
    obtain ⟨v, rfl, dx⟩ := dats1 d
    unfold Dat at dx; subst dx
    split at q
    · rename_i n hn
      obtain ⟨hl, q⟩ := post.ite q
      refine .inr ⟨_, n, rfl, hn, ?_, post.here q c dat_int⟩
      show cs.toArray.size ≤ 640
      simpa using hl
    · exact False.elim q
  · exact .inl (cd_int H hid μ O _ vs Q c d q)
end
end DL

namespace DL
open PySem L2
theorem Callee.self {P : Program} {w : World} {K : PySem.W.Frag} {mg : Str → Option Value} {base : Heap} {k n : Nat} {x : Str} {F : List D → Ow → R D} (c : Callee P w K mg base x k n F) : Callee P w K mg base x k n F := c
section
variable {X : Cx} {Ex : Nat → Hp → Prop} {pos dpos : Pos} {a b c e o i : Expr} {ta tb tc te to ti : DE} {pins : List (Addr × Obj)} {σv : St} {H : Hp} {s : Shared} {hid μ : List Addr} {O : Ow}
/-! ### {}: a dict of its own -/
/-! ### {k: v, ..}[i], ints -/
def tabK (tab : List (Int × Int)) : List (Key × V) := tab.map fun kv => (Sum.inl kv.1, V.int kv.2)
def tabAt (tab : List (Int × Int)) (i : Int) : Option Int := (tab.find? fun kv => kv.1 == i).map (·.2)
def tabV (tab : List (Int × Int)) (i : Int) : Option Int := match valV (mergeK [] (tabK tab)) (Sum.inl i) with
  | some (.int v) => some v
  | _ => none
def dTabF (at_ : List (Int × Int) → Int → Option Int) (tab : List (Int × Int)) (t : DE) : DE := fun σ O => (t σ O).bnd fun x O1 => match x with
  | .int i => match at_ tab i with
    | some v => .ok (.int v) O1
    | none => .bad
  | _ => .bad
def dDis : List (Int × Int) → DE → DE := dTabF tabV
def dTab : List (Int × Int) → DE → DE := dTabF tabAt
theorem tPairs_const {σ : St} {H : Hp} {Q : List (V × V) → Hp → Prop} : ∀ {tab : List (Int × Int)}, Q (tab.map fun kv => (V.int kv.1, V.int kv.2)) H → tPairs (tab.map fun kv => (tC (.int kv.1), tC (.int kv.2))) σ H Q
  | [], h => h
  | kv :: r, h => by
    show tPairs (r.map fun kv => (tC (.int kv.1), tC (.int kv.2))) σ H fun ps H3 => Q ((V.int kv.1, V.int kv.2) :: ps) H3
    exact tPairs_const (tab := r) h
theorem pd_tab {keys : List (Option Expr)} {values : List Expr} {trs : List (TE × TE)} (tab : List (Int × Int)) (h : PPs X dpos keys values trs) (htr : trs = tab.map fun kv => (tC (.int kv.1), tC (.int kv.2))) (hall : keys.all (·.isSome) = true) (hl : keys.length = values.length) (h0 : keys ≠ []) (h15 : keys.length ≤ 15) (h15' : tab.length ≤ 15)
    (hu : X.A.units + 1 < cLine) (hi : PD X Ex i ti) (hs : NoSl i) : PD X Ex (.Subscript (.Dict keys values dpos) i pos) (dDis tab ti) :=
  pd_of (pe_dget hu (pe_disp h hall hl h0 h15) hi.out hs) fun hid μ σ O σv H Q e1 c1 q => fun p hp => by
    subst htr
    refine tPairs_const ⟨upd_same, tabK tab, by simp [tabK, kV], by simpa [tabK] using h15', ?_⟩
    rw [upd_upd]
    have x0 : Ext H μ (upd H p (.dK (mergeK [] (tabK tab)))) μ := .laid hp
    refine rd.go (e1.ext x0) (c1.laid hp) (post.ext q x0) fun d O1 v H1 μ1 e2 x1 c2 r p2 => ?_
    cases d with
    | int j =>
      unfold Dat at r; subst r
      have p2 : postE Ex X.K H1 hid μ1 (match tabV tab j with | some v => .ok (.int v) O1 | none => .bad) Q := p2
      cases et : tabV tab j with
      | none => rw [et] at p2; exact False.elim p2
      | some v =>
        rw [et] at p2
        have hv : valV (mergeK [] (tabK tab)) (Sum.inl j) = some (.int v) := by
          unfold tabV at et
          split at et
          · rename_i w hw; cases et; exact hw
          · cases et
        refine ⟨p, .int v, rfl, .inl ⟨mergeK [] (tabK tab), Sum.inl j, .inl (x1.keep p _ upd_same (c1.not_in hp).2), rfl, hv.symm⟩, post.here p2 c2 dat_int⟩
    | _ => exact False.elim p2
/-! ### a module's dict of ints -/
def entB : List DictEntry → List (Int × Int) → Bool
  | [], [] => true
  | e :: es, (k, v) :: r => (match e.key with | .int i _ => i == k | _ => false) && (e.hash == hashInt k) && (match e.val with | .int i _ => i == v | _ => false) && entB es r
  | _, _ => false
def tabB (o : Obj) (tab : List (Int × Int)) : Bool := (match o.cls with | .type n => n == "dict" | _ => false) && o.dict.isNone && o.slots.isEmpty && decide ((tab.map (·.1)).Nodup) && (match o.data with | .dict es _ => entB es.toList tab | _ => false)
structure GTab (K : PySem.W.Frag) (mg : Str → Option Value) (x : Str) (tab : List (Int × Int)) : Prop where
  ex : ∃ e o, mg x = some (.ref e) ∧ K.lookup e = some o ∧ tabB o tab = true ∧ (e == sysModules) = false
theorem entB_pairs {P : Program} {w : World} : ∀ {es : List DictEntry} {tab : List (Int × Int)}, entB es tab = true → ∃ kvs : List (Int × Value), Pairs (intKind P w) es kvs ∧ (∀ e ∈ es, ∃ k, (intKind P w).is k e.key = true ∧ e.hash = (intKind P w).hash k) ∧ kvs.map (·.1) = tab.map (·.1) ∧
    ∀ i, (valueAt kvs i).isSome = (tabAt tab i).isSome ∧ ∀ v, tabAt tab i = some v → ∃ t, valueAt kvs i = some (.int v t)
  | [], [], _ => ⟨[], .nil, by simp, rfl, fun i => ⟨rfl, fun v h => by cases h⟩⟩
  | [], _ :: _, h => by cases h
  | _ :: _, [], h => by cases h
  | e :: es, (k, v) :: r, h => by
    obtain ⟨hash, key, val⟩ := e
    unfold entB at h
    simp only [Bool.and_eq_true] at h
    obtain ⟨⟨⟨h1, h2⟩, h3⟩, h4⟩ := h
    split at h1
    · rename_i i t
      split at h3
      · rename_i j u
        have h1 : i = k := by simpa using h1
        have h2 : hash = hashInt k := by simpa using h2
        have h3 : j = v := by simpa using h3
        subst h1 h3
        obtain ⟨kvs, p, ks, em, at_⟩ := entB_pairs (P := P) (w := w) h4
        have isk : (intKind P w).is i (.int i t) = true := by show Value.isInt i (.int i t) = true; simp [Value.isInt]
        refine ⟨(i, .int j u) :: kvs, .cons isk rfl p, fun e he => ?_, by simp [em], fun q => ?_⟩
        · rcases List.mem_cons.mp he with rfl | he
          · exact ⟨i, isk, h2⟩
          · exact ks e he
        · unfold valueAt tabAt
          by_cases hq : i = q
          · subst hq
            simp
          · have f1 : (decide ((i, Value.int j u).1 = q)) = false := by simpa using hq
            have f2 : ((i, j).1 == q) = false := by simpa using hq
            rw [List.find?_cons, List.find?_cons, f1, f2]
            exact at_ q
      · cases h3
    · cases h1
theorem gtab_map {P : Program} {w : World} {o : Obj} {tab : List (Int × Int)} (h : tabB o tab = true) : ∃ f : Int → Option Value, (∀ (hp : Heap) (e : Addr), hp.get? e = some o → hp.MapOf (intKind P w) e f) ∧ ∀ i, (f i).isSome = (tabAt tab i).isSome ∧ ∀ v, tabAt tab i = some v → ∃ t, f i = some (.int v t) := by
  obtain ⟨cls, dict, data, slots⟩ := o
  unfold tabB at h
  simp only [Bool.and_eq_true, decide_eq_true_eq] at h
  obtain ⟨⟨⟨⟨h1, h2⟩, h3⟩, h4⟩, h5⟩ := h
  split at h1
  · rename_i n
    have h1 : n = "dict" := by simpa using h1
    split at h5
    · rename_i es ep
      obtain ⟨kvs, p, ks, em, at_⟩ := entB_pairs (P := P) (w := w) h5
      refine ⟨valueAt kvs, fun hp e he => ?_, at_⟩
      refine Heap.DictOf.mapOf (knd := intKind P w) ⟨_, es, ep, he, ⟨?_, ?_, ?_⟩, rfl, ?_, p, by rw [em]; exact h4⟩
      · show Value.type n = _; rw [h1]
      · simpa using h2
      · simpa using h3
      · intro e he
        exact ks e (by simpa using he)
    · cases h5
  · cases h1
theorem gtab_at {x : Str} {tab : List (Int × Int)} (h : GTab X.K X.mg x tab) : ∃ e, X.mg x = some (.ref e) ∧ (e == sysModules) = false ∧ ∃ f : Int → Option Value, (∀ (pins : List (Addr × Obj)) (σv : St) (H : Hp) (s : Shared), L2.Inv X pins σv H s → s.heap.MapOf (intKind X.prog X.w) e f) ∧
    ∀ i, (f i).isSome = (tabAt tab i).isSome ∧ ∀ v, tabAt tab i = some v → ∃ t, f i = some (.int v t) := by
  obtain ⟨e, o, h1, h2, h3, h4⟩ := h.ex
  obtain ⟨f, m, at_⟩ := gtab_map (P := X.prog) (w := X.w) h3
  exact ⟨e, h1, h4, f, fun pins σv H s I => m _ e (I.kIn e o h2), at_⟩
theorem isInt_self (i : Int) (t : Tok) {P : Program} {w : World} : (intKind P w).is i (.int i t) = true := by show Value.isInt i (.int i t) = true; simp [Value.isInt]
theorem pd_gtab {x : Str} {tab : List (Int × Int)} {p : Pos} (h : GTab X.K X.mg x tab) (hg : Gl X x) (hi : PD X Ex i ti) (hs : NoSl i) (hd : (x == ("__debug__" : Str)) = false := by decide) : PD X Ex (.Subscript (.Name x p) i pos) (dTab tab ti) := by
  obtain ⟨e, h1, h4, f, mp, at_⟩ := gtab_at h
  refine ⟨?_⟩
  rintro pins s σv H Q I ⟨hid, μ, σ, O, e1, c1, q⟩
  refine subD_of (T := "dict") PySem.F.slot_dict_getitem.lookup hs (pe_glob (v := .ref e) hg h1 rfl hd pins s σv H (fun v H1 => v = .ref e ∧ H1 = H) I ⟨rfl, rfl⟩ |> fun z => thn z fun u s1 ⟨v, H1, I1, ru, ev, eh⟩ => ?_)
  subst ev eh
  cases ru
  refine thn (hi.out pins s1 σv H1 _ I1 (rd.go e1 c1 q (Q1 := fun y H2 => ∃ hid μ2 O2 d, Cells X.K H2 hid μ2 O2 ∧ Dat X.K H2 hid μ2 d y ∧ postE Ex X.K H2 hid μ2 (match d with | .int i => (match tabAt tab i with | some v => .ok (.int v) O2 | none => .bad) | _ => .bad) Q)
    fun d O2 y H2 μ2 e2 x2 c2 r p2 => ⟨hid, μ2, O2, d, c2, r, p2⟩)) fun u s2 ⟨y, H2, I2, ru, hid, μ2, O2, d, c2, r, p2⟩ => ?_
  have M := mp pins σv H2 s2 I2
  cases d with
  | int j =>
    unfold Dat at r; subst r
    obtain ⟨t, rfl⟩ := ru
    have p2 : postE Ex X.K H2 hid μ2 (match tabAt tab j with | some v => .ok (.int v) O2 | none => .bad) Q := p2
    cases et : tabAt tab j with
    | none => rw [et] at p2; exact False.elim p2
    | some v =>
      rw [et] at p2
      obtain ⟨t', ht⟩ := (at_ j).2 v et
      exact ⟨M.typeIs, wpAny_getItem_of (isInt_self j t) M ht ⟨.int v, H2, I2.tok _, ⟨_, rfl⟩, post.here p2 c2 dat_int⟩⟩
  | _ => exact False.elim p2
def dInTab (neg : Bool) (tab : List (Int × Int)) (t : DE) : DE := fun σ O => (t σ O).bnd fun x O1 => match x with
  | .int i => .ok (.bl (if neg = true then !(tabAt tab i).isSome else (tabAt tab i).isSome)) O1
  | _ => .bad
theorem pc_inTab {x : Str} {tab : List (Int × Int)} {p : Pos} (neg : Bool) (h : GTab X.K X.mg x tab) (hg : Gl X x) (hi : PD X Ex i ti) (hd : (x == ("__debug__" : Str)) = false := by decide) : PC X (if neg = true then .NotIn else .In) i (.Name x p) (rd Ex X.K (dInTab neg tab ti)) := by
  obtain ⟨e, h1, h4, f, mp, at_⟩ := gtab_at h
  rintro pins s σv H Q I ⟨hid, μ, σ, O, e1, c1, q⟩
  refine thn (hi.out pins s σv H _ I (rd.go e1 c1 q (Q1 := fun y H2 => ∃ hid μ2 O2 d, Cells X.K H2 hid μ2 O2 ∧ Dat X.K H2 hid μ2 d y ∧ postE Ex X.K H2 hid μ2 (match d with | .int i => .ok (.bl (if neg = true then !(tabAt tab i).isSome else (tabAt tab i).isSome)) O2 | _ => .bad) Q)
    fun d O2 y H2 μ2 e2 x2 c2 r p2 => ⟨hid, μ2, O2, d, c2, r, p2⟩)) fun u s2 ⟨y, H2, I2, ru, hid, μ2, O2, d, c2, r, p2⟩ => ?_
  refine thn (pe_glob (v := .ref e) hg h1 rfl hd pins s2 σv H2 (fun v H1 => v = .ref e ∧ H1 = H2) I2 ⟨rfl, rfl⟩) fun w s3 ⟨v, H3, I3, rw', ev, eh⟩ => ?_
  subst ev eh
  cases rw'
  have M := mp pins σv H3 s3 I3
  cases d with
  | int j =>
    unfold Dat at r; subst r
    obtain ⟨t, rfl⟩ := ru
    have p2 : postE Ex X.K H3 hid μ2 (.ok (.bl (if neg = true then !(tabAt tab j).isSome else (tabAt tab j).isSome)) O2) Q := p2
    rw [← (at_ j).1] at p2
    cases neg with
    | false => exact wpAny_in_of (isInt_self j t) h4 M ⟨.bl _, H3, I3.tok _, rfl, post.here p2 c2 dat_bl⟩
    | true => exact wpAny_notIn_of (isInt_self j t) h4 M ⟨.bl _, H3, I3.tok _, rfl, post.here p2 c2 dat_bl⟩
  | _ => exact False.elim p2
theorem tB_of {td : DE} {hid μ : List Addr} {σ : Sg} {O : Ow} {σv : St} {H : Hp} {Q : Bool → Hp → Prop} (e1 : EnvOk X.K H hid μ σ σv) (c1 : Cells X.K H hid μ O) (q : postT Ex X.K H hid μ (dTst td σ O) Q) : tB (rd Ex X.K td) σv H Q :=
  tTest_of (X := X) (t := rd Ex X.K td) (td := td) (fun hid μ σ O σv H Q e1 c1 q => ⟨hid, μ, σ, O, e1, c1, q⟩) hid μ σ O σv H Q e1 c1 q
theorem pdt_nintab {x : Str} {tab : List (Int × Int)} {p : Pos} (h : GTab X.K X.mg x tab) (hg : Gl X x) (hi : PD X Ex i ti) (hd : (x == ("__debug__" : Str)) = false := by decide) (hm : behindInMarks .NotIn (.Name x p) = false := by rfl) : PDT X Ex (.Compare i [.NotIn] [.Name x p] pos) (dTst (dInTab true tab ti)) :=
  pdt_of (pt_cmp (pc_inTab true h hg hi hd) hm) fun hid μ σ O σv H Q e1 c1 q => tB_of e1 c1 q
end
end DL

namespace DL
open PySem L2 PyProof.Rows
/-! ### sorted(..) of a list of texts that is in order already, however long -/
section
variable {prog : Program} {w : World} {A : Around} {E : Value → Shared → Prop} {s : Shared} {a₀ : Array Keyed} {κ : PyProof.Rows.KeyKind}
end
section
variable {X : Cx} {Ex : Nat → Hp → Prop} {H : Hp} {hid μ : List Addr}
theorem bt_len : bootBuiltins "len" = some (.builtin "len") := by boot_by_name
theorem bt_all : bootBuiltins "all" = some (.builtin "all") := by boot_by_name
theorem bt_any : bootBuiltins "any" = some (.builtin "any") := by boot_by_name
theorem bt_int : bootBuiltins "int" = some (.type "int") := by boot_by_name
theorem bt_str : bootBuiltins "str" = some (.type "str") := by boot_by_name
theorem bt_tuple : bootBuiltins "tuple" = some (.type "tuple") := by boot_by_name
theorem bt_list : bootBuiltins "list" = some (.type "list") := by boot_by_name
theorem bt_max : bootBuiltins "max" = some (.builtin "max") := by boot_by_name
theorem bt_min : bootBuiltins "min" = some (.builtin "min") := by boot_by_name
theorem bt_isinstance : bootBuiltins "isinstance" = some (.builtin "isinstance") := by boot_by_name
theorem bt_bool : bootBuiltins "bool" = some (.type "bool") := by boot_by_name
end
/-! ### an argument that is no star -/
theorem se_list {es r : List Expr} {pos : Pos} {env : Env} : starEach (.List es pos :: r) env = (false, eval (.List es pos) env) :: starEach r env := rfl
theorem se_comp {e : Expr} {gs} {sc : Scope} {r : List Expr} {pos : Pos} {env : Env} : starEach (.ListComp e gs sc pos :: r) env = (false, eval (.ListComp e gs sc pos) env) :: starEach r env := rfl
theorem se_call {f : Expr} {as kws} {r : List Expr} {pos : Pos} {env : Env} : starEach (.Call f as kws pos :: r) env = (false, eval (.Call f as kws pos) env) :: starEach r env := rfl
theorem se_sub {f g : Expr} {r : List Expr} {pos : Pos} {env : Env} : starEach (.Subscript f g pos :: r) env = (false, eval (.Subscript f g pos) env) :: starEach r env := rfl
theorem se_bin {f g : Expr} {o : Operator} {r : List Expr} {pos : Pos} {env : Env} : starEach (.BinOp f o g pos :: r) env = (false, eval (.BinOp f o g pos) env) :: starEach r env := rfl
theorem se_name {f : Str} {r : List Expr} {pos : Pos} {env : Env} : starEach (.Name f pos :: r) env = (false, eval (.Name f pos) env) :: starEach r env := rfl
theorem se_const {f} {k} {r : List Expr} {pos : Pos} {env : Env} : starEach (.Constant f k pos :: r) env = (false, eval (.Constant f k pos) env) :: starEach r env := rfl
theorem se_cmp {f : Expr} {os fs} {r : List Expr} {pos : Pos} {env : Env} : starEach (.Compare f os fs pos :: r) env = (false, eval (.Compare f os fs pos) env) :: starEach r env := rfl
/-! ### the law's own def, and its head -/
theorem fnD {P : Program} {w : World} {K : PySem.W.Frag} {mg : Str → Option Value} {base : Heap} {k : Nat} {x : Str} {st : Stmt} {N ps : List Str} {t : DS} {f : Addr} {fd : FuncData} (F : L2.Fun K x x st f fd) (S : FnScope N ps (defScope st))
    (hbody : ∀ (cdv : Value) (A : Around) (outer : List Env) (s : Shared) (H : Hp) (E : XK), Room k (A.deeper (PyProof.Rows.envOfC x (defScope st) s.heap.objs.size f cdv)) → PDSs (cx0 P w K mg base N x (defScope st) f cdv A outer s H E) Ex0 (defBody st) t) :
    FnOk P w K mg base CX0 (k + 1) f fd ps (DSp K Ec0 ps.length (runF N.length t)) := by
  obtain ⟨oc, od, kV, doc, pm, an, cdv, ct, osl, rfl, lk, hcd⟩ := F.ex
  exact fn_ok lk hcd S fun A outer s H E hr => hbody cdv A outer s H E hr
/-- the law's promise from its data -/
theorem sp_of {K : PySem.W.Frag} {F : List D → Ow → R D} {H : Hp} {a : Addr} {ns : List Int} (h : ∃ O, F [.lst (ns.map .int)] [] = .ok (.bl true) O) (sq : SqL K H a (ns.map V.int)) : DSp K Ec0 1 F [.ref a] H (fun v _ => v = .bl true) fun _ _ _ => False := by
  obtain ⟨O, h⟩ := h
  have dn : ∀ (l : List Int), Dats K H [] [] (l.map D.int) (l.map V.int) := fun l => by
    induction l with
    | nil => exact .nil
    | cons x r ih => exact .cons dat_int ih
  refine ⟨rfl, [], [], [.lst (ns.map .int)], [], .cons ?_ .nil, ⟨rfl, by simp, by simp, by simp, fun k a e => by simp at e⟩, ?_⟩
  · unfold Dat
    exact ⟨a, _, rfl, sq.imp (fun z => ⟨z, by simp, by simp⟩) id, dn ns⟩
  · rw [h]
    intro v H' μ' _ _ r
    unfold Dat at r
    exact r
theorem walkD' {l : PySem.W.OpenLaw} {q : Program} {loose : List Str} {XP : (Str → Option Value) → Heap → Prop} {YP : World → Heap → Prop} {d : DefRec} {K : Params → PySem.W.Frag} {k : Nat} {x : Str} {F : List D → Ow → R D} (hn : l.most = some 63) (hdf : d.params.defaults = []) (hr : Room k callerA)
    (hY : ∀ (w : World) (h : Heap), YP w h → (K w.params).In h)
    (hF : ∀ (w : World) (mg : Str → Option Value) (fa : Addr) (h : Heap), (K w.params).In h → h.Ns mainGlobals mg → mg d.name = some (.ref fa) →
      ∃ fd : FuncData, (∀ (s : Shared) (u : Value), BindsTo s fd ⟨[u], []⟩ [(x, u)]) ∧ ∀ base : Heap, (K w.params).In base → base.Ns mainGlobals mg → FnOk l.prog w (K w.params) mg base CX0 k fa fd [x] (DSp (K w.params) Ec0 1 F))
    (pure_ : ∀ ns : List Int, ns.length ≤ 63 → ∃ O, F [.lst (ns.map .int)] [] = .ok (.bl true) O) :
    PySem.W.WalkO q loose XP YP l.row.toRowW d [] (fun f vs => PySem.call f vs) :=
  L2.walk_of (n := 63) (k := k) (x := x) (CX := fun _ => CX0) (sp := fun w => DSp (K w.params) Ec0 1 F) hn (by decide) hdf hr hY hF (fun w H a ns hl _ hS => sp_of (pure_ ns hl) hS) fun _ _ _ _ _ z => z
end DL

namespace DL
/-! ### data alone: walks -/
theorem get_mid {α : Type} (pre ds : List α) (d : α) : (pre ++ d :: ds)[pre.length]? = some d := by simp
theorem walkD_val {step : D → Ow → List D → R (List D)} {O : Ow} {g : D → List D} : ∀ (ds pre acc : List D) (f : Nat), ds.length ≤ f → (∀ d ∈ ds, ∀ acc : List D, acc.length < 100000 → step d O acc = .ok (acc ++ g d) O) → acc.length + (ds.flatMap g).length + ds.length < 100000 →
    walkD (.val (pre ++ ds)) step f pre.length O acc = .ok (acc ++ ds.flatMap g) O
  | [], pre, acc, f, _, _, _ => by
    cases f <;> (unfold walkD; simp [Src.get])
  | d :: ds, pre, acc, 0, h, _, _ => by simp at h
  | d :: ds, pre, acc, f + 1, h, hs, hl => by
    unfold walkD
    have e : Src.get (.val (pre ++ d :: ds)) O pre.length = some d := get_mid pre ds d
    rw [e]
    simp only [List.flatMap_cons, List.length_append, List.length_cons] at hl
    show ((step d O acc).bnd fun acc' O' => walkD (.val (pre ++ d :: ds)) step f (pre.length + 1) O' acc') = _
    rw [hs d List.mem_cons_self acc (by omega)]
    show walkD (.val (pre ++ d :: ds)) step f (pre.length + 1) O (acc ++ g d) = _
    have := walkD_val ds (pre ++ [d]) (acc ++ g d) f (by simpa using h) (fun d' h' => hs d' (List.mem_cons_of_mem _ h')) (by rw [List.length_append]; omega)
    rw [List.append_assoc, List.singleton_append, List.length_append, List.length_singleton] at this
    rw [this]; simp
/-- one clause, one name, by value -/
theorem dComp_one {ext : Nat} {it0 : DI} {i : Nat} {ts : List DT} {te : DE} {σ : Sg} {O : Ow} {ds : List D} {p : D → Bool} {e : D → D} (hi : it0 σ O = .ok (.val ds) O) (hl : ds.length < 50000)
    (hp : ∀ d ∈ ds, dAll ts ((clr (clr (σ ++ List.replicate ext none) [i]) [i]).set i (some d)) O = .ok (p d) O) (he : ∀ d ∈ ds, p d = true → te ((clr (clr (σ ++ List.replicate ext none) [i]) [i]).set i (some d)) O = .ok (e d) O) (o : Bool) :
    dComp o ext it0 (.one i) ts [] te σ O = outC o (.ok ((ds.filter p).map e) O) := by
  unfold dComp compAll
  rw [hi]
  show outC o (noX (walkD (.val ds) _ ds.length 0 O [])) = _
  have step : ∀ d ∈ ds, ∀ acc : List D, acc.length < 100000 → stepD ⟨it0, .one i, ts⟩ [] te (clr (σ ++ List.replicate ext none) (slotsOf [⟨it0, .one i, ts⟩])) d O acc = .ok (acc ++ (if p d = true then [e d] else [])) O := by
    intro d hd acc ha
    show (match Tg.put (.one i) d (clr (clr (σ ++ List.replicate ext none) [i]) [i]) with | some σ1 => (dAll ts σ1 O).bnd fun b O3 => if b = true then compD [] te σ1 O3 acc else .ok acc O3 | none => .bad) = _
    show (dAll ts ((clr (clr (σ ++ List.replicate ext none) [i]) [i]).set i (some d)) O).bnd _ = _
    rw [hp d hd]
    show (if p d = true then compD [] te _ O acc else .ok acc O) = _
    by_cases hpd : p d = true
    · rw [if_pos hpd, if_pos hpd]
      unfold compD
      rw [he d hd hpd]
      show (if acc.length < 100000 then _ else _) = _
      rw [if_pos ha]
    · rw [if_neg hpd, if_neg hpd]; simp
  have hb : ∀ l : List D, (l.flatMap fun d => if p d = true then [e d] else []) = (l.filter p).map e := by
    intro l
    induction l with
    | nil => rfl
    | cons x l ih =>
      rw [List.flatMap_cons, ih, List.filter_cons]
      by_cases hx : p x = true
      · rw [if_pos hx, if_pos hx]; rfl
      · rw [if_neg hx, if_neg hx]; rfl
  have hlen : ((ds.filter p).map e).length ≤ ds.length := by rw [List.length_map]; exact List.length_filter_le _ _
  have w := walkD_val (O := O) (g := fun d => if p d = true then [e d] else []) ds [] [] ds.length (Nat.le_refl _) step (by rw [hb]; simp at hlen ⊢; omega)
  rw [List.nil_append, hb, List.nil_append] at w
  have w' : walkD (.val ds) (stepD ⟨it0, .one i, ts⟩ [] te (clr (σ ++ List.replicate ext none) (slotsOf [⟨it0, .one i, ts⟩]))) ds.length 0 O [] = .ok ((ds.filter p).map e) O := w
  rw [w']; rfl
/-! ### loops -/
theorem loopS_inv {ds : List D} {step : D → Sg → Ow → RS} (I : Nat → Sg → Ow → Prop) (h : ∀ i σ O d, I i σ O → ds[i]? = some d → ∃ σ' O', step d σ O = .nx σ' O' ∧ I (i + 1) σ' O') :
    ∀ (f i : Nat) (σ : Sg) (O : Ow), I i σ O → ds.length ≤ i + f → i ≤ ds.length → ∃ σ' O', loopS (.val ds) step f i σ O = .nx σ' O' ∧ I ds.length σ' O'
  | 0, i, σ, O, hI, h1, h2 => by
    have : i = ds.length := by omega
    subst this
    refine ⟨σ, O, ?_, hI⟩
    unfold loopS
    have e : Src.get (.val ds) O ds.length = none := by simp [Src.get]
    rw [e]
  | f + 1, i, σ, O, hI, h1, h2 => by
    unfold loopS
    have eg : Src.get (.val ds) O i = ds[i]? := rfl
    rw [eg]
    cases e : ds[i]? with
    | none =>
      have : i = ds.length := by have := List.getElem?_eq_none_iff.mp e; omega
      subst this
      exact ⟨σ, O, rfl, hI⟩
    | some d =>
      obtain ⟨σ', O', e1, e2⟩ := h i σ O d hI e
      dsimp only
      rw [e1]
      exact loopS_inv I h f (i + 1) σ' O' e2 (by omega) (by have := (List.getElem?_eq_some_iff.mp e).1; omega)
/-- a walk that may change the cells -/
theorem walkD_inv {ds : List D} {step : D → Ow → List D → R (List D)} (I : Nat → Ow → List D → Prop) (h : ∀ i O acc d, I i O acc → ds[i]? = some d → ∃ acc' O', step d O acc = .ok acc' O' ∧ I (i + 1) O' acc') :
    ∀ (f i : Nat) (O : Ow) (acc : List D), I i O acc → ds.length ≤ i + f → i ≤ ds.length → ∃ acc' O', walkD (.val ds) step f i O acc = .ok acc' O' ∧ I ds.length O' acc'
  | 0, i, O, acc, hI, h1, h2 => by
    have : i = ds.length := by omega
    subst this
    refine ⟨acc, O, ?_, hI⟩
    unfold walkD
    have e : Src.get (.val ds) O ds.length = none := by simp [Src.get]
    rw [e]
  | f + 1, i, O, acc, hI, h1, h2 => by
    unfold walkD
    have eg : Src.get (.val ds) O i = ds[i]? := rfl
    rw [eg]
    cases e : ds[i]? with
    | none =>
      have : i = ds.length := by have := List.getElem?_eq_none_iff.mp e; omega
      subst this
      exact ⟨acc, O, rfl, hI⟩
    | some d =>
      obtain ⟨acc', O', e1, e2⟩ := h i O acc d hI e
      dsimp only
      rw [e1]
      exact walkD_inv I h f (i + 1) O' acc' e2 (by omega) (by have := (List.getElem?_eq_some_iff.mp e).1; omega)
/-! ### cells that hold no lists by value -/
def flatD (n : Nat) : D → Bool
  | .own k => decide (k < n)
  | .lst _ => false
  | .tup _ => false
  | _ => true
def Flat (O : Ow) : Prop := ∀ c ∈ O, ∀ d ∈ c, flatD O.length d = true
theorem frz_flat {O : Ow} {n f : Nat} {d : D} (h : flatD n d = true) : frz O n f d = some d := by
  cases d with
  | own k =>
    have h : k < n := by simpa [flatD] using h
    cases f <;> (unfold frz; dsimp only; rw [if_pos h])
  | lst ds => cases h
  | tup ds => cases h
  | _ => cases f <;> rfl
theorem mapO_id {α : Type} {f : α → Option α} : ∀ {l : List α}, (∀ x ∈ l, f x = some x) → mapO f l = some l
  | [], _ => rfl
  | x :: l, h => by
    unfold mapO
    rw [h x List.mem_cons_self, mapO_id fun y hy => h y (List.mem_cons_of_mem _ hy)]
theorem frzR_flat {O' : Ow} {d : D} {cs : List D} (hO : ∀ c ∈ O', ∀ d ∈ c, flatD O'.length d = true) (X : Ow) (h : frz (O' ++ X) O'.length 8 d = some (.lst cs)) : frzR O'.length (.ok d (O' ++ X)) = .ok (.lst cs) O' := by
  unfold frzR
  dsimp only
  rw [h]
  have : (O' ++ X).take O'.length = O' := by simp
  rw [this, mapO_id fun c hc => mapO_id fun d hd => frz_flat (hO c hc d hd)]
/-! ### reading terms -/
section
variable {σ σ' : Sg} {O O1 O2 O3 : Ow} {t u ta tb : DE} {tA : DA} {x y : D} {b : Bool} {ds : List D}
theorem dCons1 (h : t σ O = .ok x O1) : dCons t dNil σ O = .ok [x] O1 := by show ((t σ O).bnd _) = _; rw [h]; rfl
theorem dCons2 (h1 : t σ O = .ok x O1) (h2 : u σ O1 = .ok y O2) : dCons t (dCons u dNil) σ O = .ok [x, y] O2 := by
  show ((t σ O).bnd _) = _
  rw [h1]
  show ((dCons u dNil σ O1).bnd _) = _
  rw [dCons1 h2]; rfl
theorem dCons_eq (h1 : t σ O = .ok x O1) (h2 : tA σ O1 = .ok ds O2) : dCons t tA σ O = .ok (x :: ds) O2 := by
  show ((t σ O).bnd _) = _
  rw [h1]
  show ((tA σ O1).bnd _) = _
  rw [h2]; rfl
theorem dFn_eq {n : Nat} {F : List D → Ow → R D} (h : tA σ O = .ok ds O1) (hn : ds.length = n) : dFn n F tA σ O = F ds O1 := by show ((tA σ O).bnd _) = _; rw [h]; show (if ds.length = n then _ else _) = _; rw [if_pos hn]
theorem dCall_eq {f : Ow → List D → R D} (h : tA σ O = .ok ds O1) : dCall f tA σ O = f O1 ds := by show ((tA σ O).bnd _) = _; rw [h]; rfl
theorem dOp_eq {f : Ow → D → D → R D} (h1 : ta σ O = .ok x O1) (h2 : tb σ O1 = .ok y O2) : dOp f ta tb σ O = f O2 x y := by
  show ((ta σ O).bnd _) = _
  rw [h1]
  show ((tb σ O1).bnd _) = _
  rw [h2]; rfl
theorem dTst_eq (h : t σ O = .ok (.bl b) O1) : dTst t σ O = .ok b O1 := by show ((t σ O).bnd _) = _; rw [h]; rfl
theorem dTru_bl (h : t σ O = .ok (.bl b) O1) : dTru t σ O = .ok b O1 := by show ((t σ O).bnd _) = _; rw [h]; rfl
theorem dNotT_eq {c : DT} (h : c σ O = .ok b O1) : dNotT c σ O = .ok (!b) O1 := by show ((c σ O).bnd _) = _; rw [h]; rfl
theorem dIt_lst (h : t σ O = .ok (.lst ds) O1) : dIt t σ O = .ok (.val ds) O1 := by show ((t σ O).bnd _) = _; rw [h]; rfl
theorem dIt_tup (h : t σ O = .ok (.tup ds) O1) : dIt t σ O = .ok (.val ds) O1 := by show ((t σ O).bnd _) = _; rw [h]; rfl
theorem sSet_eq {i : Nat} (h : t σ O = .ok x O1) : sSet i t σ O = .nx (σ.set i (some x)) O1 := by show ((t σ O).bnS _) = _; rw [h]; rfl
theorem sRet_eq (h : t σ O = .ok x O1) : sRet t σ O = .rt x O1 := by show ((t σ O).bnS _) = _; rw [h]; rfl
theorem sDrop_eq (h : t σ O = .ok x O1) : sDrop t σ O = .nx σ O1 := by show ((t σ O).bnS _) = _; rw [h]; rfl
theorem sIf_eq {c : DT} {a d : DS} (h : c σ O = .ok b O1) : sIf c a d σ O = if b = true then a σ O1 else d σ O1 := by show ((c σ O).bnS _) = _; rw [h]; rfl
theorem sSeq_nx {a d : DS} (h : a σ O = .nx σ' O1) : sSeq a d σ O = d σ' O1 := by show (match a σ O with | .nx σ' O' => _ | r => r) = _; rw [h]
theorem sSeq_rt {a d : DS} (h : a σ O = .rt x O1) : sSeq a d σ O = .rt x O1 := by show (match a σ O with | .nx σ' O' => _ | r => r) = _; rw [h]
theorem sFor_eq {it : DI} {g : Tg} {body : DS} {src : Src} (h : it σ O = .ok src O1) : sFor it g body σ O = loopS src (fun d σ O => match g.put d σ with | some σ' => body σ' O | none => .bad) (src.size O1) 0 σ O1 := by show ((it σ O).bnS _) = _; rw [h]; rfl
theorem dRng1_eq {n : Nat} (h : tA σ O = .ok [.int (n : Nat)] O1) (hn : n < 100000) : dRng1 tA σ O = .ok (.val ((List.range n).map fun (i : Nat) => D.int (i : Int))) O1 := by
  have hc : -1000000 ≤ ((n : Nat) : Int) ∧ ((n : Nat) : Int) ≤ 1000000 := by constructor <;> omega
  unfold dRng1
  rw [h]
  dsimp only [R.bnd]
  rw [if_pos hc]
  unfold rngSrc
  have e2 : (((n : Nat) : Int) - 0).toNat = n := by omega
  rw [e2]
  congr 2
  refine List.map_congr_left fun i _ => ?_
  rw [Int.zero_add]
theorem fIx_tup {i : Nat} (hi : i < ds.length) : fIx O (.tup ds) (.int (i : Int)) = .ok ds[i] O := by
  show (match L2.atI ds (i : Int) with | some d => R.ok d O | none => R.bad) = _
  rw [L2.atI_nat (List.getElem?_eq_getElem hi)]
theorem fIx_lst {i : Nat} (hi : i < ds.length) : fIx O (.lst ds) (.int (i : Int)) = .ok ds[i] O := by
  show (match L2.atI ds (i : Int) with | some d => R.ok d O | none => R.bad) = _
  rw [L2.atI_nat (List.getElem?_eq_getElem hi)]
end
theorem mapO_int (O : Ow) (n : Nat) : ∀ l : List Int, mapO (toPy O n) (l.map D.int) = some (l.map PySem.PyData.int)
  | [] => rfl
  | x :: l => by
    have e : toPy O n (.int x) = some (.int x) := by cases n <;> rfl
    show mapO (toPy O n) (D.int x :: l.map D.int) = _
    unfold mapO
    rw [e, mapO_int O n l]; rfl
theorem eq_nil (O : Ow) (l : List Int) : fPy eqF O (.lst (l.map D.int)) (.lst []) = .ok (.bl l.isEmpty) O := by
  unfold fPy py
  have e : toPy O 8 (.lst (l.map D.int)) = some (.list (l.map PySem.PyData.int)) := by
    show (mapO (toPy O 7) (l.map D.int)).map PySem.PyData.list = _
    rw [mapO_int]; rfl
  rw [e]
  cases l <;> rfl
end DL

namespace DL
/-! ### comprehensions over lists of anything -/
theorem walkD_of {α : Type} {src : Src} {step : D → Ow → List D → R (List D)} {O : Ow} {inj : α → D} {g : α → List D} {all : List α} (hg : ∀ i, src.get O i = (all.map inj)[i]?) : ∀ (ds pre : List α) (acc : List D) (f : Nat), all = pre ++ ds → ds.length ≤ f →
    (∀ a ∈ ds, ∀ acc : List D, acc.length < 100000 → step (inj a) O acc = .ok (acc ++ g a) O) → acc.length + (ds.flatMap g).length + ds.length < 100000 → walkD src step f pre.length O acc = .ok (acc ++ ds.flatMap g) O
  | [], pre, acc, f, ha, _, _, _ => by
    have e : src.get O pre.length = none := by rw [hg, ha]; simp
    cases f <;> (unfold walkD; rw [e]; simp)
  | d :: ds, pre, acc, 0, _, h, _, _ => by simp at h
  | d :: ds, pre, acc, f + 1, ha, h, hs, hl => by
    unfold walkD
    have e : src.get O pre.length = some (inj d) := by rw [hg, ha]; simp
    rw [e]
    simp only [List.flatMap_cons, List.length_append, List.length_cons] at hl
    show ((step (inj d) O acc).bnd fun acc' O' => walkD src step f (pre.length + 1) O' acc') = _
    rw [hs d List.mem_cons_self acc (by omega)]
    show walkD src step f (pre.length + 1) O (acc ++ g d) = _
    have := walkD_of hg ds (pre ++ [d]) (acc ++ g d) f (by rw [ha]; simp) (by simpa using h) (fun d' h' => hs d' (List.mem_cons_of_mem _ h')) (by rw [List.length_append]; omega)
    rw [List.length_append, List.length_singleton] at this
    rw [this]; simp
theorem flat_filter {α β : Type} (p : α → Bool) (e : α → β) : ∀ l : List α, (l.flatMap fun d => if p d = true then [e d] else []) = (l.filter p).map e
  | [] => rfl
  | x :: l => by
    rw [List.flatMap_cons, flat_filter p e l, List.filter_cons]
    by_cases hx : p x = true
    · rw [if_pos hx, if_pos hx]; rfl
    · rw [if_neg hx, if_neg hx]; rfl
theorem comp_src {α : Type} {ext : Nat} {it0 : DI} {g : Tg} {ts : List DT} {te : DE} {σ : Sg} {O O0 : Ow} {src : Src} {l : List α} {inj : α → D} {p : α → Bool} {e : α → D} {τ : α → Sg} {o : Bool} (hi : it0 σ O0 = .ok src O) (hg : ∀ i, src.get O i = (l.map inj)[i]?) (hsz : src.size O = l.length) (hl : l.length < 50000)
    (hτ : ∀ a ∈ l, g.put (inj a) (clr (clr (σ ++ List.replicate ext none) (g.slots ++ [])) (g.slots ++ [])) = some (τ a)) (hp : ∀ a ∈ l, dAll ts (τ a) O = .ok (p a) O) (he : ∀ a ∈ l, p a = true → te (τ a) O = .ok (e a) O) :
    dComp o ext it0 g ts [] te σ O0 = outC o (.ok ((l.filter p).map e) O) := by
  unfold dComp compAll
  rw [hi]
  show outC o (noX (walkD src _ (src.size O) 0 O [])) = _
  have step : ∀ a ∈ l, ∀ acc : List D, acc.length < 100000 → stepD ⟨it0, g, ts⟩ [] te (clr (σ ++ List.replicate ext none) (slotsOf [⟨it0, g, ts⟩])) (inj a) O acc = .ok (acc ++ (if p a = true then [e a] else [])) O := by
    intro a ha acc hacc
    show (match g.put (inj a) (clr (clr (σ ++ List.replicate ext none) (g.slots ++ [])) (g.slots ++ [])) with | some σ1 => (dAll ts σ1 O).bnd fun b O3 => if b = true then compD [] te σ1 O3 acc else .ok acc O3 | none => .bad) = _
    rw [hτ a ha]
    show (dAll ts (τ a) O).bnd _ = _
    rw [hp a ha]
    show (if p a = true then compD [] te _ O acc else .ok acc O) = _
    by_cases hpd : p a = true
    · rw [if_pos hpd, if_pos hpd]
      unfold compD
      rw [he a ha hpd]
      show (if acc.length < 100000 then _ else _) = _
      rw [if_pos hacc]
    · rw [if_neg hpd, if_neg hpd]; simp
  have hlen : ((l.filter p).map e).length ≤ l.length := by rw [List.length_map]; exact List.length_filter_le _ _
  have w := walkD_of (O := O) (inj := inj) (g := fun d => if p d = true then [e d] else []) hg l [] [] l.length rfl (Nat.le_refl _) step (by rw [flat_filter]; simp at hlen ⊢; omega)
  rw [flat_filter, List.nil_append] at w
  have w' : walkD src (stepD ⟨it0, g, ts⟩ [] te (clr (σ ++ List.replicate ext none) (slotsOf [⟨it0, g, ts⟩]))) (src.size O) 0 O [] = .ok ((l.filter p).map e) O := by rw [hsz]; exact w
  rw [w']; rfl
section
variable {α : Type} {ext : Nat} {it0 : DI} {i : Nat} {t : DT} {te : DE} {σ : Sg} {O O0 : Ow} {l : List α} {inj : α → D} {p : α → Bool} {e : α → D} {τ : α → Sg} {o : Bool}
theorem dAll_one {σ : Sg} {O : Ow} {b : Bool} (h : t σ O = .ok b O) : dAll [t] σ O = .ok b O := by
  show ((t σ O).bnd _) = _
  rw [h]; cases b <;> rfl
/-- [e for x in l if p] -/
theorem comp1 (hi : it0 σ O0 = .ok (.val (l.map inj)) O) (hl : l.length < 50000) (hτ : ∀ a, (clr (clr (σ ++ List.replicate ext none) [i]) [i]).set i (some (inj a)) = τ a) (hp : ∀ a ∈ l, t (τ a) O = .ok (p a) O) (he : ∀ a ∈ l, p a = true → te (τ a) O = .ok (e a) O) :
    dComp o ext it0 (.one i) [t] [] te σ O0 = outC o (.ok ((l.filter p).map e) O) :=
  comp_src (g := .one i) hi (fun _ => rfl) (by show (l.map inj).length = _; simp) hl (fun a _ => congrArg some (hτ a)) (fun a ha => dAll_one (hp a ha)) he
/-- [e for x in l] -/
theorem comp0 (hi : it0 σ O0 = .ok (.val (l.map inj)) O) (hl : l.length < 50000) (hτ : ∀ a, (clr (clr (σ ++ List.replicate ext none) [i]) [i]).set i (some (inj a)) = τ a) (he : ∀ a ∈ l, te (τ a) O = .ok (e a) O) :
    dComp o ext it0 (.one i) [] [] te σ O0 = outC o (.ok (l.map e) O) := by
  have := comp_src (o := o) (g := .one i) (ts := []) (p := fun _ => true) (te := te) hi (fun _ => rfl) (by show (l.map inj).length = _; simp) hl (fun a _ => congrArg some (hτ a)) (fun a ha => rfl) fun a ha _ => he a ha
  rw [this, List.filter_eq_self.mpr (fun _ _ => rfl)]
end
/-- for x in l, whatever the cells -/
theorem for_of {α : Type} {it : DI} {i : Nat} {body : DS} {σ : Sg} {O0 O : Ow} {l : List α} {inj : α → D} (hi : it σ O0 = .ok (.val (l.map inj)) O) (I : Nat → Sg → Ow → Prop) (h : ∀ (k : Nat) a σ O, l[k]? = some a → I k σ O → ∃ σ' O', body (σ.set i (some (inj a))) O = .nx σ' O' ∧ I (k + 1) σ' O') (h0 : I 0 σ O) :
    ∃ σ' O', sFor it (.one i) body σ O0 = .nx σ' O' ∧ I l.length σ' O' := by
  obtain ⟨σ', O', l1, l2⟩ := loopS_inv (ds := l.map inj) (step := fun d σ O => match Tg.put (.one i) d σ with | some σ' => body σ' O | none => .bad) I (fun j σ O d hI hd => by
    rw [List.getElem?_map] at hd
    cases e : l[j]? with
    | none => rw [e] at hd; cases hd
    | some a =>
      rw [e] at hd; cases hd
      exact h j a σ O e hI) (l.map inj).length 0 σ O h0 (by simp) (Nat.zero_le _)
  rw [List.length_map] at l2
  exact ⟨σ', O', (sFor_eq hi).trans l1, l2⟩
theorem bls_map' : ∀ l : List Bool, bls (l.map D.bl) = some l
  | [] => rfl
  | x :: l => by
    show (bls (l.map D.bl)).map (x :: ·) = _
    rw [bls_map' l]; rfl
theorem fAny_map {α : Type} (O : Ow) (l : List α) (p : α → Bool) : fAny O [.lst (l.map fun a => D.bl (p a))] = .ok (.bl (l.any p)) O := by
  show (match bls (l.map fun a => D.bl (p a)) with | some bs => R.ok (D.bl (bs.any id)) O | none => R.bad) = _
  have : (l.map fun a => D.bl (p a)) = (l.map p).map D.bl := by rw [List.map_map]; rfl
  rw [this, bls_map']
  show R.ok (D.bl _) O = _
  rw [List.any_map]; rfl
theorem fAll_map' {α : Type} (O : Ow) (l : List α) (p : α → Bool) : fAll O [.lst (l.map fun a => D.bl (p a))] = .ok (.bl (l.all p)) O := by
  show (match bls (l.map fun a => D.bl (p a)) with | some bs => R.ok (D.bl (bs.all id)) O | none => R.bad) = _
  have : (l.map fun a => D.bl (p a)) = (l.map p).map D.bl := by rw [List.map_map]; rfl
  rw [this, bls_map']
  show R.ok (D.bl _) O = _
  rw [List.all_map]; rfl
end DL

namespace DL
open PySem
/-! ### == and in over plain data (no truths, no cells) -/
def pl : Nat → D → Bool
  | n, .non => true
  | n, .int _ => true
  | n, .str cs => cs.all (· < 1114112)
  | n + 1, .lst ds => ds.all (pl n)
  | n + 1, .tup ds => ds.all (pl n)
  | _, _ => false
theorem mapO_some {α β : Type} {f : α → Option β} : ∀ {l : List α}, (∀ x ∈ l, ∃ y, f x = some y) → ∃ m, mapO f l = some m
  | [], _ => ⟨[], rfl⟩
  | x :: l, h => by
    obtain ⟨y, hy⟩ := h x List.mem_cons_self
    obtain ⟨m, hm⟩ := mapO_some (l := l) fun z hz => h z (List.mem_cons_of_mem _ hz)
    exact ⟨y :: m, by unfold mapO; rw [hy, hm]⟩
theorem toPy_pl (O : Ow) : ∀ (n : Nat) (d : D), pl n d = true → ∃ p, toPy O n d = some p := by
  intro n
  induction n with
  | zero =>
    intro d h
    cases d with
    | non => exact ⟨_, rfl⟩
    | int i => exact ⟨_, rfl⟩
    | str cs =>
      refine ⟨.str ⟨cs.toArray⟩, ?_⟩
      show strO cs = _
      unfold strO; rw [if_pos (by simpa [pl] using h)]
    | _ => simp [pl] at h
  | succ n ih =>
    intro d h
    cases d with
    | non => exact ⟨_, rfl⟩
    | int i => exact ⟨_, rfl⟩
    | str cs =>
      refine ⟨.str ⟨cs.toArray⟩, ?_⟩
      show strO cs = _
      unfold strO; rw [if_pos (by simpa [pl] using h)]
    | lst ds =>
      have h : ds.all (pl n) = true := h
      obtain ⟨m, hm⟩ := mapO_some (f := toPy O n) (l := ds) fun x hx => ih x (List.all_eq_true.mp h x hx)
      exact ⟨.list m, by show (mapO (toPy O n) ds).map PyData.list = _; rw [hm]; rfl⟩
    | tup ds =>
      have h : ds.all (pl n) = true := h
      obtain ⟨m, hm⟩ := mapO_some (f := toPy O n) (l := ds) fun x hx => ih x (List.all_eq_true.mp h x hx)
      exact ⟨.tuple m, by show (mapO (toPy O n) ds).map PyData.tuple = _; rw [hm]; rfl⟩
    | _ => simp [pl] at h
theorem eqvAll_iff {f : D → Option PyData} (R : ∀ x y p q, f x = some p → f y = some q → pl 0 x = pl 0 x → True) {P : D → Prop} (hf : ∀ x y p q, P x → P y → f x = some p → f y = some q → (PyData.eqv p q = true ↔ x = y)) :
    ∀ (xs ys : List D) (ps qs : List PyData), (∀ x ∈ xs, P x) → (∀ y ∈ ys, P y) → mapO f xs = some ps → mapO f ys = some qs → (PyData.eqvAll ps qs = true ↔ xs = ys)
  | [], [], ps, qs, _, _, e1, e2 => by cases e1; cases e2; simp [PyData.eqvAll]
  | [], y :: ys, ps, qs, _, _, e1, e2 => by
    cases e1
    unfold mapO at e2
    split at e2
    · cases e2; simp [PyData.eqvAll]
    · cases e2
  | x :: xs, [], ps, qs, _, _, e1, e2 => by
    cases e2
    unfold mapO at e1
    split at e1
    · cases e1; simp [PyData.eqvAll]
    · cases e1
  | x :: xs, y :: ys, ps, qs, h1, h2, e1, e2 => by
    unfold mapO at e1 e2
    split at e1
    · rename_i p ps' a1 a2
      cases e1
      split at e2
      · rename_i q qs' b1 b2
        cases e2
        have r1 := hf x y p q (h1 x List.mem_cons_self) (h2 y List.mem_cons_self) a1 b1
        have r2 := eqvAll_iff R hf xs ys ps' qs' (fun z hz => h1 z (List.mem_cons_of_mem _ hz)) (fun z hz => h2 z (List.mem_cons_of_mem _ hz)) a2 b2
        show (PyData.eqv p q && PyData.eqvAll ps' qs') = true ↔ _
        rw [Bool.and_eq_true, r1, r2, List.cons.injEq]
      · cases e2
    · cases e1
theorem strO_shape {cs : List Nat} {p : PyData} (h : strO cs = some p) : p = .str ⟨cs.toArray⟩ := by
  unfold strO at h
  split at h
  · cases h; rfl
  · cases h
theorem eqv_str (a b : List Nat) : PyData.eqv (.str ⟨a.toArray⟩) (.str ⟨b.toArray⟩) = true ↔ D.str a = D.str b := by
  show ((⟨a.toArray⟩ : Str) == ⟨b.toArray⟩) = true ↔ _
  rw [beq_iff_eq]
  constructor
  · intro h
    have h : a.toArray = b.toArray := by injection h
    rw [show a = b by simpa using congrArg Array.toList h]
  · intro h
    injection h with h
    rw [h]
theorem eqv_pl (O : Ow) : ∀ (n : Nat) (x y : D) (p q : PyData), pl n x = true → pl n y = true → toPy O n x = some p → toPy O n y = some q → (PyData.eqv p q = true ↔ x = y) := by
  intro n
  induction n with
  | zero =>
    intro x y p q hx hy e1 e2
    cases x with
    | non => cases e1; cases y with
      | non => cases e2; simp [PyData.eqv]
      | int j => cases e2; simp [PyData.eqv]
      | str b => have := strO_shape e2; subst this; simp [PyData.eqv]
      | _ => simp [pl] at hy
    | int i => cases e1; cases y with
      | non => cases e2; simp [PyData.eqv]
      | int j => cases e2; simp [PyData.eqv]
      | str b => have := strO_shape e2; subst this; simp [PyData.eqv]
      | _ => simp [pl] at hy
    | str a => have := strO_shape e1; subst this; cases y with
      | non => cases e2; simp [PyData.eqv]
      | int j => cases e2; simp [PyData.eqv]
      | str b => have := strO_shape e2; subst this; exact eqv_str a b
      | _ => simp [pl] at hy
    | _ => simp [pl] at hx
  | succ n ih =>
    have big : ∀ xs ys ps qs, (xs.all (pl n)) = true → (ys.all (pl n)) = true → mapO (toPy O n) xs = some ps → mapO (toPy O n) ys = some qs → (PyData.eqvAll ps qs = true ↔ xs = ys) := fun xs ys ps qs h1 h2 e1 e2 =>
      eqvAll_iff (fun _ _ _ _ _ _ _ => trivial) (P := fun d => pl n d = true) (fun x y p q a b c d => ih x y p q a b c d) xs ys ps qs (List.all_eq_true.mp h1) (List.all_eq_true.mp h2) e1 e2
    have shL : ∀ {ds : List D} {p}, toPy O (n + 1) (.lst ds) = some p → ∃ ps, mapO (toPy O n) ds = some ps ∧ p = .list ps := fun {ds p} e => by
      have e : (mapO (toPy O n) ds).map PyData.list = some p := e
      cases h : mapO (toPy O n) ds with
      | none => rw [h] at e; cases e
      | some ps => rw [h] at e; cases e; exact ⟨ps, rfl, rfl⟩
    have shT : ∀ {ds : List D} {p}, toPy O (n + 1) (.tup ds) = some p → ∃ ps, mapO (toPy O n) ds = some ps ∧ p = .tuple ps := fun {ds p} e => by
      have e : (mapO (toPy O n) ds).map PyData.tuple = some p := e
      cases h : mapO (toPy O n) ds with
      | none => rw [h] at e; cases e
      | some ps => rw [h] at e; cases e; exact ⟨ps, rfl, rfl⟩
    intro x y p q hx hy e1 e2
    cases x with
    | non => cases e1; cases y with
      | non => cases e2; simp [PyData.eqv]
      | int j => cases e2; simp [PyData.eqv]
      | str b => have := strO_shape e2; subst this; simp [PyData.eqv]
      | lst ys => obtain ⟨_, _, rfl⟩ := shL e2; simp [PyData.eqv]
      | tup ys => obtain ⟨_, _, rfl⟩ := shT e2; simp [PyData.eqv]
      | _ => simp [pl] at hy
    | int i => cases e1; cases y with
      | non => cases e2; simp [PyData.eqv]
      | int j => cases e2; simp [PyData.eqv]
      | str b => have := strO_shape e2; subst this; simp [PyData.eqv]
      | lst ys => obtain ⟨_, _, rfl⟩ := shL e2; simp [PyData.eqv]
      | tup ys => obtain ⟨_, _, rfl⟩ := shT e2; simp [PyData.eqv]
      | _ => simp [pl] at hy
    | str a => have := strO_shape e1; subst this; cases y with
      | non => cases e2; simp [PyData.eqv]
      | int j => cases e2; simp [PyData.eqv]
      | str b => have := strO_shape e2; subst this; exact eqv_str a b
      | lst ys => obtain ⟨_, _, rfl⟩ := shL e2; simp [PyData.eqv]
      | tup ys => obtain ⟨_, _, rfl⟩ := shT e2; simp [PyData.eqv]
      | _ => simp [pl] at hy
    | lst xs => obtain ⟨ps, h1, rfl⟩ := shL e1; cases y with
      | non => cases e2; simp [PyData.eqv]
      | int j => cases e2; simp [PyData.eqv]
      | str b => have := strO_shape e2; subst this; simp [PyData.eqv]
      | lst ys =>
        obtain ⟨qs, h2, rfl⟩ := shL e2
        show PyData.eqvAll ps qs = true ↔ _
        rw [big xs ys ps qs hx hy h1 h2, D.lst.injEq]
      | tup ys => obtain ⟨_, _, rfl⟩ := shT e2; simp [PyData.eqv]
      | _ => simp [pl] at hy
    | tup xs => obtain ⟨ps, h1, rfl⟩ := shT e1; cases y with
      | non => cases e2; simp [PyData.eqv]
      | int j => cases e2; simp [PyData.eqv]
      | str b => have := strO_shape e2; subst this; simp [PyData.eqv]
      | lst ys => obtain ⟨_, _, rfl⟩ := shL e2; simp [PyData.eqv]
      | tup ys =>
        obtain ⟨qs, h2, rfl⟩ := shT e2
        show PyData.eqvAll ps qs = true ↔ _
        rw [big xs ys ps qs hx hy h1 h2, D.tup.injEq]
      | _ => simp [pl] at hy
    | _ => simp [pl] at hx
/-- == and != -/
theorem eq_pl (O : Ow) {x y : D} (hx : pl 8 x = true) (hy : pl 8 y = true) {b : Bool} (hb : b = true ↔ x = y) : fPy eqF O x y = .ok (.bl b) O ∧ fPy neF O x y = .ok (.bl !b) O := by
  obtain ⟨p, hp⟩ := toPy_pl O 8 x hx
  obtain ⟨q, hq⟩ := toPy_pl O 8 y hy
  have h := eqv_pl O 8 x y p q hx hy hp hq
  have : PyData.eqv p q = b := Bool.eq_iff_iff.mpr (h.trans hb.symm)
  unfold fPy py
  rw [hp, hq]
  subst this
  exact ⟨rfl, rfl⟩
theorem any_mapO {O : Ow} {n : Nat} {x : D} {p : PyData} (hx : pl n x = true) (hp : toPy O n x = some p) : ∀ (l : List D) (ps : List PyData), (l.all (pl n)) = true → mapO (toPy O n) l = some ps → ((ps.any fun y => PyData.eqv y p) = true ↔ x ∈ l)
  | [], ps, _, e => by cases e; simp
  | y :: l, ps, h, e => by
    unfold mapO at e
    split at e
    · rename_i q qs a1 a2
      cases e
      rw [List.all_cons, Bool.and_eq_true] at h
      rw [List.any_cons, Bool.or_eq_true, eqv_pl O n y x q p h.1 hx a1 hp, any_mapO hx hp l qs h.2 a2, List.mem_cons]
      exact ⟨fun z => z.imp Eq.symm id, fun z => z.imp Eq.symm id⟩
    · cases e
theorem toPy_mono (O : Ow) : ∀ (n : Nat) (d : D) (p : PyData), pl n d = true → toPy O n d = some p → toPy O (n + 1) d = some p := by
  intro n
  induction n with
  | zero => intro d p h e; cases d <;> first | exact e | (simp [pl] at h)
  | succ n ih =>
    have go : ∀ (ds : List D) ps, (ds.all (pl n)) = true → mapO (toPy O n) ds = some ps → mapO (toPy O (n + 1)) ds = some ps := by
      intro ds
      induction ds with
      | nil => intro ps _ e; exact e
      | cons x ds ihd =>
        intro ps h e
        rw [List.all_cons, Bool.and_eq_true] at h
        unfold mapO at e ⊢
        split at e
        · rename_i q qs a1 a2
          rw [ih x q h.1 a1, ihd qs h.2 a2]; exact e
        · cases e
    intro d p h e
    cases d with
    | lst ds =>
      have e : (mapO (toPy O n) ds).map PyData.list = some p := e
      show (mapO (toPy O (n + 1)) ds).map PyData.list = some p
      cases hm : mapO (toPy O n) ds with
      | none => rw [hm] at e; cases e
      | some ps => rw [hm] at e; rw [go ds ps h hm]; exact e
    | tup ds =>
      have e : (mapO (toPy O n) ds).map PyData.tuple = some p := e
      show (mapO (toPy O (n + 1)) ds).map PyData.tuple = some p
      cases hm : mapO (toPy O n) ds with
      | none => rw [hm] at e; cases e
      | some ps => rw [hm] at e; rw [go ds ps h hm]; exact e
    | non => exact e
    | int i => exact e
    | str cs => exact e
    | _ => simp [pl] at h
/-- in and not in, of a list, a cell or a tuple -/
theorem in_pl (O : Ow) {x y : D} {l : List D} (hx : pl 7 x = true) (hl : l.all (pl 7) = true) (hy : lsV O y = some l ∨ y = .tup l) {b : Bool} (hb : b = true ↔ x ∈ l) : fIn O x y = .ok (.bl b) O ∧ fNin O x y = .ok (.bl !b) O := by
  obtain ⟨p, hp⟩ := toPy_pl O 7 x hx
  obtain ⟨ps, hps⟩ := mapO_some (f := toPy O 7) (l := l) fun z hz => toPy_pl O 7 z (List.all_eq_true.mp hl z hz)
  have h := any_mapO hx hp l ps hl hps
  have e : (ps.any fun z => PyData.eqv z p) = b := Bool.eq_iff_iff.mpr (h.trans hb.symm)
  have h8 : py O x = some p := toPy_mono O 7 x p hx hp
  rcases hy with hy | rfl
  · have hq : py O y = some (.list ps) := by
      cases y with
      | lst ds => cases hy; show (mapO (toPy O 7) l).map PyData.list = _; rw [hps]; rfl
      | own k =>
        have hy : O[k]? = some l := hy
        show (match O[k]? with | some ds => (mapO (toPy O 7) ds).map PyData.list | none => none) = _
        rw [hy]; dsimp only; rw [hps]; rfl
      | _ => cases hy
    have a1 : fPy inF O x y = .ok (.bl b) O := by unfold fPy; rw [h8, hq]; subst e; rfl
    have a2 : fPy ninF O x y = .ok (.bl !b) O := by unfold fPy; rw [h8, hq]; subst e; rfl
    cases y with
    | lst ds => exact ⟨a1, a2⟩
    | own k => exact ⟨a1, a2⟩
    | _ => cases hy
  · have hq : py O (.tup l) = some (.tuple ps) := by show (mapO (toPy O 7) l).map PyData.tuple = _; rw [hps]; rfl
    have a1 : fPy inF O x (.tup l) = .ok (.bl b) O := by unfold fPy; rw [h8, hq]; subst e; rfl
    have a2 : fPy ninF O x (.tup l) = .ok (.bl !b) O := by unfold fPy; rw [h8, hq]; subst e; rfl
    exact ⟨a1, a2⟩
theorem dAnd_bl {t u : DE} {σ : Sg} {O : Ow} {a b : Bool} (h1 : t σ O = .ok (.bl a) O) (h2 : a = true → u σ O = .ok (.bl b) O) : dAnd t u σ O = .ok (.bl (a && b)) O := by
  show ((t σ O).bnd _) = _
  rw [h1]
  cases a with
  | true => exact h2 rfl
  | false => rfl
theorem dNot_bl {t : DE} {σ : Sg} {O O1 : Ow} {a : Bool} (h1 : t σ O = .ok (.bl a) O1) : dNot t σ O = .ok (.bl (!a)) O1 := by
  show ((t σ O).bnd _) = _
  rw [h1]; rfl
theorem dAndT_bl {t u : DT} {σ : Sg} {O : Ow} {a b : Bool} (h1 : t σ O = .ok a O) (h2 : a = true → u σ O = .ok b O) : dAndT t u σ O = .ok (a && b) O := by
  show ((t σ O).bnd _) = _
  rw [h1]
  cases a with
  | true => exact h2 rfl
  | false => rfl
theorem dOrT_bl {t u : DT} {σ : Sg} {O : Ow} {a b : Bool} (h1 : t σ O = .ok a O) (h2 : a = false → u σ O = .ok b O) : dOrT t u σ O = .ok (a || b) O := by
  show ((t σ O).bnd _) = _
  rw [h1]
  cases a with
  | false => exact h2 rfl
  | true => rfl
theorem eq_plL (O : Ow) {x y : List D} (hx : x.all (pl 7) = true) (hy : y.all (pl 7) = true) {b : Bool} (hb : b = true ↔ x = y) : fPy eqF O (.lst x) (.lst y) = .ok (.bl b) O ∧ fPy neF O (.lst x) (.lst y) = .ok (.bl !b) O :=
  eq_pl O (x := .lst x) (y := .lst y) hx hy (hb.trans (by rw [D.lst.injEq]))
theorem pl_ints (n : Nat) (l : List Nat) : (l.map fun (p : Nat) => D.int (p : Int)).all (pl n) = true := List.all_eq_true.mpr fun d hd => by
  obtain ⟨p, _, rfl⟩ := List.mem_map.mp hd
  cases n <;> rfl
theorem ints_inj : ∀ {a b : List Nat}, (a.map fun (p : Nat) => D.int (p : Int)) = (b.map fun (p : Nat) => D.int (p : Int)) → a = b
  | [], [], _ => rfl
  | [], _ :: _, h => by cases h
  | _ :: _, [], h => by cases h
  | x :: a, y :: b, h => by
    rw [List.map_cons, List.map_cons, List.cons.injEq] at h
    have h1 : x = y := by have := h.1; injection this with this; omega
    rw [h1, ints_inj h.2]
/-! ### steps, from the goal -/
section
variable {σ : Sg} {O O1 O2 : Ow} {t u : DE} {d a : DS} {x y : D} {r : RS} {i : Nat} {b : Bool} {c : DT} {tA : DA} {ds : List D}
theorem st_set (h : t σ O = .ok x O1) (h2 : d (σ.set i (some x)) O1 = r) : sSeq (sSet i t) d σ O = r := by rw [sSeq_nx (sSet_eq h)]; exact h2
theorem st_seq {σ' : Sg} (h : a σ O = .nx σ' O1) (h2 : d σ' O1 = r) : sSeq a d σ O = r := by rw [sSeq_nx h]; exact h2
theorem st_drop (h : t σ O = .ok x O1) (h2 : d σ O1 = r) : sSeq (sDrop t) d σ O = r := by rw [sSeq_nx (sDrop_eq h)]; exact h2
theorem st_ifF {a' : DS} (h : c σ O = .ok false O1) (h2 : d σ O1 = r) : sSeq (sIf c a' sNil) d σ O = r := by rw [sSeq_nx (σ' := σ) (O1 := O1) (by rw [sIf_eq h]; rfl)]; exact h2
theorem ret_fin (h : d σ O = .rt x O1) : fin (d σ O) = .ok x O1 := by rw [h]; rfl
theorem op_of {f : Ow → D → D → R D} {z : R D} (h1 : t σ O = .ok x O1) (h2 : u σ O1 = .ok y O2) (h3 : f O2 x y = z) : dOp f t u σ O = z := by rw [dOp_eq h1 h2]; exact h3
theorem call_of {f : Ow → List D → R D} {z : R D} (h1 : tA σ O = .ok ds O1) (h2 : f O1 ds = z) : dCall f tA σ O = z := by rw [dCall_eq h1]; exact h2
theorem fn_of {n : Nat} {F : List D → Ow → R D} {z : R D} (h1 : tA σ O = .ok ds O1) (h2 : F ds O1 = z) (h3 : ds.length = n := by rfl) : dFn n F tA σ O = z := by rw [dFn_eq h1 h3]; exact h2
end
end DL

namespace DL
open PySem L2
/-! ### an exception on its way: its object, and the head of its traceback; both younger than h0, neither tracked -/
structure XAt (h0 : Heap) (H : Hp) (h : Heap) (a : Addr) (C : Value) : Prop where
  ex : ∃ oe vs, h.get? a = some oe ∧ (oe.cls = C ∧ oe.dict = none) ∧ oe.data = .fields vs ∧ 1 < vs.size ∧ (vs[1]? = some .none ∨ ∃ T oT ts, vs[1]? = some (.ref T) ∧ T ≠ a ∧ h0.get? T = none ∧ H T = none ∧ h.get? T = some oT ∧ oT.data = .fields ts ∧ ts[3]? = some .none)
  new : h0.get? a = none
  free : H a = none
/-- what of the heap is kept when a frame is noted -/
structure Kp (h0 : Heap) (H : Hp) (fs : List Addr) (h h' : Heap) : Prop where
  keep : ∀ b o, h.get? b = some o → b ∉ fs → (H b ≠ none ∨ h0.get? b ≠ none) → h'.get? b = some o
  slot : ∀ b o, h.get? b = some o → b ∈ fs → ∃ sl, h'.get? b = some { o with slots := sl }
  there : ∀ b o, h.get? b = some o → ∃ o', h'.get? b = some o'
  size : h.objs.size ≤ h'.objs.size
section
variable {M : Model} {A : Around} {E : Value → Shared → Prop} {s : Shared} {base h0 : Heap} {H : Hp} {env : Env} {outer : List Env} {L a : Addr} {C : Value} {Q : Unit → Shared → Prop}
end
end DL

namespace DL
open PySem L2
open PyProof.Rows (AllBare)
/-! ### exceptions that leave a def: Cl names the classes by number -/
def CXr (P : Program) (w : World) (Cl : Nat → Value) : CXT := fun outer H s E e s' => ∃ a c H', e = .ref a ∧ s'.os = s.os ∧ AllBare s'.gens ∧ Un (frs outer) [] H H' s.heap s'.heap ∧ HOk P w H' s'.heap ∧ XAt s.heap H' s'.heap a (Cl c) ∧ E (Cl c) none H'
abbrev Xk (Cl : Nat → Value) (E : XK) : Nat → Hp → Prop := fun c H => E (Cl c) none H
section
variable {P : Program} {w : World} {K : PySem.W.Frag} {mg : Str → Option Value} {base : Heap} {N : List Str} {qual : Str} {scope : Scope} {f : Addr} {cd : Value} {A : Around} {outer : List Env} {s : Shared} {H : Hp} {E : XK} {Cl : Nat → Value}
end
section
variable {X : Cx} {Cl : Nat → Value} {E : XK}
end
end DL

namespace DL
open PySem L2
open PyProof.Rows (AllBare)
/-! ### raise of an own class over ValueError -/
section
variable {X : Cx} {Ex : Nat → Hp → Prop} {Cl : Nat → Value}
end
end DL

namespace DL
open PySem L2
open PyProof.Rows (AllBare)
/-! ### defs that may raise -/
structure CalleeX (Cl : Nat → Value) (P : Program) (w : World) (K : PySem.W.Frag) (mg : Str → Option Value) (base : Heap) (x : Str) (k n : Nat) (F : List D → Ow → R D) : Prop where
  ex : ∃ f fd ps, mg x = some (.ref f) ∧ PySem.W.keepIn K (.ref f) = true ∧ Binds K fd ps [] ∧ FnOk P w K mg base (CXr P w Cl) k f fd ps (DSp K (Xk Cl) n F)
section
variable {Cl : Nat → Value} {P : Program} {w : World} {K : PySem.W.Frag} {mg : Str → Option Value} {base : Heap} {k n : Nat} {x : Str} {F G : List D → Ow → R D}
end
end DL

namespace DL
open PySem L2
open PyProof.Rows (AllBare)
/-! ### isinstance(e, C): e None or an exception of an own class -/
section
variable {X : Cx} {Ex : Nat → Hp → Prop} {pos : Pos} {a : Expr} {ta : DE}
end
end DL

namespace DL
open PySem L2
open PyProof.Rows (AllBare IntsAre)
/-! ### a name that the text hasn't bears what is known of the table -/
section
variable {X : Cx} {pins : List (Addr × Obj)} {σ : St} {H : Hp} {s : Shared}
end
/-- what the making of a lambda needs of the base -/
structure LamOk (mg : Str → Option Value) (base : Heap) (c Pt : Addr) : Prop where
  hd : PySem.W.CodeHd base c Pt
  bl : base.BuiltinsAt mg Pt
end DL

namespace DL
open PySem L2
open PyProof.Rows (AllBare)
section
variable {X : Cx} {pins : List (Addr × Obj)} {σv : St} {H : Hp} {s : Shared} {E : Value → Shared → Prop}
end
end DL

namespace DL
open PySem L2
open PyProof.Rows (AllBare)
section
variable {prog : Program} {w : World} {A : Around} {s : Shared} {R : Result → Shared → Prop}
end
end DL

namespace DL
open PySem L2
open PyProof.Rows (AllBare)
/-! ### the context of a lambda's body -/
section
variable {CX : CXT} {P : Program} {w : World} {K : PySem.W.Frag} {mg : Str → Option Value} {base : Heap} {N : List Str} {A : Around} {outer : List Env} {s : Shared} {H : Hp} {E : XK} {Cl : Nat → Value} {q : Str} {scope : Scope} {lam : Addr} {cd : Value} {cl : List (Str × Addr)} {σ : St} {h' : Heap}
end
end DL

namespace DL
open PySem L2
open PyProof.Rows (AllBare)
section
variable {M : Model} {A : Around} {E : Value → Shared → Prop} {s : Shared} {base h0 : Heap} {H : Hp} {frames : List Env} {a : Addr} {C : Value} {Q : Unit → Shared → Prop}
end
section
variable {X : Cx} {pins : List (Addr × Obj)} {σ : St} {H H1 : Hp} {s s1 : Shared}
end
end DL

namespace DL
open PySem L2
open PyProof.Rows (AllBare)
section
variable {X : Cx} {pins : List (Addr × Obj)} {σ : St} {H : Hp} {s : Shared} {M : Model} {A : Around} {E : Value → Shared → Prop}
end
end DL

namespace DL
open PySem L2
open PyProof.Rows (AllBare)
section
variable {X : Cx} {pins : List (Addr × Obj)} {σ : St} {H H1 : Hp} {s s1 : Shared}
end
end DL

namespace DL
open PySem L2
open PyProof.Rows (AllBare)
section
variable {X : Cx} {pins : List (Addr × Obj)} {σ : St} {H H1 : Hp} {s s1 : Shared}
end
end DL

namespace DL
open PySem L2
open PyProof.Rows (AllBare)
section
variable {X : Cx} {pins : List (Addr × Obj)} {σ : St} {H : Hp} {s : Shared}
end
end DL

namespace DL
open PySem L2
open PyProof.Rows (AllBare)
section
variable {X : Cx} {pins : List (Addr × Obj)} {σ : St} {H : Hp} {s : Shared}
end
end DL

namespace DL
open PySem L2
open PyProof.Rows (AllBare)
section
variable {X : Cx} {pins : List (Addr × Obj)} {σ : St} {H : Hp} {s s2 : Shared}
/-! ### what a lambda has captured -/
end
end DL

namespace DL
open PySem L2
open PyProof.Rows (AllBare)
/-! ### the rule: helper(lambda: E) -/
structure LamScope (out sc : Scope) : Prop where
  kind : sc.kind = .function
  co : sc.isCoroutine = false
  gen : sc.isGenerator = false
  nd : (sc.names.map (·.1)).Nodup
  cell : ∀ x ∈ sc.names, x.2 ≠ .cell
  loc : ∀ x ∈ sc.names, x.2 ≠ .local
  frees : ∀ y ∈ sc.names, y.2 = .free → out.names.lookup y.1 = some .cell ∨ out.names.lookup y.1 = some .free
section
variable {X : Cx} {Ex : Nat → Hp → Prop} {Cl : Nat → Value} {Ca : Nat → Nat}
end
end DL

namespace DL
open PySem L2
open PyProof.Rows (AllBare)
/-! ### the head of a law with lambdas -/
end DL

namespace DL
open PySem L2
open PyProof.Rows (AllBare)
/-! ### one sign times an int -/
section
variable {X : Cx} {Ex : Nat → Hp → Prop} {pos : Pos} {a b : Expr} {ta tb : DE}
end
end DL

namespace DL
open PySem L2
/-- an iterator that another one draws from -/
structure Inner (P : Program) (w : World) (ia : Addr) (fp : List Addr) (n : Nat) (Pv : Nat → Value → Prop) (Sx : Nat → Heap → Prop) : Prop where
  stab : ∀ i h h', Sx i h → (∀ b ∈ ia :: fp, ∀ o, h.get? b = some o → h'.get? b = some o) → Sx i h'
  item : ∀ (A : Around) (i : Nat) (s : Shared) (Q : Value → Shared → Prop) (E : Value → Shared → Prop), i < n → Sx i s.heap → (∀ v h' tk, Pv i v → Sx (i + 1) h' → Heap.SameBut ia s.heap h' → Q v { s with heap := h', toks := tk }) → wpAny (model P w) A (Builtin.SmallTypes.nextOf (.ref ia)) Q E s
  done : ∀ (A : Around) (i : Nat) (s : Shared) (Q : Value → Shared → Prop) (E : Value → Shared → Prop), A.handled = none → n ≤ i → Sx i s.heap → (∀ h' e, Heap.ExtBut ia s.heap h' → (∃ o, h'.get? e = some o ∧ o.cls = .type "StopIteration") → E (.ref e) { s with heap := h' }) → wpAny (model P w) A (Builtin.SmallTypes.nextOf (.ref ia)) Q E s
section
variable {P : Program} {w : World} {A : Around} {E : Value → Shared → Prop} {s : Shared}
/-- StopIteration is made and thrown -/
theorem stop_new {α : Type} {Q : α → Shared → Prop} (hh : A.handled = none) (h : ∀ h' e, (∀ b o, s.heap.get? b = some o → h'.get? b = some o) → (∃ o, h'.get? e = some o ∧ o.cls = .type "StopIteration") → E (.ref e) { s with heap := h' }) :
    wpAny (model P w) A (newExc (.type "StopIteration") [] >>= fun e => (raiseNew e : Sem α)) Q E s := by
  refine wpAny_bind ?_
  simp only [newExc, newTuple]
  refine wpAny_bind (wpAny_newObj_type (?_) (by size_fits))
  refine wpAny_bind (m := firstArgMember _ _) (wpAny_of_eq (a := .none) (by first | rfl | (simp only [firstArgMember]; rfl)) (wpAny_newObj_type ?_ (by size_fits)))
  simp only [raiseNew]
  refine wpAny_bind (wpAny_handled ?_); rw [hh]
  refine wpAny_bind (wpAny_pure (wpAny_throw (h _ _ (fun b o e => Heap.get?_push_of_some _ (Heap.get?_push_of_some _ e)) ⟨_, Heap.get?_push_size _ rfl, rfl⟩)))
theorem inner_tup (ia tt : Addr) (items : Array Value) (hne : tt ≠ ia) : Inner P w ia [tt] items.size (fun i v => items[i]? = some v) (fun i h => h.IsTupleIter ia tt i ∧ h.IsTuple tt items) where
  stab := by
    rintro i h h' ⟨⟨o, e, c, d⟩, ⟨o2, e2, r⟩⟩ k
    exact ⟨⟨o, k ia (by simp) o e, c, d⟩, ⟨o2, k tt (by simp) o2 e2, r⟩⟩
  item := by
    rintro A i s Q E hi ⟨hit, htt⟩ hq
    obtain ⟨ob, hob, hcl, hda⟩ := id hit
    obtain ⟨ol, hol, k1, nl, hdl⟩ := id htt
    have hxx : items[i]? = some items[i] := Array.getElem?_eq_getElem hi
    unfold Builtin.SmallTypes.nextOf
    refine wpAny_bind (wpAny_callSpecial?_slot (name := "__next__") hit.typeIs F.slot_tuple_iterator_next (wpAny_call_entry F.slot_tuple_iterator_next hit.typeIs F.entry_tuple_iterator_next ?_ (F.args_tuple_iterator_next_1 _)))
    show wpAny _ _ (field (.ref ia) 0 >>= _) _ _ s
    refine wpAny_bind (wpAny_field hob hda (x := .ref tt) rfl ?_)
    show wpAny _ _ (if (Value.ref tt == Value.none) = true then _ else _) _ _ s
    rw [if_neg (by exact Bool.false_ne_true)]
    show wpAny _ _ (field (.ref ia) 1 >>= _) _ _ s
    refine wpAny_bind (wpAny_field hob hda (x := .int i 0) rfl ?_)
    show wpAny _ _ (seqItems? (.ref tt) >>= _) _ _ s
    refine wpAny_bind (wpAny_seqItems hol hdl ?_)
    simp only [Int.toNat_natCast, hxx]
    refine wpAny_bind (wpAny_setField hob hda (by simp) (wpAny_pure ⟨_, rfl, wpAny_pure (hq _ _ s.toks hxx ⟨?_, ?_⟩ (Heap.SameBut.update ..))⟩))
    · exact ⟨_, Heap.get?_update_self _ hob (Obj.isFreed_of_fields (Obj.data_mapFields hda _)), (Obj.cls_mapFields ..).trans hcl, by rw [Obj.data_mapFields hda]; simp [rawInt]⟩
    · exact ⟨ol, (Heap.SameBut.update ..).extBut _ _ hne hol, k1, nl, hdl⟩
  done := by
    rintro A i s Q E hh hi ⟨hit, htt⟩ hq
    obtain ⟨ob, hob, hcl, hda⟩ := id hit
    obtain ⟨ol, hol, k1, nl, hdl⟩ := id htt
    have hxx : items[i]? = none := by simp [hi]
    unfold Builtin.SmallTypes.nextOf
    refine wpAny_bind (wpAny_callSpecial?_slot (name := "__next__") hit.typeIs F.slot_tuple_iterator_next (wpAny_call_entry F.slot_tuple_iterator_next hit.typeIs F.entry_tuple_iterator_next ?_ (F.args_tuple_iterator_next_1 _)))
    show wpAny _ _ (field (.ref ia) 0 >>= _) _ _ s
    refine wpAny_bind (wpAny_field hob hda (x := .ref tt) rfl ?_)
    show wpAny _ _ (if (Value.ref tt == Value.none) = true then _ else _) _ _ s
    rw [if_neg (by exact Bool.false_ne_true)]
    show wpAny _ _ (field (.ref ia) 1 >>= _) _ _ s
    refine wpAny_bind (wpAny_field hob hda (x := .int i 0) rfl ?_)
    show wpAny _ _ (seqItems? (.ref tt) >>= _) _ _ s
    refine wpAny_bind (wpAny_seqItems hol hdl ?_)
    simp only [Int.toNat_natCast, hxx]
    refine wpAny_bind (wpAny_rule (wpAny_bind (wpAny_setField hob hda (by simp) ?_)))
    refine stop_new (by first | exact hh | (show A.in1.handled = none; exact hh)) fun h' e k he => hq h' e (fun b o hb z => k b o ((Heap.SameBut.update ..).extBut _ _ hb z)) he
theorem inner_str (ia : Addr) (x : Str) (t : Tok) : Inner P w ia [] x.cps.size (fun i v => ∃ c tk, x.cps[i]? = some c ∧ v = .str ⟨#[c]⟩ tk) (fun i h => h.IsStrIter ia "str_ascii_iterator" x t i) where
  stab := by
    rintro i h h' ⟨o, e, c, d⟩ k
    exact ⟨o, k ia (by simp) o e, c, d⟩
  item := by
    rintro A i s Q E hi hit hq
    obtain ⟨ob, hob, hcl, hda⟩ := id hit
    have hxx : x.cps[i]? = some x.cps[i] := Array.getElem?_eq_getElem hi
    unfold Builtin.SmallTypes.nextOf
    refine wpAny_bind (wpAny_callSpecial?_slot (name := "__next__") hit.typeIs F.slot_str_ascii_iterator_next (wpAny_call_entry F.slot_str_ascii_iterator_next hit.typeIs F.entry_str_ascii_iterator_next ?_ (F.args_str_ascii_iterator_next_1 _)))
    show wpAny _ _ (field (.ref ia) 0 >>= _) _ _ s
    refine wpAny_bind (wpAny_field hob hda (x := .str x t) rfl ?_)
    show wpAny _ _ (field (.ref ia) 1 >>= _) _ _ s
    refine wpAny_bind (wpAny_field hob hda (x := .int i 0) rfl ?_)
    simp only [Int.toNat_natCast, hxx]
    refine wpAny_bind (wpAny_setField hob hda (by simp) (wpAny_bind (wpAny_mkStr (wpAny_pure ⟨_, rfl, wpAny_pure (hq _ _ _ ⟨_, _, hxx, rfl⟩ ?_ (Heap.SameBut.update ..))⟩) (by show 1 ≤ sizeLine; decide))))
    exact ⟨_, Heap.get?_update_self _ hob (Obj.isFreed_of_fields (Obj.data_mapFields hda _)), (Obj.cls_mapFields ..).trans hcl, by rw [Obj.data_mapFields hda]; simp [rawInt]⟩
  done := by
    rintro A i s Q E hh hi hit hq
    obtain ⟨ob, hob, hcl, hda⟩ := id hit
    have hxx : x.cps[i]? = none := by simp [hi]
    unfold Builtin.SmallTypes.nextOf
    refine wpAny_bind (wpAny_callSpecial?_slot (name := "__next__") hit.typeIs F.slot_str_ascii_iterator_next (wpAny_call_entry F.slot_str_ascii_iterator_next hit.typeIs F.entry_str_ascii_iterator_next ?_ (F.args_str_ascii_iterator_next_1 _)))
    show wpAny _ _ (field (.ref ia) 0 >>= _) _ _ s
    refine wpAny_bind (wpAny_field hob hda (x := .str x t) rfl ?_)
    show wpAny _ _ (field (.ref ia) 1 >>= _) _ _ s
    refine wpAny_bind (wpAny_field hob hda (x := .int i 0) rfl ?_)
    simp only [Int.toNat_natCast, hxx]
    refine wpAny_bind (wpAny_rule (wpAny_bind (wpAny_setField hob hda (by simp) (wpAny_bind (wpAny_letGo ?_)))))
    refine stop_new (by first | exact hh | (show A.in1.handled = none; exact hh)) fun h' e k he => hq h' e (fun b o hb z => k b o ((Heap.SameBut.update ..).extBut _ _ hb z)) he
theorem inner_lst (ia l : Addr) (items : Array Value) (hne : l ≠ ia) : Inner P w ia [l] items.size (fun i v => items[i]? = some v) (fun i h => h.IsListIter ia l i ∧ h.IsList l items) where
  stab := by
    rintro i h h' ⟨⟨o, e, c, d⟩, ⟨o2, e2, r⟩⟩ k
    exact ⟨⟨o, k ia (by simp) o e, c, d⟩, ⟨o2, k l (by simp) o2 e2, r⟩⟩
  item := by
    rintro A i s Q E hi ⟨hit, hl⟩ hq
    obtain ⟨ol, hol, r⟩ := id hl
    exact wpAny_nextOf_list_item hit hl (Array.getElem?_eq_getElem hi) fun h' st sb => hq _ h' s.toks (Array.getElem?_eq_getElem hi) ⟨st, ⟨ol, sb.extBut _ _ hne hol, r⟩⟩ sb
  done := by
    rintro A i s Q E hh hi ⟨hit, hl⟩ hq
    exact wpAny_nextOf_list_end hh hit hl (by simp [hi]) fun h' e eb he => hq h' e eb he
end
end DL

namespace DL
open PySem L2
/-- the parts of a zip lie apart -/
structure ZAp (z ti to : Addr) (i1 i2 : Addr) (fp1 fp2 : List Addr) : Prop where
  a1 : ti ≠ z
  a2 : to ≠ z
  a3 : ti ≠ to
  b1 : ∀ b ∈ i1 :: fp1, b ≠ z ∧ b ≠ to
  b2 : ∀ b ∈ i2 :: fp2, b ≠ z ∧ b ≠ to
  c1 : i1 ∉ i2 :: fp2
  c2 : i2 ∉ i1 :: fp1
  d1 : ti ≠ i1
  d2 : ti ≠ i2
section
variable {P : Program} {w : World} {A : Around} {E : Value → Shared → Prop} {s : Shared} {z ti to i1 i2 : Addr} {fp1 fp2 : List Addr} {n1 n2 k : Nat} {P1 P2 : Nat → Value → Prop} {S1 S2 : Nat → Heap → Prop} {a b : Value}
theorem Inner.but {ia c : Addr} {fp : List Addr} {n i : Nat} {Pv : Nat → Value → Prop} {Sx : Nat → Heap → Prop} {h h' : Heap} (J : Inner P w ia fp n Pv Sx) (x : Sx i h) (e : Heap.ExtBut c h h') (hc : ∀ b ∈ ia :: fp, b ≠ c) : Sx i h' := J.stab i h h' x fun b hb o z => e b o (hc b hb) z
end
end DL

namespace DL
open PySem L2
/-! ### what a zip is made of -/
inductive ZK where
  | tup (t : Addr) (items : Array Value)
  | str (x : Str) (t : Tok)
  | lst (l : Addr) (items : Array Value)
def ZK.val : ZK → Value
  | .tup t _ => .ref t
  | .str x t => .str x t
  | .lst l _ => .ref l
def ZK.obj : ZK → Obj
  | .tup t _ => { cls := .type "tuple_iterator", data := .fields #[.ref t, .int 0 0] }
  | .str x t => { cls := .type "str_ascii_iterator", data := .fields #[.str x t, .int 0 0] }
  | .lst l _ => { cls := .type "list_iterator", data := .fields #[.ref l, .int 0 0] }
def ZK.pre (h : Heap) : ZK → Prop
  | .tup t items => h.IsTuple t items
  | .str x _ => x.cps.all (· < 128) = true
  | .lst l items => h.IsList l items
theorem ZK.iter {P : Program} {w : World} {A : Around} {E : Value → Shared → Prop} {s : Shared} {Q : Value → Shared → Prop} (q : ZK) (h : q.pre s.heap) (hq : Q (.ref s.heap.objs.size) { s with heap := s.heap.push q.obj }) : wpAny (model P w) A (pyIter q.val) Q E s := by
  cases q with
  | tup t items => exact wpAny_pyIter_tuple h hq
  | str x t => exact wpAny_pyIter_ascii h hq
  | lst l items => exact wpAny_pyIter_list h hq
section
variable {P : Program} {w : World} {A : Around} {E : Value → Shared → Prop} {s : Shared}
end
end DL

namespace DL
open PySem L2
/-- an object that the state knows, no iterator -/
def Held (X : Cx) (H : Hp) (h : Heap) (b : Addr) : Prop := H b ≠ none ∨ ∃ o, X.base.get? b = some o
theorem Held.far {X : Cx} {pins : List (Addr × Obj)} {σ : St} {H : Hp} {s : Shared} {b q : Addr} (I : L2.Inv X pins σ H s) (x : Held X H s.heap b) (f : FpOk X pins H q) : b ≠ q := by
  rintro rfl
  rcases x with x | ⟨o, e⟩
  · exact x f.1
  · rcases f.2.2.2.1 with z | z
    · exact I.ok.noex b o e z
    · exact absurd (Nat.lt_of_lt_of_le (Heap.lt_size e) I.ok.bsz) (Nat.not_lt.mpr z)
structure InIt (P : Program) (w : World) (K : PySem.W.Frag) (J : It) (ia : Addr) (S : Nat → Heap → Prop) : Prop where
  obj : ∀ i h, S i h → ∃ o, h.get? ia = some o ∧ ∀ v, o.data ≠ .cell v
  keep : ∀ i h h', S i h → (∀ o, h.get? ia = some o → h'.get? ia = some o) → S i h'
  got : ∀ (X : Cx), X.prog = P → X.w = w → X.K = K → ∀ (i : Nat) (pins : List (Addr × Obj)) (s : Shared) (σ : St) (H : Hp), L2.Inv X pins σ H s → FpOk X pins H ia → S i s.heap → (J.go i H ∨ J.stop i H) →
    ∃ fp n Pv Sx, Inner P w ia fp n Pv Sx ∧ Sx i s.heap ∧ (∀ j h, Sx j h → S j h) ∧ (J.go i H → i < n) ∧ (J.stop i H → n ≤ i) ∧ (∀ v, Pv i v → ∃ x, RelV x v ∧ J.yld i H x H) ∧ ∀ b ∈ fp, Held X H s.heap b
section
variable {P : Program} {w : World} {K : PySem.W.Frag}
theorem held_t {X : Cx} {pins : List (Addr × Obj)} {σ : St} {H : Hp} {s : Shared} {a : Addr} {xs : List V} (I : L2.Inv X pins σ H s) (h : SqT X.K H a xs) : Held X H s.heap a := by
  rcases h with h | ⟨o, its, n, hk, _⟩
  · exact .inl (by rcases h with h | ⟨_, h⟩ <;> (rw [h]; simp))
  · exact .inr ⟨o, I.ok.mod.kin a o hk⟩
theorem held_l {X : Cx} {pins : List (Addr × Obj)} {σ : St} {H : Hp} {s : Shared} {a : Addr} {xs : List V} (I : L2.Inv X pins σ H s) (h : SqL X.K H a xs) : Held X H s.heap a := by
  rcases h with h | ⟨o, its, n, hk, _⟩
  · exact .inl (by rcases h with h | ⟨_, h⟩ <;> (rw [h]; simp))
  · exact .inr ⟨o, I.ok.mod.kin a o hk⟩
theorem vals_getR {xs : List V} {its : List Value} {i : Nat} {v : Value} (r : Vals xs its) (e : its[i]? = some v) : ∃ x, xs[i]? = some x ∧ RelV x v := by
  have hl := r.length
  have hi : i < xs.length := by have := (List.getElem?_eq_some_iff.mp e).1; omega
  obtain ⟨u, g1, g2⟩ := r.get (List.getElem?_eq_getElem hi)
  rw [e] at g1; cases g1
  exact ⟨_, List.getElem?_eq_getElem hi, g2⟩
theorem in_tup (a ia : Addr) : InIt P w K (Itt K a) ia (fun i h => h.IsTupleIter ia a i) where
  obj := fun i h ⟨o, e, c, d⟩ => ⟨o, e, fun v z => by rw [d] at z; cases z⟩
  keep := fun i h h' ⟨o, e, c, d⟩ k => ⟨o, k o e, c, d⟩
  got := by
    intro X hP hw hK i pins s σ H I hf st hg
    subst hP hw hK
    have hs : ∃ xs, SqT X.K H a xs := by
      rcases hg with ⟨xs, x, h, _⟩ | ⟨xs, h, _⟩ <;> exact ⟨xs, h⟩
    obtain ⟨xs, hq⟩ := hs
    obtain ⟨its, rv, p, hz⟩ := I.tuple hq
    have hl := rv.length
    refine ⟨[a], _, _, _, inner_tup ia a its.toArray ((held_t I hq).far I hf), ⟨st, p⟩, fun j h z => z.1, fun ⟨ys, y, h1, h2⟩ => ?_, fun ⟨ys, h1, h2⟩ => ?_, fun v hv => ?_, fun b hb => ?_⟩
    · have e := I.tuple_inj h1 hq; subst e
      have := (List.getElem?_eq_some_iff.mp h2).1
      simp; omega
    · have e := I.tuple_inj h1 hq; subst e
      simp; omega
    · have hv' : its[i]? = some v := by simpa using hv
      obtain ⟨x, e1, r1⟩ := vals_getR rv hv'
      exact ⟨x, r1, rfl, fun ys hy => by rw [I.tuple_inj hy hq]; exact e1⟩
    · have : b = a := by simpa using hb
      subst this; exact held_t I hq
theorem in_lst (a ia : Addr) : InIt P w K (Itl K a) ia (fun i h => h.IsListIter ia a i) where
  obj := fun i h ⟨o, e, c, d⟩ => ⟨o, e, fun v z => by rw [d] at z; cases z⟩
  keep := fun i h h' ⟨o, e, c, d⟩ k => ⟨o, k o e, c, d⟩
  got := by
    intro X hP hw hK i pins s σ H I hf st hg
    subst hP hw hK
    have hs : ∃ xs, SqL X.K H a xs := by
      rcases hg with ⟨xs, x, h, _⟩ | ⟨xs, h, _⟩ <;> exact ⟨xs, h⟩
    obtain ⟨xs, hq⟩ := hs
    obtain ⟨its, rv, p, hz⟩ := I.list hq
    have hl := rv.length
    refine ⟨[a], _, _, _, inner_lst ia a its.toArray ((held_l I hq).far I hf), ⟨st, p.isList⟩, fun j h z => z.1, fun ⟨ys, y, h1, h2⟩ => ?_, fun ⟨ys, h1, h2⟩ => ?_, fun v hv => ?_, fun b hb => ?_⟩
    · have e := I.list_inj h1 hq; subst e
      have := (List.getElem?_eq_some_iff.mp h2).1
      simp; omega
    · have e := I.list_inj h1 hq; subst e
      simp; omega
    · have hv' : its[i]? = some v := by simpa using hv
      obtain ⟨x, e1, r1⟩ := vals_getR rv hv'
      exact ⟨x, r1, rfl, fun ys hy => by rw [I.list_inj hy hq]; exact e1⟩
    · have : b = a := by simpa using hb
      subst this; exact held_l I hq
theorem in_str (x : Str) (t : Tok) (ia : Addr) : InIt P w K (Its x) ia (fun i h => h.IsStrIter ia "str_ascii_iterator" x t i) where
  obj := fun i h ⟨o, e, c, d⟩ => ⟨o, e, fun v z => by rw [d] at z; cases z⟩
  keep := fun i h h' ⟨o, e, c, d⟩ k => ⟨o, k o e, c, d⟩
  got := by
    intro X hP hw hK i pins s σ H I hf st hg
    subst hP hw hK
    refine ⟨[], _, _, _, inner_str ia x t, st, fun j h z => z, fun z => z, fun z => z, fun v ⟨c, tk, e, hv⟩ => ?_, fun b hb => by cases hb⟩
    subst hv
    exact ⟨.str ⟨#[c]⟩, ⟨_, rfl⟩, rfl, c, e, rfl⟩
end
end DL

namespace DL
open PySem L2
/-- zip: what is walked side by side -/
def zkD : D → Option Src
  | .lst ds => some (.val ds)
  | .own k => some (.own k)
  | .tup ds => some (.val ds)
  | .str cs => if cs.all (· < 128) = true then some (.val (cs.map fun c => .str [c])) else none
  | _ => none
section
variable {X : Cx} {Ex : Nat → Hp → Prop} {pos : Pos} {a b c e o : Expr} {ta tb tc te to : DE} {pins : List (Addr × Obj)} {σv : St} {H : Hp} {s : Shared} {hid μ : List Addr} {O : Ow}
theorem zk_at {d : D} {v : V} {u : Value} {src : Src} (I : L2.Inv X pins σv H s) (c : Cells X.K H hid μ O) (h : Dat X.K H hid μ d v) (r : RelV v u) (e : zkD d = some src) :
    ∃ (k : ZK) (J : It), k.val = u ∧ k.pre s.heap ∧ SrcAt X.K J src H hid μ ∧ ∀ ia, ∃ S, InIt X.prog X.w X.K J ia S ∧ ∀ h : Heap, h.get? ia = some k.obj → S 0 h := by
  cases d with
  | lst ds =>
    unfold Dat at h
    obtain ⟨q, vs, rfl, l, dd⟩ := h
    cases e; cases r
    obtain ⟨its, _, p, _⟩ := I.list l.sq
    exact ⟨.lst q its.toArray, _, rfl, p.isList, .val l dd, fun ia => ⟨_, in_lst q ia, fun h z => ⟨_, z, rfl, rfl⟩⟩⟩
  | own k =>
    unfold Dat at h
    obtain ⟨q, rfl, hk⟩ := h
    cases e; cases r
    obtain ⟨ds, vs, h1, h2, h3⟩ := c.at_ k q hk
    obtain ⟨its, _, p, _⟩ := I.list (a := q) (xs := vs) (.of h2)
    exact ⟨.lst q its.toArray, _, rfl, p.isList, .own hk, fun ia => ⟨_, in_lst q ia, fun h z => ⟨_, z, rfl, rfl⟩⟩⟩
  | tup ds =>
    unfold Dat at h
    obtain ⟨q, vs, rfl, l, dd⟩ := h
    cases e; cases r
    obtain ⟨its, _, p, _⟩ := I.tuple l.sq
    exact ⟨.tup q its.toArray, _, rfl, p, .tup l dd, fun ia => ⟨_, in_tup q ia, fun h z => ⟨_, z, rfl, rfl⟩⟩⟩
  | str cs =>
    unfold Dat at h
    subst h
    obtain ⟨t, rfl⟩ := r
    have e' : (if cs.all (· < 128) = true then some (Src.val (cs.map fun c => D.str [c])) else none) = some src := e
    by_cases ha : cs.all (· < 128) = true
    · rw [if_pos ha] at e'
      cases e'
      refine ⟨.str ⟨cs.toArray⟩ t, _, rfl, ?_, .str, fun ia => ⟨_, in_str _ t ia, fun h z => ⟨_, z, rfl, rfl⟩⟩⟩
      show cs.toArray.all (· < 128) = true
      simpa using ha
    · rw [if_neg ha] at e'; cases e'
  | _ => cases e
end
end DL

namespace DL
open PySem L2
open AutoSeq1 (wpAny_loadPart')
/-! ### enumerate -/
section
variable {P : Program} {w : World} {A : Around} {E : Value → Shared → Prop} {s : Shared}
variable {ea ia : Addr} {fp : List Addr} {n k : Nat} {Pv : Nat → Value → Prop} {Sx : Nat → Heap → Prop} {old : Value}
theorem nextEnum {Q : Option Value → Shared → Prop} (J : Inner P w ia fp n Pv Sx) (he : IsEnum s.heap ea ia (k : Nat) old) (hx : Sx k s.heap) (hk : k < n) (ne : ∀ b ∈ ia :: fp, b ≠ ea)
    (hq : ∀ x h' tk ti, Pv k x → IsEnumOut h' ea ia ((k : Int) + 1) x s.heap.objs.size → Sx (k + 1) h' → h'.get? s.heap.objs.size = some { cls := .type "tuple", data := .seq #[.int (k : Nat) ti, x] } → (∀ b o, b ≠ ea → b ≠ ia → s.heap.get? b = some o → h'.get? b = some o) → Q (some (.ref s.heap.objs.size)) { s with heap := h', toks := tk }) :
    wpAny (model P w) A (pyNext (.ref ea)) Q E s := by
  have ht : s.TypeIs (.ref ea) "enumerate" := ⟨_, he, rfl⟩
  have nia : ea ≠ ia := Ne.symm (ne ia List.mem_cons_self)
  unfold pyNext
  refine wpAny_bind (wpAny_attempt (wpAny_callSpecial?_slot (name := "__next__") ht F.slot_enumerate_next (wpAny_call_entry F.slot_enumerate_next ht F.entry_enumerate_next ?_ (F.args_enumerate_next_1 _))))
  obtain ⟨hp, g, d, tk, os⟩ := s
  show wpAny _ _ (field (.ref ea) 2 >>= _) _ _ _
  refine wpAny_bind (wpAny_field he rfl (x := .ref ia) rfl (wpAny_bind (J.item _ k _ _ _ hk hx fun x h1 tk1 px sx1 s1 => ?_)))
  have s1 : Heap.SameBut ia hp h1 := s1
  have e1 : IsEnum h1 ea ia (k : Nat) old := (s1.2 ea nia).trans he
  show wpAny _ _ (field (.ref ea) 3 >>= _) _ _ ⟨h1, g, d, tk1, os⟩
  refine wpAny_bind (wpAny_field e1 rfl (x := rawInt (k : Nat)) rfl ?_)
  show wpAny _ _ (field (.ref ea) 4 >>= _) _ _ ⟨h1, g, d, tk1, os⟩
  refine wpAny_bind (wpAny_field e1 rfl (x := (.none)) rfl ?_)
  show wpAny _ _ (mkInt (k : Nat) >>= _) _ _ ⟨h1, g, d, tk1, os⟩
  refine wpAny_bind (wpAny_mkInt ?_)
  show wpAny _ _ (setField (.ref ea) 3 (rawInt ((k : Int) + 1)) >>= _) _ _ ⟨h1, g, d, tk1 + 1, os⟩
  refine wpAny_bind (wpAny_setField_rec e1 (by simp) fun h2 e2 s2 => ?_)
  have s2 : Heap.SameBut ea h1 h2 := s2
  have e2 : IsEnum h2 ea ia ((k : Int) + 1) old := e2
  show wpAny _ _ (setField (.ref ea) 4 .none >>= _) _ _ ⟨h2, g, d, tk1 + 1, os⟩
  refine wpAny_bind (wpAny_setField_rec e2 (by simp) fun h3 e3 s3 => ?_)
  have s3 : Heap.SameBut ea h2 h3 := s3
  have e3 : IsEnum h3 ea ia ((k : Int) + 1) old := e3
  show wpAny _ _ (newTuple [.int (k : Nat) tk1, x] >>= _) _ _ ⟨h3, g, d, tk1 + 1, os⟩
  refine wpAny_bind (wpAny_newTuple ?_)
  have e4 : IsEnum (h3.push { cls := .type "tuple", data := .seq #[.int (k : Nat) tk1, x] }) ea ia ((k : Int) + 1) old := Heap.get?_push_of_some _ e3
  have hsz : h3.objs.size = hp.objs.size := by rw [s3.1, s2.1, s1.1]
  have hel : ea < hp.objs.size := Heap.lt_size he
  have t4 : (h3.push { cls := .type "tuple", data := .seq #[.int (k : Nat) tk1, x] }).get? hp.objs.size = some { cls := .type "tuple", data := .seq #[.int (k : Nat) tk1, x] } := by rw [← hsz]; exact Heap.get?_push_size _ rfl
  have k4 : ∀ b o, b ≠ ea → b ≠ ia → hp.get? b = some o → (h3.push { cls := .type "tuple", data := .seq #[.int (k : Nat) tk1, x] }).get? b = some o := fun b o q1 q2 z => Heap.get?_push_of_some _ (s3.extBut b o q1 (s2.extBut b o q1 (s1.extBut b o q2 z)))
  have x4 : Sx (k + 1) (h3.push { cls := .type "tuple", data := .seq #[.int (k : Nat) tk1, x] }) := J.stab _ _ _ (J.but (J.but sx1 s2.extBut ne) s3.extBut ne) fun b _ o z => Heap.get?_push_of_some _ z
  generalize h3.push { cls := .type "tuple", data := .seq #[.int (k : Nat) tk1, x] } = h4 at e4 t4 k4 x4
  show wpAny _ _ (Builtin.SmallTypes.ownedTupleIsFree (.ref ea) >>= _) _ _ ⟨h4, g, d, tk1 + 1, os⟩
  rw [hsz]
  refine wpAny_bind ?_; unfold Builtin.SmallTypes.ownedTupleIsFree
  refine wpAny_bind (wpAny_field e4 rfl (x := (.none)) rfl (wpAny_pure ?_))
  simp only [if_true]; refine wpAny_bind (wpAny_rule (wpAny_bind (wpAny_field e4 rfl (x := old) rfl (wpAny_bind (wpAny_setField_rec e4 (by simp) fun h5 e5 s5 => ?_)))))
  have s5 : Heap.SameBut ea h4 h5 := s5
  have e5 : IsEnum h5 ea ia ((k : Int) + 1) x := e5
  show wpAny _ _ (Builtin.SmallTypes.ownedTupleHandOut (.ref ea) (.ref hp.objs.size) >>= _) _ _ ⟨h5, g, d, tk1 + 1, os⟩
  refine wpAny_bind ?_; unfold Builtin.SmallTypes.ownedTupleHandOut
  refine wpAny_bind (wpAny_setField_rec e5 (by simp) fun h6 e6 s6 => ?_)
  have s6 : Heap.SameBut ea h5 h6 := s6
  have e6 : IsEnumOut h6 ea ia ((k : Int) + 1) x hp.objs.size := e6
  refine wpAny_setField_rec e6 (by simp) fun h7 e7 s7 => ?_
  have s7 : Heap.SameBut ea h6 h7 := s7
  have e7 : IsEnumOut h7 ea ia ((k : Int) + 1) x hp.objs.size := e7
  refine wpAny_bind (wpAny_letGo (wpAny_pure ⟨_, rfl, wpAny_pure (hq x h7 _ tk1 px e7 (J.but (J.but (J.but x4 s5.extBut ne) s6.extBut ne) s7.extBut ne) ?_ fun b o q1 q2 z => s7.extBut b o q1 (s6.extBut b o q1 (s5.extBut b o q1 (k4 b o q1 q2 z))))⟩))
  exact s7.extBut _ _ (Nat.ne_of_gt hel) (s6.extBut _ _ (Nat.ne_of_gt hel) (s5.extBut _ _ (Nat.ne_of_gt hel) t4))
theorem endEnum {Q : Option Value → Shared → Prop} (hh : A.handled = none) (J : Inner P w ia fp n Pv Sx) (he : IsEnum s.heap ea ia (k : Nat) old) (hx : Sx k s.heap) (hk : n ≤ k) (hq : ∀ h', Heap.ExtBut ia s.heap h' → Q none { s with heap := h' }) : wpAny (model P w) A (pyNext (.ref ea)) Q E s := by
  have ht : s.TypeIs (.ref ea) "enumerate" := ⟨_, he, rfl⟩
  unfold pyNext
  refine wpAny_bind (wpAny_attempt (wpAny_callSpecial?_slot (name := "__next__") ht F.slot_enumerate_next (wpAny_call_entry F.slot_enumerate_next ht F.entry_enumerate_next ?_ (F.args_enumerate_next_1 _))))
  show wpAny _ _ (field (.ref ea) 2 >>= _) _ _ _
  refine wpAny_bind (wpAny_field he rfl (x := .ref ia) rfl (wpAny_bind (J.done _ k _ _ _ hh hk hx fun h' e eb hs => ?_)))
  obtain ⟨oe, ho, hc⟩ := hs
  exact wpAny_bind (wpAny_isInstance (T := "StopIteration") (b := true) ⟨oe, ho, hc⟩ isSubtype_stop (wpAny_pure (hq _ eb)))
end
end DL

namespace DL
open PySem L2
def Ite (J : It) : It := ⟨J.go, fun i H v H' => ∃ p x, H p = none ∧ v = .ref p ∧ J.yld i H x H ∧ H' = upd H p (.tup [.int (i : Nat), x]), J.stop⟩
def EnSt (ea ia : Addr) (S : Nat → Heap → Prop) (n : Nat) (h : Heap) : Prop := (∃ old, IsEnum h ea ia (n : Nat) old) ∧ S n h
theorem turn_enum {P : Program} {w : World} {K : PySem.W.Frag} {J : It} {S : Nat → Heap → Prop} {es : List Expr} {kt} {pt : Pos} (ea ia : Addr) (ap : ea ≠ ia) (N : InIt P w K J ia S) (hself : ∀ (A : Around) (n : Nat) (s : Shared) (Q E : Value → Shared → Prop), (∃ old, IsEnum s.heap ea ia (n : Nat) old) → Q (.ref ea) s → wpAny (model P w) A (pyIter (.ref ea)) Q E s) : Turn P w K (.Tuple es kt pt) (Ite J) [ea, ia] ea (EnSt ea ia S) := by
  refine ⟨by simp, fun n h st b hb => ?_, fun n h h' st k => ?_, ?_, ?_, fun A n s Q E st q => hself A n s Q E st.1 q⟩
  · obtain ⟨⟨old, he⟩, hi⟩ := st
    simp only [List.mem_cons, List.not_mem_nil, or_false] at hb
    rcases hb with rfl | rfl
    · exact ⟨_, he, fun v e => by cases e⟩
    · exact N.obj n h hi
  · obtain ⟨⟨old, he⟩, hi⟩ := st
    exact ⟨⟨old, k ea (by simp) _ he⟩, N.keep n h h' hi (k ia (by simp))⟩
  · intro X hP hw hK hc n pins s σ H E I hf st hg
    have hg : J.go n H := hg
    obtain ⟨⟨old, he⟩, hi⟩ := st
    obtain ⟨fp, m, Pv, T, Z, s1, u1, go1, st1, y1, f1⟩ := N.got X hP hw hK n pins s σ H I (hf ia (by simp)) hi (.inl hg)
    subst hP hw hK
    have ne : ∀ b ∈ ia :: fp, b ≠ ea := fun b hb => (List.mem_cons.mp hb).elim (fun e => by rw [e]; exact Ne.symm ap) fun hb => (f1 b hb).far I (hf ea (by simp))
    refine nextEnum Z he s1 (go1 hg) ne fun x h' tk tki px q1 q2 q3 hk => ⟨_, rfl, ?_⟩
    obtain ⟨vx, rx, yx⟩ := y1 x px
    refine wpAny_letOwnedTupleGo_enum q1 fun h'' e1 e2 => ?_
    have nb : ∀ q ∈ [ea, ia], s.heap.objs.size ≠ q := fun q hq e => by
      have : ∃ ob, s.heap.get? q = some ob := by
        simp only [List.mem_cons, List.not_mem_nil, or_false] at hq
        rcases hq with rfl | rfl
        · exact ⟨_, he⟩
        · obtain ⟨ob, g, _⟩ := N.obj n _ hi; exact ⟨_, g⟩
      obtain ⟨ob, g⟩ := this
      exact absurd (Heap.lt_size g) (by rw [e]; exact Nat.lt_irrefl _)
    have keep : ∀ c ob, c ∉ [ea, ia] → s.heap.get? c = some ob → h''.get? c = some ob := fun c ob hc e => by
      simp only [List.mem_cons, List.not_mem_nil, or_false, not_or] at hc
      exact e2.extBut _ _ hc.1 (hk c ob hc.1 hc.2 e)
    have I1 : L2.Inv X pins σ H { s with heap := h'', toks := tk } := Inv.turns [ea, ia] I keep hf
    have hnew : h''.get? s.heap.objs.size = some { cls := .type "tuple", data := .seq #[.int (n : Nat) tki, x] } := e2.extBut _ _ (nb ea (by simp)) q3
    have fr : H s.heap.objs.size = none := I.hok.fresh (Nat.le_refl _)
    have I2 : L2.Inv X pins σ (upd H s.heap.objs.size (.tup [.int (n : Nat), vx])) { s with heap := h'', toks := tk } := by
      have un : Un (frs X.stack) [ea, ia] H (upd H s.heap.objs.size (.tup [.int (n : Nat), vx])) s.heap h'' := by
        refine ⟨fun c ob e _ _ hc => keep c ob hc e, fun c ob e _ _ hc => ⟨ob.slots, keep c ob hc e⟩, fun c ob e hn _ => ?_, fun c ob e hc => ⟨ob, keep c ob hc e⟩, fun c zs e => ?_, fun c ob u e => ?_, fun c ps e => ⟨#[], ?_⟩⟩
        · rw [upd_ne (Nat.ne_of_lt (Heap.lt_size e))]; exact hn
        · rw [upd_ne (ne_of_none e fr)]; exact e
        · rw [upd_ne (ne_of_none e fr)]; exact e
        · rw [upd_ne (ne_of_none e fr), e]; simp
      have hok : HOk X.prog X.w (upd H s.heap.objs.size (.tup [.int (n : Nat), vx])) h'' := by
        intro c u' e
        by_cases hc : c = s.heap.objs.size
        · subst hc
          rw [upd_same] at e; cases e
          exact ⟨by show 2 ≤ sizeLine; decide, [.int (n : Nat) tki, x], .cons ⟨_, rfl⟩ (.cons rx .nil), ⟨_, hnew, rfl, _, rfl⟩⟩
        · rw [upd_ne hc] at e
          refine (I1.hok c u' e).stay (fun _ _ _ q => q) (fun p q => ?_) fun p zs q => ?_
          · by_cases hp : p = s.heap.objs.size
            · subst hp; rw [fr] at q; cases q
            · rw [upd_ne hp]; exact q
          · by_cases hp : p = s.heap.objs.size
            · subst hp; rw [fr] at q; cases q
            · rw [upd_ne hp]; exact q
      exact I.call (t' := tk) (d' := s.drawn) un hok I.bare fun b hb => let ⟨_, f1, _, f3, f4, f5⟩ := hf b hb; ⟨f3, f1, f4, f5⟩
    refine ⟨.ref s.heap.objs.size, _, I2, rfl, ⟨_, vx, fr, rfl, yx, rfl⟩, ⟨⟨_, by exact_mod_cast e1⟩, ?_⟩, fun b hb => ?_⟩
    · exact u1 _ _ (Z.but q2 e2.extBut ne)
    · rw [upd_ne (Ne.symm (nb b hb))]; exact (hf b hb).1
  · intro X hP hw hK hc n pins s σ H E I hf st hg
    have hg : J.stop n H := hg
    obtain ⟨⟨old, he⟩, hi⟩ := st
    obtain ⟨fp, m, Pv, T, Z, s1, u1, go1, st1, y1, f1⟩ := N.got X hP hw hK n pins s σ H I (hf ia (by simp)) hi (.inr hg)
    subst hP hw hK
    refine endEnum (I.ok.hd hc) Z he s1 (st1 hg) fun h' eb => ⟨rfl, ?_⟩
    refine Inv.turns (t' := s.toks) [ea, ia] I (fun c ob hc e => ?_) hf
    simp only [List.mem_cons, List.not_mem_nil, or_false, not_or] at hc
    exact eb c ob hc.2 e
def enumL (ds : List D) : List D := ds.zipIdx.map fun q => .tup [.int (q.2 : Nat), q.1]
theorem enumL_get (ds : List D) (i : Nat) : (enumL ds)[i]? = (ds[i]?).map fun d => D.tup [.int (i : Nat), d] := by
  unfold enumL
  rw [List.getElem?_map, List.getElem?_zipIdx]
  cases ds[i]? <;> simp
theorem SrcAt.enum {K : PySem.W.Frag} {J : It} {ds : List D} {H : Hp} {hid μ : List Addr} (h1 : SrcAt K J (.val ds) H hid μ) : SrcAt K (Ite J) (.val (enumL ds)) H hid μ := by
  intro hid' H' μ' O' m c i
  have q1 : match ds[i]? with | some d => J.go i H' ∧ ∀ x H'', J.yld i H' x H'' → Ext H' μ' H'' μ' ∧ Cells K H'' hid' μ' O' ∧ Dat K H'' hid' μ' d x | none => J.stop i H' := h1 hid' H' μ' O' m c i
  show match (enumL ds)[i]? with | some d => _ | none => _
  rw [enumL_get]
  cases e1 : ds[i]? with
  | none => rw [e1] at q1; exact q1
  | some d1 =>
    rw [e1] at q1
    refine ⟨q1.1, fun v H'' yl => ?_⟩
    obtain ⟨p, x, hp, rfl, y1, rfl⟩ := yl
    exact ⟨.laid hp, c.laid hp, Dat.newT c hp (.cons dat_int (.cons (q1.2 x H' y1).2.2 .nil))⟩
section
variable {X : Cx} {Ex : Nat → Hp → Prop} {pos : Pos} {a b c e o : Expr} {ta tb tc te to : DE} {pins : List (Addr × Obj)} {σv : St} {H : Hp} {s : Shared} {hid μ : List Addr} {O : Ow}
theorem boot_enum : bootBuiltins "enumerate" = some (.type "enumerate") := by boot_by_name
theorem iter_enum {P : Program} {w : World} (ea ia : Addr) (A : Around) (n : Nat) (s : Shared) (Q E : Value → Shared → Prop) (h : ∃ old, IsEnum s.heap ea ia (n : Nat) old) (q : Q (.ref ea) s) : wpAny (model P w) A (pyIter (.ref ea)) Q E s := by
  obtain ⟨old, h⟩ := h
  have ht : s.TypeIs (.ref ea) "enumerate" := ⟨_, h, rfl⟩
  refine wpAny_pyIter_slot ht F.slot_enumerate_iter (wpAny_call_entry F.slot_enumerate_iter ht F.entry_enumerate_iter ?_ (F.args_enumerate_iter_1 _))
  show wpAny _ _ (ret (.ref ea)) _ _ s
  exact wpAny_pure ⟨_, rfl, "enumerate", _, ht, F.slot_enumerate_next.lookup, q⟩
end
end DL

namespace DL
open PySem L2
open PyProof.Rows hiding St
section
variable {X : Cx} {Ex : Nat → Hp → Prop} {pos : Pos} {a b c e o : Expr} {ta tb tc te to : DE} {pins : List (Addr × Obj)} {σv : L2.St} {H : Hp} {s : Shared} {hid μ : List Addr} {O : Ow}
/-! ### is True, is not True -/
/-! ### tuples put together, the first one perhaps empty -/
/-! ### the whole of a tuple, sliced -/
end
end DL

namespace DL
open PySem L2
section
variable {X : Cx} {Ex : Nat → Hp → Prop}
end
end DL

namespace DL
open PySem L2
section
variable {X : Cx} {Ex : Nat → Hp → Prop} {pos : Pos} {a b c e o : Expr} {ta tb tc te to : DE} {pins : List (Addr × Obj)} {σv : St} {H : Hp} {s : Shared} {hid μ : List Addr} {O : Ow}
/-! ### x.strip(y), x.upper() -/
/-! ### an int of the module -/
structure GInt (mg : Str → Option Value) (x : Str) (i : Int) : Prop where
  ex : ∃ t, mg x = some (.int i t)
theorem pd_gint {x : Str} {i : Int} (h : GInt X.mg x i) (hg : Gl X x := by rfl) (hd : (x == ("__debug__" : Str)) = false := by decide) : PD X Ex (.Name x pos) (dC (.int i)) := by
  obtain ⟨t, h⟩ := h.ex
  exact pd_of (pe_glob (v := .int i) hg h ⟨_, rfl⟩ hd) fun hid μ σ O σv H Q e1 c1 q => post.here q c1 dat_int
/-! ### f'..' -/
/-! ### tuple(text) -/
end
end DL

namespace DL
open PySem L2
section
variable {X : Cx} {Ex : Nat → Hp → Prop} {pos : Pos} {tg e : Expr} {te : DE}
end
end DL

namespace DL
open PySem L2 PySem.Spec PyProof.Rows
/-! ### a, b, c = .. -/
section
variable {X : Cx} {Ex : Nat → Hp → Prop} {pos : Pos} {tg e : Expr} {te : DE}
end
/-! ### xs[::-1] of a list -/
section
variable {X : Cx} {Ex : Nat → Hp → Prop} {pos p2 : Pos} {e st : Expr} {te : DE} {ts : DO}
end
end DL

namespace DL
open PySem L2 PySem.Spec PyProof.Rows
open Sem (wp)
/-! ### a tuple, twice -/
section
variable {X : Cx} {Ex : Nat → Hp → Prop}
end
end DL

namespace DL
open PySem L2 PySem.Spec PyProof.Rows
/-! ### how many unlike ones among ints -/
section
variable {X : Cx} {Ex : Nat → Hp → Prop} {pos pos2 p p2 : Pos} {e : Expr} {es : List Expr} {t : DA}
end
end DL
namespace DL
open PySem
end DL

namespace DL
open PySem L2
open AutoSeq1 (wpAny_loadPart')
section
variable {X : Cx} {Ex : Nat → Hp → Prop} {pos : Pos} {a b c e o : Expr} {ta tb tc te to : DE}
/-! ### bits -/
def gShr : Int → Int → Option D := fun i j => if 0 ≤ j then some (.int (i / 2 ^ j.toNat)) else none
def gAnd : Int → Int → Option D := gI Builtin.bitAnd
theorem opd_shr : OpD X Ex (rI (fun _ j => 0 ≤ j) fun i j => .int (i / 2 ^ j.toNat)) (fI gShr) := opd_int fun i j d h => by
  unfold gShr at h
  split at h
  · rename_i hc; cases h; exact ⟨hc, fun _ _ _ _ => dat_int⟩
  · cases h
theorem opd_and : OpD X Ex (rI0 fun i j => .int (Builtin.bitAnd i j)) (fI gAnd) := opd_int0 fun i j d h _ _ _ _ => by cases h; exact dat_int
/-! ### extend -/
theorem ext_meets (l : Addr) (xs : Array Value) (n : Nat) (b : Addr) (ys : Array Value) (m : Nat) (sl : Array (Option Value)) (hc0 : ¬(!xs.isEmpty && Builtin.List.listTooLong (xs.size + ys.size)) = true) (hc1 : xs.size ≤ sizeLine) (hs2 : xs.size + ys.size ≤ sizeLine + 1) :
    Meets (Builtin.«list.extend» ⟨[.ref l, .ref b], []⟩) (fun _ R s => s.heap.get? l = some { cls := .type "list", data := .seq xs n } ∧ s.heap.get? b = some { cls := .type "list", data := .seq ys m, slots := sl } ∧ R (.ok (.ret .none)) { s with heap := s.heap.update l (Obj.mapSeq fun x => x ++ ys) }) :=
  .of_wp fun prog w A R s h => by
    obtain ⟨hp, g, d, tk, os⟩ := s
    obtain ⟨gl, gb, h⟩ := h
    have f1 := AutoSeq1.sub_tuple_tuple
    have f2 := AutoSeq1.sub_list_list
    have f3 := AutoSeq1.sub_tuple_list
    have f4 := AutoSeq1.sub_list_tuple
    have hz : (xs ++ ys).size ≤ sizeLine + 1 := by rw [Array.size_append]; exact hs2
    wp_walk using (wpAny_updateSeq gl rfl (hz := hc1) (_hz' := hz)), wpAny_loadPart' gl, wpAny_loadPart' gb
    exact ⟨_, rfl, h⟩
def rExt (K : PySem.W.Frag) : V → List V → Hp → VK → Prop := fun x vs H Q => ∃ l b xs zs, x = .ref l ∧ vs = [.ref b] ∧ H l = some (.lst xs) ∧ SqL K H b zs ∧ xs.length + zs.length ≤ sizeLine ∧ Q .non (upd H l (.lst (xs ++ zs)))
theorem mt_ext : MtM X "list.extend" (rExt X.K) := by
  intro pins s σ H x vs v us Q I rx rv h
  obtain ⟨l, b, xs, zs, rfl, rfl, hH, hB, hz, q⟩ := h
  cases rx
  obtain ⟨u, rfl, ru⟩ := rv.one
  cases ru
  obtain ⟨z, its, n, r, hl, e⟩ := I.lstM hH
  obtain ⟨its2, r2, ⟨ob, n2, e2, hc2, hd2, hs2⟩, _⟩ := I.list hB
  obtain ⟨cc, dct, dt, sl⟩ := ob
  have hc2 : cc = .type "list" := hc2
  have hd2 : dct = none := hd2
  have hs2 : dt = .seq its2.toArray n2 := hs2
  subst hc2; subst hd2; subst hs2
  have hl2 := r2.length
  have hsz : its.toArray.size + its2.toArray.size ≤ sizeLine := by rw [List.size_toArray, List.size_toArray]; omega
  have hlong : ¬ (!its.toArray.isEmpty && Builtin.List.listTooLong (its.toArray.size + its2.toArray.size)) = true := by
    rw [notLongL hsz, Bool.and_false]
    exact Bool.false_ne_true
  refine call_meets F.slot_list_extend ⟨_, e, rfl⟩ F.entry_list_extend (F.args_list_extend_2 _ _)
    (ext_meets l its.toArray n b its2.toArray n2 sl hlong (by rw [List.size_toArray]; omega) (by omega)) ⟨e, e2, ?_⟩
  refine ⟨.non, _, I.lset (its' := its ++ its2) hH e (by simp) (r.append r2) ?_, rfl, q⟩
  rw [List.length_append]
  omega
def dExt (to : DE) (t : DA) : DE := fun σ O => (to σ O).bnd fun x O1 => match x with
  | .own k => (t σ O1).bnd fun ys O2 => match ys, O2[k]? with
    | [y], some ds => match lsV O2 y with
      | some es => if ds.length + es.length ≤ 100000 then .ok .non (O2.set k (ds ++ es)) else .bad
      | none => .bad
    | _, _ => .bad
  | _ => .bad
theorem pd_extend {o : Expr} {to : DE} {t : DA} {es : List Expr} {apos cpos : Pos} (ho : PD X Ex o to) (ha : PDA X Ex (e :: es) t) (hbase : attributeBase o "extend" X.env (eval o X.env) = eval o X.env := by rfl)
    (hfew : ((backTo cpos (starEach (e :: es) X.env)).all (fun x => !x.1) && (backToKw cpos (keywordEach [] X.env)).all (fun x => x.1.isSome) && decide ((e :: es).length + ([] : List Keyword).length + (if ([] : List Keyword).isEmpty then 0 else 1) < 30)) = true := by rfl)
    (hline : (apos.endLine == cpos.line) = true := by rfl) (hs : starEach (e :: es) X.env = (false, eval e X.env) :: starEach es X.env := by rfl) (hplain : (backTo cpos (starEach es X.env)).any (·.1) = false := by rfl) :
    PD X Ex (.Call (.Attribute o "extend" apos) (e :: es) [] cpos) (dExt to t) :=
  pd_of (pe_bm PySem.F.plainAttrs_list PySem.F.slot_list_extend PySem.F.type_list_extend mt_ext ho.out ha.out hbase hfew hline hs hplain) fun hid μ σ O σv H Q e1 c1 q => rd.go e1 c1 q fun d O1 v H1 μ1 e2 x cl r p => by
    cases d with
    | own k =>
      have hr := r
      unfold Dat at r
      obtain ⟨A, rfl, hk⟩ := r
      obtain ⟨ds, vs, h1, h2, h3⟩ := cl.at_ k A hk
      refine ⟨.inl ⟨rfl, vs, .of h2⟩, rdA.go e2 cl p fun ys O2 ws H2 μ2 e3 x3 c3 d3 p3 => ?_⟩
      split at p3
      · rename_i y es' hds
        split at p3
        · rename_i zs hz
          obtain ⟨hl, p3⟩ := post.ite p3
          obtain ⟨w, rfl, dw⟩ := dats1 d3
          have hk2 : μ2[k]? = some A := by
            have := hr.ext x3
            unfold Dat at this
            obtain ⟨A', e', hk'⟩ := this
            cases e'; exact hk'
          obtain ⟨ds2, vs2, g1, g2, g3⟩ := c3.at_ k A hk2
          rw [hds] at g1; cases g1
          obtain ⟨pb, vz, rfl, sq, dz⟩ := lsV_at c3 dw hz
          refine ⟨A, pb, vs2, vz, rfl, rfl, g2, sq, Nat.le_trans (by rw [← g3.length, ← dz.length]; exact hl) (by decide), ?_⟩
          exact post.ok p3 (.put (List.mem_of_getElem? hk2) ⟨_, g2⟩) (c3.put hk2 (g3.append dz)) dat_non
        · exact False.elim p3
      · exact False.elim p3
    | _ => exact False.elim p
end
/-! ### enumerate of texts, tuples, lists -/
set_option maxHeartbeats 1000000 in
theorem enum_newK (q : ZK) (va : Value) (ea : q.val = va) :
    Meets (Builtin.«enumerate.__new__» ⟨[.type "enumerate", va], []⟩) (fun _ R s => q.pre s.heap ∧
      R (.ok (.ret (.ref (s.heap.push q.obj).objs.size))) { s with heap := (s.heap.push q.obj).push { cls := .type "enumerate", data := .fields #[.none, .bool false, .ref s.heap.objs.size, rawInt 0, .none, .none] } }) :=
  .of_wp fun P w A R s h => by
    obtain ⟨hp, g, d, tk, os⟩ := s; obtain ⟨h1, h⟩ := h
    have hsub := sub_enumerate
    have i1 : ∀ {A : Around} {E : Value → Shared → Prop} {Q : Value → Shared → Prop}, Q (.ref hp.objs.size) ⟨hp.push q.obj, g, d, tk, os⟩ → wpAny (model P w) A (pyIter va) Q E ⟨hp, g, d, tk, os⟩ := fun {A E Q} hq => by rw [← ea]; exact q.iter (s := ⟨hp, g, d, tk, os⟩) h1 hq
    wp_walk
    refine wpAny_stack_any fun st => wpAny_pure (?_)
    split
    · rename_i cc _ _ _ _ _
      cases (cc == Value.type "enumerate")
      · wp_walk using i1
        exact ⟨_, rfl, h⟩
      · wp_walk using i1
        exact ⟨_, rfl, h⟩
    · wp_walk using i1
      exact ⟨_, rfl, h⟩
section
variable {P : Program} {w : World} {A : Around} {E : Value → Shared → Prop} {s : Shared}
theorem call_enumK (q : ZK) {Q : Value → Shared → Prop} (hT : q.pre s.heap)
    (h : ∀ h', IsEnum h' (s.heap.objs.size + 1) s.heap.objs.size 0 .none → h'.get? s.heap.objs.size = some q.obj → (∀ b o, s.heap.get? b = some o → h'.get? b = some o) → Q (.ref (s.heap.objs.size + 1)) { s with heap := h' }) :
    wpAny (model P w) A (call (.type "enumerate") [q.val]) Q E s := by
  refine callType_new F.called_enumerate (by decide) (F.typeCall_enumerate_1 _) (F.newCall_enumerate_1 _) (fun obj => F.args_object_init_2 obj _) F.entry_enumerate_new (enum_newK q _ rfl) ⟨hT, ?_⟩
  have fa : q.obj.isFreed = false := by cases q <;> rfl
  have hz : (s.heap.push q.obj).objs.size = s.heap.objs.size + 1 := Heap.size_push ..
  show _ ∧ _
  rw [hz]
  have he : IsEnum ((s.heap.push q.obj).push { cls := .type "enumerate", data := .fields #[.none, .bool false, .ref s.heap.objs.size, rawInt 0, .none, .none] }) (s.heap.objs.size + 1) s.heap.objs.size 0 .none := by
    have q := Heap.get?_push_size (s.heap.push q.obj) (o := { cls := .type "enumerate", data := .fields #[.none, .bool false, .ref s.heap.objs.size, rawInt 0, .none, .none] }) rfl
    rw [hz] at q; exact q
  exact ⟨⟨_, he, rfl⟩, h _ he (Heap.get?_push_of_some _ (Heap.get?_push_size _ fa)) fun b o x => Heap.get?_push_of_some _ (Heap.get?_push_of_some _ x)⟩
end
def dEnumW (t : DA) : DI := fun σ O => (t σ O).bnd fun xs O1 => match xs with
  | [x] => match zkD x with
    | some (.val ds) => .ok (.val (enumL ds)) O1
    | _ => .bad
  | _ => .bad
section
variable {X : Cx} {Ex : Nat → Hp → Prop} {pos : Pos} {a b c e o : Expr} {ta tb tc te to : DE} {pins : List (Addr × Obj)} {σv : St} {H : Hp} {s : Shared} {hid μ : List Addr} {O : Ow}
theorem pdi_enumW {es' : List Expr} {kt} {pt : Pos} {t : DA} {p : Pos} (hg : Gl X "enumerate") (hm : X.mg "enumerate" = none) (ha : PDA X Ex [a] t) (hs : starEach [a] X.env = [(false, eval a X.env)] := by rfl) :
    PDI X Ex (.Tuple es' kt pt) (.Call (.Name "enumerate" p) [a] [] pos) (dEnumW t) := by
  refine ⟨?_⟩
  rintro pins s σv H Rr I ⟨hid, μ, σ, O, e1, c1, q⟩
  refine PyProof.Rows.Call_ (ld_blt I hg hm boot_enum (PyProof.Rows.callWith_type1 (thn (ha.out pos pins s σv H _ I (rdA.go e1 c1 q (Q1 := fun vs H1 => ∃ hid μ1 O1 ds, Cells X.K H1 hid μ1 O1 ∧ Dats X.K H1 hid μ1 ds vs ∧
      post Ex X.K (fun H' μ' s J => SrcAt X.K J s H' hid μ') H1 hid μ1 (match ds with | [x] => (match zkD x with | some (.val ds) => .ok (.val (enumL ds)) O1 | _ => .bad) | _ => .bad) Rr)
    fun ds O1 vs H1 μ1 e2 x cl d p => ⟨hid, μ1, O1, ds, cl, d, p⟩)) fun us s1 ⟨vs, H1, I1, r1, hid, μ1, O1, ds, cl, d, p⟩ => ?_) (by rw [hs]; rfl) (by rfl)))
  split at p
  · rename_i x
    split at p
    · rename_i ts hz
      obtain ⟨v, rfl, dx⟩ := dats1 d
      obtain ⟨u1, rfl, ru1⟩ := vals1 r1
      obtain ⟨k1, J1, v1, p1, t1, i1⟩ := zk_at I1 cl dx ru1 hz
      rw [← v1]
      refine call_enumK k1 p1 fun h' g1 g2 hk => ?_
      refine iter_enum (s1.heap.objs.size + 1) s1.heap.objs.size _ 0 _ _ _ ⟨_, g1⟩ ?_
      have I2 : L2.Inv X pins σv H1 { s1 with heap := h', toks := s1.toks } := I1.kept hk
      obtain ⟨S1, N1, z1⟩ := i1 s1.heap.objs.size
      refine ⟨s1.heap.objs.size + 1, [s1.heap.objs.size + 1, s1.heap.objs.size], _, _, H1, rfl, I2, turn_enum _ _ (Nat.succ_ne_self _) N1 (iter_enum _ _), ⟨⟨_, g1⟩, z1 _ g2⟩, fun b hb => ?_, post.here p cl (.enum t1)⟩
      have hb' : s1.heap.objs.size ≤ b := by
        simp only [List.mem_cons, List.not_mem_nil, or_false] at hb
        rcases hb with rfl | rfl <;> omega
      exact I1.fpOk (H' := H1) hb' (I1.hok.fresh hb')
    · exact False.elim p
  · exact False.elim p
end
end DL

set_option maxHeartbeats 400000
namespace K61
open PySem L2 DL
def top (i : Nat) : Stmt := PySem.Challenge.pw_leastterms_k61_broad_terms.main.body.getD i (.Pass ⟨0, 0, 0, 0⟩)
def t_SWITCHES_BY_POINTS : List (Int × Int) := [(2, 1), (4, 2), (8, 3), (16, 4)]
structure Txt (K : PySem.W.Frag) (mg : Str → Option Value) : Prop where
  d_is_whole : FunAt K mg "is_whole" (top 4)
  d_is_whole_within : FunAt K mg "is_whole_within" (top 5)
  d_is_answer : FunAt K mg "is_answer" (top 8)
  d_is_function : FunAt K mg "is_function" (top 9)
  d_switches_of : FunAt K mg "switches_of" (top 10)
  d_all_terms : FunAt K mg "all_terms" (top 13)
  d_bits_of : FunAt K mg "bits_of" (top 14)
  d_points_of : FunAt K mg "points_of" (top 15)
  d_with_sign : FunAt K mg "with_sign" (top 16)
  d_holds_no_nought : FunAt K mg "holds_no_nought" (top 18)
  d_are_together : FunAt K mg "are_together" (top 21)
  d_need_together : FunAt K mg "need_together" (top 22)
  d_numbers_good_for : FunAt K mg "numbers_good_for" (top 23)
  d_is_broad : FunAt K mg "is_broad" (top 24)
  d_broad_terms : FunAt K mg "broad_terms" (top 25)
  d__law_take : FunAt K mg "_law_take" (top 27)
  d__law_function : FunAt K mg "_law_function" (top 28)
  d__law_together : FunAt K mg "_law_together" (top 29)
  d__law_cell_at : FunAt K mg "_law_cell_at" (top 30)
  d__law_state : FunAt K mg "_law_state" (top 31)
  d__law_same : FunAt K mg "_law_same" (top 32)
  d__law_holds : FunAt K mg "_law_holds" (top 33)
  d__law_good : FunAt K mg "_law_good" (top 34)
  d__law_good_for : FunAt K mg "_law_good_for" (top 35)
  d__law_terms : FunAt K mg "_law_terms" (top 36)
  d__law_switches : FunAt K mg "_law_switches" (top 37)
  d__law_lies_in : FunAt K mg "_law_lies_in" (top 38)
  d__law_broad : FunAt K mg "_law_broad" (top 39)
  d_law : FunAt K mg "law" (top 40)
  b_all : mg "all" = none
  b_any : mg "any" = none
  b_bool : mg "bool" = none
  b_enumerate : mg "enumerate" = none
  b_int : mg "int" = none
  b_isinstance : mg "isinstance" = none
  b_len : mg "len" = none
  b_list : mg "list" = none
  b_max : mg "max" = none
  b_min : mg "min" = none
  b_range : mg "range" = none
  b_str : mg "str" = none
  b_tuple : mg "tuple" = none
  b_zip : mg "zip" = none
  c_SIGNS : GStr mg "SIGNS" [45, 48, 49]
  k_SWITCHES_BY_POINTS : GTab K mg "SWITCHES_BY_POINTS" t_SWITCHES_BY_POINTS
  i_MOST_SWITCHES_TOGETHER : GInt mg "MOST_SWITCHES_TOGETHER" 3
theorem nd_0 : (["thing", "answer"] : List Str).Nodup := by decide +kernel
theorem nd_1 : (["n", "terms", "switch"] : List Str).Nodup := by decide +kernel
theorem nd_2 : (["n", "terms", "switch", "term", "sign"] : List Str).Nodup := by decide +kernel
theorem nd_3 : (["term", "points", "sign"] : List Str).Nodup := by decide +kernel
theorem nd_4 : (["term", "points", "sign", "point", "bit"] : List Str).Nodup := by decide +kernel
theorem nd_5 : (["function", "term", "point"] : List Str).Nodup := by decide +kernel
theorem nd_6 : (["thing", "n", "function"] : List Str).Nodup := by decide +kernel
theorem nd_7 : (["thing", "n"] : List Str).Nodup := by decide +kernel
theorem nd_8 : (["functions", "term", "number", "function"] : List Str).Nodup := by decide +kernel
theorem nd_9 : (["functions", "term", "numbers", "wider"] : List Str).Nodup := by decide +kernel
theorem nd_10 : (["functions", "term", "numbers", "wider", "switch", "sign"] : List Str).Nodup := by decide +kernel
theorem nd_11 : (["functions", "term", "numbers", "wider", "other"] : List Str).Nodup := by decide +kernel
theorem nd_12 : (["functions", "term"] : List Str).Nodup := by decide +kernel
theorem nd_13 : (["_law_state_here", "_law_many", "_law_found", "_law_stirred"] : List Str).Nodup := by decide +kernel
theorem nd_14 : (["_law_state_here", "_law_n", "_law_free", "_law_often", "_law_rest", "_law_found", "_law_point", "_law_answer"] : List Str).Nodup := by decide +kernel
theorem nd_15 : (["_law_state_here", "_law_n", "_law_found"] : List Str).Nodup := by decide +kernel
theorem nd_16 : (["_law_state_here", "_law_n", "_law_found", "_law_turn"] : List Str).Nodup := by decide +kernel
theorem nd_17 : (["_law_script", "_law_k", "_law_cell"] : List Str).Nodup := by decide +kernel
theorem nd_18 : (["_law_found", "_law_due", "_law_one", "_law_other"] : List Str).Nodup := by decide +kernel
theorem nd_19 : (["_law_term", "_law_point", "_law_n", "_law_k"] : List Str).Nodup := by decide +kernel
theorem nd_20 : (["_law_function_here", "_law_term", "_law_point"] : List Str).Nodup := by decide +kernel
theorem nd_21 : (["_law_functions", "_law_term", "_law_k"] : List Str).Nodup := by decide +kernel
theorem nd_22 : (["_law_n", "_law_found", "_law_turn", "_law_longer", "_law_term"] : List Str).Nodup := by decide +kernel
theorem nd_23 : (["_law_one", "_law_other", "_law_k"] : List Str).Nodup := by decide +kernel
theorem nd_24 : (["_law_functions", "_law_found", "_law_some", "_law_term", "_law_own", "_law_wider", "_law_other", "_law_more"] : List Str).Nodup := by decide +kernel
theorem nd_25 : (["_law_functions", "_law_found", "_law_some", "_law_term", "_law_own", "_law_wider", "_law_other", "_law_more", "_law_k"] : List Str).Nodup := by decide +kernel
theorem nd_26 : (["_law_script", "_law_k", "_law_functions", "_law_turn", "_law_found"] : List Str).Nodup := by decide +kernel
section
variable {P : Program} {w : World} {K : PySem.W.Frag} {mg : Str → Option Value} {base : Heap}
/-! ### is_whole -/
def B_is_whole : DS :=
  (sRet (dAnd (dIsi "int" (dVar 0)) (dNot (dIsi "bool" (dVar 0)))))
def F_is_whole : List D → Ow → R D := (runF 1 B_is_whole)
theorem sc_is_whole : FnScope ["thing"] ["thing"] (defScope (top 4)) := ⟨rfl, rfl, rfl, by decide +kernel, rfl, by decide +kernel, by decide +kernel⟩
theorem ok_is_whole (T : Txt K mg) : Callee P w K mg base "is_whole" 1 1 F_is_whole :=
  Callee.self (fnC (k := 0) T.d_is_whole sc_is_whole (fun _ _ _ _ _ _ us hl => match us, hl with | [_], _ => rfl) fun f cdv A outer s H E hr =>
    (pdss_one (pds_ret (pd_and (pd_isi (n := "int") (pd_var (i := 0) rfl (.inl rfl)) (by decide) rfl T.b_isinstance bt_isinstance rfl T.b_int bt_int) (pd_one (pd_not (pd_isi (n := "bool") (pd_var (i := 0) rfl (.inl rfl)) (by decide) rfl T.b_isinstance bt_isinstance rfl T.b_bool bt_bool)))))))
/-! ### switches_of -/
def B_switches_of : DS :=
  (sRet (dTab t_SWITCHES_BY_POINTS (dCall fLen (dCons (dVar 0) dNil))))
def F_switches_of : List D → Ow → R D := (runF 1 B_switches_of)
theorem sc_switches_of : FnScope ["function"] ["function"] (defScope (top 10)) := ⟨rfl, rfl, rfl, by decide +kernel, rfl, by decide +kernel, by decide +kernel⟩
theorem ok_switches_of (T : Txt K mg) : Callee P w K mg base "switches_of" 1 1 F_switches_of :=
  Callee.self (fnC (k := 0) T.d_switches_of sc_switches_of (fun _ _ _ _ _ _ us hl => match us, hl with | [_], _ => rfl) fun f cdv A outer s H E hr =>
    (pdss_one (pds_ret (pd_gtab T.k_SWITCHES_BY_POINTS rfl (pd_callB call_len cd_len rfl T.b_len bt_len (pda_cons (pd_var (i := 0) rfl (.inl rfl)) pda_nil se_name)) (fun _ _ => rfl)))))
/-! ### all_terms -/
def B_all_terms : DS :=
  (sSeq (sSet 1 (dLst (dCons (dC (.str [])) dNil))) (sSeq (sFor (dRng1 (dCons (dVar 0) dNil)) (.one 2) (sSet 1 (dComp false 2 (dIt (dVar 1)) (.one 3) [] (⟨(dIt (dC (.str [45, 48, 49]))), (.one 4), []⟩ :: []) (dOp fAdd (dVar 3) (dVar 4))))) (sRet (dVar 1))))
def F_all_terms : List D → Ow → R D := (runF 3 B_all_terms)
theorem sc_all_terms : FnScope ["n", "terms", "switch"] ["n"] (defScope (top 13)) := ⟨rfl, rfl, rfl, by decide +kernel, rfl, by decide +kernel, by decide +kernel⟩
theorem ok_all_terms (T : Txt K mg) : Callee P w K mg base "all_terms" 1 1 F_all_terms :=
  Callee.self (fnC (k := 0) T.d_all_terms sc_all_terms (fun _ _ _ _ _ _ us hl => match us, hl with | [_], _ => rfl) fun f cdv A outer s H E hr =>
    (pdss_cons (pds_set (i := 1) nd_1 rfl (.inl rfl) (pd_lst (pda_cons (pd_str [] rfl) pda_nil se_const))) (pdss_cons (pds_for PassesOwn.never rfl (pdi_range1 rfl T.b_range (pda_cons (pd_var (i := 0) rfl (.inl rfl)) pda_nil se_name)) (pg_one (i := 2) nd_1 rfl (.inl rfl) (.inl rfl)) (pdss_one (pds_setComp (i := 1) false ["term", "sign"] rfl nd_1 rfl rfl (pdi_seq (pd_var (i := 1) rfl (.inl rfl))) (bok_of (by kernel_rfl)) (fun _ _ _ _ _ => ⟨(pg_one (i := 3) nd_2 rfl (.inl rfl) (.inr rfl)), .nil, (ClsOk.cons (c := ⟨(dIt (dC (.str [45, 48, 49]))), (.one 4), []⟩) (pdi_seq (pd_gstr T.c_SIGNS)) (fun _ => rfl) (pg_one (i := 4) nd_2 rfl (.inl rfl) (.inr rfl)) .nil .nil), (pd_add (pd_var (i := 3) rfl (.inl rfl)) (pd_var (i := 4) rfl (.inl rfl)))⟩) rfl))) (pdss_one (pds_ret (pd_var (i := 1) rfl (.inl rfl)))))))
/-! ### bits_of -/
def B_bits_of : DS :=
  (sSeq (sIf (dTst (dOp (fPy eqF) (dVar 0) (dC (.str [45])))) (sRet (dLst (dCons (dC (.int 0)) (dCons (dC (.int 1)) dNil)))) sNil) (sRet (dLst (dCons (dCall fIntA (dCons (dVar 0) dNil)) dNil))))
def F_bits_of : List D → Ow → R D := (runF 1 B_bits_of)
theorem sc_bits_of : FnScope ["sign"] ["sign"] (defScope (top 14)) := ⟨rfl, rfl, rfl, by decide +kernel, rfl, by decide +kernel, by decide +kernel⟩
theorem ok_bits_of (T : Txt K mg) : Callee P w K mg base "bits_of" 1 1 F_bits_of :=
  Callee.self (fnC (k := 0) T.d_bits_of sc_bits_of (fun _ _ _ _ _ _ us hl => match us, hl with | [_], _ => rfl) fun f cdv A outer s H E hr =>
    (pdss_cons (pds_if (pdt_cmp (op_eqPy hr.units) opd_py (pd_var (i := 0) rfl (.inl rfl)) (pd_str [45] rfl) (nomark _)) (pdss_one (pds_ret (pd_lst (pda_cons pd_int (pda_cons pd_int pda_nil se_const) se_const)))) pdss_nil) (pdss_one (pds_ret (pd_lst (pda_cons (pd_callTy call_intA cd_intA rfl T.b_int bt_int (pda_cons (pd_var (i := 0) rfl (.inl rfl)) pda_nil se_name)) pda_nil se_call))))))
/-! ### with_sign -/
def B_with_sign : DS :=
  (sRet (dOp fAdd (dOp fAdd (dSl (dVar 0) oNone (oSome (dVar 1))) (dVar 2)) (dSl (dVar 0) (oSome (dOp fAdd (dVar 1) (dC (.int 1)))) oNone)))
def F_with_sign : List D → Ow → R D := (runF 3 B_with_sign)
theorem sc_with_sign : FnScope ["term", "switch", "sign"] ["term", "switch", "sign"] (defScope (top 16)) := ⟨rfl, rfl, rfl, by decide +kernel, rfl, by decide +kernel, by decide +kernel⟩
theorem ok_with_sign (T : Txt K mg) : Callee P w K mg base "with_sign" 1 3 F_with_sign :=
  Callee.self (fnC (k := 0) T.d_with_sign sc_with_sign (fun _ _ _ _ _ _ us hl => match us, hl with | [_, _, _], _ => rfl) fun f cdv A outer s H E hr =>
    (pdss_one (pds_ret (pd_add (pd_add (pd_sl (pd_var (i := 0) rfl (.inl rfl)) pdo_none (pdo_some (pd_var (i := 1) rfl (.inl rfl)))) (pd_var (i := 2) rfl (.inl rfl))) (pd_sl (pd_var (i := 0) rfl (.inl rfl)) (pdo_some (pd_add (pd_var (i := 1) rfl (.inl rfl)) pd_int)) pdo_none)))))
/-! ### _law_take -/
def B__law_take : DS :=
  (sSeq (sIf (dTru (dOp fIx (dVar 0) (dC (.int 1)))) (sSeq (sSet 2 (dOp (fI gMod) (dOp fIx (dVar 0) (dC (.int 0))) (dVar 1))) (sSeq (sPut (dOp (fI gDiv) (dOp fIx (dVar 0) (dC (.int 0))) (dVar 1)) (dVar 0) (dC (.int 0))) (sRet (dVar 2)))) sNil) (sSeq (sPut (dOp (fI gMod) (dOp fAdd (dOp (fI gMul) (dOp fIx (dVar 0) (dC (.int 0))) (dC (.int 48271))) (dC (.int 29))) (dC (.int 2147483647))) (dVar 0) (dC (.int 0))) (sSeq (sSet 3 (dOp (fI gMod) (dOp fAdd (dOp fAdd (dOp (fI gMul) (dOp fIx (dVar 0) (dC (.int 0))) (dOp fIx (dVar 0) (dC (.int 0)))) (dOp (fI gMul) (dC (.int 39373)) (dOp fIx (dVar 0) (dC (.int 0))))) (dC (.int 7))) (dC (.int 2147483629)))) (sSeq (sSet 3 (dOp (fI gMod) (dOp fAdd (dOp (fI gMul) (dVar 3) (dVar 3)) (dOp (fI gMul) (dC (.int 16807)) (dVar 3))) (dC (.int 2147483587)))) (sRet (dOp (fI gMod) (dOp (fI gDiv) (dVar 3) (dC (.int 8))) (dVar 1)))))))
def F__law_take : List D → Ow → R D := (runF 4 B__law_take)
theorem sc__law_take : FnScope ["_law_state_here", "_law_many", "_law_found", "_law_stirred"] ["_law_state_here", "_law_many"] (defScope (top 27)) := ⟨rfl, rfl, rfl, by decide +kernel, rfl, by decide +kernel, by decide +kernel⟩
theorem ok__law_take (T : Txt K mg) : Callee P w K mg base "_law_take" 1 2 F__law_take :=
  Callee.self (fnC (k := 0) T.d__law_take sc__law_take (fun _ _ _ _ _ _ us hl => match us, hl with | [_, _], _ => rfl) fun f cdv A outer s H E hr =>
    (pdss_cons (pds_if (pdt_tru (pd_ix (pd_var (i := 0) rfl (.inl rfl)) pd_int (fun _ _ => rfl)) (fun _ => rfl)) (pdss_cons (pds_set (i := 2) nd_13 rfl (.inl rfl) (pd_op op_mod opd_mod (pd_ix (pd_var (i := 0) rfl (.inl rfl)) pd_int (fun _ _ => rfl)) (pd_var (i := 1) rfl (.inl rfl)))) (pdss_cons (pds_put (pd_op op_fdiv opd_div (pd_ix (pd_var (i := 0) rfl (.inl rfl)) pd_int (fun _ _ => rfl)) (pd_var (i := 1) rfl (.inl rfl))) (pd_var (i := 0) rfl (.inl rfl)) pd_int) (pdss_one (pds_ret (pd_var (i := 2) rfl (.inl rfl)))))) pdss_nil) (pdss_cons (pds_put (pd_op op_mod opd_mod (pd_add (pd_op op_mul opd_mul (pd_ix (pd_var (i := 0) rfl (.inl rfl)) pd_int (fun _ _ => rfl)) pd_int) pd_int) pd_int) (pd_var (i := 0) rfl (.inl rfl)) pd_int) (pdss_cons (pds_set (i := 3) nd_13 rfl (.inl rfl) (pd_op op_mod opd_mod (pd_add (pd_add (pd_op op_mul opd_mul (pd_ix (pd_var (i := 0) rfl (.inl rfl)) pd_int (fun _ _ => rfl)) (pd_ix (pd_var (i := 0) rfl (.inl rfl)) pd_int (fun _ _ => rfl))) (pd_op op_mul opd_mul pd_int (pd_ix (pd_var (i := 0) rfl (.inl rfl)) pd_int (fun _ _ => rfl)))) pd_int) pd_int)) (pdss_cons (pds_set (i := 3) nd_13 rfl (.inl rfl) (pd_op op_mod opd_mod (pd_add (pd_op op_mul opd_mul (pd_var (i := 3) rfl (.inl rfl)) (pd_var (i := 3) rfl (.inl rfl))) (pd_op op_mul opd_mul pd_int (pd_var (i := 3) rfl (.inl rfl)))) pd_int)) (pdss_one (pds_ret (pd_op op_mod opd_mod (pd_op op_fdiv opd_div (pd_var (i := 3) rfl (.inl rfl)) pd_int) (pd_var (i := 1) rfl (.inl rfl))))))))))
/-! ### _law_cell_at -/
def B__law_cell_at : DS :=
  (sSeq (sIf (dTst (dOp fLt (dVar 1) (dCall fLen (dCons (dVar 0) dNil)))) (sRet (dOp fIx (dVar 0) (dVar 1))) sNil) (sRet (dC (.int 0))))
def F__law_cell_at : List D → Ow → R D := (runF 2 B__law_cell_at)
theorem sc__law_cell_at : FnScope ["_law_script", "_law_k"] ["_law_script", "_law_k"] (defScope (top 30)) := ⟨rfl, rfl, rfl, by decide +kernel, rfl, by decide +kernel, by decide +kernel⟩
theorem ok__law_cell_at (T : Txt K mg) : Callee P w K mg base "_law_cell_at" 1 2 F__law_cell_at :=
  Callee.self (fnC (k := 0) T.d__law_cell_at sc__law_cell_at (fun _ _ _ _ _ _ us hl => match us, hl with | [_, _], _ => rfl) fun f cdv A outer s H E hr =>
    (pdss_cons (pds_if (pdt_cmp op_lt opd_lt (pd_var (i := 1) rfl (.inl rfl)) (pd_callB call_len cd_len rfl T.b_len bt_len (pda_cons (pd_var (i := 0) rfl (.inl rfl)) pda_nil se_name)) (nomark _)) (pdss_one (pds_ret (pd_ix (pd_var (i := 0) rfl (.inl rfl)) (pd_var (i := 1) rfl (.inl rfl)) (fun _ _ => rfl)))) pdss_nil) (pdss_one (pds_ret pd_int))))
/-! ### _law_same -/
def B__law_same (F : List D → Ow → R D) : DS :=
  (sSeq (sIf (dTru (dIsi2 "tuple" "list" (dVar 1))) (sSeq (sIf (dOrT (dTst (dOp (fPy neF) (dIsi "tuple" (dVar 0)) (dIsi "tuple" (dVar 1)))) (dTst (dOp (fPy neF) (dIsi "list" (dVar 0)) (dIsi "list" (dVar 1))))) (sRet (dC (.bl false))) sNil) (sSeq (sIf (dTst (dOp (fPy neF) (dCall fLen (dCons (dVar 0) dNil)) (dCall fLen (dCons (dVar 1) dNil)))) (sRet (dC (.bl false))) sNil) (sRet (dCall fAll (dCons (dComp false 2 (dZip (dCons (dVar 0) (dCons (dVar 1) dNil))) (.two 2 3) [] [] (dFn 2 F (dCons (dVar 2) (dCons (dVar 3) dNil)))) dNil))))) sNil) (sRet (dAnd (dOp (fPy eqF) (dVar 0) (dVar 1)) (dOp (fPy eqF) (dIsi "bool" (dVar 0)) (dIsi "bool" (dVar 1))))))
def F__law_same_ : Nat → List D → Ow → R D
  | 0 => fun _ _ => .bad
  | k + 1 => (runF 2 (B__law_same (F__law_same_ k)))
theorem sc__law_same : FnScope ["_law_found", "_law_due"] ["_law_found", "_law_due"] (defScope (top 32)) := ⟨rfl, rfl, rfl, by decide +kernel, rfl, by decide +kernel, by decide +kernel⟩
theorem ok__law_same_ (T : Txt K mg) : ∀ k, Callee P w K mg base "_law_same" (1 + k) 2 (F__law_same_ k)
  | 0 => Callee.bad (F := runF 2 sBad) (fnC T.d__law_same sc__law_same (fun _ _ _ _ _ _ us hl => match us, hl with | [_, _], _ => rfl) fun f cdv A outer s H E hr => pdss_bad)
  | k + 1 => Callee.self (fnC (k := 1 + k) T.d__law_same sc__law_same (fun _ _ _ _ _ _ us hl => match us, hl with | [_, _], _ => rfl) fun f cdv A outer s H E hr =>
    have c_self := ok__law_same_ T k
    (pdss_cons (pds_if (pdt_tru (pd_isi2 (n := "tuple") (n' := "list") (pd_var (i := 1) rfl (.inl rfl)) (by decide) (by decide) rfl T.b_isinstance bt_isinstance rfl T.b_tuple bt_tuple rfl T.b_list bt_list) (fun _ => rfl)) (pdss_cons (pds_if (PDW.pt (pwd_or (pdt_cmp (op_nePy hr.units) opd_py (pd_isi (n := "tuple") (pd_var (i := 0) rfl (.inl rfl)) (by decide) rfl T.b_isinstance bt_isinstance rfl T.b_tuple bt_tuple) (pd_isi (n := "tuple") (pd_var (i := 1) rfl (.inl rfl)) (by decide) rfl T.b_isinstance bt_isinstance rfl T.b_tuple bt_tuple) (nomark _)) (pwd_or1 (pdt_cmp (op_nePy hr.units) opd_py (pd_isi (n := "list") (pd_var (i := 0) rfl (.inl rfl)) (by decide) rfl T.b_isinstance bt_isinstance rfl T.b_list bt_list) (pd_isi (n := "list") (pd_var (i := 1) rfl (.inl rfl)) (by decide) rfl T.b_isinstance bt_isinstance rfl T.b_list bt_list) (nomark _))))) (pdss_one (pds_ret pd_bl)) pdss_nil) (pdss_cons (pds_if (pdt_cmp (op_nePy hr.units) opd_py (pd_callB call_len cd_len rfl T.b_len bt_len (pda_cons (pd_var (i := 0) rfl (.inl rfl)) pda_nil se_name)) (pd_callB call_len cd_len rfl T.b_len bt_len (pda_cons (pd_var (i := 1) rfl (.inl rfl)) pda_nil se_name)) (nomark _)) (pdss_one (pds_ret pd_bl)) pdss_nil) (pdss_one (pds_ret (pd_callB (call_allB rfl) cd_all rfl T.b_all bt_all (pda_cons (pd_comp false ["_law_one", "_law_other"] rfl (pdi_zip rfl T.b_zip (pda_cons (pd_var (i := 0) rfl (.inl rfl)) (pda_cons (pd_var (i := 1) rfl (.inl rfl)) pda_nil se_name) se_name)) (bok_of (by kernel_rfl)) (fun _ _ _ _ _ => ⟨(pg_two (i := 2) (j := 3) rfl nd_18 rfl rfl (.inl rfl) (.inl rfl) (.inr rfl) (.inr rfl)), .nil, .nil, (pd_fnC c_self hr (Nat.le_refl _) rfl (pda_cons (pd_var (i := 2) rfl (.inl rfl)) (pda_cons (pd_var (i := 3) rfl (.inl rfl)) pda_nil se_name) se_name))⟩)) pda_nil se_comp)))))) pdss_nil) (pdss_one (pds_ret (pd_and (pd_cmp (op_eqPy hr.units) opd_py (pd_var (i := 0) rfl (.inl rfl)) (pd_var (i := 1) rfl (.inl rfl)) (nomark _)) (pd_one (pd_cmp (op_eqPy hr.units) opd_py (pd_isi (n := "bool") (pd_var (i := 0) rfl (.inl rfl)) (by decide) rfl T.b_isinstance bt_isinstance rfl T.b_bool bt_bool) (pd_isi (n := "bool") (pd_var (i := 1) rfl (.inl rfl)) (by decide) rfl T.b_isinstance bt_isinstance rfl T.b_bool bt_bool) (nomark _))))))))
def F__law_same : List D → Ow → R D := F__law_same_ 4
theorem ok__law_same (T : Txt K mg) : Callee P w K mg base "_law_same" 5 2 F__law_same := ok__law_same_ T 4
/-! ### _law_holds -/
def B__law_holds : DS :=
  (sSeq (sSet 2 (dCall fLen (dCons (dVar 0) dNil))) (sSeq (sFor (dRng1 (dCons (dVar 2) dNil)) (.one 3) (sIf (dAndT (dTst (dOp (fPy neF) (dOp fIx (dVar 0) (dVar 3)) (dC (.str [45])))) (dTst (dOp (fPy neF) (dOp fIx (dVar 0) (dVar 3)) (dCall fStrI (dCons (dOp (fI gAnd) (dOp (fI gShr) (dVar 1) (dOp (fI gSub) (dOp (fI gSub) (dVar 2) (dC (.int 1))) (dVar 3))) (dC (.int 1))) dNil))))) (sRet (dC (.bl false))) sNil)) (sRet (dC (.bl true)))))
def F__law_holds : List D → Ow → R D := (runF 4 B__law_holds)
theorem sc__law_holds : FnScope ["_law_term", "_law_point", "_law_n", "_law_k"] ["_law_term", "_law_point"] (defScope (top 33)) := ⟨rfl, rfl, rfl, by decide +kernel, rfl, by decide +kernel, by decide +kernel⟩
theorem ok__law_holds (T : Txt K mg) : Callee P w K mg base "_law_holds" 1 2 F__law_holds :=
  Callee.self (fnC (k := 0) T.d__law_holds sc__law_holds (fun _ _ _ _ _ _ us hl => match us, hl with | [_, _], _ => rfl) fun f cdv A outer s H E hr =>
    (pdss_cons (pds_set (i := 2) nd_19 rfl (.inl rfl) (pd_callB call_len cd_len rfl T.b_len bt_len (pda_cons (pd_var (i := 0) rfl (.inl rfl)) pda_nil se_name))) (pdss_cons (pds_for PassesOwn.never rfl (pdi_range1 rfl T.b_range (pda_cons (pd_var (i := 2) rfl (.inl rfl)) pda_nil se_name)) (pg_one (i := 3) nd_19 rfl (.inl rfl) (.inl rfl)) (pdss_one (pds_if (PDW.pt (pwd_and (pdt_cmp (op_nePy hr.units) opd_py (pd_ix (pd_var (i := 0) rfl (.inl rfl)) (pd_var (i := 3) rfl (.inl rfl)) (fun _ _ => rfl)) (pd_str [45] rfl) (nomark _)) (pwd_and1 (pdt_cmp (op_nePy hr.units) opd_py (pd_ix (pd_var (i := 0) rfl (.inl rfl)) (pd_var (i := 3) rfl (.inl rfl)) (fun _ _ => rfl)) (pd_callTy call_str_int cd_strI rfl T.b_str bt_str (pda_cons (pd_op op_and opd_and (pd_op op_shr opd_shr (pd_var (i := 1) rfl (.inl rfl)) (pd_op op_sub opd_sub (pd_op op_sub opd_sub (pd_var (i := 2) rfl (.inl rfl)) pd_int) (pd_var (i := 3) rfl (.inl rfl)))) pd_int) pda_nil se_bin)) (nomark _))))) (pdss_one (pds_ret pd_bl)) pdss_nil))) (pdss_one (pds_ret pd_bl)))))
/-! ### _law_terms -/
def B__law_terms : DS :=
  (sSeq (sSet 1 (dLst (dCons (dC (.str [])) dNil))) (sSeq (sFor (dRng1 (dCons (dVar 0) dNil)) (.one 2) (sSeq (sSet 3 (dLstO dNil)) (sSeq (sFor (dIt (dVar 1)) (.one 4) (sDrop (dExt (dVar 3) (dCons (dLst (dCons (dOp fAdd (dVar 4) (dC (.str [45]))) (dCons (dOp fAdd (dVar 4) (dC (.str [48]))) (dCons (dOp fAdd (dVar 4) (dC (.str [49]))) dNil)))) dNil)))) (sSet 1 (dVar 3))))) (sRet (dVar 1))))
def F__law_terms : List D → Ow → R D := frzF (runF 5 B__law_terms)
theorem sc__law_terms : FnScope ["_law_n", "_law_found", "_law_turn", "_law_longer", "_law_term"] ["_law_n"] (defScope (top 36)) := ⟨rfl, rfl, rfl, by decide +kernel, rfl, by decide +kernel, by decide +kernel⟩
theorem ok__law_terms (T : Txt K mg) : Callee P w K mg base "_law_terms" 1 1 F__law_terms :=
  Callee.frz (fnC (k := 0) T.d__law_terms sc__law_terms (fun _ _ _ _ _ _ us hl => match us, hl with | [_], _ => rfl) fun f cdv A outer s H E hr =>
    (pdss_cons (pds_set (i := 1) nd_22 rfl (.inl rfl) (pd_lst (pda_cons (pd_str [] rfl) pda_nil se_const))) (pdss_cons (pds_for PassesOwn.never rfl (pdi_range1 rfl T.b_range (pda_cons (pd_var (i := 0) rfl (.inl rfl)) pda_nil se_name)) (pg_one (i := 2) nd_22 rfl (.inl rfl) (.inl rfl)) (pdss_cons (pds_set (i := 3) nd_22 rfl (.inl rfl) (pd_lstO pda_nil)) (pdss_cons (pds_for PassesOwn.never rfl (pdi_seq (pd_var (i := 1) rfl (.inl rfl))) (pg_one (i := 4) nd_22 rfl (.inl rfl) (.inl rfl)) (pdss_one (pds_expr (pd_extend (pd_var (i := 3) rfl (.inl rfl)) (pda_cons (pd_lst (pda_cons (pd_add (pd_var (i := 4) rfl (.inl rfl)) (pd_str [45] rfl)) (pda_cons (pd_add (pd_var (i := 4) rfl (.inl rfl)) (pd_str [48] rfl)) (pda_cons (pd_add (pd_var (i := 4) rfl (.inl rfl)) (pd_str [49] rfl)) pda_nil se_bin) se_bin) se_bin)) pda_nil se_list))))) (pdss_one (pds_set (i := 1) nd_22 rfl (.inl rfl) (pd_var (i := 3) rfl (.inl rfl))))))) (pdss_one (pds_ret (pd_var (i := 1) rfl (.inl rfl)))))))
/-! ### _law_switches -/
def B__law_switches : DS :=
  (sRet (dDis [(2, 1), (4, 2), (8, 3), (16, 4)] (dCall fLen (dCons (dVar 0) dNil))))
def F__law_switches : List D → Ow → R D := (runF 1 B__law_switches)
theorem sc__law_switches : FnScope ["_law_function_here"] ["_law_function_here"] (defScope (top 37)) := ⟨rfl, rfl, rfl, by decide +kernel, rfl, by decide +kernel, by decide +kernel⟩
theorem ok__law_switches (T : Txt K mg) : Callee P w K mg base "_law_switches" 1 1 F__law_switches :=
  Callee.self (fnC (k := 0) T.d__law_switches sc__law_switches (fun _ _ _ _ _ _ us hl => match us, hl with | [_], _ => rfl) fun f cdv A outer s H E hr =>
    (pdss_one (pds_ret (by exact pd_tab [(2, 1), (4, 2), (8, 3), (16, 4)] (pps_cons pe_int pe_int (pps_cons pe_int pe_int (pps_cons pe_int pe_int (pps_cons pe_int pe_int pps_nil)))) rfl rfl rfl (List.cons_ne_nil _ _) (Nat.le_of_ble_eq_true rfl) (Nat.le_of_ble_eq_true rfl) (hu_of hr) (pd_callB call_len cd_len rfl T.b_len bt_len (pda_cons (pd_var (i := 0) rfl (.inl rfl)) pda_nil se_name)) (fun _ _ => rfl)))))
/-! ### _law_lies_in -/
def B__law_lies_in : DS :=
  (sRet (dOp (fPy eqF) (dComp false 1 (dRng1 (dCons (dCall fLen (dCons (dVar 0) dNil)) dNil)) (.one 2) [(dAndT (dTst (dOp (fPy neF) (dOp fIx (dVar 1) (dVar 2)) (dC (.str [45])))) (dTst (dOp (fPy neF) (dOp fIx (dVar 1) (dVar 2)) (dOp fIx (dVar 0) (dVar 2)))))] [] (dVar 2)) (dLst dNil)))
def F__law_lies_in : List D → Ow → R D := (runF 2 B__law_lies_in)
theorem sc__law_lies_in : FnScope ["_law_one", "_law_other"] ["_law_one", "_law_other"] (defScope (top 38)) := ⟨rfl, rfl, rfl, by decide +kernel, rfl, by decide +kernel, by decide +kernel⟩
theorem ok__law_lies_in (T : Txt K mg) : Callee P w K mg base "_law_lies_in" 1 2 F__law_lies_in :=
  Callee.self (fnC (k := 0) T.d__law_lies_in sc__law_lies_in (fun _ _ _ _ _ _ us hl => match us, hl with | [_, _], _ => rfl) fun f cdv A outer s H E hr =>
    (pdss_one (pds_ret (pd_cmp (op_eqPy hr.units) opd_py (pd_comp false ["_law_k"] rfl (pdi_range1 rfl T.b_range (pda_cons (pd_callB call_len cd_len rfl T.b_len bt_len (pda_cons (pd_var (i := 0) rfl (.inr (.inl rfl))) pda_nil se_name)) pda_nil se_call)) (bok_of (by kernel_rfl)) (fun _ _ _ _ _ => ⟨(pg_one (i := 2) nd_23 rfl (.inl rfl) (.inr rfl)), (.cons (PDW.pt (pwd_and (pdt_cmp (op_nePy hr.units) opd_py (pd_ix (pd_var (i := 1) rfl (.inr (.inl rfl))) (pd_var (i := 2) rfl (.inl rfl)) (fun _ _ => rfl)) (pd_str [45] rfl) (nomark _)) (pwd_and1 (pdt_cmp (op_nePy hr.units) opd_py (pd_ix (pd_var (i := 1) rfl (.inr (.inl rfl))) (pd_var (i := 2) rfl (.inl rfl)) (fun _ _ => rfl)) (pd_ix (pd_var (i := 0) rfl (.inr (.inl rfl))) (pd_var (i := 2) rfl (.inl rfl)) (fun _ _ => rfl)) (nomark _))))) .nil), .nil, (pd_var (i := 2) rfl (.inl rfl))⟩)) (pd_lst pda_nil) (nomark _)))))
/-! ### is_whole_within -/
def B_is_whole_within : DS :=
  (sRet (dAnd (dFn 1 F_is_whole (dCons (dVar 0) dNil)) (dChain fLe fLe (dVar 1) (dVar 0) (dVar 2))))
def F_is_whole_within : List D → Ow → R D := (runF 3 B_is_whole_within)
theorem sc_is_whole_within : FnScope ["thing", "least", "most"] ["thing", "least", "most"] (defScope (top 5)) := ⟨rfl, rfl, rfl, by decide +kernel, rfl, by decide +kernel, by decide +kernel⟩
theorem ok_is_whole_within (T : Txt K mg) (c_is_whole : Callee P w K mg base "is_whole" 1 1 F_is_whole) : Callee P w K mg base "is_whole_within" 2 3 F_is_whole_within :=
  Callee.self (fnC (k := 1) T.d_is_whole_within sc_is_whole_within (fun _ _ _ _ _ _ us hl => match us, hl with | [_, _, _], _ => rfl) fun f cdv A outer s H E hr =>
    (pdss_one (pds_ret (pd_and (pd_fnC c_is_whole hr (by decide) rfl (pda_cons (pd_var (i := 0) rfl (.inl rfl)) pda_nil se_name)) (pd_one (pd_chain op_le opd_le op_le opd_le (pd_var (i := 1) rfl (.inl rfl)) (pd_var (i := 0) rfl (.inl rfl)) (pd_var (i := 2) rfl (.inl rfl))))))))
/-! ### points_of -/
def B_points_of : DS :=
  (sSeq (sSet 1 (dLst (dCons (dC (.int 0)) dNil))) (sSeq (sFor (dIt (dVar 0)) (.one 2) (sSet 1 (dComp false 2 (dIt (dVar 1)) (.one 3) [] (⟨(dIt (dFn 1 F_bits_of (dCons (dVar 2) dNil))), (.one 4), []⟩ :: []) (dOp fAdd (dOp (fI gMul) (dC (.int 2)) (dVar 3)) (dVar 4))))) (sRet (dVar 1))))
def F_points_of : List D → Ow → R D := (runF 3 B_points_of)
theorem sc_points_of : FnScope ["term", "points", "sign"] ["term"] (defScope (top 15)) := ⟨rfl, rfl, rfl, by decide +kernel, rfl, by decide +kernel, by decide +kernel⟩
theorem ok_points_of (T : Txt K mg) (c_bits_of : Callee P w K mg base "bits_of" 1 1 F_bits_of) : Callee P w K mg base "points_of" 2 1 F_points_of :=
  Callee.self (fnC (k := 1) T.d_points_of sc_points_of (fun _ _ _ _ _ _ us hl => match us, hl with | [_], _ => rfl) fun f cdv A outer s H E hr =>
    (pdss_cons (pds_set (i := 1) nd_3 rfl (.inl rfl) (pd_lst (pda_cons pd_int pda_nil se_const))) (pdss_cons (pds_for PassesOwn.never rfl (pdi_seq (pd_var (i := 0) rfl (.inl rfl))) (pg_one (i := 2) nd_3 rfl (.inr rfl) (.inl rfl)) (pdss_one (pds_setComp (i := 1) false ["point", "bit"] rfl nd_3 rfl rfl (pdi_seq (pd_var (i := 1) rfl (.inl rfl))) (bok_of (by kernel_rfl)) (fun _ _ _ _ _ => ⟨(pg_one (i := 3) nd_4 rfl (.inl rfl) (.inr rfl)), .nil, (ClsOk.cons (c := ⟨(dIt (dFn 1 F_bits_of (dCons (dVar 2) dNil))), (.one 4), []⟩) (pdi_seq (pd_fnC c_bits_of hr (by decide) rfl (pda_cons (pd_var (i := 2) rfl (.inr (.inl rfl))) pda_nil se_name))) (fun _ => rfl) (pg_one (i := 4) nd_4 rfl (.inl rfl) (.inr rfl)) .nil .nil), (pd_add (pd_op op_mul opd_mul pd_int (pd_var (i := 3) rfl (.inl rfl))) (pd_var (i := 4) rfl (.inl rfl)))⟩) rfl))) (pdss_one (pds_ret (pd_var (i := 1) rfl (.inl rfl)))))))
/-! ### _law_function -/
def B__law_function : DS :=
  (sSeq (sSet 3 (dOp fIx (dLst (dCons (dC (.int 2)) (dCons (dC (.int 4)) (dCons (dC (.int 6)) dNil)))) (dFn 2 F__law_take (dCons (dVar 0) (dCons (dC (.int 3)) dNil))))) (sSeq (sSet 4 (dOp (fI gMul) (dFn 2 F__law_take (dCons (dVar 0) (dCons (dC (.int 3)) dNil))) (dCall fIntA (dCons (dVar 2) dNil)))) (sSeq (sSet 5 (dLstO dNil)) (sSeq (sFor (dRng1 (dCons (dOp (fI gShl) (dC (.int 1)) (dVar 1)) dNil)) (.one 6) (sSeq (sSet 7 (dCall fIntA (dCons (dOp fLt (dFn 2 F__law_take (dCons (dVar 0) (dCons (dC (.int 8)) dNil))) (dVar 3)) dNil))) (sSeq (sIf (dTst (dOp fLt (dFn 2 F__law_take (dCons (dVar 0) (dCons (dC (.int 5)) dNil))) (dVar 4))) (sSet 7 (dC .non)) sNil) (sDrop (dApp (dVar 5) (dCons (dVar 7) dNil)))))) (sRet (dCall fTuple (dCons (dVar 5) dNil)))))))
def F__law_function : List D → Ow → R D := frzF (runF 8 B__law_function)
theorem sc__law_function : FnScope ["_law_state_here", "_law_n", "_law_free", "_law_often", "_law_rest", "_law_found", "_law_point", "_law_answer"] ["_law_state_here", "_law_n", "_law_free"] (defScope (top 28)) := ⟨rfl, rfl, rfl, by decide +kernel, rfl, by decide +kernel, by decide +kernel⟩
theorem ok__law_function (T : Txt K mg) (c__law_take : Callee P w K mg base "_law_take" 1 2 F__law_take) : Callee P w K mg base "_law_function" 2 3 F__law_function :=
  Callee.frz (fnC (k := 1) T.d__law_function sc__law_function (fun _ _ _ _ _ _ us hl => match us, hl with | [_, _, _], _ => rfl) fun f cdv A outer s H E hr =>
    (pdss_cons (pds_set (i := 3) nd_14 rfl (.inl rfl) (pd_ix (pd_lst (pda_cons pd_int (pda_cons pd_int (pda_cons pd_int pda_nil se_const) se_const) se_const)) (pd_fnC c__law_take hr (by decide) rfl (pda_cons (pd_var (i := 0) rfl (.inl rfl)) (pda_cons pd_int pda_nil se_const) se_name)) (fun _ _ => rfl))) (pdss_cons (pds_set (i := 4) nd_14 rfl (.inl rfl) (pd_op op_mul opd_mul (pd_fnC c__law_take hr (by decide) rfl (pda_cons (pd_var (i := 0) rfl (.inl rfl)) (pda_cons pd_int pda_nil se_const) se_name)) (pd_callTy call_intA cd_intA rfl T.b_int bt_int (pda_cons (pd_var (i := 2) rfl (.inl rfl)) pda_nil se_name)))) (pdss_cons (pds_set (i := 5) nd_14 rfl (.inl rfl) (pd_lstO pda_nil)) (pdss_cons (pds_for PassesOwn.never rfl (pdi_range1 rfl T.b_range (pda_cons (pd_op op_shl opd_shl pd_int (pd_var (i := 1) rfl (.inl rfl))) pda_nil se_bin)) (pg_one (i := 6) nd_14 rfl (.inl rfl) (.inl rfl)) (pdss_cons (pds_set (i := 7) nd_14 rfl (.inl rfl) (pd_callTy call_intA cd_intA rfl T.b_int bt_int (pda_cons (pd_cmp op_lt opd_lt (pd_fnC c__law_take hr (by decide) rfl (pda_cons (pd_var (i := 0) rfl (.inl rfl)) (pda_cons pd_int pda_nil se_const) se_name)) (pd_var (i := 3) rfl (.inl rfl)) (nomark _)) pda_nil se_cmp))) (pdss_cons (pds_if (pdt_cmp op_lt opd_lt (pd_fnC c__law_take hr (by decide) rfl (pda_cons (pd_var (i := 0) rfl (.inl rfl)) (pda_cons pd_int pda_nil se_const) se_name)) (pd_var (i := 4) rfl (.inl rfl)) (nomark _)) (pdss_one (pds_set (i := 7) nd_14 rfl (.inl rfl) pd_non)) pdss_nil) (pdss_one (pds_expr (pd_append (pd_var (i := 5) rfl (.inl rfl)) (pda_cons (pd_var (i := 7) rfl (.inl rfl)) pda_nil se_name))))))) (pdss_one (pds_ret (pd_callTy call_tuple_of cd_tuple rfl T.b_tuple bt_tuple (pda_cons (pd_var (i := 5) rfl (.inl rfl)) pda_nil se_name)))))))))
/-! ### _law_state -/
def B__law_state : DS :=
  (sSeq (sSet 2 (dFn 2 F__law_cell_at (dCons (dVar 0) (dCons (dVar 1) dNil)))) (sSeq (sIf (dTst (dOp fGe (dVar 2) (dOp (fI gPow) (dC (.int 10)) (dC (.int 18))))) (sRet (dLstO (dCons (dOp (fI gSub) (dVar 2) (dOp (fI gPow) (dC (.int 10)) (dC (.int 18)))) (dCons (dC (.bl true)) dNil)))) sNil) (sRet (dLstO (dCons (dOp (fI gMod) (dVar 2) (dC (.int 2147483647))) (dCons (dC (.bl false)) dNil))))))
def F__law_state : List D → Ow → R D := (runF 3 B__law_state)
theorem sc__law_state : FnScope ["_law_script", "_law_k", "_law_cell"] ["_law_script", "_law_k"] (defScope (top 31)) := ⟨rfl, rfl, rfl, by decide +kernel, rfl, by decide +kernel, by decide +kernel⟩
theorem ok__law_state (T : Txt K mg) (c__law_cell_at : Callee P w K mg base "_law_cell_at" 1 2 F__law_cell_at) : Callee P w K mg base "_law_state" 2 2 F__law_state :=
  Callee.self (fnC (k := 1) T.d__law_state sc__law_state (fun _ _ _ _ _ _ us hl => match us, hl with | [_, _], _ => rfl) fun f cdv A outer s H E hr =>
    (pdss_cons (pds_set (i := 2) nd_17 rfl (.inl rfl) (pd_fnC c__law_cell_at hr (by decide) rfl (pda_cons (pd_var (i := 0) rfl (.inl rfl)) (pda_cons (pd_var (i := 1) rfl (.inl rfl)) pda_nil se_name) se_name))) (pdss_cons (pds_if (pdt_cmp op_ge opd_ge (pd_var (i := 2) rfl (.inl rfl)) (pd_op op_pow opd_pow pd_int pd_int) (nomark _)) (pdss_one (pds_ret (pd_lstO (pda_cons (pd_op op_sub opd_sub (pd_var (i := 2) rfl (.inl rfl)) (pd_op op_pow opd_pow pd_int pd_int)) (pda_cons pd_bl pda_nil se_const) se_bin)))) pdss_nil) (pdss_one (pds_ret (pd_lstO (pda_cons (pd_op op_mod opd_mod (pd_var (i := 2) rfl (.inl rfl)) pd_int) (pda_cons pd_bl pda_nil se_const) se_bin)))))))
/-! ### _law_good -/
def B__law_good : DS :=
  (sRet (dOp (fPy eqF) (dComp false 1 (dRng1 (dCons (dCall fLen (dCons (dVar 0) dNil)) dNil)) (.one 2) [(dAndT (dTst (dOp (fPy eqF) (dOp fIx (dVar 0) (dVar 2)) (dC (.int 0)))) (dTru (dFn 2 F__law_holds (dCons (dVar 1) (dCons (dVar 2) dNil)))))] [] (dVar 2)) (dLst dNil)))
def F__law_good : List D → Ow → R D := (runF 2 B__law_good)
theorem sc__law_good : FnScope ["_law_function_here", "_law_term"] ["_law_function_here", "_law_term"] (defScope (top 34)) := ⟨rfl, rfl, rfl, by decide +kernel, rfl, by decide +kernel, by decide +kernel⟩
theorem ok__law_good (T : Txt K mg) (c__law_holds : Callee P w K mg base "_law_holds" 1 2 F__law_holds) : Callee P w K mg base "_law_good" 2 2 F__law_good :=
  Callee.self (fnC (k := 1) T.d__law_good sc__law_good (fun _ _ _ _ _ _ us hl => match us, hl with | [_, _], _ => rfl) fun f cdv A outer s H E hr =>
    (pdss_one (pds_ret (pd_cmp (op_eqPy hr.units) opd_py (pd_comp false ["_law_point"] rfl (pdi_range1 rfl T.b_range (pda_cons (pd_callB call_len cd_len rfl T.b_len bt_len (pda_cons (pd_var (i := 0) rfl (.inr (.inl rfl))) pda_nil se_name)) pda_nil se_call)) (bok_of (by kernel_rfl)) (fun _ _ _ _ _ => ⟨(pg_one (i := 2) nd_20 rfl (.inl rfl) (.inr rfl)), (.cons (PDW.pt (pwd_and (pdt_cmp (op_eqPy hr.units) opd_py (pd_ix (pd_var (i := 0) rfl (.inr (.inl rfl))) (pd_var (i := 2) rfl (.inl rfl)) (fun _ _ => rfl)) pd_int (nomark _)) (pwd_and1 (pdt_tru (pd_fnC c__law_holds hr (by decide) rfl (pda_cons (pd_var (i := 1) rfl (.inr (.inl rfl))) (pda_cons (pd_var (i := 2) rfl (.inl rfl)) pda_nil se_name) se_name)) (fun _ => rfl))))) .nil), .nil, (pd_var (i := 2) rfl (.inl rfl))⟩)) (pd_lst pda_nil) (nomark _)))))
/-! ### is_answer -/
def B_is_answer : DS :=
  (sRet (dOr (dOp fIsN (dVar 0) (dC .non)) (dFn 3 F_is_whole_within (dCons (dVar 0) (dCons (dC (.int 0)) (dCons (dC (.int 1)) dNil))))))
def F_is_answer : List D → Ow → R D := (runF 1 B_is_answer)
theorem sc_is_answer : FnScope ["thing"] ["thing"] (defScope (top 8)) := ⟨rfl, rfl, rfl, by decide +kernel, rfl, by decide +kernel, by decide +kernel⟩
theorem ok_is_answer (T : Txt K mg) (c_is_whole_within : Callee P w K mg base "is_whole_within" 2 3 F_is_whole_within) : Callee P w K mg base "is_answer" 3 1 F_is_answer :=
  Callee.self (fnC (k := 2) T.d_is_answer sc_is_answer (fun _ _ _ _ _ _ us hl => match us, hl with | [_], _ => rfl) fun f cdv A outer s H E hr =>
    (pdss_one (pds_ret (pd_or (pd_cmp op_isN opd_isN (pd_var (i := 0) rfl (.inl rfl)) pd_non (nomark _)) (pd_one (pd_fnC c_is_whole_within hr (by decide) rfl (pda_cons (pd_var (i := 0) rfl (.inl rfl)) (pda_cons pd_int (pda_cons pd_int pda_nil se_const) se_const) se_name)))))))
/-! ### holds_no_nought -/
def B_holds_no_nought : DS :=
  (sRet (dCall fAll (dCons (dComp false 1 (dIt (dFn 1 F_points_of (dCons (dVar 1) dNil))) (.one 2) [] [] (dOp (fPy neF) (dOp fIx (dVar 0) (dVar 2)) (dC (.int 0)))) dNil)))
def F_holds_no_nought : List D → Ow → R D := (runF 2 B_holds_no_nought)
theorem sc_holds_no_nought : FnScope ["function", "term"] ["function", "term"] (defScope (top 18)) := ⟨rfl, rfl, rfl, by decide +kernel, rfl, by decide +kernel, by decide +kernel⟩
theorem ok_holds_no_nought (T : Txt K mg) (c_points_of : Callee P w K mg base "points_of" 2 1 F_points_of) : Callee P w K mg base "holds_no_nought" 3 2 F_holds_no_nought :=
  Callee.self (fnC (k := 2) T.d_holds_no_nought sc_holds_no_nought (fun _ _ _ _ _ _ us hl => match us, hl with | [_, _], _ => rfl) fun f cdv A outer s H E hr =>
    (pdss_one (pds_ret (pd_callB (call_allB rfl) cd_all rfl T.b_all bt_all (pda_cons (pd_comp false ["point"] rfl (pdi_seq (pd_fnC c_points_of hr (by decide) rfl (pda_cons (pd_var (i := 1) rfl (.inl rfl)) pda_nil se_name))) (bok_of (by kernel_rfl)) (fun _ _ _ _ _ => ⟨(pg_one (i := 2) nd_5 rfl (.inl rfl) (.inr rfl)), .nil, .nil, (pd_cmp (op_nePy hr.units) opd_py (pd_ix (pd_var (i := 0) rfl (.inr (.inl rfl))) (pd_var (i := 2) rfl (.inl rfl)) (fun _ _ => rfl)) pd_int (nomark _))⟩)) pda_nil se_comp)))))
/-! ### _law_together -/
def B__law_together : DS :=
  (sSeq (sSet 1 (dOp fIx (dLst (dCons (dC (.int 3)) (dCons (dC (.int 2)) (dCons (dC (.int 3)) (dCons (dC (.int 1)) dNil))))) (dFn 2 F__law_take (dCons (dVar 0) (dCons (dC (.int 4)) dNil))))) (sSeq (sSet 2 (dComp true 1 (dRng1 (dCons (dOp fAdd (dC (.int 2)) (dFn 2 F__law_take (dCons (dVar 0) (dCons (dC (.int 2)) dNil)))) dNil)) (.one 3) [] [] (dFn 3 F__law_function (dCons (dVar 0) (dCons (dVar 1) (dCons (dC (.bl true)) dNil)))))) (sSeq (sIf (dTst (dOp (fPy eqF) (dFn 2 F__law_take (dCons (dVar 0) (dCons (dC (.int 4)) dNil))) (dC (.int 0)))) (sPut (dOp fIx (dVar 2) (dC (.int 0))) (dVar 2) (dC (.int 1))) sNil) (sRet (dCall fTuple (dCons (dVar 2) dNil))))))
def F__law_together : List D → Ow → R D := frzF (runF 3 B__law_together)
theorem sc__law_together : FnScope ["_law_state_here", "_law_n", "_law_found"] ["_law_state_here"] (defScope (top 29)) := ⟨rfl, rfl, rfl, by decide +kernel, rfl, by decide +kernel, by decide +kernel⟩
theorem ok__law_together (T : Txt K mg) (c__law_function : Callee P w K mg base "_law_function" 2 3 F__law_function) (c__law_take : Callee P w K mg base "_law_take" 1 2 F__law_take) : Callee P w K mg base "_law_together" 3 1 F__law_together :=
  Callee.frz (fnC (k := 2) T.d__law_together sc__law_together (fun _ _ _ _ _ _ us hl => match us, hl with | [_], _ => rfl) fun f cdv A outer s H E hr =>
    (pdss_cons (pds_set (i := 1) nd_15 rfl (.inr rfl) (pd_ix (pd_lst (pda_cons pd_int (pda_cons pd_int (pda_cons pd_int (pda_cons pd_int pda_nil se_const) se_const) se_const) se_const)) (pd_fnC c__law_take hr (by decide) rfl (pda_cons (pd_var (i := 0) rfl (.inr (.inl rfl))) (pda_cons pd_int pda_nil se_const) se_name)) (fun _ _ => rfl))) (pdss_cons (pds_setComp (i := 2) true ["_law_turn"] rfl nd_15 rfl rfl (pdi_range1 rfl T.b_range (pda_cons (pd_add pd_int (pd_fnC c__law_take hr (by decide) rfl (pda_cons (pd_var (i := 0) rfl (.inr (.inl rfl))) (pda_cons pd_int pda_nil se_const) se_name))) pda_nil se_bin)) (bok_of (by kernel_rfl)) (fun _ _ _ _ _ => ⟨(pg_one (i := 3) nd_16 rfl (.inl rfl) (.inr rfl)), .nil, .nil, (pd_fnC c__law_function hr (by decide) rfl (pda_cons (pd_var (i := 0) rfl (.inr (.inl rfl))) (pda_cons (pd_var (i := 1) rfl (.inr (.inl rfl))) (pda_cons pd_bl pda_nil se_const) se_name) se_name))⟩) rfl) (pdss_cons (pds_if (pdt_cmp (op_eqPy hr.units) opd_py (pd_fnC c__law_take hr (by decide) rfl (pda_cons (pd_var (i := 0) rfl (.inr (.inl rfl))) (pda_cons pd_int pda_nil se_const) se_name)) pd_int (nomark _)) (pdss_one (pds_put (pd_ix (pd_var (i := 2) rfl (.inl rfl)) pd_int (fun _ _ => rfl)) (pd_var (i := 2) rfl (.inl rfl)) pd_int)) pdss_nil) (pdss_one (pds_ret (pd_callTy call_tuple_of cd_tuple rfl T.b_tuple bt_tuple (pda_cons (pd_var (i := 2) rfl (.inl rfl)) pda_nil se_name))))))))
/-! ### _law_good_for -/
def B__law_good_for : DS :=
  (sRet (dComp false 1 (dRng1 (dCons (dCall fLen (dCons (dVar 0) dNil)) dNil)) (.one 2) [(dTru (dFn 2 F__law_good (dCons (dOp fIx (dVar 0) (dVar 2)) (dCons (dVar 1) dNil))))] [] (dVar 2)))
def F__law_good_for : List D → Ow → R D := (runF 2 B__law_good_for)
theorem sc__law_good_for : FnScope ["_law_functions", "_law_term"] ["_law_functions", "_law_term"] (defScope (top 35)) := ⟨rfl, rfl, rfl, by decide +kernel, rfl, by decide +kernel, by decide +kernel⟩
theorem ok__law_good_for (T : Txt K mg) (c__law_good : Callee P w K mg base "_law_good" 2 2 F__law_good) : Callee P w K mg base "_law_good_for" 3 2 F__law_good_for :=
  Callee.self (fnC (k := 2) T.d__law_good_for sc__law_good_for (fun _ _ _ _ _ _ us hl => match us, hl with | [_, _], _ => rfl) fun f cdv A outer s H E hr =>
    (pdss_one (pds_ret (pd_comp false ["_law_k"] rfl (pdi_range1 rfl T.b_range (pda_cons (pd_callB call_len cd_len rfl T.b_len bt_len (pda_cons (pd_var (i := 0) rfl (.inr (.inl rfl))) pda_nil se_name)) pda_nil se_call)) (bok_of (by kernel_rfl)) (fun _ _ _ _ _ => ⟨(pg_one (i := 2) nd_21 rfl (.inl rfl) (.inr rfl)), (.cons (pdt_tru (pd_fnC c__law_good hr (by decide) rfl (pda_cons (pd_ix (pd_var (i := 0) rfl (.inr (.inl rfl))) (pd_var (i := 2) rfl (.inl rfl)) (fun _ _ => rfl)) (pda_cons (pd_var (i := 1) rfl (.inr (.inl rfl))) pda_nil se_name) se_sub)) (fun _ => rfl)) .nil), .nil, (pd_var (i := 2) rfl (.inl rfl))⟩)))))
/-! ### is_function -/
def B_is_function : DS :=
  (sSeq (sIf (dOrT (dNotT (dTru (dIsi "tuple" (dVar 0)))) (dTst (dInTab true t_SWITCHES_BY_POINTS (dCall fLen (dCons (dVar 0) dNil))))) (sRet (dC (.bl false))) sNil) (sRet (dCall fAll (dCons (dComp false 1 (dIt (dVar 0)) (.one 1) [] [] (dFn 1 F_is_answer (dCons (dVar 1) dNil))) dNil))))
def F_is_function : List D → Ow → R D := (runF 1 B_is_function)
theorem sc_is_function : FnScope ["thing"] ["thing"] (defScope (top 9)) := ⟨rfl, rfl, rfl, by decide +kernel, rfl, by decide +kernel, by decide +kernel⟩
theorem ok_is_function (T : Txt K mg) (c_is_answer : Callee P w K mg base "is_answer" 3 1 F_is_answer) : Callee P w K mg base "is_function" 4 1 F_is_function :=
  Callee.self (fnC (k := 3) T.d_is_function sc_is_function (fun _ _ _ _ _ _ us hl => match us, hl with | [_], _ => rfl) fun f cdv A outer s H E hr =>
    (pdss_cons (pds_if (PDW.pt (pwd_or (pdt_not (pdt_tru (pd_isi (n := "tuple") (pd_var (i := 0) rfl (.inl rfl)) (by decide) rfl T.b_isinstance bt_isinstance rfl T.b_tuple bt_tuple) (fun _ => rfl))) (pwd_or1 (pdt_nintab T.k_SWITCHES_BY_POINTS rfl (pd_callB call_len cd_len rfl T.b_len bt_len (pda_cons (pd_var (i := 0) rfl (.inl rfl)) pda_nil se_name)))))) (pdss_one (pds_ret pd_bl)) pdss_nil) (pdss_one (pds_ret (pd_callB (call_allB rfl) cd_all rfl T.b_all bt_all (pda_cons (pd_comp false ["answer"] rfl (pdi_seq (pd_var (i := 0) rfl (.inl rfl))) (bok_of (by kernel_rfl)) (fun _ _ _ _ _ => ⟨(pg_one (i := 1) nd_0 rfl (.inl rfl) (.inr rfl)), .nil, .nil, (pd_fnC c_is_answer hr (by decide) rfl (pda_cons (pd_var (i := 1) rfl (.inl rfl)) pda_nil se_name))⟩)) pda_nil se_comp))))))
/-! ### numbers_good_for -/
def B_numbers_good_for : DS :=
  (sRet (dComp false 2 (dEnumW (dCons (dVar 0) dNil)) (.two 2 3) [(dTru (dFn 2 F_holds_no_nought (dCons (dVar 3) (dCons (dVar 1) dNil))))] [] (dVar 2)))
def F_numbers_good_for : List D → Ow → R D := (runF 2 B_numbers_good_for)
theorem sc_numbers_good_for : FnScope ["functions", "term"] ["functions", "term"] (defScope (top 23)) := ⟨rfl, rfl, rfl, by decide +kernel, rfl, by decide +kernel, by decide +kernel⟩
theorem ok_numbers_good_for (T : Txt K mg) (c_holds_no_nought : Callee P w K mg base "holds_no_nought" 3 2 F_holds_no_nought) : Callee P w K mg base "numbers_good_for" 4 2 F_numbers_good_for :=
  Callee.self (fnC (k := 3) T.d_numbers_good_for sc_numbers_good_for (fun _ _ _ _ _ _ us hl => match us, hl with | [_, _], _ => rfl) fun f cdv A outer s H E hr =>
    (pdss_one (pds_ret (pd_comp false ["number", "function"] rfl (pdi_enumW rfl T.b_enumerate (pda_cons (pd_var (i := 0) rfl (.inl rfl)) pda_nil se_name)) (bok_of (by kernel_rfl)) (fun _ _ _ _ _ => ⟨(pg_two (i := 2) (j := 3) rfl nd_8 rfl rfl (.inl rfl) (.inl rfl) (.inr rfl) (.inr rfl)), (.cons (pdt_tru (pd_fnC c_holds_no_nought hr (by decide) rfl (pda_cons (pd_var (i := 3) rfl (.inl rfl)) (pda_cons (pd_var (i := 1) rfl (.inr (.inl rfl))) pda_nil se_name) se_name)) (fun _ => rfl)) .nil), .nil, (pd_var (i := 2) rfl (.inl rfl))⟩)))))
/-! ### _law_broad -/
def B__law_broad : DS :=
  (sSeq (sSet 1 (dLstO dNil)) (sSeq (sSet 2 (dComp false 0 (dIt (dFn 1 F__law_terms (dCons (dFn 1 F__law_switches (dCons (dOp fIx (dVar 0) (dC (.int 0))) dNil)) dNil))) (.one 3) [] [] (dTup (dCons (dVar 3) (dCons (dFn 2 F__law_good_for (dCons (dVar 0) (dCons (dVar 3) dNil))) dNil))))) (sSeq (sFor (dIt (dVar 2)) (.two 3 4) (sSeq (sSet 5 (dLstO dNil)) (sSeq (sFor (dIt (dVar 2)) (.two 6 7) (sIf (dAndT (dTst (dOp (fPy neF) (dVar 6) (dVar 3))) (dAndT (dTru (dFn 2 F__law_lies_in (dCons (dVar 3) (dCons (dVar 6) dNil)))) (dTst (dOp (fPy eqF) (dComp false 1 (dIt (dVar 4)) (.one 8) [(dTst (dOp fNin (dVar 8) (dVar 7)))] [] (dVar 8)) (dLst dNil))))) (sDrop (dApp (dVar 5) (dCons (dVar 6) dNil))) sNil)) (sIf (dAndT (dTst (dOp (fPy neF) (dVar 4) (dLst dNil))) (dTst (dOp (fPy eqF) (dVar 5) (dLst dNil)))) (sDrop (dApp (dVar 1) (dCons (dVar 3) dNil))) sNil)))) (sRet (dVar 1)))))
def F__law_broad : List D → Ow → R D := frzF (runF 8 B__law_broad)
theorem sc__law_broad : FnScope ["_law_functions", "_law_found", "_law_some", "_law_term", "_law_own", "_law_wider", "_law_other", "_law_more"] ["_law_functions"] (defScope (top 39)) := ⟨rfl, rfl, rfl, by decide +kernel, rfl, by decide +kernel, by decide +kernel⟩
theorem ok__law_broad (T : Txt K mg) (c__law_good_for : Callee P w K mg base "_law_good_for" 3 2 F__law_good_for) (c__law_lies_in : Callee P w K mg base "_law_lies_in" 1 2 F__law_lies_in) (c__law_switches : Callee P w K mg base "_law_switches" 1 1 F__law_switches) (c__law_terms : Callee P w K mg base "_law_terms" 1 1 F__law_terms) : Callee P w K mg base "_law_broad" 4 1 F__law_broad :=
  Callee.frz (fnC (k := 3) T.d__law_broad sc__law_broad (fun _ _ _ _ _ _ us hl => match us, hl with | [_], _ => rfl) fun f cdv A outer s H E hr =>
    (pdss_cons (pds_set (i := 1) nd_24 rfl (.inl rfl) (pd_lstO pda_nil)) (pdss_cons (pds_setComp (i := 2) false [] rfl nd_24 rfl rfl (pdi_seq (pd_fnC c__law_terms hr (by decide) rfl (pda_cons (pd_fnC c__law_switches hr (by decide) rfl (pda_cons (pd_ix (pd_var (i := 0) rfl (.inr (.inl rfl))) pd_int (fun _ _ => rfl)) pda_nil se_sub)) pda_nil se_call))) (bok_of (by kernel_rfl)) (fun _ _ _ _ _ => ⟨(pg_one (i := 3) nd_24 rfl (.inl rfl) (.inr rfl)), .nil, .nil, (pd_tup (pda_cons (pd_var (i := 3) rfl (.inl rfl)) (pda_cons (pd_fnC c__law_good_for hr (by decide) rfl (pda_cons (pd_var (i := 0) rfl (.inr (.inl rfl))) (pda_cons (pd_var (i := 3) rfl (.inl rfl)) pda_nil se_name) se_name)) pda_nil se_call) se_name))⟩) rfl) (pdss_cons (pds_for PassesOwn.never rfl (pdi_seq (pd_var (i := 2) rfl (.inl rfl))) (pg_two (i := 3) (j := 4) rfl nd_24 rfl rfl (.inl rfl) (.inl rfl) (.inl rfl) (.inl rfl)) (pdss_cons (pds_set (i := 5) nd_24 rfl (.inl rfl) (pd_lstO pda_nil)) (pdss_cons (pds_for PassesOwn.never rfl (pdi_seq (pd_var (i := 2) rfl (.inl rfl))) (pg_two (i := 6) (j := 7) rfl nd_24 rfl rfl (.inl rfl) (.inr rfl) (.inl rfl) (.inl rfl)) (pdss_one (pds_if (PDW.pt (pwd_and (pdt_cmp (op_nePy hr.units) opd_py (pd_var (i := 6) rfl (.inl rfl)) (pd_var (i := 3) rfl (.inl rfl)) (nomark _)) (pwd_and (pdt_tru (pd_fnC c__law_lies_in hr (by decide) rfl (pda_cons (pd_var (i := 3) rfl (.inl rfl)) (pda_cons (pd_var (i := 6) rfl (.inl rfl)) pda_nil se_name) se_name)) (fun _ => rfl)) (pwd_and1 (pdt_cmp (op_eqPy hr.units) opd_py (pd_comp false ["_law_k"] rfl (pdi_seq (pd_var (i := 4) rfl (.inl rfl))) (bok_of (by kernel_rfl)) (fun _ _ _ _ _ => ⟨(pg_one (i := 8) nd_25 rfl (.inl rfl) (.inr rfl)), (.cons (pdt_cmp (op_ninA hr.units) opd_nin (pd_var (i := 8) rfl (.inl rfl)) (pd_var (i := 7) rfl (.inr (.inl rfl))) rfl) .nil), .nil, (pd_var (i := 8) rfl (.inl rfl))⟩)) (pd_lst pda_nil) (nomark _)))))) (pdss_one (pds_expr (pd_append (pd_var (i := 5) rfl (.inl rfl)) (pda_cons (pd_var (i := 6) rfl (.inl rfl)) pda_nil se_name)))) pdss_nil))) (pdss_one (pds_if (PDW.pt (pwd_and (pdt_cmp (op_nePy hr.units) opd_py (pd_var (i := 4) rfl (.inl rfl)) (pd_lst pda_nil) (nomark _)) (pwd_and1 (pdt_cmp (op_eqPy hr.units) opd_py (pd_var (i := 5) rfl (.inl rfl)) (pd_lst pda_nil) (nomark _))))) (pdss_one (pds_expr (pd_append (pd_var (i := 1) rfl (.inl rfl)) (pda_cons (pd_var (i := 3) rfl (.inl rfl)) pda_nil se_name)))) pdss_nil))))) (pdss_one (pds_ret (pd_var (i := 1) rfl (.inl rfl))))))))
/-! ### are_together -/
def B_are_together : DS :=
  (sSeq (sIf (dOrT (dNotT (dTru (dIsi "tuple" (dVar 0)))) (dTst (dOp fNin (dCall fLen (dCons (dVar 0) dNil)) (dTup (dCons (dC (.int 2)) (dCons (dC (.int 3)) dNil)))))) (sRet (dC (.bl false))) sNil) (sSeq (sIf (dNotT (dTru (dCall fAll (dCons (dComp false 1 (dIt (dVar 0)) (.one 2) [] [] (dFn 1 F_is_function (dCons (dVar 2) dNil))) dNil)))) (sRet (dC (.bl false))) sNil) (sSeq (sSet 1 (dFn 1 F_switches_of (dCons (dOp fIx (dVar 0) (dC (.int 0))) dNil))) (sRet (dAnd (dOp fLe (dVar 1) (dC (.int 3))) (dCall fAll (dCons (dComp false 1 (dIt (dVar 0)) (.one 2) [] [] (dOp (fPy eqF) (dFn 1 F_switches_of (dCons (dVar 2) dNil)) (dVar 1))) dNil)))))))
def F_are_together : List D → Ow → R D := (runF 2 B_are_together)
theorem sc_are_together : FnScope ["thing", "n"] ["thing"] (defScope (top 21)) := ⟨rfl, rfl, rfl, by decide +kernel, rfl, by decide +kernel, by decide +kernel⟩
theorem ok_are_together (T : Txt K mg) (c_is_function : Callee P w K mg base "is_function" 4 1 F_is_function) (c_switches_of : Callee P w K mg base "switches_of" 1 1 F_switches_of) : Callee P w K mg base "are_together" 5 1 F_are_together :=
  Callee.self (fnC (k := 4) T.d_are_together sc_are_together (fun _ _ _ _ _ _ us hl => match us, hl with | [_], _ => rfl) fun f cdv A outer s H E hr =>
    (pdss_cons (pds_if (PDW.pt (pwd_or (pdt_not (pdt_tru (pd_isi (n := "tuple") (pd_var (i := 0) rfl (.inl rfl)) (by decide) rfl T.b_isinstance bt_isinstance rfl T.b_tuple bt_tuple) (fun _ => rfl))) (pwd_or1 (pdt_cmp (op_ninA hr.units) opd_nin (pd_callB call_len cd_len rfl T.b_len bt_len (pda_cons (pd_var (i := 0) rfl (.inl rfl)) pda_nil se_name)) (pd_tup (pda_cons pd_int (pda_cons pd_int pda_nil se_const) se_const)) rfl)))) (pdss_one (pds_ret pd_bl)) pdss_nil) (pdss_cons (pds_if (pdt_not (pdt_tru (pd_callB (call_allB rfl) cd_all rfl T.b_all bt_all (pda_cons (pd_comp false ["function"] rfl (pdi_seq (pd_var (i := 0) rfl (.inl rfl))) (bok_of (by kernel_rfl)) (fun _ _ _ _ _ => ⟨(pg_one (i := 2) nd_6 rfl (.inl rfl) (.inr rfl)), .nil, .nil, (pd_fnC c_is_function hr (by decide) rfl (pda_cons (pd_var (i := 2) rfl (.inl rfl)) pda_nil se_name))⟩)) pda_nil se_comp)) (fun _ => rfl))) (pdss_one (pds_ret pd_bl)) pdss_nil) (pdss_cons (pds_set (i := 1) nd_7 rfl (.inr rfl) (pd_fnC c_switches_of hr (by decide) rfl (pda_cons (pd_ix (pd_var (i := 0) rfl (.inl rfl)) pd_int (fun _ _ => rfl)) pda_nil se_sub))) (pdss_one (pds_ret (pd_and (pd_cmp op_le opd_le (pd_var (i := 1) rfl (.inr (.inl rfl))) (pd_gint T.i_MOST_SWITCHES_TOGETHER) (nomark _)) (pd_one (pd_callB (call_allB rfl) cd_all rfl T.b_all bt_all (pda_cons (pd_comp false ["function"] rfl (pdi_seq (pd_var (i := 0) rfl (.inl rfl))) (bok_of (by kernel_rfl)) (fun _ _ _ _ _ => ⟨(pg_one (i := 2) nd_6 rfl (.inl rfl) (.inr rfl)), .nil, .nil, (pd_cmp (op_eqPy hr.units) opd_py (pd_fnC c_switches_of hr (by decide) rfl (pda_cons (pd_var (i := 2) rfl (.inl rfl)) pda_nil se_name)) (pd_var (i := 1) rfl (.inr (.inl rfl))) (nomark _))⟩)) pda_nil se_comp))))))))))
/-! ### is_broad -/
def B_is_broad : DS :=
  (sSeq (sSet 2 (dFn 2 F_numbers_good_for (dCons (dVar 0) (dCons (dVar 1) dNil)))) (sSeq (sSet 3 (dComp false 2 (dEnumW (dCons (dVar 1) dNil)) (.two 4 5) [(dTst (dOp (fPy neF) (dVar 5) (dC (.str [45]))))] [] (dFn 3 F_with_sign (dCons (dVar 1) (dCons (dVar 4) (dCons (dC (.str [45])) dNil)))))) (sRet (dAnd (dOp (fPy neF) (dVar 2) (dLst dNil)) (dNot (dCall fAny (dCons (dComp false 1 (dIt (dVar 3)) (.one 4) [] [] (dOp (fPy eqF) (dFn 2 F_numbers_good_for (dCons (dVar 0) (dCons (dVar 4) dNil))) (dVar 2))) dNil)))))))
def F_is_broad : List D → Ow → R D := (runF 4 B_is_broad)
theorem sc_is_broad : FnScope ["functions", "term", "numbers", "wider"] ["functions", "term"] (defScope (top 24)) := ⟨rfl, rfl, rfl, by decide +kernel, rfl, by decide +kernel, by decide +kernel⟩
theorem ok_is_broad (T : Txt K mg) (c_numbers_good_for : Callee P w K mg base "numbers_good_for" 4 2 F_numbers_good_for) (c_with_sign : Callee P w K mg base "with_sign" 1 3 F_with_sign) : Callee P w K mg base "is_broad" 5 2 F_is_broad :=
  Callee.self (fnC (k := 4) T.d_is_broad sc_is_broad (fun _ _ _ _ _ _ us hl => match us, hl with | [_, _], _ => rfl) fun f cdv A outer s H E hr =>
    (pdss_cons (pds_set (i := 2) nd_9 rfl (.inr rfl) (pd_fnC c_numbers_good_for hr (by decide) rfl (pda_cons (pd_var (i := 0) rfl (.inr (.inl rfl))) (pda_cons (pd_var (i := 1) rfl (.inr (.inl rfl))) pda_nil se_name) se_name))) (pdss_cons (pds_setComp (i := 3) false ["switch", "sign"] rfl nd_9 rfl rfl (pdi_enumW rfl T.b_enumerate (pda_cons (pd_var (i := 1) rfl (.inr (.inl rfl))) pda_nil se_name)) (bok_of (by kernel_rfl)) (fun _ _ _ _ _ => ⟨(pg_two (i := 4) (j := 5) rfl nd_10 rfl rfl (.inl rfl) (.inl rfl) (.inr rfl) (.inr rfl)), (.cons (pdt_cmp (op_nePy hr.units) opd_py (pd_var (i := 5) rfl (.inl rfl)) (pd_str [45] rfl) (nomark _)) .nil), .nil, (pd_fnC c_with_sign hr (by decide) rfl (pda_cons (pd_var (i := 1) rfl (.inr (.inl rfl))) (pda_cons (pd_var (i := 4) rfl (.inl rfl)) (pda_cons (pd_str [45] rfl) pda_nil se_const) se_name) se_name))⟩) rfl) (pdss_one (pds_ret (pd_and (pd_cmp (op_nePy hr.units) opd_py (pd_var (i := 2) rfl (.inr (.inl rfl))) (pd_lst pda_nil) (nomark _)) (pd_one (pd_not (pd_callB (call_anyB rfl) cd_any rfl T.b_any bt_any (pda_cons (pd_comp false ["other"] rfl (pdi_seq (pd_var (i := 3) rfl (.inl rfl))) (bok_of (by kernel_rfl)) (fun _ _ _ _ _ => ⟨(pg_one (i := 4) nd_11 rfl (.inl rfl) (.inr rfl)), .nil, .nil, (pd_cmp (op_eqPy hr.units) opd_py (pd_fnC c_numbers_good_for hr (by decide) rfl (pda_cons (pd_var (i := 0) rfl (.inr (.inl rfl))) (pda_cons (pd_var (i := 4) rfl (.inl rfl)) pda_nil se_name) se_name)) (pd_var (i := 2) rfl (.inr (.inl rfl))) (nomark _))⟩)) pda_nil se_comp))))))))))
/-! ### need_together -/
def B_need_together : DS :=
  (sIf (dNotT (dTru (dFn 1 F_are_together (dCons (dVar 0) dNil)))) sBad sNil)
def F_need_together : List D → Ow → R D := (runF 1 B_need_together)
theorem sc_need_together : FnScope ["thing"] ["thing"] (defScope (top 22)) := ⟨rfl, rfl, rfl, by decide +kernel, rfl, by decide +kernel, by decide +kernel⟩
theorem ok_need_together (T : Txt K mg) (c_are_together : Callee P w K mg base "are_together" 5 1 F_are_together) : Callee P w K mg base "need_together" 6 1 F_need_together :=
  Callee.self (fnC (k := 5) T.d_need_together sc_need_together (fun _ _ _ _ _ _ us hl => match us, hl with | [_], _ => rfl) fun f cdv A outer s H E hr =>
    (pdss_one (pds_if (pdt_not (pdt_tru (pd_fnC c_are_together hr (by decide) rfl (pda_cons (pd_var (i := 0) rfl (.inl rfl)) pda_nil se_name)) (fun _ => rfl))) pdss_bad pdss_nil)))
/-! ### broad_terms -/
def B_broad_terms : DS :=
  (sSeq (sDrop (dFn 1 F_need_together (dCons (dVar 0) dNil))) (sRet (dComp true 1 (dIt (dFn 1 F_all_terms (dCons (dFn 1 F_switches_of (dCons (dOp fIx (dVar 0) (dC (.int 0))) dNil)) dNil))) (.one 1) [(dTru (dFn 2 F_is_broad (dCons (dVar 0) (dCons (dVar 1) dNil))))] [] (dVar 1))))
def F_broad_terms : List D → Ow → R D := (runF 1 B_broad_terms)
theorem sc_broad_terms : FnScope ["functions"] ["functions"] (defScope (top 25)) := ⟨rfl, rfl, rfl, by decide +kernel, rfl, by decide +kernel, by decide +kernel⟩
theorem ok_broad_terms (T : Txt K mg) (c_all_terms : Callee P w K mg base "all_terms" 1 1 F_all_terms) (c_is_broad : Callee P w K mg base "is_broad" 5 2 F_is_broad) (c_need_together : Callee P w K mg base "need_together" 6 1 F_need_together) (c_switches_of : Callee P w K mg base "switches_of" 1 1 F_switches_of) : Callee P w K mg base "broad_terms" 7 1 F_broad_terms :=
  Callee.self (fnC (k := 6) T.d_broad_terms sc_broad_terms (fun _ _ _ _ _ _ us hl => match us, hl with | [_], _ => rfl) fun f cdv A outer s H E hr =>
    (pdss_cons (pds_expr (pd_fnC c_need_together hr (by decide) rfl (pda_cons (pd_var (i := 0) rfl (.inr (.inl rfl))) pda_nil se_name))) (pdss_one (pds_ret (pd_comp true ["term"] rfl (pdi_seq (pd_fnC c_all_terms hr (by decide) rfl (pda_cons (pd_fnC c_switches_of hr (by decide) rfl (pda_cons (pd_ix (pd_var (i := 0) rfl (.inr (.inl rfl))) pd_int (fun _ _ => rfl)) pda_nil se_sub)) pda_nil se_call))) (bok_of (by kernel_rfl)) (fun _ _ _ _ _ => ⟨(pg_one (i := 1) nd_12 rfl (.inl rfl) (.inr rfl)), (.cons (pdt_tru (pd_fnC c_is_broad hr (by decide) rfl (pda_cons (pd_var (i := 0) rfl (.inr (.inl rfl))) (pda_cons (pd_var (i := 1) rfl (.inl rfl)) pda_nil se_name) se_name)) (fun _ => rfl)) .nil), .nil, (pd_var (i := 1) rfl (.inl rfl))⟩))))))
/-! ### law -/
def B_law : DS :=
  (sSeq (sFor (dRng1 (dCons (dCall fMax2 (dCons (dC (.int 1)) (dCons (dCall fMin2 (dCons (dCall fLen (dCons (dVar 0) dNil)) (dCons (dC (.int 6)) dNil))) dNil))) dNil)) (.one 1) (sSeq (sSet 2 (dFn 1 F__law_together (dCons (dFn 2 F__law_state (dCons (dVar 0) (dCons (dVar 1) dNil))) dNil))) (sFor (dRng1 (dCons (dC (.int 2)) dNil)) (.one 3) (sSeq (sSet 4 (dFn 1 F_broad_terms (dCons (dVar 2) dNil))) (sSeq (sIf (dNotT (dTru (dFn 2 F__law_same (dCons (dVar 4) (dCons (dFn 1 F__law_broad (dCons (dVar 2) dNil)) dNil))))) (sRet (dC (.bl false))) sNil) (sDrop (dApp (dVar 4) (dCons (dC (.str [])) dNil)))))))) (sRet (dC (.bl true))))
def F_law : List D → Ow → R D := (runF 5 B_law)
theorem sc_law : FnScope ["_law_script", "_law_k", "_law_functions", "_law_turn", "_law_found"] ["_law_script"] (defScope (top 40)) := ⟨rfl, rfl, rfl, by decide +kernel, rfl, by decide +kernel, by decide +kernel⟩
theorem fn_law {f : Addr} {fd : FuncData} (hF : L2.Fun K "law" "law" (top 40) f fd) (T : Txt K mg) (c__law_broad : Callee P w K mg base "_law_broad" 4 1 F__law_broad) (c__law_same : Callee P w K mg base "_law_same" 5 2 F__law_same) (c__law_state : Callee P w K mg base "_law_state" 2 2 F__law_state) (c__law_together : Callee P w K mg base "_law_together" 3 1 F__law_together) (c_broad_terms : Callee P w K mg base "broad_terms" 7 1 F_broad_terms) : FnOk P w K mg base CX0 8 f fd ["_law_script"] (DSp K Ec0 1 F_law) :=
  fnD (k := 7) hF sc_law fun cdv A outer s H E hr =>
    (pdss_cons (pds_for PassesOwn.never rfl (pdi_range1 rfl T.b_range (pda_cons (pd_callB (call_max2 rfl) cd_max2 rfl T.b_max bt_max (pda_cons pd_int (pda_cons (pd_callB (call_min2 rfl) cd_min2 rfl T.b_min bt_min (pda_cons (pd_callB call_len cd_len rfl T.b_len bt_len (pda_cons (pd_var (i := 0) rfl (.inl rfl)) pda_nil se_name)) (pda_cons pd_int pda_nil se_const) se_call)) pda_nil se_call) se_const)) pda_nil se_call)) (pg_one (i := 1) nd_26 rfl (.inl rfl) (.inl rfl)) (pdss_cons (pds_set (i := 2) nd_26 rfl (.inl rfl) (pd_fnC c__law_together hr (by decide) rfl (pda_cons (pd_fnC c__law_state hr (by decide) rfl (pda_cons (pd_var (i := 0) rfl (.inl rfl)) (pda_cons (pd_var (i := 1) rfl (.inl rfl)) pda_nil se_name) se_name)) pda_nil se_call))) (pdss_one (pds_for PassesOwn.never rfl (pdi_range1 rfl T.b_range (pda_cons pd_int pda_nil se_const)) (pg_one (i := 3) nd_26 rfl (.inl rfl) (.inl rfl)) (pdss_cons (pds_set (i := 4) nd_26 rfl (.inl rfl) (pd_fnC c_broad_terms hr (by decide) rfl (pda_cons (pd_var (i := 2) rfl (.inl rfl)) pda_nil se_name))) (pdss_cons (pds_if (pdt_not (pdt_tru (pd_fnC c__law_same hr (by decide) rfl (pda_cons (pd_var (i := 4) rfl (.inl rfl)) (pda_cons (pd_fnC c__law_broad hr (by decide) rfl (pda_cons (pd_var (i := 2) rfl (.inl rfl)) pda_nil se_name)) pda_nil se_call) se_name)) (fun _ => rfl))) (pdss_one (pds_ret pd_bl)) pdss_nil) (pdss_one (pds_expr (pd_append (pd_var (i := 4) rfl (.inl rfl)) (pda_cons (pd_str [] rfl) pda_nil se_const)))))))))) (pdss_one (pds_ret pd_bl)))
theorem ok_all {f : Addr} {fd : FuncData} (hF : L2.Fun K "law" "law" (top 40) f fd) (T : Txt K mg) : FnOk P w K mg base CX0 8 f fd ["_law_script"] (DSp K Ec0 1 F_law) :=
  have c_is_whole := ok_is_whole (P := P) (w := w) (base := base) T
  have c_switches_of := ok_switches_of (P := P) (w := w) (base := base) T
  have c_all_terms := ok_all_terms (P := P) (w := w) (base := base) T
  have c_bits_of := ok_bits_of (P := P) (w := w) (base := base) T
  have c_with_sign := ok_with_sign (P := P) (w := w) (base := base) T
  have c__law_take := ok__law_take (P := P) (w := w) (base := base) T
  have c__law_cell_at := ok__law_cell_at (P := P) (w := w) (base := base) T
  have c__law_same := ok__law_same (P := P) (w := w) (base := base) T
  have c__law_holds := ok__law_holds (P := P) (w := w) (base := base) T
  have c__law_terms := ok__law_terms (P := P) (w := w) (base := base) T
  have c__law_switches := ok__law_switches (P := P) (w := w) (base := base) T
  have c__law_lies_in := ok__law_lies_in (P := P) (w := w) (base := base) T
  have c_is_whole_within := ok_is_whole_within (P := P) (w := w) (base := base) T c_is_whole
  have c_points_of := ok_points_of (P := P) (w := w) (base := base) T c_bits_of
  have c__law_function := ok__law_function (P := P) (w := w) (base := base) T c__law_take
  have c__law_state := ok__law_state (P := P) (w := w) (base := base) T c__law_cell_at
  have c__law_good := ok__law_good (P := P) (w := w) (base := base) T c__law_holds
  have c_is_answer := ok_is_answer (P := P) (w := w) (base := base) T c_is_whole_within
  have c_holds_no_nought := ok_holds_no_nought (P := P) (w := w) (base := base) T c_points_of
  have c__law_together := ok__law_together (P := P) (w := w) (base := base) T c__law_function c__law_take
  have c__law_good_for := ok__law_good_for (P := P) (w := w) (base := base) T c__law_good
  have c_is_function := ok_is_function (P := P) (w := w) (base := base) T c_is_answer
  have c_numbers_good_for := ok_numbers_good_for (P := P) (w := w) (base := base) T c_holds_no_nought
  have c__law_broad := ok__law_broad (P := P) (w := w) (base := base) T c__law_good_for c__law_lies_in c__law_switches c__law_terms
  have c_are_together := ok_are_together (P := P) (w := w) (base := base) T c_is_function c_switches_of
  have c_is_broad := ok_is_broad (P := P) (w := w) (base := base) T c_numbers_good_for c_with_sign
  have c_need_together := ok_need_together (P := P) (w := w) (base := base) T c_are_together
  have c_broad_terms := ok_broad_terms (P := P) (w := w) (base := base) T c_all_terms c_is_broad c_need_together c_switches_of
  fn_law hF T c__law_broad c__law_same c__law_state c__law_together c_broad_terms
end
theorem txt_mk {K : PySem.W.Frag} {h : Heap} {mg : Str → Option Value} (X : K.In h) (G : h.Ns mainGlobals mg)
    {f0 : Addr} {od0 an0 : Option Addr} {sl0 : Array (Option Value)} {oc0 kV0 dc0 pm0 ct0 : Value} {cd0 : Value} (a0 : PySem.W.nsIn K mainGlobals "is_whole" = some (some (.ref f0)))
    (l0 : K.lookup f0 = some ⟨oc0, od0, .func (PySem.W.fnOf "is_whole" "is_whole" (defArgs (top 4)) (defBody (top 4)) (defScope (top 4)) .none kV0 dc0 pm0 an0 cd0 ct0), sl0⟩) (q0 : PySem.W.codeIn K cd0 "is_whole" = true) (k0 : PySem.W.keepIn K (.ref f0) = true)
    {f1 : Addr} {od1 an1 : Option Addr} {sl1 : Array (Option Value)} {oc1 kV1 dc1 pm1 ct1 : Value} {cd1 : Value} (a1 : PySem.W.nsIn K mainGlobals "is_whole_within" = some (some (.ref f1)))
    (l1 : K.lookup f1 = some ⟨oc1, od1, .func (PySem.W.fnOf "is_whole_within" "is_whole_within" (defArgs (top 5)) (defBody (top 5)) (defScope (top 5)) .none kV1 dc1 pm1 an1 cd1 ct1), sl1⟩) (q1 : PySem.W.codeIn K cd1 "is_whole_within" = true) (k1 : PySem.W.keepIn K (.ref f1) = true)
    {f2 : Addr} {od2 an2 : Option Addr} {sl2 : Array (Option Value)} {oc2 kV2 dc2 pm2 ct2 : Value} {cd2 : Value} (a2 : PySem.W.nsIn K mainGlobals "is_answer" = some (some (.ref f2)))
    (l2 : K.lookup f2 = some ⟨oc2, od2, .func (PySem.W.fnOf "is_answer" "is_answer" (defArgs (top 8)) (defBody (top 8)) (defScope (top 8)) .none kV2 dc2 pm2 an2 cd2 ct2), sl2⟩) (q2 : PySem.W.codeIn K cd2 "is_answer" = true) (k2 : PySem.W.keepIn K (.ref f2) = true)
    {f3 : Addr} {od3 an3 : Option Addr} {sl3 : Array (Option Value)} {oc3 kV3 dc3 pm3 ct3 : Value} {cd3 : Value} (a3 : PySem.W.nsIn K mainGlobals "is_function" = some (some (.ref f3)))
    (l3 : K.lookup f3 = some ⟨oc3, od3, .func (PySem.W.fnOf "is_function" "is_function" (defArgs (top 9)) (defBody (top 9)) (defScope (top 9)) .none kV3 dc3 pm3 an3 cd3 ct3), sl3⟩) (q3 : PySem.W.codeIn K cd3 "is_function" = true) (k3 : PySem.W.keepIn K (.ref f3) = true)
    {f4 : Addr} {od4 an4 : Option Addr} {sl4 : Array (Option Value)} {oc4 kV4 dc4 pm4 ct4 : Value} {cd4 : Value} (a4 : PySem.W.nsIn K mainGlobals "switches_of" = some (some (.ref f4)))
    (l4 : K.lookup f4 = some ⟨oc4, od4, .func (PySem.W.fnOf "switches_of" "switches_of" (defArgs (top 10)) (defBody (top 10)) (defScope (top 10)) .none kV4 dc4 pm4 an4 cd4 ct4), sl4⟩) (q4 : PySem.W.codeIn K cd4 "switches_of" = true) (k4 : PySem.W.keepIn K (.ref f4) = true)
    {f5 : Addr} {od5 an5 : Option Addr} {sl5 : Array (Option Value)} {oc5 kV5 dc5 pm5 ct5 : Value} {cd5 : Value} (a5 : PySem.W.nsIn K mainGlobals "all_terms" = some (some (.ref f5)))
    (l5 : K.lookup f5 = some ⟨oc5, od5, .func (PySem.W.fnOf "all_terms" "all_terms" (defArgs (top 13)) (defBody (top 13)) (defScope (top 13)) .none kV5 dc5 pm5 an5 cd5 ct5), sl5⟩) (q5 : PySem.W.codeIn K cd5 "all_terms" = true) (k5 : PySem.W.keepIn K (.ref f5) = true)
    {f6 : Addr} {od6 an6 : Option Addr} {sl6 : Array (Option Value)} {oc6 kV6 dc6 pm6 ct6 : Value} {cd6 : Value} (a6 : PySem.W.nsIn K mainGlobals "bits_of" = some (some (.ref f6)))
    (l6 : K.lookup f6 = some ⟨oc6, od6, .func (PySem.W.fnOf "bits_of" "bits_of" (defArgs (top 14)) (defBody (top 14)) (defScope (top 14)) .none kV6 dc6 pm6 an6 cd6 ct6), sl6⟩) (q6 : PySem.W.codeIn K cd6 "bits_of" = true) (k6 : PySem.W.keepIn K (.ref f6) = true)
    {f7 : Addr} {od7 an7 : Option Addr} {sl7 : Array (Option Value)} {oc7 kV7 dc7 pm7 ct7 : Value} {cd7 : Value} (a7 : PySem.W.nsIn K mainGlobals "points_of" = some (some (.ref f7)))
    (l7 : K.lookup f7 = some ⟨oc7, od7, .func (PySem.W.fnOf "points_of" "points_of" (defArgs (top 15)) (defBody (top 15)) (defScope (top 15)) .none kV7 dc7 pm7 an7 cd7 ct7), sl7⟩) (q7 : PySem.W.codeIn K cd7 "points_of" = true) (k7 : PySem.W.keepIn K (.ref f7) = true)
    {f8 : Addr} {od8 an8 : Option Addr} {sl8 : Array (Option Value)} {oc8 kV8 dc8 pm8 ct8 : Value} {cd8 : Value} (a8 : PySem.W.nsIn K mainGlobals "with_sign" = some (some (.ref f8)))
    (l8 : K.lookup f8 = some ⟨oc8, od8, .func (PySem.W.fnOf "with_sign" "with_sign" (defArgs (top 16)) (defBody (top 16)) (defScope (top 16)) .none kV8 dc8 pm8 an8 cd8 ct8), sl8⟩) (q8 : PySem.W.codeIn K cd8 "with_sign" = true) (k8 : PySem.W.keepIn K (.ref f8) = true)
    {f9 : Addr} {od9 an9 : Option Addr} {sl9 : Array (Option Value)} {oc9 kV9 dc9 pm9 ct9 : Value} {cd9 : Value} (a9 : PySem.W.nsIn K mainGlobals "holds_no_nought" = some (some (.ref f9)))
    (l9 : K.lookup f9 = some ⟨oc9, od9, .func (PySem.W.fnOf "holds_no_nought" "holds_no_nought" (defArgs (top 18)) (defBody (top 18)) (defScope (top 18)) .none kV9 dc9 pm9 an9 cd9 ct9), sl9⟩) (q9 : PySem.W.codeIn K cd9 "holds_no_nought" = true) (k9 : PySem.W.keepIn K (.ref f9) = true)
    {f10 : Addr} {od10 an10 : Option Addr} {sl10 : Array (Option Value)} {oc10 kV10 dc10 pm10 ct10 : Value} {cd10 : Value} (a10 : PySem.W.nsIn K mainGlobals "are_together" = some (some (.ref f10)))
    (l10 : K.lookup f10 = some ⟨oc10, od10, .func (PySem.W.fnOf "are_together" "are_together" (defArgs (top 21)) (defBody (top 21)) (defScope (top 21)) .none kV10 dc10 pm10 an10 cd10 ct10), sl10⟩) (q10 : PySem.W.codeIn K cd10 "are_together" = true) (k10 : PySem.W.keepIn K (.ref f10) = true)
    {f11 : Addr} {od11 an11 : Option Addr} {sl11 : Array (Option Value)} {oc11 kV11 dc11 pm11 ct11 : Value} {cd11 : Value} (a11 : PySem.W.nsIn K mainGlobals "need_together" = some (some (.ref f11)))
    (l11 : K.lookup f11 = some ⟨oc11, od11, .func (PySem.W.fnOf "need_together" "need_together" (defArgs (top 22)) (defBody (top 22)) (defScope (top 22)) .none kV11 dc11 pm11 an11 cd11 ct11), sl11⟩) (q11 : PySem.W.codeIn K cd11 "need_together" = true) (k11 : PySem.W.keepIn K (.ref f11) = true)
    {f12 : Addr} {od12 an12 : Option Addr} {sl12 : Array (Option Value)} {oc12 kV12 dc12 pm12 ct12 : Value} {cd12 : Value} (a12 : PySem.W.nsIn K mainGlobals "numbers_good_for" = some (some (.ref f12)))
    (l12 : K.lookup f12 = some ⟨oc12, od12, .func (PySem.W.fnOf "numbers_good_for" "numbers_good_for" (defArgs (top 23)) (defBody (top 23)) (defScope (top 23)) .none kV12 dc12 pm12 an12 cd12 ct12), sl12⟩) (q12 : PySem.W.codeIn K cd12 "numbers_good_for" = true) (k12 : PySem.W.keepIn K (.ref f12) = true)
    {f13 : Addr} {od13 an13 : Option Addr} {sl13 : Array (Option Value)} {oc13 kV13 dc13 pm13 ct13 : Value} {cd13 : Value} (a13 : PySem.W.nsIn K mainGlobals "is_broad" = some (some (.ref f13)))
    (l13 : K.lookup f13 = some ⟨oc13, od13, .func (PySem.W.fnOf "is_broad" "is_broad" (defArgs (top 24)) (defBody (top 24)) (defScope (top 24)) .none kV13 dc13 pm13 an13 cd13 ct13), sl13⟩) (q13 : PySem.W.codeIn K cd13 "is_broad" = true) (k13 : PySem.W.keepIn K (.ref f13) = true)
    {f14 : Addr} {od14 an14 : Option Addr} {sl14 : Array (Option Value)} {oc14 kV14 dc14 pm14 ct14 : Value} {cd14 : Value} (a14 : PySem.W.nsIn K mainGlobals "broad_terms" = some (some (.ref f14)))
    (l14 : K.lookup f14 = some ⟨oc14, od14, .func (PySem.W.fnOf "broad_terms" "broad_terms" (defArgs (top 25)) (defBody (top 25)) (defScope (top 25)) .none kV14 dc14 pm14 an14 cd14 ct14), sl14⟩) (q14 : PySem.W.codeIn K cd14 "broad_terms" = true) (k14 : PySem.W.keepIn K (.ref f14) = true)
    {f15 : Addr} {od15 an15 : Option Addr} {sl15 : Array (Option Value)} {oc15 kV15 dc15 pm15 ct15 : Value} {cd15 : Value} (a15 : PySem.W.nsIn K mainGlobals "_law_take" = some (some (.ref f15)))
    (l15 : K.lookup f15 = some ⟨oc15, od15, .func (PySem.W.fnOf "_law_take" "_law_take" (defArgs (top 27)) (defBody (top 27)) (defScope (top 27)) .none kV15 dc15 pm15 an15 cd15 ct15), sl15⟩) (q15 : PySem.W.codeIn K cd15 "_law_take" = true) (k15 : PySem.W.keepIn K (.ref f15) = true)
    {f16 : Addr} {od16 an16 : Option Addr} {sl16 : Array (Option Value)} {oc16 kV16 dc16 pm16 ct16 : Value} {cd16 : Value} (a16 : PySem.W.nsIn K mainGlobals "_law_function" = some (some (.ref f16)))
    (l16 : K.lookup f16 = some ⟨oc16, od16, .func (PySem.W.fnOf "_law_function" "_law_function" (defArgs (top 28)) (defBody (top 28)) (defScope (top 28)) .none kV16 dc16 pm16 an16 cd16 ct16), sl16⟩) (q16 : PySem.W.codeIn K cd16 "_law_function" = true) (k16 : PySem.W.keepIn K (.ref f16) = true)
    {f17 : Addr} {od17 an17 : Option Addr} {sl17 : Array (Option Value)} {oc17 kV17 dc17 pm17 ct17 : Value} {cd17 : Value} (a17 : PySem.W.nsIn K mainGlobals "_law_together" = some (some (.ref f17)))
    (l17 : K.lookup f17 = some ⟨oc17, od17, .func (PySem.W.fnOf "_law_together" "_law_together" (defArgs (top 29)) (defBody (top 29)) (defScope (top 29)) .none kV17 dc17 pm17 an17 cd17 ct17), sl17⟩) (q17 : PySem.W.codeIn K cd17 "_law_together" = true) (k17 : PySem.W.keepIn K (.ref f17) = true)
    {f18 : Addr} {od18 an18 : Option Addr} {sl18 : Array (Option Value)} {oc18 kV18 dc18 pm18 ct18 : Value} {cd18 : Value} (a18 : PySem.W.nsIn K mainGlobals "_law_cell_at" = some (some (.ref f18)))
    (l18 : K.lookup f18 = some ⟨oc18, od18, .func (PySem.W.fnOf "_law_cell_at" "_law_cell_at" (defArgs (top 30)) (defBody (top 30)) (defScope (top 30)) .none kV18 dc18 pm18 an18 cd18 ct18), sl18⟩) (q18 : PySem.W.codeIn K cd18 "_law_cell_at" = true) (k18 : PySem.W.keepIn K (.ref f18) = true)
    {f19 : Addr} {od19 an19 : Option Addr} {sl19 : Array (Option Value)} {oc19 kV19 dc19 pm19 ct19 : Value} {cd19 : Value} (a19 : PySem.W.nsIn K mainGlobals "_law_state" = some (some (.ref f19)))
    (l19 : K.lookup f19 = some ⟨oc19, od19, .func (PySem.W.fnOf "_law_state" "_law_state" (defArgs (top 31)) (defBody (top 31)) (defScope (top 31)) .none kV19 dc19 pm19 an19 cd19 ct19), sl19⟩) (q19 : PySem.W.codeIn K cd19 "_law_state" = true) (k19 : PySem.W.keepIn K (.ref f19) = true)
    {f20 : Addr} {od20 an20 : Option Addr} {sl20 : Array (Option Value)} {oc20 kV20 dc20 pm20 ct20 : Value} {cd20 : Value} (a20 : PySem.W.nsIn K mainGlobals "_law_same" = some (some (.ref f20)))
    (l20 : K.lookup f20 = some ⟨oc20, od20, .func (PySem.W.fnOf "_law_same" "_law_same" (defArgs (top 32)) (defBody (top 32)) (defScope (top 32)) .none kV20 dc20 pm20 an20 cd20 ct20), sl20⟩) (q20 : PySem.W.codeIn K cd20 "_law_same" = true) (k20 : PySem.W.keepIn K (.ref f20) = true)
    {f21 : Addr} {od21 an21 : Option Addr} {sl21 : Array (Option Value)} {oc21 kV21 dc21 pm21 ct21 : Value} {cd21 : Value} (a21 : PySem.W.nsIn K mainGlobals "_law_holds" = some (some (.ref f21)))
    (l21 : K.lookup f21 = some ⟨oc21, od21, .func (PySem.W.fnOf "_law_holds" "_law_holds" (defArgs (top 33)) (defBody (top 33)) (defScope (top 33)) .none kV21 dc21 pm21 an21 cd21 ct21), sl21⟩) (q21 : PySem.W.codeIn K cd21 "_law_holds" = true) (k21 : PySem.W.keepIn K (.ref f21) = true)
    {f22 : Addr} {od22 an22 : Option Addr} {sl22 : Array (Option Value)} {oc22 kV22 dc22 pm22 ct22 : Value} {cd22 : Value} (a22 : PySem.W.nsIn K mainGlobals "_law_good" = some (some (.ref f22)))
    (l22 : K.lookup f22 = some ⟨oc22, od22, .func (PySem.W.fnOf "_law_good" "_law_good" (defArgs (top 34)) (defBody (top 34)) (defScope (top 34)) .none kV22 dc22 pm22 an22 cd22 ct22), sl22⟩) (q22 : PySem.W.codeIn K cd22 "_law_good" = true) (k22 : PySem.W.keepIn K (.ref f22) = true)
    {f23 : Addr} {od23 an23 : Option Addr} {sl23 : Array (Option Value)} {oc23 kV23 dc23 pm23 ct23 : Value} {cd23 : Value} (a23 : PySem.W.nsIn K mainGlobals "_law_good_for" = some (some (.ref f23)))
    (l23 : K.lookup f23 = some ⟨oc23, od23, .func (PySem.W.fnOf "_law_good_for" "_law_good_for" (defArgs (top 35)) (defBody (top 35)) (defScope (top 35)) .none kV23 dc23 pm23 an23 cd23 ct23), sl23⟩) (q23 : PySem.W.codeIn K cd23 "_law_good_for" = true) (k23 : PySem.W.keepIn K (.ref f23) = true)
    {f24 : Addr} {od24 an24 : Option Addr} {sl24 : Array (Option Value)} {oc24 kV24 dc24 pm24 ct24 : Value} {cd24 : Value} (a24 : PySem.W.nsIn K mainGlobals "_law_terms" = some (some (.ref f24)))
    (l24 : K.lookup f24 = some ⟨oc24, od24, .func (PySem.W.fnOf "_law_terms" "_law_terms" (defArgs (top 36)) (defBody (top 36)) (defScope (top 36)) .none kV24 dc24 pm24 an24 cd24 ct24), sl24⟩) (q24 : PySem.W.codeIn K cd24 "_law_terms" = true) (k24 : PySem.W.keepIn K (.ref f24) = true)
    {f25 : Addr} {od25 an25 : Option Addr} {sl25 : Array (Option Value)} {oc25 kV25 dc25 pm25 ct25 : Value} {cd25 : Value} (a25 : PySem.W.nsIn K mainGlobals "_law_switches" = some (some (.ref f25)))
    (l25 : K.lookup f25 = some ⟨oc25, od25, .func (PySem.W.fnOf "_law_switches" "_law_switches" (defArgs (top 37)) (defBody (top 37)) (defScope (top 37)) .none kV25 dc25 pm25 an25 cd25 ct25), sl25⟩) (q25 : PySem.W.codeIn K cd25 "_law_switches" = true) (k25 : PySem.W.keepIn K (.ref f25) = true)
    {f26 : Addr} {od26 an26 : Option Addr} {sl26 : Array (Option Value)} {oc26 kV26 dc26 pm26 ct26 : Value} {cd26 : Value} (a26 : PySem.W.nsIn K mainGlobals "_law_lies_in" = some (some (.ref f26)))
    (l26 : K.lookup f26 = some ⟨oc26, od26, .func (PySem.W.fnOf "_law_lies_in" "_law_lies_in" (defArgs (top 38)) (defBody (top 38)) (defScope (top 38)) .none kV26 dc26 pm26 an26 cd26 ct26), sl26⟩) (q26 : PySem.W.codeIn K cd26 "_law_lies_in" = true) (k26 : PySem.W.keepIn K (.ref f26) = true)
    {f27 : Addr} {od27 an27 : Option Addr} {sl27 : Array (Option Value)} {oc27 kV27 dc27 pm27 ct27 : Value} {cd27 : Value} (a27 : PySem.W.nsIn K mainGlobals "_law_broad" = some (some (.ref f27)))
    (l27 : K.lookup f27 = some ⟨oc27, od27, .func (PySem.W.fnOf "_law_broad" "_law_broad" (defArgs (top 39)) (defBody (top 39)) (defScope (top 39)) .none kV27 dc27 pm27 an27 cd27 ct27), sl27⟩) (q27 : PySem.W.codeIn K cd27 "_law_broad" = true) (k27 : PySem.W.keepIn K (.ref f27) = true)
    {f28 : Addr} {od28 an28 : Option Addr} {sl28 : Array (Option Value)} {oc28 kV28 dc28 pm28 ct28 : Value} {cd28 : Value} (a28 : PySem.W.nsIn K mainGlobals "law" = some (some (.ref f28)))
    (l28 : K.lookup f28 = some ⟨oc28, od28, .func (PySem.W.fnOf "law" "law" (defArgs (top 40)) (defBody (top 40)) (defScope (top 40)) .none kV28 dc28 pm28 an28 cd28 ct28), sl28⟩) (q28 : PySem.W.codeIn K cd28 "law" = true) (k28 : PySem.W.keepIn K (.ref f28) = true)
    (z_all : PySem.W.nsIn K mainGlobals "all" = some none)
    (z_any : PySem.W.nsIn K mainGlobals "any" = some none)
    (z_bool : PySem.W.nsIn K mainGlobals "bool" = some none)
    (z_enumerate : PySem.W.nsIn K mainGlobals "enumerate" = some none)
    (z_int : PySem.W.nsIn K mainGlobals "int" = some none)
    (z_isinstance : PySem.W.nsIn K mainGlobals "isinstance" = some none)
    (z_len : PySem.W.nsIn K mainGlobals "len" = some none)
    (z_list : PySem.W.nsIn K mainGlobals "list" = some none)
    (z_max : PySem.W.nsIn K mainGlobals "max" = some none)
    (z_min : PySem.W.nsIn K mainGlobals "min" = some none)
    (z_range : PySem.W.nsIn K mainGlobals "range" = some none)
    (z_str : PySem.W.nsIn K mainGlobals "str" = some none)
    (z_tuple : PySem.W.nsIn K mainGlobals "tuple" = some none)
    (z_zip : PySem.W.nsIn K mainGlobals "zip" = some none)
    {t_SIGNS : Tok} (s_SIGNS : PySem.W.nsIn K mainGlobals "SIGNS" = some (some (.str ⟨([45, 48, 49] : List Nat).toArray⟩ t_SIGNS)))
    {e_SWITCHES_BY_POINTS : Addr} {w_SWITCHES_BY_POINTS : Obj} (d_SWITCHES_BY_POINTS : PySem.W.nsIn K mainGlobals "SWITCHES_BY_POINTS" = some (some (.ref e_SWITCHES_BY_POINTS))) (u_SWITCHES_BY_POINTS : K.lookup e_SWITCHES_BY_POINTS = some w_SWITCHES_BY_POINTS) (v_SWITCHES_BY_POINTS : tabB w_SWITCHES_BY_POINTS t_SWITCHES_BY_POINTS = true) (y_SWITCHES_BY_POINTS : (e_SWITCHES_BY_POINTS == sysModules) = false)
    {t_MOST_SWITCHES_TOGETHER : Tok} (s_MOST_SWITCHES_TOGETHER : PySem.W.nsIn K mainGlobals "MOST_SWITCHES_TOGETHER" = some (some (.int 3 t_MOST_SWITCHES_TOGETHER)))
    : Txt K mg ∧ mg "law" = some (.ref f28) ∧ L2.Fun K "law" "law" (top 40) f28 (PySem.W.fnOf "law" "law" (defArgs (top 40)) (defBody (top 40)) (defScope (top 40)) .none kV28 dc28 pm28 an28 cd28 ct28) :=
  ⟨⟨⟨f0, _, PySem.W.mg_of X G a0, fun_mk l0 q0 k0⟩, ⟨f1, _, PySem.W.mg_of X G a1, fun_mk l1 q1 k1⟩, ⟨f2, _, PySem.W.mg_of X G a2, fun_mk l2 q2 k2⟩, ⟨f3, _, PySem.W.mg_of X G a3, fun_mk l3 q3 k3⟩, ⟨f4, _, PySem.W.mg_of X G a4, fun_mk l4 q4 k4⟩, ⟨f5, _, PySem.W.mg_of X G a5, fun_mk l5 q5 k5⟩, ⟨f6, _, PySem.W.mg_of X G a6, fun_mk l6 q6 k6⟩, ⟨f7, _, PySem.W.mg_of X G a7, fun_mk l7 q7 k7⟩, ⟨f8, _, PySem.W.mg_of X G a8, fun_mk l8 q8 k8⟩, ⟨f9, _, PySem.W.mg_of X G a9, fun_mk l9 q9 k9⟩, ⟨f10, _, PySem.W.mg_of X G a10, fun_mk l10 q10 k10⟩, ⟨f11, _, PySem.W.mg_of X G a11, fun_mk l11 q11 k11⟩, ⟨f12, _, PySem.W.mg_of X G a12, fun_mk l12 q12 k12⟩, ⟨f13, _, PySem.W.mg_of X G a13, fun_mk l13 q13 k13⟩, ⟨f14, _, PySem.W.mg_of X G a14, fun_mk l14 q14 k14⟩, ⟨f15, _, PySem.W.mg_of X G a15, fun_mk l15 q15 k15⟩, ⟨f16, _, PySem.W.mg_of X G a16, fun_mk l16 q16 k16⟩, ⟨f17, _, PySem.W.mg_of X G a17, fun_mk l17 q17 k17⟩, ⟨f18, _, PySem.W.mg_of X G a18, fun_mk l18 q18 k18⟩, ⟨f19, _, PySem.W.mg_of X G a19, fun_mk l19 q19 k19⟩, ⟨f20, _, PySem.W.mg_of X G a20, fun_mk l20 q20 k20⟩, ⟨f21, _, PySem.W.mg_of X G a21, fun_mk l21 q21 k21⟩, ⟨f22, _, PySem.W.mg_of X G a22, fun_mk l22 q22 k22⟩, ⟨f23, _, PySem.W.mg_of X G a23, fun_mk l23 q23 k23⟩, ⟨f24, _, PySem.W.mg_of X G a24, fun_mk l24 q24 k24⟩, ⟨f25, _, PySem.W.mg_of X G a25, fun_mk l25 q25 k25⟩, ⟨f26, _, PySem.W.mg_of X G a26, fun_mk l26 q26 k26⟩, ⟨f27, _, PySem.W.mg_of X G a27, fun_mk l27 q27 k27⟩, ⟨f28, _, PySem.W.mg_of X G a28, fun_mk l28 q28 k28⟩, PySem.W.mg_none_of X G z_all, PySem.W.mg_none_of X G z_any, PySem.W.mg_none_of X G z_bool, PySem.W.mg_none_of X G z_enumerate, PySem.W.mg_none_of X G z_int, PySem.W.mg_none_of X G z_isinstance, PySem.W.mg_none_of X G z_len, PySem.W.mg_none_of X G z_list, PySem.W.mg_none_of X G z_max, PySem.W.mg_none_of X G z_min, PySem.W.mg_none_of X G z_range, PySem.W.mg_none_of X G z_str, PySem.W.mg_none_of X G z_tuple, PySem.W.mg_none_of X G z_zip, ⟨_, PySem.W.mg_of X G s_SIGNS⟩, ⟨_, _, PySem.W.mg_of X G d_SWITCHES_BY_POINTS, u_SWITCHES_BY_POINTS, v_SWITCHES_BY_POINTS, y_SWITCHES_BY_POINTS⟩, ⟨_, PySem.W.mg_of X G s_MOST_SWITCHES_TOGETHER⟩⟩, PySem.W.mg_of X G a28, fun_mk l28 q28 k28⟩
theorem all_mk {P : Program} {w : World} {K : PySem.W.Frag} {h : Heap} {mg : Str → Option Value} {fa : Addr} (X : K.In h) (G : h.Ns mainGlobals mg) (hfa : mg "law" = some (.ref fa))
    {f0 : Addr} {od0 an0 : Option Addr} {sl0 : Array (Option Value)} {oc0 kV0 dc0 pm0 ct0 : Value} {cd0 : Value} (a0 : PySem.W.nsIn K mainGlobals "is_whole" = some (some (.ref f0)))
    (l0 : K.lookup f0 = some ⟨oc0, od0, .func (PySem.W.fnOf "is_whole" "is_whole" (defArgs (top 4)) (defBody (top 4)) (defScope (top 4)) .none kV0 dc0 pm0 an0 cd0 ct0), sl0⟩) (q0 : PySem.W.codeIn K cd0 "is_whole" = true) (k0 : PySem.W.keepIn K (.ref f0) = true)
    {f1 : Addr} {od1 an1 : Option Addr} {sl1 : Array (Option Value)} {oc1 kV1 dc1 pm1 ct1 : Value} {cd1 : Value} (a1 : PySem.W.nsIn K mainGlobals "is_whole_within" = some (some (.ref f1)))
    (l1 : K.lookup f1 = some ⟨oc1, od1, .func (PySem.W.fnOf "is_whole_within" "is_whole_within" (defArgs (top 5)) (defBody (top 5)) (defScope (top 5)) .none kV1 dc1 pm1 an1 cd1 ct1), sl1⟩) (q1 : PySem.W.codeIn K cd1 "is_whole_within" = true) (k1 : PySem.W.keepIn K (.ref f1) = true)
    {f2 : Addr} {od2 an2 : Option Addr} {sl2 : Array (Option Value)} {oc2 kV2 dc2 pm2 ct2 : Value} {cd2 : Value} (a2 : PySem.W.nsIn K mainGlobals "is_answer" = some (some (.ref f2)))
    (l2 : K.lookup f2 = some ⟨oc2, od2, .func (PySem.W.fnOf "is_answer" "is_answer" (defArgs (top 8)) (defBody (top 8)) (defScope (top 8)) .none kV2 dc2 pm2 an2 cd2 ct2), sl2⟩) (q2 : PySem.W.codeIn K cd2 "is_answer" = true) (k2 : PySem.W.keepIn K (.ref f2) = true)
    {f3 : Addr} {od3 an3 : Option Addr} {sl3 : Array (Option Value)} {oc3 kV3 dc3 pm3 ct3 : Value} {cd3 : Value} (a3 : PySem.W.nsIn K mainGlobals "is_function" = some (some (.ref f3)))
    (l3 : K.lookup f3 = some ⟨oc3, od3, .func (PySem.W.fnOf "is_function" "is_function" (defArgs (top 9)) (defBody (top 9)) (defScope (top 9)) .none kV3 dc3 pm3 an3 cd3 ct3), sl3⟩) (q3 : PySem.W.codeIn K cd3 "is_function" = true) (k3 : PySem.W.keepIn K (.ref f3) = true)
    {f4 : Addr} {od4 an4 : Option Addr} {sl4 : Array (Option Value)} {oc4 kV4 dc4 pm4 ct4 : Value} {cd4 : Value} (a4 : PySem.W.nsIn K mainGlobals "switches_of" = some (some (.ref f4)))
    (l4 : K.lookup f4 = some ⟨oc4, od4, .func (PySem.W.fnOf "switches_of" "switches_of" (defArgs (top 10)) (defBody (top 10)) (defScope (top 10)) .none kV4 dc4 pm4 an4 cd4 ct4), sl4⟩) (q4 : PySem.W.codeIn K cd4 "switches_of" = true) (k4 : PySem.W.keepIn K (.ref f4) = true)
    {f5 : Addr} {od5 an5 : Option Addr} {sl5 : Array (Option Value)} {oc5 kV5 dc5 pm5 ct5 : Value} {cd5 : Value} (a5 : PySem.W.nsIn K mainGlobals "all_terms" = some (some (.ref f5)))
    (l5 : K.lookup f5 = some ⟨oc5, od5, .func (PySem.W.fnOf "all_terms" "all_terms" (defArgs (top 13)) (defBody (top 13)) (defScope (top 13)) .none kV5 dc5 pm5 an5 cd5 ct5), sl5⟩) (q5 : PySem.W.codeIn K cd5 "all_terms" = true) (k5 : PySem.W.keepIn K (.ref f5) = true)
    {f6 : Addr} {od6 an6 : Option Addr} {sl6 : Array (Option Value)} {oc6 kV6 dc6 pm6 ct6 : Value} {cd6 : Value} (a6 : PySem.W.nsIn K mainGlobals "bits_of" = some (some (.ref f6)))
    (l6 : K.lookup f6 = some ⟨oc6, od6, .func (PySem.W.fnOf "bits_of" "bits_of" (defArgs (top 14)) (defBody (top 14)) (defScope (top 14)) .none kV6 dc6 pm6 an6 cd6 ct6), sl6⟩) (q6 : PySem.W.codeIn K cd6 "bits_of" = true) (k6 : PySem.W.keepIn K (.ref f6) = true)
    {f7 : Addr} {od7 an7 : Option Addr} {sl7 : Array (Option Value)} {oc7 kV7 dc7 pm7 ct7 : Value} {cd7 : Value} (a7 : PySem.W.nsIn K mainGlobals "points_of" = some (some (.ref f7)))
    (l7 : K.lookup f7 = some ⟨oc7, od7, .func (PySem.W.fnOf "points_of" "points_of" (defArgs (top 15)) (defBody (top 15)) (defScope (top 15)) .none kV7 dc7 pm7 an7 cd7 ct7), sl7⟩) (q7 : PySem.W.codeIn K cd7 "points_of" = true) (k7 : PySem.W.keepIn K (.ref f7) = true)
    {f8 : Addr} {od8 an8 : Option Addr} {sl8 : Array (Option Value)} {oc8 kV8 dc8 pm8 ct8 : Value} {cd8 : Value} (a8 : PySem.W.nsIn K mainGlobals "with_sign" = some (some (.ref f8)))
    (l8 : K.lookup f8 = some ⟨oc8, od8, .func (PySem.W.fnOf "with_sign" "with_sign" (defArgs (top 16)) (defBody (top 16)) (defScope (top 16)) .none kV8 dc8 pm8 an8 cd8 ct8), sl8⟩) (q8 : PySem.W.codeIn K cd8 "with_sign" = true) (k8 : PySem.W.keepIn K (.ref f8) = true)
    {f9 : Addr} {od9 an9 : Option Addr} {sl9 : Array (Option Value)} {oc9 kV9 dc9 pm9 ct9 : Value} {cd9 : Value} (a9 : PySem.W.nsIn K mainGlobals "holds_no_nought" = some (some (.ref f9)))
    (l9 : K.lookup f9 = some ⟨oc9, od9, .func (PySem.W.fnOf "holds_no_nought" "holds_no_nought" (defArgs (top 18)) (defBody (top 18)) (defScope (top 18)) .none kV9 dc9 pm9 an9 cd9 ct9), sl9⟩) (q9 : PySem.W.codeIn K cd9 "holds_no_nought" = true) (k9 : PySem.W.keepIn K (.ref f9) = true)
    {f10 : Addr} {od10 an10 : Option Addr} {sl10 : Array (Option Value)} {oc10 kV10 dc10 pm10 ct10 : Value} {cd10 : Value} (a10 : PySem.W.nsIn K mainGlobals "are_together" = some (some (.ref f10)))
    (l10 : K.lookup f10 = some ⟨oc10, od10, .func (PySem.W.fnOf "are_together" "are_together" (defArgs (top 21)) (defBody (top 21)) (defScope (top 21)) .none kV10 dc10 pm10 an10 cd10 ct10), sl10⟩) (q10 : PySem.W.codeIn K cd10 "are_together" = true) (k10 : PySem.W.keepIn K (.ref f10) = true)
    {f11 : Addr} {od11 an11 : Option Addr} {sl11 : Array (Option Value)} {oc11 kV11 dc11 pm11 ct11 : Value} {cd11 : Value} (a11 : PySem.W.nsIn K mainGlobals "need_together" = some (some (.ref f11)))
    (l11 : K.lookup f11 = some ⟨oc11, od11, .func (PySem.W.fnOf "need_together" "need_together" (defArgs (top 22)) (defBody (top 22)) (defScope (top 22)) .none kV11 dc11 pm11 an11 cd11 ct11), sl11⟩) (q11 : PySem.W.codeIn K cd11 "need_together" = true) (k11 : PySem.W.keepIn K (.ref f11) = true)
    {f12 : Addr} {od12 an12 : Option Addr} {sl12 : Array (Option Value)} {oc12 kV12 dc12 pm12 ct12 : Value} {cd12 : Value} (a12 : PySem.W.nsIn K mainGlobals "numbers_good_for" = some (some (.ref f12)))
    (l12 : K.lookup f12 = some ⟨oc12, od12, .func (PySem.W.fnOf "numbers_good_for" "numbers_good_for" (defArgs (top 23)) (defBody (top 23)) (defScope (top 23)) .none kV12 dc12 pm12 an12 cd12 ct12), sl12⟩) (q12 : PySem.W.codeIn K cd12 "numbers_good_for" = true) (k12 : PySem.W.keepIn K (.ref f12) = true)
    {f13 : Addr} {od13 an13 : Option Addr} {sl13 : Array (Option Value)} {oc13 kV13 dc13 pm13 ct13 : Value} {cd13 : Value} (a13 : PySem.W.nsIn K mainGlobals "is_broad" = some (some (.ref f13)))
    (l13 : K.lookup f13 = some ⟨oc13, od13, .func (PySem.W.fnOf "is_broad" "is_broad" (defArgs (top 24)) (defBody (top 24)) (defScope (top 24)) .none kV13 dc13 pm13 an13 cd13 ct13), sl13⟩) (q13 : PySem.W.codeIn K cd13 "is_broad" = true) (k13 : PySem.W.keepIn K (.ref f13) = true)
    {f14 : Addr} {od14 an14 : Option Addr} {sl14 : Array (Option Value)} {oc14 kV14 dc14 pm14 ct14 : Value} {cd14 : Value} (a14 : PySem.W.nsIn K mainGlobals "broad_terms" = some (some (.ref f14)))
    (l14 : K.lookup f14 = some ⟨oc14, od14, .func (PySem.W.fnOf "broad_terms" "broad_terms" (defArgs (top 25)) (defBody (top 25)) (defScope (top 25)) .none kV14 dc14 pm14 an14 cd14 ct14), sl14⟩) (q14 : PySem.W.codeIn K cd14 "broad_terms" = true) (k14 : PySem.W.keepIn K (.ref f14) = true)
    {f15 : Addr} {od15 an15 : Option Addr} {sl15 : Array (Option Value)} {oc15 kV15 dc15 pm15 ct15 : Value} {cd15 : Value} (a15 : PySem.W.nsIn K mainGlobals "_law_take" = some (some (.ref f15)))
    (l15 : K.lookup f15 = some ⟨oc15, od15, .func (PySem.W.fnOf "_law_take" "_law_take" (defArgs (top 27)) (defBody (top 27)) (defScope (top 27)) .none kV15 dc15 pm15 an15 cd15 ct15), sl15⟩) (q15 : PySem.W.codeIn K cd15 "_law_take" = true) (k15 : PySem.W.keepIn K (.ref f15) = true)
    {f16 : Addr} {od16 an16 : Option Addr} {sl16 : Array (Option Value)} {oc16 kV16 dc16 pm16 ct16 : Value} {cd16 : Value} (a16 : PySem.W.nsIn K mainGlobals "_law_function" = some (some (.ref f16)))
    (l16 : K.lookup f16 = some ⟨oc16, od16, .func (PySem.W.fnOf "_law_function" "_law_function" (defArgs (top 28)) (defBody (top 28)) (defScope (top 28)) .none kV16 dc16 pm16 an16 cd16 ct16), sl16⟩) (q16 : PySem.W.codeIn K cd16 "_law_function" = true) (k16 : PySem.W.keepIn K (.ref f16) = true)
    {f17 : Addr} {od17 an17 : Option Addr} {sl17 : Array (Option Value)} {oc17 kV17 dc17 pm17 ct17 : Value} {cd17 : Value} (a17 : PySem.W.nsIn K mainGlobals "_law_together" = some (some (.ref f17)))
    (l17 : K.lookup f17 = some ⟨oc17, od17, .func (PySem.W.fnOf "_law_together" "_law_together" (defArgs (top 29)) (defBody (top 29)) (defScope (top 29)) .none kV17 dc17 pm17 an17 cd17 ct17), sl17⟩) (q17 : PySem.W.codeIn K cd17 "_law_together" = true) (k17 : PySem.W.keepIn K (.ref f17) = true)
    {f18 : Addr} {od18 an18 : Option Addr} {sl18 : Array (Option Value)} {oc18 kV18 dc18 pm18 ct18 : Value} {cd18 : Value} (a18 : PySem.W.nsIn K mainGlobals "_law_cell_at" = some (some (.ref f18)))
    (l18 : K.lookup f18 = some ⟨oc18, od18, .func (PySem.W.fnOf "_law_cell_at" "_law_cell_at" (defArgs (top 30)) (defBody (top 30)) (defScope (top 30)) .none kV18 dc18 pm18 an18 cd18 ct18), sl18⟩) (q18 : PySem.W.codeIn K cd18 "_law_cell_at" = true) (k18 : PySem.W.keepIn K (.ref f18) = true)
    {f19 : Addr} {od19 an19 : Option Addr} {sl19 : Array (Option Value)} {oc19 kV19 dc19 pm19 ct19 : Value} {cd19 : Value} (a19 : PySem.W.nsIn K mainGlobals "_law_state" = some (some (.ref f19)))
    (l19 : K.lookup f19 = some ⟨oc19, od19, .func (PySem.W.fnOf "_law_state" "_law_state" (defArgs (top 31)) (defBody (top 31)) (defScope (top 31)) .none kV19 dc19 pm19 an19 cd19 ct19), sl19⟩) (q19 : PySem.W.codeIn K cd19 "_law_state" = true) (k19 : PySem.W.keepIn K (.ref f19) = true)
    {f20 : Addr} {od20 an20 : Option Addr} {sl20 : Array (Option Value)} {oc20 kV20 dc20 pm20 ct20 : Value} {cd20 : Value} (a20 : PySem.W.nsIn K mainGlobals "_law_same" = some (some (.ref f20)))
    (l20 : K.lookup f20 = some ⟨oc20, od20, .func (PySem.W.fnOf "_law_same" "_law_same" (defArgs (top 32)) (defBody (top 32)) (defScope (top 32)) .none kV20 dc20 pm20 an20 cd20 ct20), sl20⟩) (q20 : PySem.W.codeIn K cd20 "_law_same" = true) (k20 : PySem.W.keepIn K (.ref f20) = true)
    {f21 : Addr} {od21 an21 : Option Addr} {sl21 : Array (Option Value)} {oc21 kV21 dc21 pm21 ct21 : Value} {cd21 : Value} (a21 : PySem.W.nsIn K mainGlobals "_law_holds" = some (some (.ref f21)))
    (l21 : K.lookup f21 = some ⟨oc21, od21, .func (PySem.W.fnOf "_law_holds" "_law_holds" (defArgs (top 33)) (defBody (top 33)) (defScope (top 33)) .none kV21 dc21 pm21 an21 cd21 ct21), sl21⟩) (q21 : PySem.W.codeIn K cd21 "_law_holds" = true) (k21 : PySem.W.keepIn K (.ref f21) = true)
    {f22 : Addr} {od22 an22 : Option Addr} {sl22 : Array (Option Value)} {oc22 kV22 dc22 pm22 ct22 : Value} {cd22 : Value} (a22 : PySem.W.nsIn K mainGlobals "_law_good" = some (some (.ref f22)))
    (l22 : K.lookup f22 = some ⟨oc22, od22, .func (PySem.W.fnOf "_law_good" "_law_good" (defArgs (top 34)) (defBody (top 34)) (defScope (top 34)) .none kV22 dc22 pm22 an22 cd22 ct22), sl22⟩) (q22 : PySem.W.codeIn K cd22 "_law_good" = true) (k22 : PySem.W.keepIn K (.ref f22) = true)
    {f23 : Addr} {od23 an23 : Option Addr} {sl23 : Array (Option Value)} {oc23 kV23 dc23 pm23 ct23 : Value} {cd23 : Value} (a23 : PySem.W.nsIn K mainGlobals "_law_good_for" = some (some (.ref f23)))
    (l23 : K.lookup f23 = some ⟨oc23, od23, .func (PySem.W.fnOf "_law_good_for" "_law_good_for" (defArgs (top 35)) (defBody (top 35)) (defScope (top 35)) .none kV23 dc23 pm23 an23 cd23 ct23), sl23⟩) (q23 : PySem.W.codeIn K cd23 "_law_good_for" = true) (k23 : PySem.W.keepIn K (.ref f23) = true)
    {f24 : Addr} {od24 an24 : Option Addr} {sl24 : Array (Option Value)} {oc24 kV24 dc24 pm24 ct24 : Value} {cd24 : Value} (a24 : PySem.W.nsIn K mainGlobals "_law_terms" = some (some (.ref f24)))
    (l24 : K.lookup f24 = some ⟨oc24, od24, .func (PySem.W.fnOf "_law_terms" "_law_terms" (defArgs (top 36)) (defBody (top 36)) (defScope (top 36)) .none kV24 dc24 pm24 an24 cd24 ct24), sl24⟩) (q24 : PySem.W.codeIn K cd24 "_law_terms" = true) (k24 : PySem.W.keepIn K (.ref f24) = true)
    {f25 : Addr} {od25 an25 : Option Addr} {sl25 : Array (Option Value)} {oc25 kV25 dc25 pm25 ct25 : Value} {cd25 : Value} (a25 : PySem.W.nsIn K mainGlobals "_law_switches" = some (some (.ref f25)))
    (l25 : K.lookup f25 = some ⟨oc25, od25, .func (PySem.W.fnOf "_law_switches" "_law_switches" (defArgs (top 37)) (defBody (top 37)) (defScope (top 37)) .none kV25 dc25 pm25 an25 cd25 ct25), sl25⟩) (q25 : PySem.W.codeIn K cd25 "_law_switches" = true) (k25 : PySem.W.keepIn K (.ref f25) = true)
    {f26 : Addr} {od26 an26 : Option Addr} {sl26 : Array (Option Value)} {oc26 kV26 dc26 pm26 ct26 : Value} {cd26 : Value} (a26 : PySem.W.nsIn K mainGlobals "_law_lies_in" = some (some (.ref f26)))
    (l26 : K.lookup f26 = some ⟨oc26, od26, .func (PySem.W.fnOf "_law_lies_in" "_law_lies_in" (defArgs (top 38)) (defBody (top 38)) (defScope (top 38)) .none kV26 dc26 pm26 an26 cd26 ct26), sl26⟩) (q26 : PySem.W.codeIn K cd26 "_law_lies_in" = true) (k26 : PySem.W.keepIn K (.ref f26) = true)
    {f27 : Addr} {od27 an27 : Option Addr} {sl27 : Array (Option Value)} {oc27 kV27 dc27 pm27 ct27 : Value} {cd27 : Value} (a27 : PySem.W.nsIn K mainGlobals "_law_broad" = some (some (.ref f27)))
    (l27 : K.lookup f27 = some ⟨oc27, od27, .func (PySem.W.fnOf "_law_broad" "_law_broad" (defArgs (top 39)) (defBody (top 39)) (defScope (top 39)) .none kV27 dc27 pm27 an27 cd27 ct27), sl27⟩) (q27 : PySem.W.codeIn K cd27 "_law_broad" = true) (k27 : PySem.W.keepIn K (.ref f27) = true)
    {f28 : Addr} {od28 an28 : Option Addr} {sl28 : Array (Option Value)} {oc28 kV28 dc28 pm28 ct28 : Value} {cd28 : Value} (a28 : PySem.W.nsIn K mainGlobals "law" = some (some (.ref f28)))
    (l28 : K.lookup f28 = some ⟨oc28, od28, .func (PySem.W.fnOf "law" "law" (defArgs (top 40)) (defBody (top 40)) (defScope (top 40)) .none kV28 dc28 pm28 an28 cd28 ct28), sl28⟩) (q28 : PySem.W.codeIn K cd28 "law" = true) (k28 : PySem.W.keepIn K (.ref f28) = true)
    (z_all : PySem.W.nsIn K mainGlobals "all" = some none)
    (z_any : PySem.W.nsIn K mainGlobals "any" = some none)
    (z_bool : PySem.W.nsIn K mainGlobals "bool" = some none)
    (z_enumerate : PySem.W.nsIn K mainGlobals "enumerate" = some none)
    (z_int : PySem.W.nsIn K mainGlobals "int" = some none)
    (z_isinstance : PySem.W.nsIn K mainGlobals "isinstance" = some none)
    (z_len : PySem.W.nsIn K mainGlobals "len" = some none)
    (z_list : PySem.W.nsIn K mainGlobals "list" = some none)
    (z_max : PySem.W.nsIn K mainGlobals "max" = some none)
    (z_min : PySem.W.nsIn K mainGlobals "min" = some none)
    (z_range : PySem.W.nsIn K mainGlobals "range" = some none)
    (z_str : PySem.W.nsIn K mainGlobals "str" = some none)
    (z_tuple : PySem.W.nsIn K mainGlobals "tuple" = some none)
    (z_zip : PySem.W.nsIn K mainGlobals "zip" = some none)
    {t_SIGNS : Tok} (s_SIGNS : PySem.W.nsIn K mainGlobals "SIGNS" = some (some (.str ⟨([45, 48, 49] : List Nat).toArray⟩ t_SIGNS)))
    {e_SWITCHES_BY_POINTS : Addr} {w_SWITCHES_BY_POINTS : Obj} (d_SWITCHES_BY_POINTS : PySem.W.nsIn K mainGlobals "SWITCHES_BY_POINTS" = some (some (.ref e_SWITCHES_BY_POINTS))) (u_SWITCHES_BY_POINTS : K.lookup e_SWITCHES_BY_POINTS = some w_SWITCHES_BY_POINTS) (v_SWITCHES_BY_POINTS : tabB w_SWITCHES_BY_POINTS t_SWITCHES_BY_POINTS = true) (y_SWITCHES_BY_POINTS : (e_SWITCHES_BY_POINTS == sysModules) = false)
    {t_MOST_SWITCHES_TOGETHER : Tok} (s_MOST_SWITCHES_TOGETHER : PySem.W.nsIn K mainGlobals "MOST_SWITCHES_TOGETHER" = some (some (.int 3 t_MOST_SWITCHES_TOGETHER)))
    : ∃ fd : FuncData, (∀ (s : Shared) (u : Value), BindsTo s fd ⟨[u], []⟩ [("_law_script", u)]) ∧ ∀ base : Heap, K.In base → base.Ns mainGlobals mg → FnOk P w K mg base CX0 8 fa fd ["_law_script"] (DSp K Ec0 1 F_law) := by
  obtain ⟨T, hm, hF⟩ := txt_mk X G a0 l0 q0 k0 a1 l1 q1 k1 a2 l2 q2 k2 a3 l3 q3 k3 a4 l4 q4 k4 a5 l5 q5 k5 a6 l6 q6 k6 a7 l7 q7 k7 a8 l8 q8 k8 a9 l9 q9 k9 a10 l10 q10 k10 a11 l11 q11 k11 a12 l12 q12 k12 a13 l13 q13 k13 a14 l14 q14 k14 a15 l15 q15 k15 a16 l16 q16 k16 a17 l17 q17 k17 a18 l18 q18 k18 a19 l19 q19 k19 a20 l20 q20 k20 a21 l21 q21 k21 a22 l22 q22 k22 a23 l23 q23 k23 a24 l24 q24 k24 a25 l25 q25 k25 a26 l26 q26 k26 a27 l27 q27 k27 a28 l28 q28 k28 z_all z_any z_bool z_enumerate z_int z_isinstance z_len z_list z_max z_min z_range z_str z_tuple z_zip s_SIGNS d_SWITCHES_BY_POINTS u_SWITCHES_BY_POINTS v_SWITCHES_BY_POINTS y_SWITCHES_BY_POINTS s_MOST_SWITCHES_TOGETHER
  have e := hfa.symm.trans hm
  cases e
  exact ⟨_, fun s u => .of_eq rfl, fun base _ _ => ok_all hF T⟩
end K61
-- DEPTH 8

namespace K61
open PySem DL
def terms : Nat → List (List Nat)
  | 0 => [[]]
  | n + 1 => (terms n).flatMap fun t => [t ++ [45], t ++ [48], t ++ [49]]
def bitsOf : Nat → List Nat
  | 45 => [0, 1]
  | 49 => [1]
  | _ => [0]
def pts (cs : List Nat) : List Nat := cs.foldl (fun ps c => ps.flatMap fun p => (bitsOf c).map (2 * p + ·)) [0]
def dInts (l : List Nat) : List D := l.map fun (p : Nat) => D.int (p : Int)
theorem all_terms_eq1 (O : Ow) : F_all_terms [.int 1] O = .ok (.lst ((terms 1).map .str)) O := by kernel_rfl
theorem all_terms_eq2 (O : Ow) : F_all_terms [.int 2] O = .ok (.lst ((terms 2).map .str)) O := by kernel_rfl
theorem all_terms_eq3 (O : Ow) : F_all_terms [.int 3] O = .ok (.lst ((terms 3).map .str)) O := by kernel_rfl
theorem all_terms_eq4 (O : Ow) : F_all_terms [.int 4] O = .ok (.lst ((terms 4).map .str)) O := by kernel_rfl
def allT : List (List Nat) := terms 1 ++ terms 2 ++ terms 3 ++ terms 4
theorem pts_all (O : Ow) : (allT.map fun cs => F_points_of [.str cs] O) = allT.map fun cs => R.ok (.lst (dInts (pts cs))) O := by kernel_rfl

def allP : List (List Nat × Nat) := allT.flatMap fun cs => (List.range (2 ^ cs.length)).map fun p => (cs, p)
def sgn (c : Nat) : Bool := c == 45 || c == 48 || c == 49
def bit (c : Nat) : Bool := c == 48 || c == 49
theorem mem_allP {cs : List Nat} {p : Nat} (h : cs ∈ allT) (hp : p < 2 ^ cs.length) : (cs, p) ∈ allP := by
  unfold allP
  rw [List.mem_flatMap]
  exact ⟨cs, h, List.mem_map.mpr ⟨p, List.mem_range.mpr hp, rfl⟩⟩
theorem points_of_eq {cs : List Nat} (h : cs ∈ allT) (O : Ow) : F_points_of [.str cs] O = .ok (.lst (dInts (pts cs))) O := List.map_inj_left.mp (pts_all O) cs h
end K61

namespace K61
open PySem DL
end K61

namespace K61
open PySem DL
def Ans (d : D) : Prop := d = .int 0 ∨ d = .int 1 ∨ d = .non
def isZ : D → Bool
  | .int i => i == 0
  | _ => false
structure Fn (n : Nat) (f : List D) : Prop where
  n1 : 1 ≤ n
  n4 : n ≤ 4
  len : f.length = 2 ^ n
  ans : ∀ d ∈ f, Ans d
def goodB (f : List D) (cs : List Nat) : Bool := (pts cs).all fun p => !isZ (f.getD p .non)
theorem ne0 (O : Ow) {d : D} (h : Ans d) : fPy neF O d (.int 0) = .ok (.bl (!isZ d)) O := by rcases h with rfl | rfl | rfl <;> kernel_rfl
theorem eq0 (O : Ow) {d : D} (h : Ans d) : fPy eqF O d (.int 0) = .ok (.bl (isZ d)) O := by rcases h with rfl | rfl | rfl <;> kernel_rfl
theorem four {n : Nat} (h1 : 1 ≤ n) (h4 : n ≤ 4) : n = 1 ∨ n = 2 ∨ n = 3 ∨ n = 4 := by omega
theorem terms_in {n : Nat} (h1 : 1 ≤ n) (h4 : n ≤ 4) {cs : List Nat} (h : cs ∈ terms n) : cs ∈ allT := by
  unfold allT
  rcases four h1 h4 with rfl | rfl | rfl | rfl <;> simp [h]
theorem terms_len_all : ([1, 2, 3, 4].all fun n => (terms n).all fun cs => cs.length == n) = true := by decide +kernel
theorem terms_len {n : Nat} (h1 : 1 ≤ n) (h4 : n ≤ 4) {cs : List Nat} (h : cs ∈ terms n) : cs.length = n := by
  have := List.all_eq_true.mp terms_len_all n (by rcases four h1 h4 with rfl | rfl | rfl | rfl <;> simp)
  simpa using List.all_eq_true.mp this cs h
theorem pts_lt_all : (allT.all fun cs => (pts cs).all fun p => decide (p < 2 ^ cs.length)) = true := by decide +kernel
theorem pts_lt {cs : List Nat} (h : cs ∈ allT) {p : Nat} (hp : p ∈ pts cs) : p < 2 ^ cs.length := by
  have := List.all_eq_true.mp pts_lt_all cs h
  simpa using List.all_eq_true.mp this p hp
theorem pts_len_all : (allT.all fun cs => decide ((pts cs).length ≤ 16)) = true := by decide +kernel
theorem pts_len {cs : List Nat} (h : cs ∈ allT) : (pts cs).length ≤ 16 := by simpa using List.all_eq_true.mp pts_len_all cs h
theorem bls_map : ∀ l : List Bool, bls (l.map D.bl) = some l
  | [] => rfl
  | b :: l => by
    show (bls (l.map D.bl)).map (b :: ·) = _
    rw [bls_map l]; rfl
theorem fAll_map (O : Ow) (l : List Bool) : fAll O [.lst (l.map D.bl)] = .ok (.bl (l.all id)) O := by
  show (match bls (l.map D.bl) with | some bs => R.ok (D.bl (bs.all id)) O | none => R.bad) = _
  rw [bls_map]
theorem getD_of {f : List D} {p : Nat} (h : p < f.length) : f.getD p .non = f[p] := by
  rw [List.getD_eq_getElem?_getD, List.getElem?_eq_getElem h]; rfl
theorem filter_true {α : Type} (l : List α) : l.filter (fun _ => true) = l := by simp
theorem holds_eq {n : Nat} {f : List D} (hf : Fn n f) {cs : List Nat} (h : cs ∈ terms n) (O : Ow) : F_holds_no_nought [.tup f, .str cs] O = .ok (.bl (goodB f cs)) O := by
  have hA := terms_in hf.n1 hf.n4 h
  have hl := terms_len hf.n1 hf.n4 h
  have hit : dIt (dFn 1 F_points_of (dCons (dVar 1) dNil)) [some (.tup f), some (.str cs)] O = .ok (.val (dInts (pts cs))) O := dIt_lst ((dFn_eq (dCons1 rfl) rfl).trans (points_of_eq hA O))
  have hc := dComp_one (ext := 1) (i := 2) (ts := []) (te := dOp (fPy neF) (dOp fIx (dVar 0) (dVar 2)) (dC (.int 0))) (p := fun _ => true) (e := fun d => .bl (match d with | .int i => !isZ (f.getD i.toNat .non) | _ => false)) hit (by unfold dInts; have := pts_len hA; simp; omega) (fun d hd => rfl) (fun d hd _ => by
    obtain ⟨q, hq, rfl⟩ := List.mem_map.mp hd
    have hlt : q < f.length := by rw [hf.len, ← hl]; exact pts_lt hA hq
    refine (dOp_eq ((dOp_eq rfl rfl).trans (fIx_tup (i := q) hlt)) rfl).trans ((ne0 O (hf.ans _ (List.getElem_mem hlt))).trans ?_)
    have : ((q : Int)).toNat = q := by omega
    show _ = R.ok (D.bl (!isZ (f.getD ((q : Int)).toNat .non))) O
    rw [this, getD_of hlt]) false
  have e2 : (((dInts (pts cs)).filter fun _ => true).map fun d => D.bl (match d with | .int i => !isZ (f.getD i.toNat .non) | _ => false)) = ((pts cs).map fun p => !isZ (f.getD p .non)).map D.bl := by
    rw [filter_true]
    unfold dInts
    rw [List.map_map, List.map_map]
    exact List.map_congr_left fun q _ => by
      show D.bl (!isZ (f.getD ((q : Int)).toNat .non)) = D.bl (!isZ (f.getD q .non))
      have : ((q : Int)).toNat = q := by omega
      rw [this]
  rw [e2] at hc
  show fin (sRet _ [some (.tup f), some (.str cs)] O) = _
  rw [sRet_eq ((dCall_eq (dCons1 hc)).trans (fAll_map O _))]
  show R.ok (D.bl _) O = _
  unfold goodB
  congr 2
  rw [List.all_map]; rfl
theorem answer_eq (O : Ow) {d : D} (h : Ans d) : F_is_answer [d] O = .ok (.bl true) O := by rcases h with rfl | rfl | rfl <;> kernel_rfl
theorem pow_small {n : Nat} (h4 : n ≤ 4) : 2 ^ n ≤ 16 := Nat.le_trans (Nat.pow_le_pow_right (by decide) h4) (by decide)
theorem fLen_tup (O : Ow) (f : List D) : fLen O [.tup f] = .ok (.int f.length) O := rfl
theorem is_function_eq {n : Nat} {f : List D} (hf : Fn n f) (O : Ow) : F_is_function [.tup f] O = .ok (.bl true) O := by
  have hc := dComp_one (ext := 1) (i := 1) (ts := []) (te := dFn 1 F_is_answer (dCons (dVar 1) dNil)) (it0 := dIt (dVar 0)) (σ := [some (.tup f)]) (O := O) (ds := f) (p := fun _ => true) (e := fun _ => .bl true) rfl (by have := pow_small hf.n4; have := hf.len; omega) (fun d hd => rfl) (fun d hd _ => (dFn_eq (dCons1 rfl) rfl).trans (answer_eq O (hf.ans d hd))) false
  have e2 : (f.filter fun _ => true).map (fun _ => D.bl true) = (f.map fun _ => true).map D.bl := by rw [filter_true, List.map_map]; rfl
  rw [e2] at hc
  have hif : sIf (dOrT (dNotT (dTru (dIsi "tuple" (dVar 0)))) (dTst (dInTab true t_SWITCHES_BY_POINTS (dCall fLen (dCons (dVar 0) dNil))))) (sRet (dC (.bl false))) sNil [some (.tup f)] O = .nx [some (.tup f)] O := by
    have : dOrT (dNotT (dTru (dIsi "tuple" (dVar 0)))) (dTst (dInTab true t_SWITCHES_BY_POINTS (dCall fLen (dCons (dVar 0) dNil)))) [some (.tup f)] O = .ok false O := by
      show (dTst (dInTab true t_SWITCHES_BY_POINTS (dCall fLen (dCons (dVar 0) dNil))) [some (.tup f)] O) = _
      refine dTst_eq ?_
      show R.ok (D.bl (if true = true then !(tabAt t_SWITCHES_BY_POINTS (f.length : Nat)).isSome else _)) O = _
      rw [hf.len]
      rcases four hf.n1 hf.n4 with rfl | rfl | rfl | rfl <;> rfl
    rw [sIf_eq this]; rfl
  show fin (sSeq _ _ [some (.tup f)] O) = _
  rw [sSeq_nx hif, sRet_eq ((dCall_eq (dCons1 hc)).trans (fAll_map O _))]
  show R.ok (D.bl _) O = _
  congr 2
  rw [List.all_map]
  exact List.all_eq_true.mpr fun _ _ => rfl
theorem switches_eq {n : Nat} {f : List D} (hf : Fn n f) (O : Ow) : F_switches_of [.tup f] O = .ok (.int n) O := by
  show fin (sRet (dTab t_SWITCHES_BY_POINTS (dCall fLen (dCons (dVar 0) dNil))) [some (.tup f)] O) = _
  have : dTab t_SWITCHES_BY_POINTS (dCall fLen (dCons (dVar 0) dNil)) [some (.tup f)] O = .ok (.int n) O := by
    show (match tabAt t_SWITCHES_BY_POINTS (f.length : Nat) with | some v => R.ok (D.int v) O | none => R.bad) = _
    rw [hf.len]
    rcases four hf.n1 hf.n4 with rfl | rfl | rfl | rfl <;> rfl
  rw [sRet_eq this]; rfl
theorem law_switches_eq {n : Nat} {f : List D} (hf : Fn n f) (O : Ow) : F__law_switches [.tup f] O = .ok (.int n) O := by
  show fin (sRet (dDis [(2, 1), (4, 2), (8, 3), (16, 4)] (dCall fLen (dCons (dVar 0) dNil))) [some (.tup f)] O) = _
  have : dDis [(2, 1), (4, 2), (8, 3), (16, 4)] (dCall fLen (dCons (dVar 0) dNil)) [some (.tup f)] O = .ok (.int n) O := by
    show (match tabV [(2, 1), (4, 2), (8, 3), (16, 4)] (f.length : Nat) with | some v => R.ok (D.int v) O | none => R.bad) = _
    rw [hf.len]
    rcases four hf.n1 hf.n4 with rfl | rfl | rfl | rfl <;> rfl
  rw [sRet_eq this]; rfl
theorem all_terms_eq {n : Nat} (h1 : 1 ≤ n) (h4 : n ≤ 4) (O : Ow) : F_all_terms [.int n] O = .ok (.lst ((terms n).map .str)) O := by
  rcases four h1 h4 with rfl | rfl | rfl | rfl
  · exact all_terms_eq1 O
  · exact all_terms_eq2 O
  · exact all_terms_eq3 O
  · exact all_terms_eq4 O
theorem terms_few {n : Nat} (h1 : 1 ≤ n) (h4 : n ≤ 4) : (terms n).length ≤ 81 := by
  rcases four h1 h4 with rfl | rfl | rfl | rfl <;> decide
end K61

namespace K61
open PySem DL
/-- the cell at m is a state -/
structure StAt (O : Ow) (m : Nat) (s : Int) (b : Bool) : Prop where
  at_ : O[m]? = some [.int s, .bl b]
  nn : 0 ≤ s
  lt : b = false → s < 2147483647
theorem StAt.len {O : Ow} {m : Nat} {s : Int} {b : Bool} (h : StAt O m s b) : m < O.length := (List.getElem?_eq_some_iff.mp h.at_).1
theorem fIx_own0 {O : Ow} {m : Nat} {x y : D} (h : O[m]? = some [x, y]) : fIx O (.own m) (.int 0) = .ok x O := by
  show (match O[m]? with | some ds => (match L2.atI ds 0 with | some d => R.ok d O | none => R.bad) | none => _) = _
  rw [h]; rfl
theorem fIx_own1 {O : Ow} {m : Nat} {x y : D} (h : O[m]? = some [x, y]) : fIx O (.own m) (.int 1) = .ok y O := by
  show (match O[m]? with | some ds => (match L2.atI ds 1 with | some d => R.ok d O | none => R.bad) | none => _) = _
  rw [h]; rfl
theorem sPut_eq {te to ti : DE} {σ : Sg} {O O1 O2 O3 : Ow} {y : D} {k : Nat} {i : Int} {ds : List D} {j : Nat} (h1 : te σ O = .ok y O1) (h2 : to σ O1 = .ok (.own k) O2) (h3 : ti σ O2 = .ok (.int i) O3) (h4 : O3[k]? = some ds) (h5 : L2.ixN ds.length i = some j) :
    sPut te to ti σ O = .nx σ (O3.set k (ds.set j y)) := by
  show ((te σ O).bnS _) = _
  rw [h1]
  show ((to σ O1).bnS _) = _
  rw [h2]
  show ((ti σ O2).bnS _) = _
  rw [h3]
  show (match O3[k]? with | some ds => (match L2.ixN ds.length i with | some j => RS.nx σ (O3.set k (ds.set j y)) | none => RS.bad) | none => RS.bad) = _
  rw [h4]
  show (match L2.ixN ds.length i with | some j => RS.nx σ (O3.set k (ds.set j y)) | none => RS.bad) = _
  rw [h5]
theorem fI_mod {O : Ow} {i j : Int} (h : 0 < j) : fI gMod O (.int i) (.int j) = .ok (.int (i % j)) O := by
  show (match gMod i j with | some d => R.ok d O | none => R.bad) = _
  unfold gMod; rw [if_pos h]
theorem fI_div {O : Ow} {i j : Int} (h : 0 < j) (h2 : j < 1073741824) : fI gDiv O (.int i) (.int j) = .ok (.int (i / j)) O := by
  show (match gDiv i j with | some d => R.ok d O | none => R.bad) = _
  unfold gDiv; rw [if_pos ⟨h, h2⟩]
theorem fI_mulL {O : Ow} {i j : Int} (h : -1000000000000000 < i) (h2 : i < 1000000000000000) : fI gMul O (.int i) (.int j) = .ok (.int (i * j)) O := by
  show (match gMul i j with | some d => R.ok d O | none => R.bad) = _
  unfold gMul; rw [if_pos (.inl ⟨h, h2⟩)]
theorem fAdd_int {O : Ow} {i j : Int} : fAdd O (.int i) (.int j) = .ok (.int (i + j)) O := rfl
theorem take_eq {O : Ow} {m : Nat} {s : Int} {b : Bool} (h : StAt O m s b) {k : Nat} (k1 : 1 ≤ k) (k2 : k ≤ 1000) :
    ∃ (r : Nat) (s' : Int), r < k ∧ F__law_take [.own m, .int k] O = .ok (.int r) (O.set m [.int s', .bl b]) ∧ StAt (O.set m [.int s', .bl b]) m s' b := by
  have kk : (0 : Int) < (k : Int) := by omega
  have hset : ∀ s', (O.set m [.int s', .bl b])[m]? = some [D.int s', D.bl b] := fun s' => by rw [List.getElem?_set_self h.len]
  have hres : ∀ x : Int, ∃ r : Nat, r < k ∧ x % (k : Int) = (r : Int) := fun x => by
    have a1 := Int.emod_nonneg x (show (k : Int) ≠ 0 by omega)
    have a2 := Int.emod_lt_of_pos x kk
    exact ⟨(x % (k : Int)).toNat, by omega, by omega⟩
  cases b with
  | true =>
    obtain ⟨r, r1, r2⟩ := hres s
    refine ⟨r, s / k, r1, ?_, hset _, Int.ediv_nonneg h.nn (by omega), fun z => by cases z⟩
    have hc : dTru (dOp fIx (dVar 0) (dC (.int 1))) [some (.own m), some (.int k), none, none] O = .ok true O := dTru_bl ((dOp_eq rfl rfl).trans (fIx_own1 h.at_))
    have e1 : sSet 2 (dOp (fI gMod) (dOp fIx (dVar 0) (dC (.int 0))) (dVar 1)) [some (.own m), some (.int k), none, none] O = .nx [some (.own m), some (.int k), some (.int r), none] O := by
      rw [sSet_eq ((dOp_eq ((dOp_eq rfl rfl).trans (fIx_own0 h.at_)) rfl).trans (fI_mod kk)), r2]; rfl
    have e2 : sPut (dOp (fI gDiv) (dOp fIx (dVar 0) (dC (.int 0))) (dVar 1)) (dVar 0) (dC (.int 0)) [some (.own m), some (.int k), some (.int r), none] O = .nx [some (.own m), some (.int k), some (.int r), none] (O.set m [.int (s / k), .bl true]) :=
      sPut_eq (ds := [.int s, .bl true]) (j := 0) ((dOp_eq ((dOp_eq rfl rfl).trans (fIx_own0 h.at_)) rfl).trans (fI_div kk (by omega))) rfl rfl h.at_ rfl
    show fin (sSeq (sIf _ _ _) _ [some (.own m), some (.int k), none, none] O) = _
    have e3 : sIf (dTru (dOp fIx (dVar 0) (dC (.int 1)))) (sSeq (sSet 2 (dOp (fI gMod) (dOp fIx (dVar 0) (dC (.int 0))) (dVar 1))) (sSeq (sPut (dOp (fI gDiv) (dOp fIx (dVar 0) (dC (.int 0))) (dVar 1)) (dVar 0) (dC (.int 0))) (sRet (dVar 2)))) sNil [some (.own m), some (.int k), none, none] O = .rt (.int r) (O.set m [.int (s / k), .bl true]) := by
      rw [sIf_eq hc, if_pos rfl, sSeq_nx e1, sSeq_nx e2]; rfl
    rw [sSeq_rt e3]; rfl
  | false =>
    have hs := h.lt rfl
    let s1 : Int := (s * 48271 + 29) % 2147483647
    have s1n : 0 ≤ s1 := Int.emod_nonneg _ (by decide)
    have s1l : s1 < 2147483647 := Int.emod_lt_of_pos _ (by decide)
    let O1 := O.set m [.int s1, .bl false]
    have hO1 : O1[m]? = some [D.int s1, D.bl false] := hset s1
    let t1 : Int := (s1 * s1 + 39373 * s1 + 7) % 2147483629
    have t1n : 0 ≤ t1 := Int.emod_nonneg _ (by decide)
    have t1l : t1 < 2147483629 := Int.emod_lt_of_pos _ (by decide)
    let t2 : Int := (t1 * t1 + 16807 * t1) % 2147483587
    have hc : dTru (dOp fIx (dVar 0) (dC (.int 1))) [some (.own m), some (.int k), none, none] O = .ok false O := dTru_bl ((dOp_eq rfl rfl).trans (fIx_own1 h.at_))
    have e0 : sIf (dTru (dOp fIx (dVar 0) (dC (.int 1)))) (sSeq (sSet 2 (dOp (fI gMod) (dOp fIx (dVar 0) (dC (.int 0))) (dVar 1))) (sSeq (sPut (dOp (fI gDiv) (dOp fIx (dVar 0) (dC (.int 0))) (dVar 1)) (dVar 0) (dC (.int 0))) (sRet (dVar 2)))) sNil [some (.own m), some (.int k), none, none] O = .nx [some (.own m), some (.int k), none, none] O := by
      rw [sIf_eq hc]; rfl
    have e1 : sPut (dOp (fI gMod) (dOp fAdd (dOp (fI gMul) (dOp fIx (dVar 0) (dC (.int 0))) (dC (.int 48271))) (dC (.int 29))) (dC (.int 2147483647))) (dVar 0) (dC (.int 0)) [some (.own m), some (.int k), none, none] O = .nx [some (.own m), some (.int k), none, none] O1 :=
      sPut_eq (ds := [.int s, .bl false]) (j := 0) ((dOp_eq ((dOp_eq ((dOp_eq ((dOp_eq rfl rfl).trans (fIx_own0 h.at_)) rfl).trans (fI_mulL (by have := h.nn; omega) (by omega))) rfl).trans fAdd_int) rfl).trans (fI_mod (by decide))) rfl rfl h.at_ rfl
    have ix0 : ∀ z w, dOp fIx (dVar 0) (dC (.int 0)) [some (.own m), some (.int k), z, w] O1 = .ok (.int s1) O1 := fun z w => (dOp_eq rfl rfl).trans (fIx_own0 hO1)
    have e2 : sSet 3 (dOp (fI gMod) (dOp fAdd (dOp fAdd (dOp (fI gMul) (dOp fIx (dVar 0) (dC (.int 0))) (dOp fIx (dVar 0) (dC (.int 0)))) (dOp (fI gMul) (dC (.int 39373)) (dOp fIx (dVar 0) (dC (.int 0))))) (dC (.int 7))) (dC (.int 2147483629))) [some (.own m), some (.int k), none, none] O1 = .nx [some (.own m), some (.int k), none, some (.int t1)] O1 :=
      sSet_eq ((dOp_eq ((dOp_eq ((dOp_eq ((dOp_eq (ix0 none none) (ix0 none none)).trans (fI_mulL (by omega) (by omega))) ((dOp_eq rfl (ix0 none none)).trans (fI_mulL (by decide) (by decide)))).trans fAdd_int) rfl).trans fAdd_int) rfl).trans (fI_mod (by decide)))
    have e3 : sSet 3 (dOp (fI gMod) (dOp fAdd (dOp (fI gMul) (dVar 3) (dVar 3)) (dOp (fI gMul) (dC (.int 16807)) (dVar 3))) (dC (.int 2147483587))) [some (.own m), some (.int k), none, some (.int t1)] O1 = .nx [some (.own m), some (.int k), none, some (.int t2)] O1 :=
      sSet_eq ((dOp_eq ((dOp_eq ((dOp_eq rfl rfl).trans (fI_mulL (by omega) (by omega))) ((dOp_eq rfl rfl).trans (fI_mulL (by decide) (by decide)))).trans fAdd_int) rfl).trans (fI_mod (by decide)))
    obtain ⟨r, r1, r2⟩ := hres (t2 / 8)
    refine ⟨r, s1, r1, ?_, hset _, s1n, fun _ => s1l⟩
    have e4 : sRet (dOp (fI gMod) (dOp (fI gDiv) (dVar 3) (dC (.int 8))) (dVar 1)) [some (.own m), some (.int k), none, some (.int t2)] O1 = .rt (.int r) O1 := by
      rw [sRet_eq ((dOp_eq ((dOp_eq rfl rfl).trans (fI_div (by decide) (by decide))) rfl).trans (fI_mod kk)), r2]
    show fin (sSeq _ _ [some (.own m), some (.int k), none, none] O) = _
    rw [sSeq_nx e0, sSeq_nx e1, sSeq_nx e2, sSeq_nx e3, e4]; rfl
theorem state_eq {ns : List Int} {k : Nat} (O : Ow) : ∃ s b, F__law_state [.lst (ns.map .int), .int k] O = .ok (.own O.length) (O ++ [[.int s, .bl b]]) ∧ StAt (O ++ [[.int s, .bl b]]) O.length s b := by
  have hat : ∀ s b, (O ++ [[D.int s, D.bl b]])[O.length]? = some [D.int s, D.bl b] := fun s b => by simp
  obtain ⟨c, hc⟩ : ∃ c : Int, F__law_cell_at [.lst (ns.map .int), .int k] O = .ok (.int c) O := by
    have ht : dTst (dOp fLt (dVar 1) (dCall fLen (dCons (dVar 0) dNil))) [some (.lst (ns.map .int)), some (.int k)] O = .ok (decide ((k : Int) < (ns.map D.int).length)) O := dTst_eq ((dOp_eq rfl ((dCall_eq (dCons1 rfl)).trans rfl)).trans rfl)
    by_cases hk : (k : Int) < (ns.map D.int).length
    · have hk' : k < (ns.map D.int).length := by omega
      have hx : dOp fIx (dVar 0) (dVar 1) [some (.lst (ns.map .int)), some (.int k)] O = .ok (ns.map D.int)[k] O := (dOp_eq rfl rfl).trans (fIx_lst hk')
      refine ⟨ns[k]'(by simpa using hk'), ?_⟩
      show fin (sSeq _ _ [some (.lst (ns.map .int)), some (.int k)] O) = _
      have e1 : sIf (dTst (dOp fLt (dVar 1) (dCall fLen (dCons (dVar 0) dNil)))) (sRet (dOp fIx (dVar 0) (dVar 1))) sNil [some (.lst (ns.map .int)), some (.int k)] O = .rt (.int (ns[k]'(by simpa using hk'))) O := by
        rw [sIf_eq ht, if_pos (decide_eq_true hk), sRet_eq hx]; simp
      rw [sSeq_rt e1]; rfl
    · refine ⟨0, ?_⟩
      show fin (sSeq _ _ [some (.lst (ns.map .int)), some (.int k)] O) = _
      have e1 : sIf (dTst (dOp fLt (dVar 1) (dCall fLen (dCons (dVar 0) dNil)))) (sRet (dOp fIx (dVar 0) (dVar 1))) sNil [some (.lst (ns.map .int)), some (.int k)] O = .nx [some (.lst (ns.map .int)), some (.int k)] O := by
        rw [sIf_eq ht, if_neg (by simpa using hk)]; rfl
      rw [sSeq_nx e1]; rfl
  have e0 : sSet 2 (dFn 2 F__law_cell_at (dCons (dVar 0) (dCons (dVar 1) dNil))) [some (.lst (ns.map .int)), some (.int k), none] O = .nx [some (.lst (ns.map .int)), some (.int k), some (.int c)] O := sSet_eq ((dFn_eq (dCons2 rfl rfl) rfl).trans hc)
  have hp : ∀ σ, dOp (fI gPow) (dC (.int 10)) (dC (.int 18)) σ O = .ok (.int 1000000000000000000) O := fun σ => by
    refine (dOp_eq (σ := σ) (O := O) rfl rfl).trans ?_
    kernel_rfl
  have ht : dTst (dOp fGe (dVar 2) (dOp (fI gPow) (dC (.int 10)) (dC (.int 18)))) [some (.lst (ns.map .int)), some (.int k), some (.int c)] O = .ok (decide ((1000000000000000000 : Int) ≤ c)) O := dTst_eq ((dOp_eq rfl (hp _)).trans rfl)
  by_cases hcc : (1000000000000000000 : Int) ≤ c
  · refine ⟨c - 1000000000000000000, true, ?_, hat _ _, by omega, fun z => by cases z⟩
    have e1 : sIf (dTst (dOp fGe (dVar 2) (dOp (fI gPow) (dC (.int 10)) (dC (.int 18))))) (sRet (dLstO (dCons (dOp (fI gSub) (dVar 2) (dOp (fI gPow) (dC (.int 10)) (dC (.int 18)))) (dCons (dC (.bl true)) dNil)))) sNil [some (.lst (ns.map .int)), some (.int k), some (.int c)] O = .rt (.own O.length) (O ++ [[.int (c - 1000000000000000000), .bl true]]) := by
      rw [sIf_eq ht, if_pos (decide_eq_true hcc)]
      refine sRet_eq ?_
      show ((dCons _ _ _ O).bnd _) = _
      rw [dCons2 ((dOp_eq rfl (hp _)).trans rfl) rfl]
      rfl
    show fin (sSeq _ _ [some (.lst (ns.map .int)), some (.int k), none] O) = _
    rw [sSeq_nx e0, sSeq_rt e1]; rfl
  · refine ⟨c % 2147483647, false, ?_, hat _ _, Int.emod_nonneg _ (by decide), fun _ => Int.emod_lt_of_pos _ (by decide)⟩
    have e1 : sIf (dTst (dOp fGe (dVar 2) (dOp (fI gPow) (dC (.int 10)) (dC (.int 18))))) (sRet (dLstO (dCons (dOp (fI gSub) (dVar 2) (dOp (fI gPow) (dC (.int 10)) (dC (.int 18)))) (dCons (dC (.bl true)) dNil)))) sNil [some (.lst (ns.map .int)), some (.int k), some (.int c)] O = .nx [some (.lst (ns.map .int)), some (.int k), some (.int c)] O := by
      rw [sIf_eq ht, if_neg (by simpa using hcc)]; rfl
    show fin (sSeq _ _ [some (.lst (ns.map .int)), some (.int k), none] O) = _
    rw [sSeq_nx e0, sSeq_nx e1]
    have e2 : dLstO (dCons (dOp (fI gMod) (dVar 2) (dC (.int 2147483647))) (dCons (dC (.bl false)) dNil)) [some (.lst (ns.map .int)), some (.int k), some (.int c)] O = .ok (.own O.length) (O ++ [[.int (c % 2147483647), .bl false]]) := by
      show ((dCons _ _ _ O).bnd _) = _
      rw [dCons2 ((dOp_eq rfl rfl).trans (fI_mod (by decide))) rfl]
      rfl
    rw [sRet_eq e2]; rfl
end K61

namespace K61
open PySem DL
theorem set_same {O : Ow} {m : Nat} {x : List D} (h : O[m]? = some x) : O.set m x = O := by
  obtain ⟨h1, rfl⟩ := List.getElem?_eq_some_iff.mp h
  exact List.set_getElem_self h1
theorem flat_set {O : Ow} (h : Flat O) (m : Nat) (s : Int) (b : Bool) : Flat (O.set m [.int s, .bl b]) := by
  intro c hc d hd
  rw [List.length_set]
  rcases List.mem_or_eq_of_mem_set hc with h1 | rfl
  · exact h c h1 d hd
  · simp only [List.mem_cons, List.not_mem_nil, or_false] at hd
    rcases hd with rfl | rfl <;> rfl
theorem frzR_gen {O' : Ow} (hO : Flat O') (X : Ow) {d d' : D} (h : frz (O' ++ X) O'.length 8 d = some d') : frzR O'.length (.ok d (O' ++ X)) = .ok d' O' := by
  unfold frzR
  dsimp only
  rw [h]
  have : (O' ++ X).take O'.length = O' := by simp
  rw [this, mapO_id fun c hc => mapO_id fun d hd => frz_flat (hO c hc d hd)]
theorem mem_terms : ∀ (n : Nat) (cs : List Nat), cs.length = n → (∀ c ∈ cs, sgn c = true) → cs ∈ terms n
  | 0, cs, h, _ => by
    have : cs = [] := List.length_eq_zero_iff.mp h
    subst this; simp [terms]
  | n + 1, cs, h, hs => by
    have hne : cs ≠ [] := by intro e; subst e; simp at h
    obtain ⟨t, c, rfl⟩ : ∃ t c, cs = t ++ [c] := ⟨_, _, (List.dropLast_concat_getLast hne).symm⟩
    have ht := mem_terms n t (by simpa using h) fun c hc => hs c (List.mem_append_left _ hc)
    unfold terms
    rw [List.mem_flatMap]
    refine ⟨t, ht, ?_⟩
    have hl := hs c (by simp)
    unfold sgn at hl
    simp only [Bool.or_eq_true, beq_iff_eq] at hl
    rcases hl with (z | z) | z <;> rw [z] <;> simp
end K61

namespace K61
open PySem DL
theorem shl_eq {σ : Sg} {O : Ow} {t : DE} {n : Nat} (n4 : n ≤ 4) (h : t σ O = .ok (.int n) O) : dOp (fI gShl) (dC (.int 1)) t σ O = .ok (.int ((2 ^ n : Nat) : Int)) O := by
  refine (dOp_eq rfl h).trans ?_
  have : n = 0 ∨ n = 1 ∨ n = 2 ∨ n = 3 ∨ n = 4 := by omega
  rcases this with rfl | rfl | rfl | rfl | rfl <;> rfl
theorem frz_tup {O : Ow} {n f : Nat} {ds : List D} (h : ∀ d ∈ ds, flatD n d = true) : frz O n (f + 1) (.tup ds) = some (.tup ds) := by
  show (mapO (frz O n f) ds).map D.tup = _
  rw [mapO_id fun d hd => frz_flat (h d hd)]; rfl
theorem ans_flat {d : D} (h : Ans d) (n : Nat) : flatD n d = true := by rcases h with rfl | rfl | rfl <;> rfl
end K61

namespace K61
open PySem DL
/-! ### walks over any source that stands still -/
theorem walkD_src {src : Src} {step : D → Ow → List D → R (List D)} {O : Ow} {g : D → List D} {all : List D} (hg : ∀ i, src.get O i = all[i]?) : ∀ (ds pre acc : List D) (f : Nat), all = pre ++ ds → ds.length ≤ f → (∀ d ∈ ds, ∀ acc : List D, acc.length < 100000 → step d O acc = .ok (acc ++ g d) O) → acc.length + (ds.flatMap g).length + ds.length < 100000 →
    walkD src step f pre.length O acc = .ok (acc ++ ds.flatMap g) O
  | [], pre, acc, f, ha, _, _, _ => by
    have e : src.get O pre.length = none := by rw [hg, ha]; simp
    cases f <;> (unfold walkD; rw [e]; simp)
  | d :: ds, pre, acc, 0, _, h, _, _ => by simp at h
  | d :: ds, pre, acc, f + 1, ha, h, hs, hl => by
    unfold walkD
    have e : src.get O pre.length = some d := by rw [hg, ha]; simp
    rw [e]
    simp only [List.flatMap_cons, List.length_append, List.length_cons] at hl
    show ((step d O acc).bnd fun acc' O' => walkD src step f (pre.length + 1) O' acc') = _
    rw [hs d List.mem_cons_self acc (by omega)]
    show walkD src step f (pre.length + 1) O (acc ++ g d) = _
    have := walkD_src hg ds (pre ++ [d]) (acc ++ g d) f (by rw [ha]; simp) (by simpa using h) (fun d' h' => hs d' (List.mem_cons_of_mem _ h')) (by rw [List.length_append]; omega)
    rw [List.length_append, List.length_singleton] at this
    rw [this]; simp
theorem dComp_gen {ext : Nat} {it0 : DI} {g : Tg} {ts : List DT} {te : DE} {σ : Sg} {O : Ow} {src : Src} {ds : List D} {p : D → Bool} {e : D → D} {τ : D → Sg} (hi : it0 σ O = .ok src O) (hg : ∀ i, src.get O i = ds[i]?) (hsz : src.size O = ds.length) (hl : ds.length < 50000)
    (hput : ∀ d ∈ ds, g.put d (clr (clr (σ ++ List.replicate ext none) (g.slots ++ [])) (g.slots ++ [])) = some (τ d)) (hp : ∀ d ∈ ds, dAll ts (τ d) O = .ok (p d) O) (he : ∀ d ∈ ds, p d = true → te (τ d) O = .ok (e d) O) (o : Bool) :
    dComp o ext it0 g ts [] te σ O = outC o (.ok ((ds.filter p).map e) O) := by
  unfold dComp compAll
  rw [hi]
  show outC o (noX (walkD src _ (src.size O) 0 O [])) = _
  have step : ∀ d ∈ ds, ∀ acc : List D, acc.length < 100000 → stepD ⟨it0, g, ts⟩ [] te (clr (σ ++ List.replicate ext none) (slotsOf [⟨it0, g, ts⟩])) d O acc = .ok (acc ++ (if p d = true then [e d] else [])) O := by
    intro d hd acc ha
    show (match g.put d (clr (clr (σ ++ List.replicate ext none) (g.slots ++ [])) (g.slots ++ [])) with | some σ1 => (dAll ts σ1 O).bnd fun b O3 => if b = true then compD [] te σ1 O3 acc else .ok acc O3 | none => .bad) = _
    rw [hput d hd]
    show (dAll ts (τ d) O).bnd _ = _
    rw [hp d hd]
    show (if p d = true then compD [] te _ O acc else .ok acc O) = _
    by_cases hpd : p d = true
    · rw [if_pos hpd, if_pos hpd]
      unfold compD
      rw [he d hd hpd]
      show (if acc.length < 100000 then _ else _) = _
      rw [if_pos ha]
    · rw [if_neg hpd, if_neg hpd]; simp
  have hb : ∀ l : List D, (l.flatMap fun d => if p d = true then [e d] else []) = (l.filter p).map e := by
    intro l
    induction l with
    | nil => rfl
    | cons x l ih =>
      rw [List.flatMap_cons, ih, List.filter_cons]
      by_cases hx : p x = true
      · rw [if_pos hx, if_pos hx]; rfl
      · rw [if_neg hx, if_neg hx]; rfl
  have hlen : ((ds.filter p).map e).length ≤ ds.length := by rw [List.length_map]; exact List.length_filter_le _ _
  have w := walkD_src (O := O) (g := fun d => if p d = true then [e d] else []) hg ds [] [] ds.length rfl (Nat.le_refl _) step (by rw [hb]; simp at hlen ⊢; omega)
  rw [hb, List.nil_append] at w
  have w' : walkD src (stepD ⟨it0, g, ts⟩ [] te (clr (σ ++ List.replicate ext none) (slotsOf [⟨it0, g, ts⟩]))) (src.size O) 0 O [] = .ok ((ds.filter p).map e) O := by rw [hsz]; exact w
  rw [w']; rfl
/-! ### == of a list and its like -/
theorem lsSrc_get {O : Ow} {x : D} {xs : List D} (h : lsV O x = some xs) : ∃ src, lsSrc x = some src ∧ (∀ i, src.get O i = xs[i]?) ∧ src.size O = xs.length := by
  cases x with
  | lst ds => cases h; exact ⟨.val xs, rfl, fun _ => rfl, rfl⟩
  | own k =>
    have h : O[k]? = some xs := h
    refine ⟨.own k, rfl, fun i => ?_, ?_⟩
    · show (match O[k]? with | some ds => ds[i]? | none => none) = _
      rw [h]
    · show (match O[k]? with | some ds => ds.length | none => 0) = _
      rw [h]
  | _ => cases h
theorem kind_ls {O : Ow} {x : D} {xs : List D} (h : lsV O x = some xs) : kindD x = "list" := by cases x <;> first | rfl | cases h
theorem fLen_ls {O : Ow} {x : D} {xs : List D} (h : lsV O x = some xs) : fLen O [x] = .ok (.int xs.length) O := by
  show (match lsV O x with | some ds => R.ok (D.int ds.length) O | none => _) = _
  rw [h]
theorem same_list {k : Nat} {O : Ow} {x : D} {xs ys : List D} (hx : lsV O x = some xs) (hl : xs.length = ys.length) (h5 : ys.length < 10000) (hs : ∀ (i : Nat) (x y : D), xs[i]? = some x → ys[i]? = some y → F__law_same_ k [x, y] O = .ok (.bl true) O) : F__law_same_ (k + 1) [x, .lst ys] O = .ok (.bl true) O := by
  obtain ⟨src, s1, s2, s3⟩ := lsSrc_get hx
  have hk := kind_ls hx
  have hi : dZip (dCons (dVar 0) (dCons (dVar 1) dNil)) [some x, some (.lst ys)] O = .ok (.zip src (.val ys)) O := by
    show (match lsSrc x, lsSrc (.lst ys) with | some p, some q => R.ok (Src.zip p q) O | _, _ => R.bad) = _
    rw [s1]; rfl
  have hgz : ∀ i, (Src.zip src (.val ys)).get O i = ((xs.zip ys).map fun q => D.tup [q.1, q.2])[i]? := by
    intro i
    show (match src.get O i, ys[i]? with | some x, some y => some (D.tup [x, y]) | _, _ => none) = _
    rw [s2, List.getElem?_map]
    cases e1 : xs[i]? with
    | none =>
      have : (xs.zip ys)[i]? = none := by
        rw [List.getElem?_eq_none_iff] at e1 ⊢
        rw [List.length_zip]; omega
      rw [this]; rfl
    | some a =>
      have hi := (List.getElem?_eq_some_iff.mp e1).1
      have e2 : ys[i]? = some ys[i] := List.getElem?_eq_getElem (by omega)
      have : (xs.zip ys)[i]? = some (a, ys[i]) := List.getElem?_zip_eq_some.mpr ⟨e1, e2⟩
      rw [this, e2]; rfl
  have hzz : (Src.zip src (.val ys)).size O = ((xs.zip ys).map fun q => D.tup [q.1, q.2]).length := by
    show min (src.size O) ys.length = _
    rw [s3, List.length_map, List.length_zip]
  have hc := dComp_gen (ext := 2) (g := .two 2 3) (ts := []) (te := dFn 2 (F__law_same_ k) (dCons (dVar 2) (dCons (dVar 3) dNil))) (p := fun _ => true) (e := fun _ => .bl true) (τ := fun d => match d with | .tup [a, b] => [some x, some (.lst ys), some a, some b] | _ => []) hi hgz hzz (by rw [List.length_map, List.length_zip]; omega)
    (fun d hd => by obtain ⟨q, _, rfl⟩ := List.mem_map.mp hd; rfl) (fun d hd => rfl) (fun d hd _ => by
      obtain ⟨q, hq, rfl⟩ := List.mem_map.mp hd
      obtain ⟨i, hi, e⟩ := List.mem_iff_getElem.mp hq
      have e : (xs.zip ys)[i]? = some (q.1, q.2) := by rw [List.getElem?_eq_getElem hi, e]
      obtain ⟨e1, e2⟩ := List.getElem?_zip_eq_some.mp e
      exact (dFn_eq (dCons2 rfl rfl) rfl).trans (hs i q.1 q.2 e1 e2)) false
  have e2 : ((((xs.zip ys).map fun q => D.tup [q.1, q.2]).filter fun _ => true).map fun _ => D.bl true) = ((xs.zip ys).map fun _ => true).map D.bl := by rw [filter_true, List.map_map, List.map_map]; rfl
  rw [e2] at hc
  have c1 : dTru (dIsi2 "tuple" "list" (dVar 1)) [some x, some (.lst ys)] O = .ok true O := rfl
  have isT : dIsi "tuple" (dVar 0) [some x, some (.lst ys)] O = .ok (.bl false) O := by
    show R.ok (D.bl (isiB (kindD x) "tuple")) O = _
    rw [hk]; rfl
  have isL : dIsi "list" (dVar 0) [some x, some (.lst ys)] O = .ok (.bl true) O := by
    show R.ok (D.bl (isiB (kindD x) "list")) O = _
    rw [hk]; rfl
  have c2 : dOrT (dTst (dOp (fPy neF) (dIsi "tuple" (dVar 0)) (dIsi "tuple" (dVar 1)))) (dTst (dOp (fPy neF) (dIsi "list" (dVar 0)) (dIsi "list" (dVar 1)))) [some x, some (.lst ys)] O = .ok false O := by
    have a1 : dTst (dOp (fPy neF) (dIsi "tuple" (dVar 0)) (dIsi "tuple" (dVar 1))) [some x, some (.lst ys)] O = .ok false O := dTst_eq ((dOp_eq isT (y := .bl false) rfl).trans rfl)
    have a2 : dTst (dOp (fPy neF) (dIsi "list" (dVar 0)) (dIsi "list" (dVar 1))) [some x, some (.lst ys)] O = .ok false O := dTst_eq ((dOp_eq isL (y := .bl true) rfl).trans rfl)
    show ((dTst (dOp (fPy neF) (dIsi "tuple" (dVar 0)) (dIsi "tuple" (dVar 1))) [some x, some (.lst ys)] O).bnd _) = _
    rw [a1]
    exact a2
  have c3 : dTst (dOp (fPy neF) (dCall fLen (dCons (dVar 0) dNil)) (dCall fLen (dCons (dVar 1) dNil))) [some x, some (.lst ys)] O = .ok false O := by
    refine dTst_eq ((dOp_eq ((dCall_eq (dCons1 rfl)).trans (fLen_ls hx)) ((dCall_eq (dCons1 rfl)).trans (fLen_ls (x := .lst ys) rfl))).trans ?_)
    rw [hl]
    show R.ok (D.bl (!((ys.length : Int) == (ys.length : Int)))) O = _
    simp
  show fin (sSeq _ _ [some x, some (.lst ys)] O) = _
  have e4 : ∀ (a : DS), sSeq (sIf (dTru (dIsi2 "tuple" "list" (dVar 1))) a sNil) (sRet (dAnd (dOp (fPy eqF) (dVar 0) (dVar 1)) (dOp (fPy eqF) (dIsi "bool" (dVar 0)) (dIsi "bool" (dVar 1))))) [some x, some (.lst ys)] O = match a [some x, some (.lst ys)] O with | .nx σ' O' => sRet (dAnd (dOp (fPy eqF) (dVar 0) (dVar 1)) (dOp (fPy eqF) (dIsi "bool" (dVar 0)) (dIsi "bool" (dVar 1)))) σ' O' | r => r := fun a => by
    show (match sIf (dTru (dIsi2 "tuple" "list" (dVar 1))) a sNil [some x, some (.lst ys)] O with | .nx σ' O' => _ | r => r) = _
    rw [sIf_eq c1, if_pos rfl]
  rw [e4, sSeq_nx (σ' := [some x, some (.lst ys)]) (O1 := O) (by rw [sIf_eq c2]; rfl), sSeq_nx (σ' := [some x, some (.lst ys)]) (O1 := O) (by rw [sIf_eq c3]; rfl), sRet_eq ((dCall_eq (dCons1 hc)).trans (fAll_map O _))]
  show R.ok (D.bl _) O = _
  congr 2
  rw [List.all_map]
  exact List.all_eq_true.mpr fun _ _ => rfl
end K61

namespace K61
open PySem DL
/-! ### loops over any source; cells -/
theorem for_src {α : Type} {it : DI} {g : Tg} {body : DS} {σ : Sg} {O0 O : Ow} {src : Src} {l : List α} {inj : α → D} (hi : it σ O0 = .ok src O) (hsz : src.size O = l.length) (I : Nat → Sg → Ow → Prop)
    (h : ∀ (k : Nat) a σ O, l[k]? = some a → I k σ O → src.get O k = some (inj a) ∧ ∃ σ1 σ' O', g.put (inj a) σ = some σ1 ∧ body σ1 O = .nx σ' O' ∧ I (k + 1) σ' O') (hend : ∀ σ O, I l.length σ O → src.get O l.length = none) (h0 : I 0 σ O) :
    ∃ σ' O', sFor it g body σ O0 = .nx σ' O' ∧ I l.length σ' O' := by
  have main : ∀ (f i : Nat) (σ : Sg) (O : Ow), I i σ O → l.length ≤ i + f → i ≤ l.length → ∃ σ' O', loopS src (fun d σ O => match g.put d σ with | some σ' => body σ' O | none => .bad) f i σ O = .nx σ' O' ∧ I l.length σ' O' := by
    intro f
    induction f with
    | zero =>
      intro i σ O hI h1 h2
      have : i = l.length := by omega
      subst this
      unfold loopS
      rw [hend σ O hI]
      exact ⟨σ, O, rfl, hI⟩
    | succ f ih =>
      intro i σ O hI h1 h2
      by_cases hil : i = l.length
      · subst hil
        unfold loopS
        rw [hend σ O hI]
        exact ⟨σ, O, rfl, hI⟩
      · have hlt : i < l.length := by omega
        obtain ⟨e1, σ1, σ', O', e2, e3, e4⟩ := h i l[i] σ O (List.getElem?_eq_getElem hlt) hI
        unfold loopS
        rw [e1]
        dsimp only
        rw [e2]
        dsimp only
        rw [e3]
        exact ih (i + 1) σ' O' e4 (by omega) (by omega)
  obtain ⟨σ', O', l1, l2⟩ := main (src.size O) 0 σ O h0 (by omega) (Nat.zero_le _)
  exact ⟨σ', O', (sFor_eq hi).trans l1, l2⟩
theorem cell_ext {σ : Sg} {O O1 : Ow} {i k : Nat} {t : DE} {y : D} {ds es : List D} (hi : σ[i]? = some (some (.own k))) (ht : t σ O = .ok y O1) (hy : lsV O1 y = some es) (hk : O1[k]? = some ds) (hl : ds.length + es.length ≤ 100000) :
    sDrop (dExt (dVar i) (dCons t dNil)) σ O = .nx σ (O1.set k (ds ++ es)) := by
  refine sDrop_eq (x := .non) ?_
  unfold dExt dVar
  rw [hi]
  show ((dCons t dNil σ O).bnd _) = _
  rw [dCons1 ht]
  show (match [y], O1[k]? with | [y], some ds => (match lsV O1 y with | some es => if ds.length + es.length ≤ 100000 then R.ok D.non (O1.set k (ds ++ es)) else R.bad | none => R.bad) | _, _ => R.bad) = _
  rw [hk]
  dsimp only
  rw [hy]
  dsimp only
  rw [if_pos hl]
theorem cell_app {σ : Sg} {O O1 : Ow} {i k : Nat} {t : DE} {y : D} {ds : List D} (hi : σ[i]? = some (some (.own k))) (ht : t σ O = .ok y O1) (hk : O1[k]? = some ds) (hl : ds.length < 100000) :
    sDrop (dApp (dVar i) (dCons t dNil)) σ O = .nx σ (O1.set k (ds ++ [y])) := by
  refine sDrop_eq (x := .non) ?_
  unfold dApp dVar
  rw [hi]
  show ((dCons t dNil σ O).bnd _) = _
  rw [dCons1 ht]
  show (match [y], O1[k]? with | [y], some ds => if ds.length < 100000 then R.ok D.non (O1.set k (ds ++ [y])) else R.bad | _, _ => R.bad) = _
  rw [hk]
  dsimp only
  rw [if_pos hl]
theorem set_last {O : Ow} {x y : List D} : (O ++ [x]).set O.length y = O ++ [y] := by
  rw [List.set_append_right _ _ (Nat.le_refl _), Nat.sub_self]; rfl
theorem get_last {O : Ow} {x : List D} : (O ++ [x])[O.length]? = some x := by simp
theorem dIt_ls {σ : Sg} {O O1 : Ow} {t : DE} {x : D} {src : Src} (h : t σ O = .ok x O1) (hs : lsSrc x = some src) : dIt t σ O = .ok src O1 := by
  unfold dIt
  rw [h]
  cases x with
  | lst ds => cases hs; rfl
  | own k => cases hs; rfl
  | _ => cases hs
theorem lsV_more {O X : Ow} {x : D} {xs : List D} (h : lsV O x = some xs) : lsV (O ++ X) x = some xs := by
  cases x with
  | lst ds => exact h
  | own k =>
    have h : O[k]? = some xs := h
    show (O ++ X)[k]? = some xs
    rw [List.getElem?_append_left (List.getElem?_eq_some_iff.mp h).1]; exact h
  | _ => cases h
theorem flat_app {O X : Ow} (h : Flat O) (hX : ∀ c ∈ X, ∀ d ∈ c, flatD (O.length + X.length) d = true) : Flat (O ++ X) := by
  intro c hc d hd
  rw [List.length_append]
  rcases List.mem_append.mp hc with hc | hc
  · have := h c hc d hd
    cases d with
    | own k => simp only [flatD, decide_eq_true_eq] at this ⊢; omega
    | _ => exact this
  · exact hX c hc d hd
theorem flat_one {O : Ow} (h : Flat O) {c : List D} (hc : ∀ d ∈ c, flatD (O.length + 1) d = true) : Flat (O ++ [c]) := flat_app h fun x hx d hd => by
  have : x = c := by simpa using hx
  subst this; exact hc d hd
theorem StAt.more {O X : Ow} {m : Nat} {s : Int} {b : Bool} (h : StAt O m s b) : StAt (O ++ X) m s b := ⟨by rw [List.getElem?_append_left h.len]; exact h.at_, h.nn, h.lt⟩
theorem flat_strs {m : Nat} (l : List (List Nat)) : ∀ d ∈ l.map D.str ++ [D.str []], flatD m d = true := fun d hd => by
  rcases List.mem_append.mp hd with hd | hd
  · obtain ⟨x, _, rfl⟩ := List.mem_map.mp hd; rfl
  · have : d = D.str [] := by simpa using hd
    subst this; rfl
theorem StAt.flat {O : Ow} {s : Int} {b : Bool} (h : Flat O) : Flat (O ++ [[.int s, .bl b]]) := flat_one h fun d hd => by
  simp only [List.mem_cons, List.not_mem_nil, or_false] at hd
  rcases hd with rfl | rfl <;> rfl
theorem rng_c {k : Nat} {c : Int} (hc : c = (k : Nat)) (hk : k < 1000) (σ : Sg) (O : Ow) : dRng1 (dCons (dC (.int c)) dNil) σ O = .ok (.val ((List.range k).map fun (i : Nat) => D.int (i : Int))) O := by
  subst hc
  exact dRng1_eq (dCons1 rfl) (by omega)
/-! ### the law's terms -/
def three (t : List Nat) : List (List Nat) := [t ++ [45], t ++ [48], t ++ [49]]
theorem law_terms_eq {n : Nat} (h4 : n ≤ 4) {O : Ow} (hO : Flat O) : F__law_terms [.int n] O = .ok (.lst ((terms n).map .str)) O := by
  have few : ∀ i, i ≤ 4 → (terms i).length ≤ 81 := fun i hi => by
    have : i = 0 ∨ i = 1 ∨ i = 2 ∨ i = 3 ∨ i = 4 := by omega
    rcases this with rfl | rfl | rfl | rfl | rfl <;> decide
  have lens : ∀ i, i ≤ 4 → ∀ t ∈ terms i, t.length ≤ 4 := fun i hi t ht => by
    have : i = 0 ∨ i = 1 ∨ i = 2 ∨ i = 3 ∨ i = 4 := by omega
    rcases this with rfl | rfl | rfl | rfl | rfl
    · simp [terms] at ht; simp [ht]
    · rw [terms_len (by decide) (by decide) ht]; decide
    · rw [terms_len (by decide) (by decide) ht]; decide
    · rw [terms_len (by decide) (by decide) ht]; decide
    · rw [terms_len (by decide) (by decide) ht]; decide
  let N : Option D := some (.int n)
  let In : Ow → D → List D → Prop := fun X d xs => d = .lst xs ∨ ∃ k, d = .own (O.length + k) ∧ X[k]? = some xs
  have InV : ∀ {X d xs}, In X d xs → lsV (O ++ X) d = some xs := fun {X d xs} h => by
    rcases h with rfl | ⟨k, rfl, h⟩
    · rfl
    · show (O ++ X)[O.length + k]? = _
      rw [List.getElem?_append_right (by omega), Nat.add_sub_cancel_left]; exact h
  show frzR O.length (fin (B__law_terms [N, none, none, none, none] O)) = _
  unfold B__law_terms
  rw [sSeq_nx (σ' := [N, some (.lst [.str []]), none, none, none]) (O1 := O) (by rfl)]
  obtain ⟨σ', O', l1, d, y2, y3, y4, X, rfl, rfl, hd⟩ := for_of (i := 2) (O := O) (l := List.range n) (body := (sSeq (sSet 3 (dLstO dNil)) (sSeq (sFor (dIt (dVar 1)) (.one 4) (sDrop (dExt (dVar 3) (dCons (dLst (dCons (dOp fAdd (dVar 4) (dC (.str [45]))) (dCons (dOp fAdd (dVar 4) (dC (.str [48]))) (dCons (dOp fAdd (dVar 4) (dC (.str [49]))) dNil)))) dNil)))) (sSet 1 (dVar 3)))))
    (dRng1_eq (σ := [N, some (.lst [.str []]), none, none, none]) (O := O) (dCons1 (t := dVar 0) rfl) (by omega)) (fun i σ O' => ∃ d y2 y3 y4 X, σ = [N, some d, y2, y3, y4] ∧ O' = O ++ X ∧ In X d ((terms i).map .str)) (fun i a σ O' ha hI => by
      obtain ⟨d, y2, y3, y4, X, rfl, rfl, hd⟩ := hI
      have hin : i < n := by
        have := (List.getElem?_eq_some_iff.mp ha).1
        simpa using this
      have hi4 : i ≤ 4 := by omega
      show ∃ σ' O', sSeq _ _ [N, some d, some (.int a), y3, y4] (O ++ X) = _ ∧ _
      rw [sSeq_nx (σ' := [N, some d, some (.int a), some (.own (O ++ X).length), y4]) (O1 := O ++ X ++ [[]]) (by rfl)]
      obtain ⟨src, s1, s2, s3⟩ := lsSrc_get (lsV_more (X := [[]]) (InV hd))
      obtain ⟨σ', O', l1, y4', rfl, rfl⟩ := for_src (α := List Nat) (g := .one 4) (l := terms i) (inj := .str) (body := (sDrop (dExt (dVar 3) (dCons (dLst (dCons (dOp fAdd (dVar 4) (dC (.str [45]))) (dCons (dOp fAdd (dVar 4) (dC (.str [48]))) (dCons (dOp fAdd (dVar 4) (dC (.str [49]))) dNil)))) dNil))))
        (dIt_ls (σ := [N, some d, some (.int a), some (.own (O ++ X).length), y4]) (O := O ++ X ++ [[]]) (t := dVar 1) rfl s1) (by rw [s3]; simp)
        (fun j σ O' => ∃ y4, σ = [N, some d, some (.int a), some (.own (O ++ X).length), y4] ∧ O' = O ++ X ++ [(((terms i).take j).flatMap three).map .str]) (fun j t σ O' ht hI => by
          obtain ⟨y4, rfl, rfl⟩ := hI
          have hj := (List.getElem?_eq_some_iff.mp ht).1
          obtain ⟨src', s1', s2', s3'⟩ := lsSrc_get (lsV_more (X := [(((terms i).take j).flatMap three).map .str]) (InV hd))
          rw [s1] at s1'; cases s1'
          refine ⟨by rw [s2', List.getElem?_map, ht]; rfl, [N, some d, some (.int a), some (.own (O ++ X).length), some (.str t)], _, _, rfl, cell_ext (y := .lst ((three t).map .str)) (ds := (((terms i).take j).flatMap three).map .str) (es := (three t).map .str) rfl ?_ rfl get_last ?_, _, rfl, ?_⟩
          · have hl := lens i hi4 t (List.mem_of_getElem? ht)
            have fa : ∀ c OO, fAdd OO (.str t) (.str [c]) = .ok (.str (t ++ [c])) OO := fun c OO => by
              match t, hl with
              | [], _ => rfl
              | [_], _ => rfl
              | [_, _], _ => rfl
              | [_, _, _], _ => rfl
              | [_, _, _, _], _ => rfl
            simp only [sSeq, sSet, sIf, sRet, sDrop, sNil, dVar, dC, dCons, dNil, dFn, dCall, dOp, dTst, dTru, dNotT, truD, R.bnd, R.bnS, fin, List.getElem?_cons_zero, List.getElem?_cons_succ, List.set_cons_zero, List.set_cons_succ, List.length_cons, List.length_nil, Nat.zero_add, Nat.reduceAdd, Nat.reduceLeDiff, Nat.reduceLT, if_true, if_false, Bool.not_true, Bool.not_false, Bool.false_eq_true, ite_true, ite_false, dLst, fa, three, List.map_cons, List.map_nil]
          · have h1 := few i hi4
            have h2 : ∀ l : List (List Nat), (l.flatMap three).length = 3 * l.length := fun l => by
              induction l with
              | nil => rfl
              | cons x l ih => rw [List.flatMap_cons, List.length_append, ih, List.length_cons]; show 3 + _ = _; omega
            rw [List.length_map, h2, List.length_map]
            have h3 := List.length_take_le j (terms i)
            show 3 * ((terms i).take j).length + 3 ≤ _
            omega
          · rw [set_last, ← List.map_append]
            have : (terms i).take (j + 1) = (terms i).take j ++ [t] := by
              rw [List.take_succ, ht]; rfl
            rw [this, List.flatMap_append]
            simp) (fun σ O' hI => by
          obtain ⟨y4, rfl, rfl⟩ := hI
          obtain ⟨src', s1', s2', s3'⟩ := lsSrc_get (lsV_more (X := [(((terms i).take (terms i).length).flatMap three).map .str]) (InV hd))
          rw [s1] at s1'; cases s1'
          rw [s2']; simp) ⟨y4, rfl, by simp⟩
      rw [sSeq_nx l1]
      refine ⟨_, _, rfl, .own (O ++ X).length, _, _, _, X ++ [(((terms i).take (terms i).length).flatMap three).map .str], rfl, by simp, .inr ⟨X.length, by simp, ?_⟩⟩
      rw [get_last, List.take_length]; rfl) ⟨_, _, _, _, [], rfl, by simp, .inl rfl⟩
  rw [sSeq_nx l1, sRet_eq (x := d) rfl]
  rw [List.length_range] at hd
  show frzR O.length (.ok d (O ++ X)) = _
  refine frzR_flat hO X ?_
  rcases hd with rfl | ⟨k, rfl, h⟩
  · show (mapO (frz (O ++ X) O.length 7) ((terms n).map D.str)).map D.lst = _
    rw [mapO_id fun d hd => by obtain ⟨q, _, rfl⟩ := List.mem_map.mp hd; exact frz_flat rfl]; rfl
  · unfold frz
    dsimp only
    rw [if_neg (by omega), List.getElem?_append_right (by omega), Nat.add_sub_cancel_left, h]
    dsimp only
    rw [mapO_id fun d hd => by obtain ⟨q, _, rfl⟩ := List.mem_map.mp hd; exact frz_flat rfl]; rfl
end K61

namespace K61
open PySem DL
theorem law_holds_all (O : Ow) : (allP.map fun q => F__law_holds [.str q.1, .int (q.2 : Nat)] O) = allP.map fun q => R.ok (.bl ((pts q.1).contains q.2)) O := by kernel_rfl
theorem law_holds_eq {cs : List Nat} {p : Nat} (h : cs ∈ allT) (hp : p < 2 ^ cs.length) (O : Ow) : F__law_holds [.str cs, .int (p : Nat)] O = .ok (.bl ((pts cs).contains p)) O := List.map_inj_left.mp (law_holds_all O) _ (mem_allP h hp)
theorem dAndT_eq {c d : DT} {σ : Sg} {O : Ow} {a b : Bool} (h1 : c σ O = .ok a O) (h2 : a = true → d σ O = .ok b O) : dAndT c d σ O = .ok (a && b) O := by
  show ((c σ O).bnd _) = _
  rw [h1]
  cases a with
  | true => exact h2 rfl
  | false => rfl
theorem law_good_eq {n : Nat} {f : List D} (hf : Fn n f) {cs : List Nat} (h : cs ∈ terms n) (O : Ow) : F__law_good [.tup f, .str cs] O = .ok (.bl (goodB f cs)) O := by
  have hA := terms_in hf.n1 hf.n4 h
  have hl := terms_len hf.n1 hf.n4 h
  have h16 := pow_small hf.n4
  have hfl := hf.len
  show fin (B__law_good [some (.tup f), some (.str cs)] O) = _
  unfold B__law_good
  rw [sRet_eq ((dOp_eq (comp1 (l := List.range f.length) (p := fun p => isZ (f.getD p .non) && (pts cs).contains p) (e := fun (p : Nat) => D.int (p : Int)) (τ := fun (p : Nat) => [some (.tup f), some (.str cs), some (.int (p : Int))]) (dRng1_eq (dCons1 ((dCall_eq (dCons1 (t := dVar 0) rfl)).trans rfl)) (by omega)) (by simp; omega) (fun _ => rfl) (fun q hq => by
      have hq := List.mem_range.mp hq
      refine dAndT_eq (dTst_eq ((dOp_eq ((dOp_eq rfl rfl).trans (fIx_tup (i := q) hq)) rfl).trans ((eq0 O (hf.ans _ (List.getElem_mem hq))).trans (by rw [getD_of hq])))) fun _ => dTru_bl ((dFn_eq (dCons2 rfl rfl) rfl).trans (law_holds_eq hA (by rw [hl, ← hfl]; exact hq) O))) (fun _ _ _ => rfl)) rfl).trans (by
    have := eq_nil O (((List.range f.length).filter fun p => isZ (f.getD p .non) && (pts cs).contains p).map fun (p : Nat) => (p : Int))
    rw [List.map_map] at this
    exact this))]
  show R.ok (D.bl _) O = _
  congr 2
  unfold goodB
  rw [Bool.eq_iff_iff, List.isEmpty_iff, List.map_eq_nil_iff, List.filter_eq_nil_iff, List.all_eq_true]
  constructor
  · intro h p hp
    have hlt : p < f.length := by rw [hfl, ← hl]; exact pts_lt hA hp
    have := h p (List.mem_range.mpr hlt)
    simp only [Bool.and_eq_true, List.contains_iff_mem, not_and] at this
    cases hz : isZ (f.getD p .non) with
    | true => exact absurd hp (this hz)
    | false => rfl
  · intro h p hp hq
    simp only [Bool.and_eq_true, List.contains_iff_mem] at hq
    have := h p hq.2
    rw [hq.1] at this
    cases this
/-! ### functions together -/
structure Tog (n : Nat) (fs : List (List D)) : Prop where
  n1 : 1 ≤ n
  n3 : n ≤ 3
  l2 : 2 ≤ fs.length
  l3 : fs.length ≤ 3
  fn : ∀ f ∈ fs, Fn n f
theorem Tog.n4 {n : Nat} {fs : List (List D)} (h : Tog n fs) : n ≤ 4 := Nat.le_trans h.n3 (by decide)
def goodFor (fs : List (List D)) (cs : List Nat) : List Nat := (List.range fs.length).filter fun k => goodB (fs.getD k []) cs
theorem getD_fs {fs : List (List D)} {k : Nat} (h : k < fs.length) : fs.getD k [] = fs[k] := by
  rw [List.getD_eq_getElem?_getD, List.getElem?_eq_getElem h]; rfl
theorem law_good_for_eq {n : Nat} {fs : List (List D)} (hf : Tog n fs) {cs : List Nat} (h : cs ∈ terms n) (O : Ow) : F__law_good_for [.tup (fs.map .tup), .str cs] O = .ok (.lst (dInts (goodFor fs cs))) O := by
  have := hf.l3
  show fin (B__law_good_for [some (.tup (fs.map .tup)), some (.str cs)] O) = _
  unfold B__law_good_for
  rw [sRet_eq (comp1 (l := List.range fs.length) (p := fun k => goodB (fs.getD k []) cs) (e := fun (p : Nat) => D.int (p : Int)) (τ := fun (p : Nat) => [some (.tup (fs.map .tup)), some (.str cs), some (.int (p : Int))]) (dRng1_eq (dCons1 ((dCall_eq (dCons1 (t := dVar 0) rfl)).trans (by rw [fLen_tup, List.length_map]))) (by omega)) (by simp; omega) (fun _ => rfl) (fun k hk => by
    have hk := List.mem_range.mp hk
    refine dTru_bl ((dFn_eq (dCons2 ((dOp_eq rfl rfl).trans (fIx_tup (i := k) (by simpa using hk))) rfl) rfl).trans ?_)
    rw [List.getElem_map, getD_fs hk]
    exact law_good_eq (hf.fn _ (List.getElem_mem hk)) h O) (fun _ _ _ => rfl))]
  rfl
theorem enum_src (fs : List D) : enumL fs = (List.range fs.length).map fun k => D.tup [.int (k : Nat), fs.getD k .non] := by
  apply List.ext_getElem?
  intro i
  rw [enumL_get, List.getElem?_map]
  by_cases hi : i < fs.length
  · rw [List.getElem?_range hi, List.getElem?_eq_getElem hi, Option.map_some, Option.map_some, getD_of hi]
  · rw [List.getElem?_eq_none_iff.mpr (by omega), List.getElem?_eq_none_iff.mpr (by simp; omega)]; rfl
theorem numbers_eq {n : Nat} {fs : List (List D)} (hf : Tog n fs) {cs : List Nat} (h : cs ∈ terms n) (O : Ow) : F_numbers_good_for [.tup (fs.map .tup), .str cs] O = .ok (.lst (dInts (goodFor fs cs))) O := by
  have := hf.l3
  show fin (B_numbers_good_for [some (.tup (fs.map .tup)), some (.str cs)] O) = _
  unfold B_numbers_good_for
  rw [sRet_eq (comp_src (g := .two 2 3) (O := O) (src := .val (enumL (fs.map .tup))) (l := List.range fs.length) (inj := fun k => D.tup [.int (k : Nat), (fs.map D.tup).getD k .non]) (p := fun k => goodB (fs.getD k []) cs) (e := fun (p : Nat) => D.int (p : Int)) (τ := fun (k : Nat) => [some (.tup (fs.map .tup)), some (.str cs), some (.int (k : Int)), some ((fs.map D.tup).getD k .non)]) (by rfl) (fun i => by rw [enum_src, List.length_map]; rfl) (by rw [enum_src]; simp [Src.size]) (by simp; omega) (fun _ _ => rfl) (fun k hk => by
    have hk := List.mem_range.mp hk
    have e : (fs.map D.tup).getD k .non = .tup (fs.getD k []) := by rw [getD_of (by simpa using hk), List.getElem_map, getD_fs hk]
    refine dAll_one (dTru_bl ((dFn_eq (dCons2 rfl rfl) rfl).trans ?_))
    rw [e]
    exact holds_eq (by rw [getD_fs hk]; exact hf.fn _ (List.getElem_mem hk)) h O) (fun _ _ _ => rfl))]
  rfl
/-! ### one term in another -/
def liesB (cs ds : List Nat) : Bool := (List.range cs.length).all fun k => ds.getD k 0 == 45 || ds.getD k 0 == cs.getD k 0
def allL : List (List Nat × List Nat) := [1, 2, 3].flatMap fun n => (terms n).flatMap fun cs => (terms n).map fun ds => (cs, ds)
theorem mem_allL {n : Nat} (h1 : 1 ≤ n) (h3 : n ≤ 3) {cs ds : List Nat} (hc : cs ∈ terms n) (hd : ds ∈ terms n) : (cs, ds) ∈ allL := by
  unfold allL
  rw [List.mem_flatMap]
  refine ⟨n, by have : n = 1 ∨ n = 2 ∨ n = 3 := by omega
                rcases this with rfl | rfl | rfl <;> simp, ?_⟩
  rw [List.mem_flatMap]
  exact ⟨cs, hc, List.mem_map.mpr ⟨ds, hd, rfl⟩⟩
theorem lies_all (O : Ow) : (allL.map fun q => F__law_lies_in [.str q.1, .str q.2] O) = allL.map fun q => R.ok (.bl (liesB q.1 q.2)) O := by kernel_rfl
theorem lies_eq {n : Nat} (h1 : 1 ≤ n) (h3 : n ≤ 3) {cs ds : List Nat} (hc : cs ∈ terms n) (hd : ds ∈ terms n) (O : Ow) : F__law_lies_in [.str cs, .str ds] O = .ok (.bl (liesB cs ds)) O := by
  have := List.map_inj_left.mp (lies_all O) (cs, ds) (mem_allL h1 h3 hc hd)
  dsimp only at this
  exact this
end K61

namespace K61
open PySem DL
def allS : List (List Nat × Nat) := allT.flatMap fun cs => (List.range cs.length).map fun k => (cs, k)
theorem mem_allS {cs : List Nat} {k : Nat} (h : cs ∈ allT) (hk : k < cs.length) : (cs, k) ∈ allS := by
  unfold allS
  rw [List.mem_flatMap]
  exact ⟨cs, h, List.mem_map.mpr ⟨k, List.mem_range.mpr hk, rfl⟩⟩
theorem with_all (O : Ow) : (allS.map fun q => F_with_sign [.str q.1, .int (q.2 : Nat), .str [45]] O) = allS.map fun q => R.ok (.str (q.1.set q.2 45)) O := by kernel_rfl
theorem with_eq {cs : List Nat} {k : Nat} (h : cs ∈ allT) (hk : k < cs.length) (O : Ow) : F_with_sign [.str cs, .int (k : Nat), .str [45]] O = .ok (.str (cs.set k 45)) O := by
  have := List.map_inj_left.mp (with_all O) (cs, k) (mem_allS h hk)
  dsimp only at this
  exact this
theorem terms_sgn_all : (allT.all fun cs => cs.all sgn) = true := by decide +kernel
theorem terms_sgn {n : Nat} (h1 : 1 ≤ n) (h4 : n ≤ 4) {cs : List Nat} (h : cs ∈ terms n) : ∀ c ∈ cs, sgn c = true := List.all_eq_true.mp (List.all_eq_true.mp terms_sgn_all cs (terms_in h1 h4 h))
theorem set_terms {n : Nat} (h1 : 1 ≤ n) (h4 : n ≤ 4) {cs : List Nat} (h : cs ∈ terms n) {k c : Nat} (hc : sgn c = true) : cs.set k c ∈ terms n := by
  refine mem_terms n _ (by rw [List.length_set]; exact terms_len h1 h4 h) fun x hx => ?_
  rcases List.mem_or_eq_of_mem_set hx with hx | rfl
  · exact terms_sgn h1 h4 h x hx
  · exact hc
theorem ne_sign (O : Ow) {c : Nat} (h : sgn c = true) : fPy neF O (.str [c]) (.str [45]) = .ok (.bl (c != 45)) O := by
  unfold sgn at h
  simp only [Bool.or_eq_true, beq_iff_eq] at h
  rcases h with (rfl | rfl) | rfl <;> kernel_rfl
theorem getD_nat {cs : List Nat} {k : Nat} (h : k < cs.length) : cs.getD k 0 = cs[k] := by rw [List.getD_eq_getElem?_getD, List.getElem?_eq_getElem h]; rfl
theorem ne_nilN (O : Ow) (l : List Nat) : fPy neF O (.lst (dInts l)) (.lst []) = .ok (.bl (!l.isEmpty)) O :=
  (eq_plL O (b := l.isEmpty) (pl_ints 7 l) (y := []) rfl (by cases l <;> simp)).2
theorem eq_nilN (O : Ow) (l : List Nat) : fPy eqF O (.lst (dInts l)) (.lst []) = .ok (.bl l.isEmpty) O :=
  (eq_plL O (b := l.isEmpty) (pl_ints 7 l) (y := []) rfl (by cases l <;> simp)).1
theorem eq_ints (O : Ow) (a b : List Nat) : fPy eqF O (.lst (dInts a)) (.lst (dInts b)) = .ok (.bl (a == b)) O :=
  (eq_plL O (b := a == b) (pl_ints 7 a) (pl_ints 7 b) (by rw [beq_iff_eq]; exact ⟨fun h => by rw [h], ints_inj⟩)).1
/-! ### the program's broad terms -/
def wider (cs : List Nat) : List (List Nat) := ((List.range cs.length).filter fun k => cs.getD k 0 != 45).map fun k => cs.set k 45
def broadP (fs : List (List D)) (cs : List Nat) : Bool := !(goodFor fs cs).isEmpty && !((wider cs).any fun o => goodFor fs o == goodFor fs cs)
theorem wider_terms {n : Nat} (h1 : 1 ≤ n) (h4 : n ≤ 4) {cs : List Nat} (h : cs ∈ terms n) : ∀ o ∈ wider cs, o ∈ terms n := fun o ho => by
  obtain ⟨k, _, rfl⟩ := List.mem_map.mp ho
  exact set_terms h1 h4 h rfl
theorem ascii_all : (allT.all fun cs => cs.all fun c => decide (c < 128)) = true := by decide +kernel
theorem is_broad_eq {n : Nat} {fs : List (List D)} (hf : Tog n fs) {cs : List Nat} (h : cs ∈ terms n) (O : Ow) : F_is_broad [.tup (fs.map .tup), .str cs] O = .ok (.bl (broadP fs cs)) O := by
  have hA := terms_in hf.n1 hf.n4 h
  have hl := terms_len hf.n1 hf.n4 h
  have h3 := hf.n3
  have hasc : cs.all (· < 128) = true := List.all_eq_true.mp ascii_all cs hA
  have hz : zkD (.str cs) = some (.val (cs.map fun c => .str [c])) := by
    show (if cs.all (· < 128) = true then some (Src.val (cs.map fun c => .str [c])) else none) = _
    rw [if_pos hasc]
  show fin (B_is_broad [some (.tup (fs.map .tup)), some (.str cs), none, none] O) = _
  unfold B_is_broad
  have hw : (((List.range cs.length).filter fun k => cs.getD k 0 != 45).map fun (k : Nat) => D.str (cs.set k 45)) = (wider cs).map D.str := by unfold wider; rw [List.map_map]; rfl
  have hwl : (wider cs).length ≤ 3 := by
    unfold wider
    rw [List.length_map]
    have := List.length_filter_le (fun k => cs.getD k 0 != 45) (List.range cs.length)
    rw [List.length_range] at this; omega
  have a1 : dOp (fPy neF) (dVar 2) (dLst dNil) [some (.tup (fs.map .tup)), some (.str cs), some (.lst (dInts (goodFor fs cs))), some (.lst ((wider cs).map D.str))] O = .ok (.bl (!(goodFor fs cs).isEmpty)) O := (dOp_eq rfl rfl).trans (ne_nilN O _)
  have a2 : dCall fAny (dCons (dComp false 1 (dIt (dVar 3)) (.one 4) [] [] (dOp (fPy eqF) (dFn 2 F_numbers_good_for (dCons (dVar 0) (dCons (dVar 4) dNil))) (dVar 2))) dNil) [some (.tup (fs.map .tup)), some (.str cs), some (.lst (dInts (goodFor fs cs))), some (.lst ((wider cs).map D.str))] O = .ok (.bl ((wider cs).any fun o => goodFor fs o == goodFor fs cs)) O :=
    (dCall_eq (dCons1 (comp0 (l := wider cs) (e := fun o => D.bl (goodFor fs o == goodFor fs cs)) (τ := fun o => [some (.tup (fs.map .tup)), some (.str cs), some (.lst (dInts (goodFor fs cs))), some (.lst ((wider cs).map D.str)), some (.str o)]) (dIt_lst rfl) (by omega) (fun _ => rfl) (fun o ho => (dOp_eq ((dFn_eq (dCons2 rfl rfl) rfl).trans (numbers_eq hf (wider_terms hf.n1 hf.n4 h o ho) O)) rfl).trans (eq_ints O _ _))))).trans (fAny_map O _ _)
  refine ret_fin (x := .bl (broadP fs cs)) (O1 := O) (st_set (x := .lst (dInts (goodFor fs cs))) (O1 := O) (fn_of (dCons2 rfl rfl) (numbers_eq hf h O)) (st_set (x := .lst ((wider cs).map D.str)) (O1 := O) ?_ (sRet_eq (dAnd_bl a1 fun _ => dNot_bl a2))))
  rw [← hw]
  refine (comp_src (O := O) (src := .val (enumL (cs.map fun c => D.str [c]))) (l := List.range cs.length) (inj := fun k => D.tup [.int (k : Nat), (cs.map fun c => D.str [c]).getD k .non]) (p := fun k => cs.getD k 0 != 45) (e := fun (k : Nat) => D.str (cs.set k 45)) (τ := fun (k : Nat) => [some (.tup (fs.map .tup)), some (.str cs), some (.lst (dInts (goodFor fs cs))), none, some (.int (k : Int)), some ((cs.map fun c => D.str [c]).getD k .non)]) ?_ ?_ ?_ ?_ ?_ ?_ ?_).trans rfl
  · show (match zkD (.str cs) with | some (.val ds) => R.ok (Src.val (enumL ds)) O | _ => R.bad) = _
    rw [hz]
  · intro i; rw [enum_src, List.length_map]; rfl
  · rw [enum_src]; simp [Src.size]
  · simp; omega
  · intro _ _; rfl
  · intro k hk
    have hk := List.mem_range.mp hk
    have e : (cs.map fun c => D.str [c]).getD k .non = .str [cs[k]] := by rw [getD_of (by simpa using hk), List.getElem_map]
    refine dAll_one (dTst_eq (op_of rfl rfl ?_))
    rw [e, getD_nat hk]
    exact ne_sign O (terms_sgn hf.n1 hf.n4 h _ (List.getElem_mem hk))
  · intro k hk _
    exact fn_of (dCons_eq rfl (dCons2 rfl rfl)) (with_eq hA (List.mem_range.mp hk) O)
end K61

namespace K61
open PySem DL
theorem tog_pos {n : Nat} {fs : List (List D)} (hf : Tog n fs) : ∃ f r, fs = f :: r := by
  cases fs with
  | nil => have := hf.l2; simp at this
  | cons f r => exact ⟨f, r, rfl⟩
theorem len_in (O : Ow) {n : Nat} {fs : List (List D)} (hf : Tog n fs) : fNin O (.int ((fs.map D.tup).length : Nat)) (.tup [.int 2, .int 3]) = .ok (.bl false) O := by
  have : fs.length = 2 ∨ fs.length = 3 := by have := hf.l2; have := hf.l3; omega
  rw [List.length_map]
  rcases this with e | e <;> rw [e] <;> kernel_rfl
theorem eq_nn (O : Ow) (n : Nat) : fPy eqF O (.int (n : Nat)) (.int (n : Nat)) = .ok (.bl true) O := (eq_pl O (b := true) rfl rfl (by simp)).1
theorem first_eq {n : Nat} {fs : List (List D)} (hf : Tog n fs) (O : Ow) : ∃ f, Fn n f ∧ fIx O (.tup (fs.map .tup)) (.int 0) = .ok (.tup f) O := by
  obtain ⟨f, r, rfl⟩ := tog_pos hf
  refine ⟨f, hf.fn f List.mem_cons_self, ?_⟩
  show fIx O (.tup (.tup f :: r.map .tup)) (.int ((0 : Nat) : Int)) = _
  exact fIx_tup (by simp)
theorem together_eq {n : Nat} {fs : List (List D)} (hf : Tog n fs) (O : Ow) : F_are_together [.tup (fs.map .tup)] O = .ok (.bl true) O := by
  have h3 := hf.n3
  have hl := hf.l3
  obtain ⟨f, h1, h2⟩ := first_eq hf O
  show fin (B_are_together [some (.tup (fs.map .tup)), none] O) = _
  unfold B_are_together
  refine ret_fin (st_ifF (O1 := O) ?_ (st_ifF (O1 := O) ?_ (st_set (x := .int n) (O1 := O) ?_ (sRet_eq ?_))))
  · exact dOrT_bl (dNotT_eq (dTru_bl (b := true) rfl)) fun _ => dTst_eq (op_of (call_of (dCons1 rfl) (fLen_tup O _)) rfl (len_in O hf))
  · refine dNotT_eq (b := true) (dTru_bl (call_of (dCons1 ((comp0 (l := fs) (e := fun _ => D.bl true) (τ := fun f => [some (.tup (fs.map .tup)), none, some (.tup f)]) (dIt_tup rfl) (by omega) (fun _ => rfl) (fun f hm => fn_of (dCons1 rfl) (is_function_eq (hf.fn f hm) O))).trans rfl)) ?_))
    rw [fAll_map' O fs fun _ => true]
    simp
  · exact fn_of (dCons1 (op_of rfl rfl h2)) (switches_eq h1 O)
  · refine dAnd_bl (a := true) (b := true) (op_of rfl rfl ?_) fun _ => ?_
    · show R.ok (D.bl (decide ((n : Int) ≤ 3))) O = _
      rw [decide_eq_true (by omega)]
    · refine call_of (dCons1 ((comp0 (l := fs) (e := fun _ => D.bl true) (τ := fun f => [some (.tup (fs.map .tup)), some (.int n), some (.tup f)]) (dIt_tup rfl) (by omega) (fun _ => rfl) (fun f hm => op_of (fn_of (dCons1 rfl) (switches_eq (hf.fn f hm) O)) rfl (eq_nn O n))).trans rfl)) ?_
      rw [fAll_map' O fs fun _ => true]
      simp
def broads (n : Nat) (fs : List (List D)) : List (List Nat) := (terms n).filter (broadP fs)
theorem broad_terms_eq {n : Nat} {fs : List (List D)} (hf : Tog n fs) (O : Ow) : F_broad_terms [.tup (fs.map .tup)] O = .ok (.own O.length) (O ++ [(broads n fs).map .str]) := by
  obtain ⟨f, h1, h2⟩ := first_eq hf O
  have hfew := terms_few hf.n1 hf.n4
  show fin (B_broad_terms [some (.tup (fs.map .tup))] O) = _
  unfold B_broad_terms
  refine ret_fin (st_drop (x := .non) (O1 := O) (fn_of (dCons1 rfl) ?_) (sRet_eq ?_))
  · show fin (B_need_together [some (.tup (fs.map .tup))] O) = _
    unfold B_need_together
    rw [sIf_eq (dNotT_eq (b := true) (dTru_bl (fn_of (dCons1 rfl) (together_eq hf O))))]; rfl
  · refine (comp1 (l := terms n) (p := broadP fs) (e := D.str) (τ := fun cs => [some (.tup (fs.map .tup)), some (.str cs)]) (dIt_lst (fn_of (dCons1 (fn_of (dCons1 (op_of rfl rfl h2)) (switches_eq h1 O))) (all_terms_eq hf.n1 hf.n4 O))) (by omega) (fun _ => rfl) (fun cs hc => dTru_bl (fn_of (dCons2 rfl rfl) (is_broad_eq hf hc O))) (fun _ _ _ => rfl)).trans rfl
/-! ### the law's broad terms -/
def subB (a b : List Nat) : Bool := (a.filter fun k => !b.contains k).isEmpty
def overL (fs : List (List D)) (cs o : List Nat) : Bool := decide (o ≠ cs) && (liesB cs o && subB (goodFor fs cs) (goodFor fs o))
def broadL (n : Nat) (fs : List (List D)) (cs : List Nat) : Bool := !(goodFor fs cs).isEmpty && ((terms n).filter (overL fs cs)).isEmpty
theorem codes_all : (allT.all fun cs => cs.all fun c => decide (c < 1114112)) = true := by decide +kernel
theorem pl_term {n k : Nat} (h1 : 1 ≤ n) (h4 : n ≤ 4) {cs : List Nat} (h : cs ∈ terms n) : pl k (.str cs) = true := by
  have := List.all_eq_true.mp codes_all cs (terms_in h1 h4 h)
  cases k <;> exact this
theorem pl_terms {n k : Nat} (h1 : 1 ≤ n) (h4 : n ≤ 4) {l : List (List Nat)} (h : ∀ cs ∈ l, cs ∈ terms n) : (l.map D.str).all (pl k) = true := List.all_eq_true.mpr fun d hd => by
  obtain ⟨cs, hc, rfl⟩ := List.mem_map.mp hd
  exact pl_term h1 h4 (h cs hc)
theorem ne_term (O : Ow) {n : Nat} (h1 : 1 ≤ n) (h4 : n ≤ 4) {a b : List Nat} (ha : a ∈ terms n) (hb : b ∈ terms n) : fPy neF O (.str a) (.str b) = .ok (.bl (decide (a ≠ b))) O := by
  have := (eq_pl O (b := decide (a = b)) (pl_term (k := 8) h1 h4 ha) (pl_term h1 h4 hb) (by simp)).2
  rw [this]
  congr 2
  by_cases h : a = b <;> simp [h]
theorem nin_ints (O : Ow) (k : Nat) (l : List Nat) : fNin O (.int (k : Nat)) (.lst (dInts l)) = .ok (.bl (!l.contains k)) O :=
  (in_pl O (l := dInts l) (b := l.contains k) rfl (pl_ints 7 l) (.inl rfl) (by
    rw [List.contains_iff_mem]
    unfold dInts
    rw [List.mem_map]
    constructor
    · intro h; exact ⟨k, h, rfl⟩
    · rintro ⟨j, h, e⟩
      injection e with e
      have : j = k := by omega
      rw [← this]; exact h)).2
def some_ (fs : List (List D)) (cs : List Nat) : D := .tup [.str cs, .lst (dInts (goodFor fs cs))]
theorem goodFor_few {n : Nat} {fs : List (List D)} (hf : Tog n fs) (cs : List Nat) : (goodFor fs cs).length ≤ 3 := by
  have h1 := List.length_filter_le (fun k => goodB (fs.getD k []) cs) (List.range fs.length)
  rw [List.length_range] at h1
  have := hf.l3
  unfold goodFor; omega
theorem eq_nilS (O : Ow) {n : Nat} (h1 : 1 ≤ n) (h4 : n ≤ 4) {l : List (List Nat)} (h : ∀ cs ∈ l, cs ∈ terms n) {k : Nat} (hk : O[k]? = some (l.map D.str)) : fPy eqF O (.own k) (.lst []) = .ok (.bl l.isEmpty) O := by
  obtain ⟨ps, hps⟩ := mapO_some (f := toPy O 7) (l := l.map D.str) fun z hz => toPy_pl O 7 z (List.all_eq_true.mp (pl_terms h1 h4 h) z hz)
  unfold fPy py
  have e : toPy O 8 (.own k) = some (.list ps) := by
    show (match O[k]? with | some ds => (mapO (toPy O 7) ds).map PyData.list | none => none) = _
    rw [hk]; dsimp only; rw [hps]; rfl
  rw [e]
  cases l with
  | nil => cases hps; rfl
  | cons x l =>
    rw [List.map_cons] at hps
    unfold mapO at hps
    split at hps
    · cases hps; rfl
    · cases hps
def bodyO : DS := (sIf (dAndT (dTst (dOp (fPy neF) (dVar 6) (dVar 3))) (dAndT (dTru (dFn 2 F__law_lies_in (dCons (dVar 3) (dCons (dVar 6) dNil)))) (dTst (dOp (fPy eqF) (dComp false 1 (dIt (dVar 4)) (.one 8) [(dTst (dOp fNin (dVar 8) (dVar 7)))] [] (dVar 8)) (dLst dNil))))) (sDrop (dApp (dVar 5) (dCons (dVar 6) dNil))) sNil)
theorem bodyO_eq {n : Nat} {fs : List (List D)} (hf : Tog n fs) {cs o : List Nat} (hc : cs ∈ terms n) (ho : o ∈ terms n) {a b c : Option D} {k : Nat} {O : Ow} {l : List D} (hk : O[k]? = some l) (hl : l.length < 1000) :
    bodyO [a, b, c, some (.str cs), some (.lst (dInts (goodFor fs cs))), some (.own k), some (.str o), some (.lst (dInts (goodFor fs o)))] O = .nx [a, b, c, some (.str cs), some (.lst (dInts (goodFor fs cs))), some (.own k), some (.str o), some (.lst (dInts (goodFor fs o)))] (if overL fs cs o = true then O.set k (l ++ [.str o]) else O) := by
  unfold bodyO
  have hg := goodFor_few hf cs
  rw [sIf_eq (b := overL fs cs o) (O1 := O) (dAndT_bl (dTst_eq (op_of rfl rfl (ne_term O hf.n1 hf.n4 ho hc))) fun _ => dAndT_bl (dTru_bl (fn_of (dCons2 rfl rfl) (lies_eq hf.n1 hf.n3 hc ho O))) fun _ => dTst_eq (op_of ((comp1 (l := goodFor fs cs) (p := fun k => !(goodFor fs o).contains k) (e := fun (p : Nat) => D.int (p : Int)) (τ := fun (p : Nat) => [a, b, c, some (.str cs), some (.lst (dInts (goodFor fs cs))), some (.own k), some (.str o), some (.lst (dInts (goodFor fs o))), some (.int (p : Int))]) (dIt_lst rfl) (by omega) (fun _ => rfl) (fun j hj => dTst_eq (op_of rfl rfl (nin_ints O j _))) (fun _ _ _ => rfl)).trans rfl) rfl (eq_nilN O _)))]
  cases overL fs cs o with
  | true => rw [if_pos rfl, if_pos rfl]; exact cell_app (t := dVar 6) rfl rfl hk (by omega)
  | false => rfl
end K61

namespace K61
open PySem DL
theorem set_mid {O X : Ow} {x y : List D} : (O ++ ([x] ++ X)).set O.length y = O ++ ([y] ++ X) := by
  rw [List.set_append_right _ _ (Nat.le_refl _), Nat.sub_self]; rfl
theorem get_mid' {O X : Ow} {x : List D} : (O ++ ([x] ++ X))[O.length]? = some x := by
  rw [List.getElem?_append_right (Nat.le_refl _), Nat.sub_self]; rfl
theorem take_filter {α : Type} (p : α → Bool) {l : List α} {j : Nat} {x : α} (h : l[j]? = some x) : (l.take (j + 1)).filter p = (l.take j).filter p ++ (if p x = true then [x] else []) := by
  rw [List.take_succ, h, List.filter_append]
  congr 1
  show List.filter p [x] = _
  rw [List.filter_cons]; split <;> rfl
theorem val_get {α : Type} (l : List α) (inj : α → D) (O : Ow) (i : Nat) : (Src.val (l.map inj)).get O i = (l[i]?).map inj := by
  show (l.map inj)[i]? = _
  rw [List.getElem?_map]
theorem inner_eq {n : Nat} {fs : List (List D)} (hf : Tog n fs) {cs : List Nat} (hc : cs ∈ terms n) {a b y6 y7 : Option D} (O : Ow) :
    ∃ z6 z7, sFor (dIt (dVar 2)) (.two 6 7) bodyO [a, b, some (.lst ((terms n).map (some_ fs))), some (.str cs), some (.lst (dInts (goodFor fs cs))), some (.own O.length), y6, y7] (O ++ [[]]) = .nx [a, b, some (.lst ((terms n).map (some_ fs))), some (.str cs), some (.lst (dInts (goodFor fs cs))), some (.own O.length), z6, z7] (O ++ [((terms n).filter (overL fs cs)).map D.str]) := by
  have hfew := terms_few hf.n1 hf.n4
  obtain ⟨σ', O', l1, z6, z7, rfl, rfl⟩ := for_src (α := List Nat) (g := .two 6 7) (l := terms n) (inj := some_ fs) (body := bodyO) (it := dIt (dVar 2)) (σ := [a, b, some (.lst ((terms n).map (some_ fs))), some (.str cs), some (.lst (dInts (goodFor fs cs))), some (.own O.length), y6, y7]) (O0 := O ++ [[]]) (O := O ++ [[]]) (src := .val ((terms n).map (some_ fs))) rfl (by simp [Src.size])
    (fun j σ O' => ∃ y6 y7, σ = [a, b, some (.lst ((terms n).map (some_ fs))), some (.str cs), some (.lst (dInts (goodFor fs cs))), some (.own O.length), y6, y7] ∧ O' = O ++ [(((terms n).take j).filter (overL fs cs)).map D.str]) (fun j o σ O' ho hI => by
      obtain ⟨y6, y7, rfl, rfl⟩ := hI
      have hl : ((((terms n).take j).filter (overL fs cs)).map D.str).length < 1000 := by
        have h1 := List.length_filter_le (overL fs cs) ((terms n).take j)
        have h2 := List.length_take_le' j (terms n)
        rw [List.length_map]; omega
      refine ⟨by rw [val_get, ho]; rfl, _, _, _, rfl, bodyO_eq hf hc (List.mem_of_getElem? ho) (k := O.length) get_last hl, _, _, rfl, ?_⟩
      rw [take_filter _ ho]
      split
      · rw [set_last, List.map_append]; rfl
      · rw [List.append_nil]) (fun σ O' _ => by rw [val_get]; simp) ⟨y6, y7, rfl, by simp⟩
  rw [List.take_length] at l1
  exact ⟨z6, z7, l1⟩
theorem law_broad_eq {n : Nat} {fs : List (List D)} (hf : Tog n fs) {O : Ow} (hO : Flat O) : F__law_broad [.tup (fs.map .tup)] O = .ok (.lst (((terms n).filter (broadL n fs)).map D.str)) O := by
  have hfew := terms_few hf.n1 hf.n4
  let A : Option D := some (.tup (fs.map .tup))
  let S : Option D := some (.lst ((terms n).map (some_ fs)))
  have hO1 : Flat (O ++ [[]]) := flat_one hO (by simp)
  obtain ⟨f, h1, h2⟩ := first_eq hf (O ++ [[]])
  show frzR O.length (fin (B__law_broad [A, none, none, none, none, none, none, none] O)) = _
  obtain ⟨σ', O', l1, X, y3, y4, y5, y6, y7, rfl, rfl⟩ := for_src (α := List Nat) (g := .two 3 4) (l := terms n) (inj := some_ fs) (it := dIt (dVar 2)) (σ := [A, some (.own O.length), S, none, none, none, none, none]) (O0 := O ++ [[]]) (O := O ++ [[]]) (src := .val ((terms n).map (some_ fs))) (body := (sSeq (sSet 5 (dLstO dNil)) (sSeq (sFor (dIt (dVar 2)) (.two 6 7) bodyO) (sIf (dAndT (dTst (dOp (fPy neF) (dVar 4) (dLst dNil))) (dTst (dOp (fPy eqF) (dVar 5) (dLst dNil)))) (sDrop (dApp (dVar 1) (dCons (dVar 3) dNil))) sNil)))) rfl (by simp [Src.size])
    (fun j σ O' => ∃ X y3 y4 y5 y6 y7, σ = [A, some (.own O.length), S, y3, y4, y5, y6, y7] ∧ O' = O ++ ([(((terms n).take j).filter (broadL n fs)).map D.str] ++ X)) (fun j cs σ O' hcs hI => by
      obtain ⟨X, y3, y4, y5, y6, y7, rfl, rfl⟩ := hI
      have hc := List.mem_of_getElem? hcs
      obtain ⟨z6, z7, e1⟩ := inner_eq hf hc (a := A) (b := some (.own O.length)) (y6 := y6) (y7 := y7) (O ++ ([(((terms n).take j).filter (broadL n fs)).map D.str] ++ X))
      have hl : ((((terms n).take j).filter (broadL n fs)).map D.str).length < 1000 := by
        have h1 := List.length_filter_le (broadL n fs) ((terms n).take j)
        have h2 := List.length_take_le' j (terms n)
        rw [List.length_map]; omega
      refine ⟨by rw [val_get, hcs]; rfl, [A, some (.own O.length), S, some (.str cs), some (.lst (dInts (goodFor fs cs))), y5, y6, y7], [A, some (.own O.length), S, some (.str cs), some (.lst (dInts (goodFor fs cs))), some (.own (O ++ ([(((terms n).take j).filter (broadL n fs)).map D.str] ++ X)).length), z6, z7], O ++ ([(((terms n).take (j + 1)).filter (broadL n fs)).map D.str] ++ (X ++ [((terms n).filter (overL fs cs)).map D.str])), rfl, ?_, _, _, _, _, _, _, rfl, rfl⟩
      refine st_set (x := .own (O ++ ([(((terms n).take j).filter (broadL n fs)).map D.str] ++ X)).length) (O1 := O ++ ([(((terms n).take j).filter (broadL n fs)).map D.str] ++ X) ++ [[]]) rfl (st_seq e1 ?_)
      generalize hQ : O ++ ([(((terms n).take j).filter (broadL n fs)).map D.str] ++ X) ++ [((terms n).filter (overL fs cs)).map D.str] = Q
      have hQ' : Q = O ++ ([(((terms n).take j).filter (broadL n fs)).map D.str] ++ (X ++ [((terms n).filter (overL fs cs)).map D.str])) := by rw [← hQ]; simp
      rw [sIf_eq (b := broadL n fs cs) (O1 := Q) (dAndT_bl (dTst_eq (op_of rfl rfl (ne_nilN Q _))) fun _ => dTst_eq (op_of rfl rfl (eq_nilS Q hf.n1 hf.n4 (fun c hc => (List.mem_filter.mp hc).1) (by rw [← hQ]; exact get_last))))]
      rw [take_filter _ hcs]
      cases hb : broadL n fs cs with
      | true =>
        rw [if_pos rfl, if_pos rfl, cell_app (t := dVar 3) rfl rfl (by rw [hQ']; exact get_mid') (by omega), hQ', set_mid, List.map_append]; rfl
      | false =>
        rw [hQ']
        simp only [Bool.false_eq_true, if_false, List.append_nil]; rfl) (fun σ O' _ => by rw [val_get]; simp) ⟨[], _, _, _, _, _, rfl, by simp⟩
  rw [List.take_length] at l1
  have hB : B__law_broad [A, none, none, none, none, none, none, none] O = .rt (.own O.length) (O ++ ([((terms n).filter (broadL n fs)).map D.str] ++ X)) := by
    unfold B__law_broad
    refine st_set (x := .own O.length) (O1 := O ++ [[]]) rfl (st_set (x := .lst ((terms n).map (some_ fs))) (O1 := O ++ [[]]) ?_ (st_seq l1 (sRet_eq rfl)))
    refine (comp0 (l := terms n) (e := some_ fs) (τ := fun cs => [A, some (.own O.length), none, some (.str cs), none, none, none, none]) (dIt_lst (fn_of (dCons1 (fn_of (dCons1 (op_of rfl rfl h2)) (law_switches_eq h1 _))) (law_terms_eq hf.n4 hO1))) (by omega) (fun _ => rfl) (fun cs hc => ?_)).trans rfl
    show ((dCons (dVar 3) (dCons (dFn 2 F__law_good_for (dCons (dVar 0) (dCons (dVar 3) dNil))) dNil) _ _).bnd _) = _
    rw [dCons2 (x := .str cs) (by rfl) (fn_of (dCons2 (x := A.get!) (by rfl) (by rfl)) (law_good_for_eq hf hc _))]
    rfl
  rw [ret_fin hB]
  refine frzR_flat hO _ ?_
  unfold frz
  dsimp only
  rw [if_neg (Nat.lt_irrefl _), get_mid']
  dsimp only
  rw [mapO_id fun d hd => ?_]
  · rfl
  · obtain ⟨q, _, rfl⟩ := List.mem_map.mp hd
    exact frz_flat rfl
/-! ### both are the same -/
theorem over_all : (allL.all fun q => q.2 == q.1 || !liesB q.1 q.2 || (List.range q.1.length).any fun k => q.1.getD k 0 != 45 && (pts (q.1.set k 45)).all (fun p => (pts q.2).contains p)) = true := by decide +kernel
theorem one_all : (allS.all fun q => q.1.getD q.2 0 == 45 || (q.1.set q.2 45 != q.1 && liesB q.1 (q.1.set q.2 45) && (pts q.1).all (fun p => (pts (q.1.set q.2 45)).contains p))) = true := by decide +kernel
theorem good_mono {f : List D} {a b : List Nat} (h : (pts a).all (fun p => (pts b).contains p) = true) (hb : goodB f b = true) : goodB f a = true := by
  unfold goodB at hb ⊢
  rw [List.all_eq_true] at *
  exact fun p hp => hb p (List.contains_iff_mem.mp (h p hp))
theorem broad_same {n : Nat} {fs : List (List D)} (hf : Tog n fs) {cs : List Nat} (hc : cs ∈ terms n) : broadL n fs cs = broadP fs cs := by
  unfold broadL broadP
  congr 1
  rw [Bool.eq_iff_iff, List.isEmpty_iff, List.filter_eq_nil_iff, Bool.not_eq_true', Bool.eq_false_iff, Ne, List.any_eq_true]
  have hA := terms_in hf.n1 hf.n4 hc
  constructor
  · rintro h ⟨o, ho, e⟩
    obtain ⟨k, hk, rfl⟩ := List.mem_map.mp ho
    obtain ⟨hk, hk2⟩ := List.mem_filter.mp hk
    have := List.all_eq_true.mp one_all _ (mem_allS hA (List.mem_range.mp hk))
    simp only [Bool.or_eq_true, Bool.and_eq_true, bne_iff_ne, beq_iff_eq] at this
    rcases this with e2 | ⟨⟨a1, a2⟩, _⟩
    · rw [e2] at hk2; exact absurd hk2 (by decide)
    · refine h _ (set_terms hf.n1 hf.n4 hc (k := k) (c := 45) rfl) ?_
      unfold overL subB
      rw [beq_iff_eq] at e
      rw [e]
      simp only [Bool.and_eq_true, decide_eq_true_eq, List.isEmpty_iff, List.filter_eq_nil_iff]
      exact ⟨a1, a2, fun x hx => by simp [hx]⟩
  · intro h o ho hov
    unfold overL subB at hov
    simp only [Bool.and_eq_true, decide_eq_true_eq, List.isEmpty_iff, List.filter_eq_nil_iff] at hov
    obtain ⟨a1, a2, a3⟩ := hov
    have := List.all_eq_true.mp over_all _ (mem_allL hf.n1 hf.n3 hc ho)
    simp only [Bool.or_eq_true, beq_iff_eq, Bool.not_eq_true', List.any_eq_true, List.mem_range, Bool.and_eq_true, bne_iff_ne] at this
    rcases this with (e | e) | ⟨k, hk, k1, k2⟩
    · exact a1 e
    · rw [a2] at e; cases e
    · refine h ⟨cs.set k 45, List.mem_map.mpr ⟨k, List.mem_filter.mpr ⟨List.mem_range.mpr hk, by simpa using k1⟩, rfl⟩, ?_⟩
      rw [beq_iff_eq]
      have := List.all_eq_true.mp one_all _ (mem_allS hA hk)
      simp only [Bool.or_eq_true, Bool.and_eq_true, beq_iff_eq] at this
      have b3 : (pts cs).all (fun p => (pts (cs.set k 45)).contains p) = true := by
        rcases this with e | ⟨_, e⟩
        · exact absurd e k1
        · exact e
      unfold goodFor
      refine List.filter_congr fun j hj => ?_
      rw [Bool.eq_iff_iff]
      constructor
      · exact good_mono b3
      · intro hg
        have hin : j ∈ goodFor fs cs := List.mem_filter.mpr ⟨hj, hg⟩
        have := a3 j hin
        have hj2 : j ∈ goodFor fs o := by simpa using this
        exact good_mono k2 (List.mem_filter.mp hj2).2
end K61

namespace K61
open PySem DL
/-! ### draws -/
theorem take_more {O : Ow} {m : Nat} {s : Int} {b : Bool} (h : StAt (O.set m [.int s, .bl b]) m s b) (X : Ow) {k : Nat} (k1 : 1 ≤ k) (k2 : k ≤ 1000) :
    ∃ (r : Nat) (s' : Int), r < k ∧ F__law_take [.own m, .int k] (O.set m [.int s, .bl b] ++ X) = .ok (.int r) (O.set m [.int s', .bl b] ++ X) ∧ StAt (O.set m [.int s', .bl b]) m s' b := by
  obtain ⟨r, s', r1, r2, r3⟩ := take_eq (h.more (X := X)) k1 k2
  rw [List.set_append_left _ _ h.len, List.set_set] at r2 r3
  refine ⟨r, s', r1, r2, ?_, r3.nn, r3.lt⟩
  have hl : m < (O.set m [.int s', .bl b]).length := by have := h.len; rw [List.length_set] at this ⊢; exact this
  have := r3.at_
  rwa [List.getElem?_append_left hl] at this
theorem int_lt (O : Ow) (i j : Int) : fLt O (.int i) (.int j) = .ok (.bl (decide (i < j))) O := rfl
theorem intA_bl (O : Ow) (q : Bool) : fIntA O [.bl q] = .ok (.int (if q = true then 1 else 0)) O := by cases q <;> rfl
theorem often_at (O : Ow) {r : Nat} (h : r < 3) : ∃ i : Int, fIx O (.lst [.int 2, .int 4, .int 6]) (.int r) = .ok (.int i) O := by
  have : r = 0 ∨ r = 1 ∨ r = 2 := by omega
  rcases this with rfl | rfl | rfl
  · exact ⟨2, rfl⟩
  · exact ⟨4, rfl⟩
  · exact ⟨6, rfl⟩
theorem function_eq {O : Ow} (hO : Flat O) {m : Nat} {s : Int} {b : Bool} (h : StAt O m s b) {n : Nat} (n1 : 1 ≤ n) (n4 : n ≤ 4) (fr : Bool) :
    ∃ f s', Fn n f ∧ F__law_function [.own m, .int n, .bl fr] O = .ok (.tup f) (O.set m [.int s', .bl b]) ∧ StAt (O.set m [.int s', .bl b]) m s' b := by
  have hp := pow_small n4
  obtain ⟨r, s1, r1, r2, h1⟩ := take_eq h (k := 3) (by decide) (by decide)
  obtain ⟨w, s2, w1, w2, h2⟩ := take_eq h1 (k := 3) (by decide) (by decide)
  rw [List.set_set] at w2 h2
  obtain ⟨i, hi⟩ := often_at (O.set m [.int s1, .bl b]) r1
  obtain ⟨z, hz⟩ : ∃ z : Int, dOp (fI gMul) (dFn 2 F__law_take (dCons (dVar 0) (dCons (dC (.int 3)) dNil))) (dCall fIntA (dCons (dVar 2) dNil)) [some (.own m), some (.int n), some (.bl fr), some (.int i), none, none, none, none] (O.set m [.int s1, .bl b]) = .ok (.int z) (O.set m [.int s2, .bl b]) := by
    refine ⟨_, op_of (fn_of (dCons2 rfl rfl) w2) (call_of (dCons1 rfl) (intA_bl _ fr)) (fI_mulL (by omega) (by omega))⟩
  let A : Option D := some (.own m)
  let k := O.length
  have hlen : ∀ s', (O.set m [D.int s', D.bl b]).length = O.length := fun s' => List.length_set
  obtain ⟨σ', O', l1, fs, s3, y6, y7, rfl, rfl, h3, f1, f2⟩ := for_of (i := 6) (l := List.range (2 ^ n)) (inj := fun (i : Nat) => D.int (i : Int)) (O := O.set m [.int s2, .bl b] ++ [[]]) (σ := [A, some (.int n), some (.bl fr), some (.int i), some (.int z), some (.own O.length), none, none]) (O0 := O.set m [.int s2, .bl b] ++ [[]]) (it := dRng1 (dCons (dOp (fI gShl) (dC (.int 1)) (dVar 1)) dNil)) (body := (sSeq (sSet 7 (dCall fIntA (dCons (dOp fLt (dFn 2 F__law_take (dCons (dVar 0) (dCons (dC (.int 8)) dNil))) (dVar 3)) dNil))) (sSeq (sIf (dTst (dOp fLt (dFn 2 F__law_take (dCons (dVar 0) (dCons (dC (.int 5)) dNil))) (dVar 4))) (sSet 7 (dC .non)) sNil) (sDrop (dApp (dVar 5) (dCons (dVar 7) dNil))))))
    (dRng1_eq (dCons1 (shl_eq n4 rfl)) (by omega)) (fun j σ O' => ∃ fs s' y6 y7, σ = [A, some (.int n), some (.bl fr), some (.int i), some (.int z), some (.own O.length), y6, y7] ∧ O' = O.set m [.int s', .bl b] ++ [fs] ∧ StAt (O.set m [.int s', .bl b]) m s' b ∧ fs.length = j ∧ ∀ d ∈ fs, Ans d) (fun j a σ O' ha hI => by
      obtain ⟨fs, s', y6, y7, rfl, rfl, hs, f1, f2⟩ := hI
      have hj : j < 2 ^ n := by have := (List.getElem?_eq_some_iff.mp ha).1; simpa using this
      obtain ⟨q1, t1, _, e1, g1⟩ := take_more hs [fs] (k := 8) (by decide) (by decide)
      obtain ⟨q2, t2, _, e2, g2⟩ := take_more g1 [fs] (k := 5) (by decide) (by decide)
      have hA1 : Ans (.int (if (decide ((q1 : Int) < i)) = true then 1 else 0)) := by
        by_cases h : (q1 : Int) < i
        · exact .inr (.inl (by simp [h]))
        · exact .inl (by simp [h])
      have key : ∀ v, Ans v → sDrop (dApp (dVar 5) (dCons (dVar 7) dNil)) [A, some (.int n), some (.bl fr), some (.int i), some (.int z), some (.own O.length), some (.int a), some v] (O.set m [.int t2, .bl b] ++ [fs]) = .nx [A, some (.int n), some (.bl fr), some (.int i), some (.int z), some (.own O.length), some (.int a), some v] (O.set m [.int t2, .bl b] ++ [fs ++ [v]]) := fun v _ => by
        rw [cell_app (ds := fs) (t := dVar 7) rfl rfl (by rw [← hlen t2]; exact get_last) (by omega)]
        congr 1
        rw [← hlen t2]; exact set_last
      have fin2 : ∀ v, Ans v → (fs ++ [v]).length = j + 1 ∧ ∀ d ∈ fs ++ [v], Ans d := fun v hv => ⟨by simp [f1], fun d hd => by
        rcases List.mem_append.mp hd with hd | hd
        · exact f2 d hd
        · have : d = v := by simpa using hd
          rw [this]; exact hv⟩
      by_cases hq : (q2 : Int) < z
      · refine ⟨_, _, st_set (x := .int (if (decide ((q1 : Int) < i)) = true then 1 else 0)) (O1 := O.set m [.int t1, .bl b] ++ [fs]) (call_of (dCons1 (op_of (fn_of (dCons2 rfl rfl) e1) rfl (int_lt _ _ _))) (intA_bl _ _)) (st_seq (σ' := [A, some (.int n), some (.bl fr), some (.int i), some (.int z), some (.own O.length), some (.int a), some .non]) (O1 := O.set m [.int t2, .bl b] ++ [fs]) ?_ (key .non (.inr (.inr rfl)))), fs ++ [.non], t2, _, _, rfl, rfl, g2, fin2 _ (.inr (.inr rfl))⟩
        rw [sIf_eq (b := true) (dTst_eq ((op_of (fn_of (dCons2 rfl rfl) e2) rfl (int_lt _ _ _)).trans (by rw [decide_eq_true hq])))]; rfl
      · refine ⟨_, _, st_set (x := .int (if (decide ((q1 : Int) < i)) = true then 1 else 0)) (O1 := O.set m [.int t1, .bl b] ++ [fs]) (call_of (dCons1 (op_of (fn_of (dCons2 rfl rfl) e1) rfl (int_lt _ _ _))) (intA_bl _ _)) (st_ifF (O1 := O.set m [.int t2, .bl b] ++ [fs]) (dTst_eq ((op_of (fn_of (dCons2 rfl rfl) e2) rfl (int_lt _ _ _)).trans (by rw [decide_eq_false hq]))) (key _ hA1)), _, t2, _, _, rfl, rfl, g2, fin2 _ hA1⟩) ⟨[], s2, _, _, rfl, rfl, h2, rfl, by simp⟩
  rw [List.length_range] at f1
  refine ⟨fs, s3, ⟨n1, n4, f1, f2⟩, ?_, h3⟩
  show frzR O.length (fin (B__law_function [some (.own m), some (.int n), some (.bl fr), none, none, none, none, none] O)) = _
  have hB : B__law_function [some (.own m), some (.int n), some (.bl fr), none, none, none, none, none] O = .rt (.tup fs) (O.set m [.int s3, .bl b] ++ [fs]) := by
    unfold B__law_function
    refine st_set (x := .int i) (O1 := O.set m [.int s1, .bl b]) (op_of (x := .lst [.int 2, .int 4, .int 6]) rfl (fn_of (dCons2 rfl rfl) r2) hi) (st_set hz (st_set (x := .own O.length) (O1 := O.set m [.int s2, .bl b] ++ [[]]) ?_ (st_seq l1 (sRet_eq (call_of (dCons1 rfl) ?_)))))
    · show R.ok (D.own (O.set m [D.int s2, D.bl b]).length) _ = _
      rw [hlen]
    · show (match (O.set m [.int s3, .bl b] ++ [fs])[O.length]? with | some ds => R.ok (D.tup ds) _ | none => _) = _
      rw [← hlen s3, get_last]
  rw [ret_fin hB]
  have := frzR_gen (flat_set hO m s3 b) [fs] (d := .tup fs) (d' := .tup fs) (frz_tup fun d hd => ans_flat (f2 d hd) _)
  rw [hlen] at this
  exact this
/-- a comprehension that draws, into a cell or by value -/
theorem comp_st {ext : Nat} {it0 : DI} {i : Nat} {te : DE} {σ : Sg} {O O0 : Ow} {ds : List D} {m : Nat} {s : Int} {b : Bool} {P : D → Prop} {o : Bool} (hst : StAt O m s b) (hi : it0 σ O0 = .ok (.val ds) O) (hl : ds.length < 50000)
    (he : ∀ d ∈ ds, ∀ s', StAt (O.set m [.int s', .bl b]) m s' b → ∃ v s'', te ((clr (clr (σ ++ List.replicate ext none) [i]) [i]).set i (some d)) (O.set m [.int s', .bl b]) = .ok v (O.set m [.int s'', .bl b]) ∧ StAt (O.set m [.int s'', .bl b]) m s'' b ∧ P v) :
    ∃ vs s', dComp o ext it0 (.one i) [] [] te σ O0 = outC o (.ok vs (O.set m [.int s', .bl b])) ∧ StAt (O.set m [.int s', .bl b]) m s' b ∧ vs.length = ds.length ∧ ∀ v ∈ vs, P v := by
  obtain ⟨acc, O', e, s', rfl, h1, h2, h3⟩ := walkD_inv (ds := ds) (step := stepD ⟨it0, .one i, []⟩ [] te (clr (σ ++ List.replicate ext none) (slotsOf [⟨it0, .one i, []⟩])))
    (fun j O' acc => ∃ s', O' = O.set m [.int s', .bl b] ∧ StAt O' m s' b ∧ acc.length = j ∧ ∀ v ∈ acc, P v) (fun j O' acc d hI hd => by
      obtain ⟨s', rfl, h1, h2, h3⟩ := hI
      have hj := (List.getElem?_eq_some_iff.mp hd).1
      obtain ⟨v, s'', q1, q2, q3⟩ := he d (List.mem_of_getElem? hd) s' h1
      refine ⟨acc ++ [v], _, ?_, s'', rfl, q2, by simp [h2], fun w hw => ?_⟩
      · show compD [] te ((clr (clr (σ ++ List.replicate ext none) [i]) [i]).set i (some d)) (O.set m [.int s', .bl b]) acc = _
        unfold compD
        rw [q1]
        show (if acc.length < 100000 then _ else _) = _
        rw [if_pos (by omega)]
      · rcases List.mem_append.mp hw with hw | hw
        · exact h3 w hw
        · have : w = v := by simpa using hw
          rw [this]; exact q3) ds.length 0 O [] ⟨s, (set_same hst.at_).symm, hst, rfl, by simp⟩ (by omega) (Nat.zero_le _)
  refine ⟨acc, s', ?_, h1, h2, h3⟩
  unfold dComp compAll
  rw [hi]
  show outC o (noX (walkD (.val ds) _ ds.length 0 O [])) = _
  rw [e]; rfl
theorem tups_of : ∀ (vs : List D) {P : List D → Prop}, (∀ v ∈ vs, ∃ f, v = D.tup f ∧ P f) → ∃ fs : List (List D), vs = fs.map D.tup ∧ ∀ f ∈ fs, P f
  | [], _, _ => ⟨[], rfl, by simp⟩
  | v :: vs, P, h => by
    obtain ⟨f, rfl, hf⟩ := h v List.mem_cons_self
    obtain ⟨fs, rfl, hfs⟩ := tups_of vs (P := P) fun w hw => h w (List.mem_cons_of_mem _ hw)
    exact ⟨f :: fs, rfl, fun x hx => (List.mem_cons.mp hx).elim (fun e => by rw [e]; exact hf) (hfs x)⟩
theorem n_at (O : Ow) {r : Nat} (h : r < 4) : ∃ n : Nat, 1 ≤ n ∧ n ≤ 3 ∧ fIx O (.lst [.int 3, .int 2, .int 3, .int 1]) (.int r) = .ok (.int n) O := by
  have : r = 0 ∨ r = 1 ∨ r = 2 ∨ r = 3 := by omega
  rcases this with rfl | rfl | rfl | rfl
  · exact ⟨3, by decide, by decide, rfl⟩
  · exact ⟨2, by decide, by decide, rfl⟩
  · exact ⟨3, by decide, by decide, rfl⟩
  · exact ⟨1, by decide, by decide, rfl⟩
theorem law_together_eq {O : Ow} (hO : Flat O) {m : Nat} {s : Int} {b : Bool} (h : StAt O m s b) :
    ∃ n fs s', Tog n fs ∧ F__law_together [.own m] O = .ok (.tup (fs.map .tup)) (O.set m [.int s', .bl b]) ∧ StAt (O.set m [.int s', .bl b]) m s' b := by
  have hlen : ∀ s', (O.set m [D.int s', D.bl b]).length = O.length := fun s' => List.length_set
  obtain ⟨r, s1, r1, r2, h1⟩ := take_eq h (k := 4) (by decide) (by decide)
  obtain ⟨n, n1, n3, hn⟩ := n_at (O.set m [.int s1, .bl b]) r1
  obtain ⟨w, s2, w1, w2, h2⟩ := take_eq h1 (k := 2) (by decide) (by decide)
  rw [List.set_set] at w2 h2
  have hr : dRng1 (dCons (dOp fAdd (dC (.int 2)) (dFn 2 F__law_take (dCons (dVar 0) (dCons (dC (.int 2)) dNil)))) dNil) [some (.own m), some (.int n), none] (O.set m [.int s1, .bl b]) = .ok (.val ((List.range (2 + w)).map fun (i : Nat) => D.int (i : Int))) (O.set m [.int s2, .bl b]) :=
    dRng1_eq (dCons1 ((op_of rfl (fn_of (dCons2 rfl rfl) w2) fAdd_int).trans (by congr 2))) (by omega)
  obtain ⟨vs, s3, c1, h3, c3, c4⟩ := comp_st (o := true) (ext := 1) (i := 3) (te := dFn 3 F__law_function (dCons (dVar 0) (dCons (dVar 1) (dCons (dC (.bl true)) dNil)))) (P := fun v => ∃ f, v = D.tup f ∧ Fn n f) h2 hr (by simp; omega) (fun d hd s' hs => by
    rw [List.set_set] at hs
    obtain ⟨f, s'', hf, e1, e2⟩ := function_eq (flat_set hO m s' b) hs n1 (by omega) true
    rw [List.set_set] at e1 e2
    refine ⟨.tup f, s'', ?_, ?_, f, rfl, hf⟩
    · rw [List.set_set, List.set_set]; exact fn_of (dCons_eq rfl (dCons2 rfl rfl)) e1
    · rw [List.set_set]; exact e2)
  rw [List.set_set] at c1 h3
  obtain ⟨fs, rfl, hfs⟩ := tups_of vs c4
  have hl : fs.length = 2 + w := by simpa using c3
  have hT : Tog n fs := ⟨n1, n3, by omega, by omega, hfs⟩
  obtain ⟨q, s4, q1, q2, h4⟩ := take_more h3 [fs.map D.tup] (k := 4) (by decide) (by decide)
  obtain ⟨fs2, hT2, e4⟩ : ∃ fs2, Tog n fs2 ∧ sIf (dTst (dOp (fPy eqF) (dFn 2 F__law_take (dCons (dVar 0) (dCons (dC (.int 4)) dNil))) (dC (.int 0)))) (sPut (dOp fIx (dVar 2) (dC (.int 0))) (dVar 2) (dC (.int 1))) sNil [some (.own m), some (.int n), some (.own O.length)] (O.set m [.int s3, .bl b] ++ [fs.map D.tup]) = .nx [some (.own m), some (.int n), some (.own O.length)] (O.set m [.int s4, .bl b] ++ [fs2.map D.tup]) := by
    have ht : dTst (dOp (fPy eqF) (dFn 2 F__law_take (dCons (dVar 0) (dCons (dC (.int 4)) dNil))) (dC (.int 0))) [some (.own m), some (.int n), some (.own O.length)] (O.set m [.int s3, .bl b] ++ [fs.map D.tup]) = .ok ((q : Int) == 0) (O.set m [.int s4, .bl b] ++ [fs.map D.tup]) := dTst_eq (op_of (fn_of (dCons2 rfl rfl) q2) rfl rfl)
    rw [sIf_eq ht]
    by_cases hq : ((q : Int) == 0) = true
    · rw [if_pos hq]
      obtain ⟨f0, fr, rfl⟩ := tog_pos hT
      obtain ⟨f1, fr', rfl⟩ : ∃ f1 r, fr = f1 :: r := by
        cases fr with
        | nil => have := hT.l2; simp at this
        | cons a r => exact ⟨a, r, rfl⟩
      refine ⟨f0 :: f0 :: fr', ⟨n1, n3, by simp, by have := hT.l3; simpa using this, fun f hf => ?_⟩, ?_⟩
      · rcases List.mem_cons.mp hf with rfl | hf
        · exact hT.fn _ List.mem_cons_self
        · rcases List.mem_cons.mp hf with rfl | hf
          · exact hT.fn _ List.mem_cons_self
          · exact hT.fn _ (List.mem_cons_of_mem _ (List.mem_cons_of_mem _ hf))
      · have hk : (O.set m [.int s4, .bl b] ++ [(f0 :: f1 :: fr').map D.tup])[O.length]? = some ((f0 :: f1 :: fr').map D.tup) := by rw [← hlen s4]; exact get_last
        rw [sPut_eq (y := .tup f0) (k := O.length) (i := 1) (j := 1) (O1 := O.set m [.int s4, .bl b] ++ [(f0 :: f1 :: fr').map D.tup]) (op_of rfl rfl (by
          show (match (O.set m [.int s4, .bl b] ++ [(f0 :: f1 :: fr').map D.tup])[O.length]? with | some ds => (match L2.atI ds 0 with | some d => R.ok d _ | none => R.bad) | none => _) = _
          rw [hk]
          dsimp only
          rw [show L2.atI (List.map D.tup (f0 :: f1 :: fr')) 0 = some (D.tup f0) from L2.atI_nat (j := 0) rfl])) rfl rfl hk (by
            unfold L2.ixN
            rw [if_pos (by omega), if_pos (by simp; omega)]; rfl)]
        congr 1
        rw [← hlen s4]; exact set_last
    · rw [if_neg hq]; exact ⟨fs, hT, rfl⟩
  refine ⟨n, fs2, s4, hT2, ?_, h4⟩
  show frzR O.length (fin (B__law_together [some (.own m), none, none] O)) = _
  have hB : B__law_together [some (.own m), none, none] O = .rt (.tup (fs2.map .tup)) (O.set m [.int s4, .bl b] ++ [fs2.map .tup]) := by
    unfold B__law_together
    refine st_set (x := .int n) (O1 := O.set m [.int s1, .bl b]) (op_of (x := .lst [.int 3, .int 2, .int 3, .int 1]) rfl (fn_of (dCons2 rfl rfl) r2) hn) (st_set (x := .own O.length) (O1 := O.set m [.int s3, .bl b] ++ [fs.map D.tup]) (c1.trans ?_) (st_seq e4 (sRet_eq (call_of (dCons1 rfl) ?_))))
    · show R.ok (D.own (O.set m [D.int s3, D.bl b]).length) _ = _
      rw [hlen]
    · show (match (O.set m [.int s4, .bl b] ++ [fs2.map D.tup])[O.length]? with | some ds => R.ok (D.tup ds) _ | none => _) = _
      rw [← hlen s4, get_last]
  rw [ret_fin hB]
  have := frzR_gen (flat_set hO m s4 b) [fs2.map D.tup] (d := .tup (fs2.map .tup)) (d' := .tup (fs2.map .tup)) (by
    show (mapO (frz _ _ 7) (fs2.map D.tup)).map D.tup = _
    rw [mapO_id fun d hd => by
      obtain ⟨f, hf, rfl⟩ := List.mem_map.mp hd
      exact frz_tup fun d hd => ans_flat ((hT2.fn f hf).ans d hd) _]; rfl)
  rw [hlen] at this
  exact this
end K61

namespace K61
open PySem DL
theorem same_str3 (O : Ow) : (allT.map fun cs => F__law_same_ 3 [.str cs, .str cs] O) = allT.map fun _ => R.ok (.bl true) O := by kernel_rfl
theorem broads_few {n : Nat} {fs : List (List D)} (hf : Tog n fs) : (broads n fs).length ≤ 81 := Nat.le_trans (List.length_filter_le _ _) (terms_few hf.n1 hf.n4)
theorem same_broads {n : Nat} {fs : List (List D)} (hf : Tog n fs) (O : Ow) : F__law_same [.own O.length, .lst ((broads n fs).map .str)] (O ++ [(broads n fs).map .str]) = .ok (.bl true) (O ++ [(broads n fs).map .str]) := by
  refine same_list (k := 3) (xs := (broads n fs).map .str) (by show (O ++ _)[O.length]? = _; simp) rfl (by have := broads_few hf; simp; omega) fun i x y hx hy => ?_
  rw [hx] at hy; cases hy
  have hm := List.mem_of_getElem? hx
  obtain ⟨cs, hcs, rfl⟩ := List.mem_map.mp hm
  exact List.map_inj_left.mp (same_str3 _) cs (terms_in hf.n1 hf.n4 (List.mem_filter.mp hcs).1)
def bodyT : DS := (sSeq (sSet 4 (dFn 1 F_broad_terms (dCons (dVar 2) dNil))) (sSeq (sIf (dNotT (dTru (dFn 2 F__law_same (dCons (dVar 4) (dCons (dFn 1 F__law_broad (dCons (dVar 2) dNil)) dNil))))) (sRet (dC (.bl false))) sNil) (sDrop (dApp (dVar 4) (dCons (dC (.str [])) dNil)))))
theorem bodyT_eq {n : Nat} {fs : List (List D)} (hf : Tog n fs) {O : Ow} (hO : Flat O) {a b c y4 : Option D} :
    bodyT [a, b, some (.tup (fs.map .tup)), c, y4] O = .nx [a, b, some (.tup (fs.map .tup)), c, some (.own O.length)] (O ++ [(broads n fs).map .str ++ [.str []]]) := by
  have hl := broads_few hf
  have e : (terms n).filter (broadL n fs) = broads n fs := List.filter_congr fun cs hc => broad_same hf hc
  have hO1 : Flat (O ++ [(broads n fs).map .str]) := flat_one hO fun d hd => by
    obtain ⟨x, _, rfl⟩ := List.mem_map.mp hd; rfl
  have hb := law_broad_eq hf hO1
  rw [e] at hb
  unfold bodyT
  have a1 : dFn 1 F_broad_terms (dCons (dVar 2) dNil) [a, b, some (.tup (fs.map .tup)), c, y4] O = .ok (.own O.length) (O ++ [(broads n fs).map .str]) := fn_of (dCons1 rfl) (broad_terms_eq hf O)
  generalize hQ : O ++ [(broads n fs).map D.str] = Q at *
  have a2 : dFn 1 F__law_broad (dCons (dVar 2) dNil) [a, b, some (.tup (fs.map .tup)), c, some (.own O.length)] Q = .ok (.lst ((broads n fs).map .str)) Q := fn_of (dCons1 rfl) hb
  have a3 : dFn 2 F__law_same (dCons (dVar 4) (dCons (dFn 1 F__law_broad (dCons (dVar 2) dNil)) dNil)) [a, b, some (.tup (fs.map .tup)), c, some (.own O.length)] Q = .ok (.bl true) Q := fn_of (dCons2 rfl a2) (by rw [← hQ]; exact same_broads hf O)
  have a4 := cell_app (σ := [a, b, some (.tup (fs.map .tup)), c, some (.own O.length)]) (O := Q) (i := 4) (t := dC (.str [])) (ds := (broads n fs).map .str) rfl rfl (by rw [← hQ]; exact get_last) (by rw [List.length_map]; omega)
  rw [show Q.set O.length ((broads n fs).map D.str ++ [D.str []]) = O ++ [(broads n fs).map .str ++ [.str []]] by rw [← hQ]; exact set_last] at a4
  exact st_set a1 (st_ifF (dNotT_eq (dTru_bl a3)) a4)
def bodyK : DS := (sSeq (sSet 2 (dFn 1 F__law_together (dCons (dFn 2 F__law_state (dCons (dVar 0) (dCons (dVar 1) dNil))) dNil))) (sFor (dRng1 (dCons (dC (.int 2)) dNil)) (.one 3) bodyT))
theorem bodyK_eq {ns : List Int} {k : Nat} {O : Ow} (hO : Flat O) {y2 y3 y4 : Option D} :
    ∃ z2 z3 z4 O', bodyK [some (.lst (ns.map .int)), some (.int (k : Int)), y2, y3, y4] O = .nx [some (.lst (ns.map .int)), some (.int (k : Int)), z2, z3, z4] O' ∧ Flat O' := by
  obtain ⟨s, b, s1, s2⟩ := state_eq (ns := ns) (k := k) O
  have fl1 : Flat (O ++ [[.int s, .bl b]]) := StAt.flat hO
  obtain ⟨n, fs, s', hf, f1, f2⟩ := law_together_eq fl1 s2
  have fl2 := flat_set fl1 O.length s' b
  generalize hO1 : O ++ [[D.int s, D.bl b]] = O1 at *
  generalize hO2 : O1.set O.length [D.int s', D.bl b] = O2 at *
  let A : Option D := some (.lst (ns.map .int))
  let B : Option D := some (.int (k : Int))
  let Fs : Option D := some (.tup (fs.map .tup))
  obtain ⟨σ5, O5, e5, ⟨z3, z4, rfl, fl5⟩⟩ := for_of (i := 3) (body := bodyT) (rng_c (k := 2) (c := 2) rfl (by decide) [A, B, Fs, y3, y4] O2) (fun _ σ O' => ∃ z3 z4, σ = [A, B, Fs, z3, z4] ∧ Flat O') (fun _ d σ O' _ hI => by
    obtain ⟨z3, z4, rfl, fl⟩ := hI
    exact ⟨_, _, bodyT_eq hf fl (c := some (.int (d : Int))), _, _, rfl, flat_one fl (flat_strs _)⟩) ⟨y3, y4, rfl, fl2⟩
  exact ⟨Fs, z3, z4, O5, st_set (fn_of (dCons1 (fn_of (dCons2 rfl rfl) s1)) f1) e5, fl5⟩
theorem turns_eq {ns : List Int} (hn : ns.length ≤ 63) (σ : Sg) (c : Nat) (hc : c < 1000) (h0 : dVar 0 σ [] = .ok (.lst (ns.map .int)) []) : ∃ m : Nat, m < 100000 ∧ dCall fMax2 (dCons (dC (.int 1)) (dCons (dCall fMin2 (dCons (dCall fLen (dCons (dVar 0) dNil)) (dCons (dC (.int (c : Nat))) dNil))) dNil)) σ [] = .ok (.int (m : Nat)) [] := by
  have h1 : dCall fMin2 (dCons (dCall fLen (dCons (dVar 0) dNil)) (dCons (dC (.int (c : Nat))) dNil)) σ [] = .ok (.int (if (c : Int) < ((ns.map D.int).length : Nat) then (c : Int) else ((ns.map D.int).length : Nat))) [] := (dCall_eq (dCons2 ((dCall_eq (dCons1 h0)).trans rfl) rfl)).trans rfl
  have h2 := (dCall_eq (f := fMax2) (dCons2 (t := dC (.int 1)) rfl h1))
  refine ⟨(if (if (c : Int) < ((ns.map D.int).length : Nat) then (c : Int) else ((ns.map D.int).length : Nat)) > 1 then (if (c : Int) < ((ns.map D.int).length : Nat) then (c : Int) else ((ns.map D.int).length : Nat)) else 1).toNat, ?_, h2.trans ?_⟩
  · rw [List.length_map]; split <;> split <;> omega
  · show R.ok (D.int (if (if (c : Int) < ((ns.map D.int).length : Nat) then (c : Int) else ((ns.map D.int).length : Nat)) > 1 then (if (c : Int) < ((ns.map D.int).length : Nat) then (c : Int) else ((ns.map D.int).length : Nat)) else 1)) [] = _
    congr 2
    rw [List.length_map]; split <;> split <;> omega
theorem pure_law (ns : List Int) (hn : ns.length ≤ 63) : ∃ O, F_law [.lst (ns.map .int)] [] = .ok (.bl true) O := by
  let A : Option D := some (.lst (ns.map .int))
  obtain ⟨m, hm, hr⟩ := turns_eq hn [A, none, none, none, none] 6 (by decide) rfl
  obtain ⟨σ', O', l1, y1, y2, y3, y4, rfl, l2⟩ := for_of (i := 1) (body := bodyK) (dRng1_eq (dCons1 hr) hm) (fun _ σ O' => ∃ y1 y2 y3 y4, σ = [A, y1, y2, y3, y4] ∧ Flat O') (fun _ i σ O' _ hI => by
      obtain ⟨y1, y2, y3, y4, rfl, fl⟩ := hI
      obtain ⟨z2, z3, z4, O4, t1, t2⟩ := bodyK_eq (ns := ns) (k := i) fl (y2 := y2) (y3 := y3) (y4 := y4)
      exact ⟨_, _, t1, _, _, _, _, rfl, t2⟩) ⟨none, none, none, none, rfl, fun c hc => by cases hc⟩
  refine ⟨O', ?_⟩
  show fin (sSeq (sFor (dRng1 (dCons (dCall fMax2 (dCons (dC (.int 1)) (dCons (dCall fMin2 (dCons (dCall fLen (dCons (dVar 0) dNil)) (dCons (dC (.int ((6 : Nat) : Int))) dNil))) dNil))) dNil)) (.one 1) bodyK) (sRet (dC (.bl true))) [A, none, none, none, none] []) = _
  rw [sSeq_nx l1]; rfl
end K61

open PySem PySem.W PyProof.Rows
set_option maxRecDepth 100000 in
set_option maxHeartbeats 0 in
theorem PySem.Challenge.cw_leastterms_k61_broad_terms_holds : PySem.Challenge.rw_leastterms_k61_broad_terms.Holds := by
  w_on; o_law; k_head; (case hw => w_witness2)
  k_fill
  refine DL.walkD' (l := PySem.Challenge.rw_leastterms_k61_broad_terms) (k := 8) (x := "_law_script") (F := K61.F_law) rfl rfl ⟨rfl, by decide, by decide⟩ (fun w h Y => PySem.W.kIn_of Y) ?F K61.pure_law
  case F =>
    intro w mg fa h KX G hmg
    refine' K61.all_mk KX G hmg ?Ga0 ?Gl0 ?Gq0 ?Gk0 ?Ga1 ?Gl1 ?Gq1 ?Gk1 ?Ga2 ?Gl2 ?Gq2 ?Gk2 ?Ga3 ?Gl3 ?Gq3 ?Gk3 ?Ga4 ?Gl4 ?Gq4 ?Gk4 ?Ga5 ?Gl5 ?Gq5 ?Gk5 ?Ga6 ?Gl6 ?Gq6 ?Gk6 ?Ga7 ?Gl7 ?Gq7 ?Gk7 ?Ga8 ?Gl8 ?Gq8 ?Gk8 ?Ga9 ?Gl9 ?Gq9 ?Gk9 ?Ga10 ?Gl10 ?Gq10 ?Gk10 ?Ga11 ?Gl11 ?Gq11 ?Gk11 ?Ga12 ?Gl12 ?Gq12 ?Gk12 ?Ga13 ?Gl13 ?Gq13 ?Gk13 ?Ga14 ?Gl14 ?Gq14 ?Gk14 ?Ga15 ?Gl15 ?Gq15 ?Gk15 ?Ga16 ?Gl16 ?Gq16 ?Gk16 ?Ga17 ?Gl17 ?Gq17 ?Gk17 ?Ga18 ?Gl18 ?Gq18 ?Gk18 ?Ga19 ?Gl19 ?Gq19 ?Gk19 ?Ga20 ?Gl20 ?Gq20 ?Gk20 ?Ga21 ?Gl21 ?Gq21 ?Gk21 ?Ga22 ?Gl22 ?Gq22 ?Gk22 ?Ga23 ?Gl23 ?Gq23 ?Gk23 ?Ga24 ?Gl24 ?Gq24 ?Gk24 ?Ga25 ?Gl25 ?Gq25 ?Gk25 ?Ga26 ?Gl26 ?Gq26 ?Gk26 ?Ga27 ?Gl27 ?Gq27 ?Gk27 ?Ga28 ?Gl28 ?Gq28 ?Gk28 ?Gz_all ?Gz_any ?Gz_bool ?Gz_enumerate ?Gz_int ?Gz_isinstance ?Gz_len ?Gz_list ?Gz_max ?Gz_min ?Gz_range ?Gz_str ?Gz_tuple ?Gz_zip ?Gs_SIGNS ?Gd_SWITCHES_BY_POINTS ?Gu_SWITCHES_BY_POINTS ?Gv_SWITCHES_BY_POINTS ?Gy_SWITCHES_BY_POINTS ?Gs_MOST_SWITCHES_TOGETHER
    (case Ga0 => k_is)
    (case Gl0 => k_is)
    (case Gq0 => k_is)
    (case Gk0 => k_is)
    (case Ga1 => k_is)
    (case Gl1 => k_is)
    (case Gq1 => k_is)
    (case Gk1 => k_is)
    (case Ga2 => k_is)
    (case Gl2 => k_is)
    (case Gq2 => k_is)
    (case Gk2 => k_is)
    (case Ga3 => k_is)
    (case Gl3 => k_is)
    (case Gq3 => k_is)
    (case Gk3 => k_is)
    (case Ga4 => k_is)
    (case Gl4 => k_is)
    (case Gq4 => k_is)
    (case Gk4 => k_is)
    (case Ga5 => k_is)
    (case Gl5 => k_is)
    (case Gq5 => k_is)
    (case Gk5 => k_is)
    (case Ga6 => k_is)
    (case Gl6 => k_is)
    (case Gq6 => k_is)
    (case Gk6 => k_is)
    (case Ga7 => k_is)
    (case Gl7 => k_is)
    (case Gq7 => k_is)
    (case Gk7 => k_is)
    (case Ga8 => k_is)
    (case Gl8 => k_is)
    (case Gq8 => k_is)
    (case Gk8 => k_is)
    (case Ga9 => k_is)
    (case Gl9 => k_is)
    (case Gq9 => k_is)
    (case Gk9 => k_is)
    (case Ga10 => k_is)
    (case Gl10 => k_is)
    (case Gq10 => k_is)
    (case Gk10 => k_is)
    (case Ga11 => k_is)
    (case Gl11 => k_is)
    (case Gq11 => k_is)
    (case Gk11 => k_is)
    (case Ga12 => k_is)
    (case Gl12 => k_is)
    (case Gq12 => k_is)
    (case Gk12 => k_is)
    (case Ga13 => k_is)
    (case Gl13 => k_is)
    (case Gq13 => k_is)
    (case Gk13 => k_is)
    (case Ga14 => k_is)
    (case Gl14 => k_is)
    (case Gq14 => k_is)
    (case Gk14 => k_is)
    (case Ga15 => k_is)
    (case Gl15 => k_is)
    (case Gq15 => k_is)
    (case Gk15 => k_is)
    (case Ga16 => k_is)
    (case Gl16 => k_is)
    (case Gq16 => k_is)
    (case Gk16 => k_is)
    (case Ga17 => k_is)
    (case Gl17 => k_is)
    (case Gq17 => k_is)
    (case Gk17 => k_is)
    (case Ga18 => k_is)
    (case Gl18 => k_is)
    (case Gq18 => k_is)
    (case Gk18 => k_is)
    (case Ga19 => k_is)
    (case Gl19 => k_is)
    (case Gq19 => k_is)
    (case Gk19 => k_is)
    (case Ga20 => k_is)
    (case Gl20 => k_is)
    (case Gq20 => k_is)
    (case Gk20 => k_is)
    (case Ga21 => k_is)
    (case Gl21 => k_is)
    (case Gq21 => k_is)
    (case Gk21 => k_is)
    (case Ga22 => k_is)
    (case Gl22 => k_is)
    (case Gq22 => k_is)
    (case Gk22 => k_is)
    (case Ga23 => k_is)
    (case Gl23 => k_is)
    (case Gq23 => k_is)
    (case Gk23 => k_is)
    (case Ga24 => k_is)
    (case Gl24 => k_is)
    (case Gq24 => k_is)
    (case Gk24 => k_is)
    (case Ga25 => k_is)
    (case Gl25 => k_is)
    (case Gq25 => k_is)
    (case Gk25 => k_is)
    (case Ga26 => k_is)
    (case Gl26 => k_is)
    (case Gq26 => k_is)
    (case Gk26 => k_is)
    (case Ga27 => k_is)
    (case Gl27 => k_is)
    (case Gq27 => k_is)
    (case Gk27 => k_is)
    (case Ga28 => k_is)
    (case Gl28 => k_is)
    (case Gq28 => k_is)
    (case Gk28 => k_is)
    (case Gz_all => k_is)
    (case Gz_any => k_is)
    (case Gz_bool => k_is)
    (case Gz_enumerate => k_is)
    (case Gz_int => k_is)
    (case Gz_isinstance => k_is)
    (case Gz_len => k_is)
    (case Gz_list => k_is)
    (case Gz_max => k_is)
    (case Gz_min => k_is)
    (case Gz_range => k_is)
    (case Gz_str => k_is)
    (case Gz_tuple => k_is)
    (case Gz_zip => k_is)
    (case Gs_SIGNS => k_is)
    (case Gd_SWITCHES_BY_POINTS => k_is)
    (case Gu_SWITCHES_BY_POINTS => k_is)
    (case Gv_SWITCHES_BY_POINTS => first | kernel_rfl | rfl | decide)
    (case Gy_SWITCHES_BY_POINTS => first | kernel_rfl | rfl | decide)
    (case Gs_MOST_SWITCHES_TOGETHER => k_is)

