import PyProof.Rows.All
import Wide.All
import OpenK.AllK
import Wide.FinOn
import Lean
import PyProof.EqAt
import PyProof.EqKinds
import PyProof.TupleCall
import PySem.Challenge.RW_leastterms_k01_functions_known
set_option Elab.async false
set_option linter.all false
set_option maxRecDepth 100000
namespace K01
open PySem PySem.W
def ty (i : Nat) : Stmt := PySem.Challenge.pw_leastterms_k01_functions_known.main.body.getD i (.Pass ⟨0, 0, 0, 0⟩)
def Qv : Program := { PySem.Challenge.pw_leastterms_k01_functions_known with main := { PySem.Challenge.pw_leastterms_k01_functions_known.main with body := [ty 1, ty 2, ty 3, ty 4, ty 5, ty 6, ty 7, ty 8, ty 9, ty 10, ty 12, ty 13, ty 14, ty 15, ty 16, ty 18, ty 19, ty 20, ty 21, ty 22, ty 23, ty 24, ty 25, ty 26, ty 27, ty 28, ty 29, ty 30, ty 32, ty 33, ty 34, ty 35, ty 36, ty 37, ty 38, ty 39, ty 40, ty 41, ty 42, ty 43, ty 44, ty 45] } }
def Lv : List PySem.Str := [PySem.Str.ofString "POINTS_BY_SWITCHES", PySem.Str.ofString "SWITCHES_BY_POINTS"]
def Xv : Shared → Bool := fun s => PySem.W.xlAt Qv [] s && PySem.W.recOk (PySem.W.RowW.records (PySem.W.OpenRow.toRowW PySem.Challenge.rw_leastterms_k01_functions_known.row)) s
theorem bY {α β γ : Type} {x : Option α} {f : α → β} {g : α → γ} {b : β} {c : γ} (h1 : x.map f = some b) (h2 : x.map g = some c) : x.map (fun s => (f s, g s)) = some (b, c) := by
  cases x with
  | none => cases h1
  | some s =>
    have e1 : f s = b := Option.some.inj h1
    have e2 : g s = c := Option.some.inj h2
    show some (f s, g s) = _
    rw [e1, e2]
end K01
section
open PySem PySem.W PyProof.Rows
local macro_rules | `(tactic| o_head $H) => `(tactic| refine PySem.W.holds_open (q := K01.Qv) (loose := K01.Lv) (N := 6350) (Xt := K01.Xv) (XP := PySem.W.XL K01.Qv []) (Yf := PySem.W.Hook.obs $H) (Ya := PySem.W.Hook.val $H) (YP := PySem.W.Hook.says $H) ?hl (PySem.W.Hook.of $H) (PySem.W.Hook.keeps $H) (fun s e => PySem.W.xl_of s (Bool.and_eq_true_iff.mp e).1) PySem.W.XL.keeps (by rfl) (by rfl) (by rfl) (fun s e => PySem.W.recFacts_of (Bool.and_eq_true_iff.mp e).2) (by rfl) (by first | assumption | decide +kernel) (by decide +kernel) ⟨rfl, rfl, rfl, rfl, rfl, by decide +kernel⟩ ?hw ?hc)
set_option maxRecDepth 100000 in
set_option maxHeartbeats 0 in
theorem K01.hp : False → PySem.Challenge.rw_leastterms_k01_functions_known.Holds := by
  intro ff
  w_on; o_law; k_head
  all_goals exact ff.elim
end

namespace K01
open PySem PySem.W
abbrev As : List Addr := [2, 3, 15, 22, 23, 24, 25, 28, 35, 36, 37, 40, 47, 48, 49, 52, 59, 60, 61, 64, 71, 72, 73, 76, 83, 84, 85, 88, 95, 96, 97, 100, 107, 108, 109, 112, 119, 120, 121, 124, 131, 132, 133, 136, 138, 139, 141, 142, 143, 145, 146, 148, 149, 150, 152, 153, 155, 156, 157, 159, 160, 162, 163, 164, 165, 166, 168, 169, 171, 172, 173, 176, 177, 178, 180, 181, 183, 184, 185, 188, 189, 190, 192, 193, 195, 196, 197, 199, 200, 202, 203, 204, 207, 208, 209, 212, 213, 214, 216, 217, 219, 220, 221, 223, 224, 226, 227, 228, 230, 231, 233, 234, 235, 237, 238, 240, 241, 242, 244, 245, 247, 248, 249, 251, 252, 254, 255, 256, 259, 260, 261, 263, 264, 266, 267, 268, 271, 272, 273, 276, 277, 278, 280, 281, 283, 284, 285, 288, 289, 290, 293, 294, 295, 298, 299, 300, 302, 303, 305, 306, 307, 310, 311, 312, 314, 315, 317, 318]
noncomputable def Hk : PySem.W.Hook := PySem.W.kmHook K01.hp.heap_39 K01.As (fun _ => by kernel_rfl) [313]
abbrev Pg : Program := PySem.Challenge.rw_leastterms_k01_functions_known.row.prog
set_option maxRecDepth 100000 in
theorem la : ∀ w : World, (fencedOpening treeTable Pg w 6350).map (fun s₀ => (topFrom treeTable Pg (w.withFollow "special-get-raises" false) 6350 s₀).map (fun s => (openSeen Qv Lv (importedModules Pg.main.body) Xv true s, Hk.obs s))) = some (some (openGood Qv Lv, Hk.val (w.withFollow "special-get-raises" false))) := fun w => by kernel_rfl
set_option maxRecDepth 100000 in
theorem lb : ∀ w : World, (fencedOpening treeTable Pg w 6350).map (fun s₀ => (topFrom treeTable Pg (w.withFollow "special-get-raises" true) 6350 s₀).map (fun s => (openSeen Qv Lv (importedModules Pg.main.body) Xv true s, Hk.obs s))) = some (some (openGood Qv Lv, Hk.val (w.withFollow "special-get-raises" true))) := fun w => by kernel_rfl
theorem lw : PySem.W.LeftO Pg Qv Lv Xv Hk.obs Hk.val 6350 := PySem.W.LeftO.of_split "special-get-raises" fun w => bY (la w) (lb w)
end K01

-- CHANGE: your row's module here, as the last of these rows
namespace L2
open PySem PySem.Spec PyProof.Rows
abbrev Key := Sum Int Str
def zdl : Key -> Value -> Bool
  | .inl k, v => Value.isInt k v
  | .inr x, v => Value.isStrOf x v
def zlu (w : World) : Key -> Int
  | .inl k => hashInt k
  | .inr x => hashStr w x
theorem z5G : ∀ {k : Key} {v : Value}, zdl k v = true -> (∃ i t, k = Sum.inl i /\ v = Value.int i t) \/ (∃ x t, k = Sum.inr x /\ v = Value.str x t)
  | .inl i, v, h => by
    obtain ⟨t, e⟩ := Value.isInt_shape (k := i) (v := v) h
    exact .inl ⟨i, t, rfl, e⟩
  | .inr x, v, h => by
    obtain ⟨t, e⟩ := Value.isStrOf_shape (x := x) (v := v) h
    exact .inr ⟨x, t, rfl, e⟩
theorem zfi (i : Int) (t : Tok) : zdl (.inl i) (.int i t) = true := by simp [zdl, Value.isInt]
theorem zeC (x : Str) (t : Tok) : zdl (.inr x) (.str x t) = true := by simp [zdl, Value.isStrOf]
theorem ziF (a b : Int) : decide ((Sum.inl a : Key) = Sum.inl b) = (a == b) := by
  by_cases e : a = b
  · subst e; simp
  · have h : ¬ (Sum.inl a : Key) = Sum.inl b := fun q => e (Sum.inl.inj q)
    rw [decide_eq_false h]
    exact (beq_eq_false_iff_ne.mpr e).symm
theorem ziY (a b : Str) : decide ((Sum.inr a : Key) = Sum.inr b) = decide (a = b) := by
  by_cases e : a = b
  · subst e; simp
  · have h : ¬ (Sum.inr a : Key) = Sum.inr b := fun q => e (Sum.inr.inj q)
    rw [decide_eq_false h, decide_eq_false e]
theorem ziV (a : Int) (b : Str) : decide ((Sum.inl a : Key) = Sum.inr b) = false := decide_eq_false (fun q => nomatch q)
theorem zjm (a : Str) (b : Int) : decide ((Sum.inr a : Key) = Sum.inl b) = false := decide_eq_false (fun q => nomatch q)
def z62 (prog : Program) (w : World) : PySem.KeyKind prog w Key where
  is := zdl
  hash := zlu w
  inj := fun v a b ha hb => by
    rcases z5G ha with ⟨i, t, rfl, rfl⟩ | ⟨x, t, rfl, rfl⟩
    · rcases z5G hb with ⟨j, u, rfl, e⟩ | ⟨y, u, rfl, e⟩
      · injection e with e1 _; rw [e1]
      · exact nomatch e
    · rcases z5G hb with ⟨j, u, rfl, e⟩ | ⟨y, u, rfl, e⟩
      · exact nomatch e
      · injection e with e1 _; rw [e1]
  byValue := fun k v h => by
    rcases z5G h with ⟨i, t, rfl, rfl⟩ | ⟨x, t, rfl, rfl⟩ <;> rfl
  pyHash := fun hv h => by
    rcases z5G hv with ⟨i, t, rfl, rfl⟩ | ⟨x, t, rfl, rfl⟩
    · exact wpAny_pyHash_int h
    · exact wpAny_pyHash_str h
  eqBool := fun hu hv h => by
    rcases z5G hu with ⟨i, t, rfl, rfl⟩ | ⟨x, t, rfl, rfl⟩
    · rcases z5G hv with ⟨j, u, rfl, rfl⟩ | ⟨y, u, rfl, rfl⟩
      · rw [ziF] at h; exact wpAny_eqBool_int h
      · rw [ziV] at h; exact SeqAt.EqAt.int_str i t y u _ _ _ _ h
    · rcases z5G hv with ⟨j, u, rfl, rfl⟩ | ⟨y, u, rfl, rfl⟩
      · rw [zjm] at h; exact SeqAt.EqAt.str_int x t j u _ _ _ _ h
      · rw [ziY] at h; exact wpAny_eqBool_str h
  «strs» := fun k x t v h => by
    rcases z5G h with ⟨i, u, rfl, e⟩ | ⟨y, u, rfl, e⟩
    · exact nomatch e
    · injection e with e1 _
      subst e1
      cases v <;> rfl
theorem zbK (prog : Program) (w : World) (i : Int) (t : Tok) : (z62 prog w).is (.inl i) (.int i t) = true := zfi i t
theorem zc2 (prog : Program) (w : World) (x : Str) (t : Tok) : (z62 prog w).is (.inr x) (.str x t) = true := zeC x t
end L2
namespace L2
open PySem PySem.Spec PyProof.Rows
inductive V where
  | non | bl (b : Bool) | int (i : Int) | str (x : Str) | byt (b : Array UInt8) | flt (b : UInt64) | ref (a : Addr) | ty (n : String)
  deriving DecidableEq
def RelV : V -> Value -> Prop
  | .non, u => u = Value.none
  | .bl b, u => u = Value.bool b
  | .int i, u => ∃ t, u = Value.int i t
  | .str x, u => ∃ t, u = Value.str x t
  | .byt b, u => ∃ t, u = Value.bytes b t
  | .flt b, u => ∃ t, u = Value.float b t
  | .ref a, u => u = Value.ref a
  | .ty n, u => u = Value.type n
abbrev Vals : List V -> List Value -> Prop := Paired RelV
theorem Vals.length {xs : List V} {us : List Value} (r : Vals xs us) : xs.length = us.length := Paired.length r
theorem Vals.get : ∀ {xs : List V} {us : List Value} {i : Nat} {x : V}, Vals xs us -> xs[i]? = some x -> ∃ u, us[i]? = some u /\ RelV x u
  | _, _, _, _, .nil, e => by simp at e
  | _, _, 0, _, .cons r _, e => by simp at e; subst e; exact ⟨_, rfl, r⟩
  | _, _, i + 1, x, .cons _ t, e => by
    obtain ⟨u, h1, h2⟩ := Vals.get (i := i) (x := x) t (by simpa using e)
    exact ⟨u, by simpa using h1, h2⟩
theorem Vals.set {x : V} {u : Value} (r : RelV x u) : ∀ {xs : List V} {us : List Value} (i : Nat), Vals xs us -> Vals (xs.set i x) (us.set i u)
  | _, _, _, .nil => .nil
  | _, _, 0, .cons _ t => .cons r t
  | _, _, i + 1, .cons q t => .cons q (Vals.set r i t)
theorem Vals.append : ∀ {xs ys : List V} {us ws : List Value}, Vals xs us -> Vals ys ws -> Vals (xs ++ ys) (us ++ ws)
  | _, _, _, _, .nil, s => s
  | _, _, _, _, .cons r t, s => .cons r (Vals.append t s)
theorem Vals.take : ∀ {xs : List V} {us : List Value} (n : Nat), Vals xs us -> Vals (xs.take n) (us.take n)
  | _, _, 0, _ => .nil
  | _, _, _ + 1, .nil => .nil
  | _, _, n + 1, .cons r t => .cons r (Vals.take n t)
theorem Vals.drop : ∀ {xs : List V} {us : List Value} (n : Nat), Vals xs us -> Vals (xs.drop n) (us.drop n)
  | _, _, 0, r => r
  | _, _, _ + 1, .nil => .nil
  | _, _, n + 1, .cons _ t => Vals.drop n t
def RelO : Option V -> Option Value -> Prop
  | some v, some u => RelV v u
  | none, none => True
  | _, _ => False
def KV {κ : Type} : List (κ × V) -> List (κ × Value) -> Prop := Paired fun (p : κ × V) (q : κ × Value) => p.1 = q.1 /\ RelV p.2 q.2
def kV : Key -> V
  | .inl i => .int i
  | .inr x => .str x
inductive HO where
  | lst (xs : List V)
  | tup (xs : List V)
  | dK (kvs : List (Key × V)) | dT (kvs : List (List Key × V))
  | set (S : Int -> Bool) (n : Nat)
  | ins (C dx : Addr) (fs : List (Str × V))
  | own (x : Addr)
  | xd (fs : List (Str × V))
  | met (f x : Addr)
  | rng (lo hi : Int)
  | frz (o : Obj) (u : HO)
  | tbl (ps : Array Value)
  | ext (φ : Heap -> Prop)
abbrev Hp := Addr -> Option HO
def upd (H : Hp) (a : Addr) (o : HO) : Hp := fun b => if b = a then some o else H b
theorem z54 {H : Hp} {a : Addr} {o : HO} : upd H a o a = some o := by unfold upd; rw [if_pos rfl]
theorem z4O {H : Hp} {a b : Addr} {o : HO} (h : b ≠ a) : upd H a o b = H b := by unfold upd; rw [if_neg h]
theorem zhd {H : Hp} {a : Addr} {o u : HO} : upd (upd H a o) a u = upd H a u := by
  funext b; unfold upd; split <;> rfl
theorem zko {H : Hp} {a b : Addr} {o u : HO} (h : H a = some o) (h' : H b = some u) (d : o ≠ u) : a ≠ b := by
  intro e; subst e; rw [h] at h'; exact d (Option.some.inj h')
theorem z4U {H : Hp} {a b : Addr} {o : HO} (h : H a = some o) (h' : H b = none) : a ≠ b := by
  intro e; subst e; rw [h] at h'; cases h'
section
variable (P : Program) (w : World)
def ObjOk (H : Hp) (h : Heap) (a : Addr) : HO -> Prop
  | .lst xs => xs.length <= sizeLine /\ ∃ (its : List Value) (n : Nat), Vals xs its /\ h.get? a = some { cls := .type "list", data := .seq its.toArray n }
  | .tup xs => xs.length <= sizeLine /\ ∃ its : List Value, Vals xs its /\ IsTup h a its.toArray
  | .dK kvs => kvs.length <= sizeLine /\ (a == sysModules) = false /\ ∃ vs, KV kvs vs /\ h.DictOf (z62 P w) a vs
  | .dT kvs => kvs.length <= sizeLine /\ (a == sysModules) = false /\ ∃ xs : List (List Key × Addr × Value),
      Paired (fun (p : List Key × V) (q : List Key × Addr × Value) => p.1 = q.1 /\ H q.2.1 = some (.tup (p.1.map kV)) /\ RelV p.2 q.2.2) kvs xs /\
      ∃ o es ep, h.get? a = some o /\ o.ExactDict /\ o.data = .dict es ep /\ es.toList = xs.map (entryOfKey (tupleKind (z62 P w))) /\ (xs.map (·.1)).Nodup
  | .set S n => h.SetOf (intKind P w) a S n
  | .ins C dx fs => H dx = some (.own a) /\ fs.length <= 1000 /\ dx ≠ a /\ h.get? a = some (PySem.W.instObj C dx) /\
      ∃ mA, h.Ns1 dx mA /\ (∀ f, RelO (fs.lookup f) (mA f)) /\ PySem.Within mA (fs.map (·.1))
  | .own _ => ∃ o, h.get? a = some o
  | .xd fs => ∃ mA, h.Ns1 a mA /\ ∀ f, RelO (fs.lookup f) (mA f)
  | .rng lo hi => ∃ t u v, h.get? a = some { cls := .type "range", data := .fields #[.int lo t, .int hi u, .int 1 v] }
  | .frz o u => h.get? a = some o /\ ObjOk H h a u
  | .tbl ps => h.get? a = some { cls := .none, data := .fields ps }
  | .met f x => h.get? a = some (PySem.W.methodObj (.ref f) (.ref x))
  | .ext φ => φ h /\ (∃ o, h.get? a = some o) /\ ∀ h1 h2 : Heap, φ h1 -> (∀ o, h1.get? a = some o -> h2.get? a = some o) -> φ h2
def HOk (H : Hp) (h : Heap) : Prop := ∀ a o, H a = some o -> ObjOk P w H h a o
end
section
variable {P : Program} {w : World} {H H' : Hp} {h h' : Heap} {a : Addr} {o : HO}
theorem ObjOk.lt (x : ObjOk P w H h a o) : a < h.objs.size := by
  cases o with
  | lst xs => obtain ⟨_, _, _, _, e⟩ := x; exact Heap.lt_size e
  | tup xs => obtain ⟨_, _, _, p⟩ := x; exact p.lt
  | dK kvs => obtain ⟨_, _, _, _, o, _, _, e, _⟩ := x; exact Heap.lt_size e
  | dT kvs => obtain ⟨_, _, _, _, o, _, _, e, _⟩ := x; exact Heap.lt_size e
  | set S n => obtain ⟨o, _, _, _, e, _⟩ := x; exact Heap.lt_size e
  | ins C dx fs => obtain ⟨_, _, _, e, _⟩ := x; exact Heap.lt_size e
  | own y => obtain ⟨_, e⟩ := x; exact Heap.lt_size e
  | xd fs => obtain ⟨_, ⟨_, _, _, e, _⟩, _⟩ := x; exact Heap.lt_size e
  | rng lo hi => obtain ⟨_, _, _, e⟩ := x; exact Heap.lt_size e
  | frz ob u => obtain ⟨e, _⟩ := x; exact Heap.lt_size e
  | tbl ps => exact Heap.lt_size (show h.get? a = some _ from x)
  | met f y => exact Heap.lt_size (show h.get? a = some _ from x)
  | ext φ => obtain ⟨_, ⟨_, e⟩, _⟩ := x; exact Heap.lt_size e
theorem Paired.mapP {α β : Type} {F G : α -> β -> Prop} : ∀ {l₁ : List α} {l₂ : List β}, Paired F l₁ l₂ -> (∀ a b, F a b -> G a b) -> Paired G l₁ l₂
  | _, _, .nil, _ => .nil
  | _, _, .cons r t, f => .cons (f _ _ r) (Paired.mapP t f)
theorem ObjOk.stay (x : ObjOk P w H h a o) (k : ∀ b u, (b = a \/ H b = some (.own a)) -> h.get? b = some u -> h'.get? b = some u)
    (ho : ∀ b, H b = some (.own a) -> H' b = some (.own a)) (ht : ∀ b xs, H b = some (.tup xs) -> H' b = some (.tup xs)) : ObjOk P w H' h' a o := by
  induction o with
  | lst xs => obtain ⟨z, its, n, r, e⟩ := x; exact ⟨z, its, n, r, k _ _ (.inl rfl) e⟩
  | tup xs => obtain ⟨z, its, r, ob, e, c⟩ := x; exact ⟨z, its, r, ob, k _ _ (.inl rfl) e, c⟩
  | dK kvs => obtain ⟨z, y, vs, r, ob, es, ep, e, c⟩ := x; exact ⟨z, y, vs, r, ob, es, ep, k _ _ (.inl rfl) e, c⟩
  | dT kvs =>
    obtain ⟨z, y, xs, r, ob, es, ep, e, c⟩ := x
    exact ⟨z, y, xs, Paired.mapP r fun p q z => ⟨z.1, ht _ _ z.2.1, z.2.2⟩, ob, es, ep, k _ _ (.inl rfl) e, c⟩
  | set S n => obtain ⟨ob, es, ep, t, e, c⟩ := x; exact ⟨ob, es, ep, t, k _ _ (.inl rfl) e, c⟩
  | ins C dx fs =>
    obtain ⟨d, z, ne, e, mA, ⟨od, es, ep, e2, c⟩, r⟩ := x
    exact ⟨ho _ d, z, ne, k _ _ (.inl rfl) e, mA, ⟨od, es, ep, k _ _ (.inr d) e2, c⟩, r⟩
  | own y => obtain ⟨ob, e⟩ := x; exact ⟨ob, k _ _ (.inl rfl) e⟩
  | xd fs => obtain ⟨mA, ⟨od, es, ep, e, c⟩, r⟩ := x; exact ⟨mA, ⟨od, es, ep, k _ _ (.inl rfl) e, c⟩, r⟩
  | rng lo hi => obtain ⟨t, u, v, e⟩ := x; exact ⟨t, u, v, k _ _ (.inl rfl) e⟩
  | frz ob u ih => obtain ⟨e, q⟩ := x; exact ⟨k _ _ (.inl rfl) e, ih q⟩
  | tbl ps =>
    have e : h.get? a = some { cls := .none, data := .fields ps } := x
    show h'.get? a = some { cls := .none, data := .fields ps }
    exact k a _ (.inl rfl) e
  | met f y =>
    have e : h.get? a = some (PySem.W.methodObj (.ref f) (.ref y)) := x
    show h'.get? a = some (PySem.W.methodObj (.ref f) (.ref y))
    exact k a _ (.inl rfl) e
  | ext φ => obtain ⟨p, ⟨o, e⟩, st⟩ := x; exact ⟨st _ _ p fun o q => k _ _ (.inl rfl) q, ⟨o, k _ _ (.inl rfl) e⟩, st⟩
theorem HOk.lt (x : HOk P w H h) (e : H a = some o) : a < h.objs.size := (x a o e).lt
theorem HOk.fresh (x : HOk P w H h) (e : h.objs.size <= a) : H a = none := by
  cases q : H a with
  | none => rfl
  | some u => exact absurd (Nat.lt_of_lt_of_le (x.lt q) e) (Nat.lt_irrefl _)
theorem HOk.kept (x : HOk P w H h) (k : ∀ b u, h.get? b = some u -> h'.get? b = some u) : HOk P w H h' := fun a o e =>
  (x a o e).stay (fun b u _ q => k b u q) (fun _ q => q) fun _ _ q => q
theorem HOk.laid (x : HOk P w H h) (k : ∀ b u, h.get? b = some u -> h'.get? b = some u) (hp : h.objs.size <= a) (new : ObjOk P w (upd H a o) h' a o) : HOk P w (upd H a o) h' := fun b u e => by
  have hn := x.fresh hp
  by_cases hb : b = a
  · subst hb; rw [z54] at e; cases e; exact new
  · rw [z4O hb] at e
    exact (x b u e).stay (fun c v _ q => k c v q) (fun c q => by rw [z4O (z4U q hn)]; exact q) fun c xs q => by rw [z4O (z4U q hn)]; exact q
end
def Rd (H : Hp) (a : Addr) (u : HO) : Prop := H a = some u \/ ∃ o, H a = some (.frz o u)
theorem Rd.ok {P : Program} {w : World} {H : Hp} {h : Heap} {a : Addr} {u : HO} (r : Rd H a u) (x : HOk P w H h) : ObjOk P w H h a u := by
  rcases r with r | ⟨o, r⟩
  · exact x a u r
  · obtain ⟨_, q⟩ := x a _ r
    exact q
def Mut : Option HO -> Prop
  | some (.lst _) => True
  | some (.dK _) => True
  | some (.dT _) => True
  | some (.set _ _) => True
  | some (.ins _ _ _) => True
  | some (.ext _) => True
  | _ => False
section
variable {P : Program} {w : World} {H : Hp} {h h' : Heap} {x e : Addr} {o' : HO}
theorem HOk.write (ok : HOk P w H h) (mu : Mut (H x)) (he : e = x \/ H e = some (.own x)) (k : ∀ b u, b ≠ e -> h.get? b = some u -> h'.get? b = some u) (heo : ∃ u, h'.get? e = some u)
    (new : ObjOk P w (upd H x o') h' x o') : HOk P w (upd H x o') h' := fun b u q => by
  have nown : ∀ c y, H c = some (.own y) -> c ≠ x := fun c y r z => by subst z; rw [r] at mu; exact mu
  have ntup : ∀ c xs, H c = some (.tup xs) -> c ≠ x := fun c xs r z => by subst z; rw [r] at mu; exact mu
  by_cases hb : b = x
  · subst hb; rw [z54] at q; cases q; exact new
  · rw [z4O hb] at q
    by_cases hbe : b = e
    · have q' : H b = some (.own x) := by
        rcases he with z | z
        · exact absurd (hbe.trans z) hb
        · rw [hbe]; exact z
      rw [q] at q'; cases q'
      obtain ⟨v, hv⟩ := heo
      exact ⟨v, by rw [hbe]; exact hv⟩
    · refine (ok b u q).stay (fun c v hc r => k c v ?_ r) (fun c r => by rw [z4O (nown c b r)]; exact r) fun c xs r => by rw [z4O (ntup c xs r)]; exact r
      rcases hc with rfl | hc
      · exact hbe
      · rintro rfl
        rcases he with z | z
        · exact nown c b hc z
        · rw [hc] at z; cases z; exact hb rfl
end
structure Un (fs ex : List Addr) (H H' : Hp) (h h' : Heap) : Prop where
  keep : ∀ b o, h.get? b = some o -> H b = none -> b ∉ fs -> b ∉ ex -> h'.get? b = some o
  slot : ∀ b o, h.get? b = some o -> H b = none -> b ∈ fs -> b ∉ ex -> ∃ sl, h'.get? b = some { o with slots := sl }
  free : ∀ b o, h.get? b = some o -> H b = none -> b ∉ ex -> H' b = none
  there : ∀ b o, h.get? b = some o -> b ∉ ex -> ∃ o', h'.get? b = some o'
  tups : ∀ b xs, H b = some (.tup xs) -> H' b = some (.tup xs)
  frzs : ∀ b o u, H b = some (.frz o u) -> H' b = some (.frz o u)
  tbls : ∀ b ps, H b = some (.tbl ps) -> ∃ more, H' b = some (.tbl (ps ++ more))
section
variable {fs fs' ex ex' : List Addr} {H H1 H2 : Hp} {h h1 h2 h' : Heap} {a x e : Addr} {o : HO}
theorem Un.any (u : Un fs ex H H1 h h1) {b : Addr} {ob : Obj} (q : h.get? b = some ob) (n : H b = none) (hx : b ∉ ex) : ∃ sl, h1.get? b = some { ob with slots := sl } := by
  by_cases hb : b ∈ fs
  · exact u.slot b ob q n hb hx
  · exact ⟨ob.slots, u.keep b ob q n hb hx⟩
theorem Un.trans (a : Un fs ex H H1 h h1) (b : Un fs ex H1 H2 h1 h2) : Un fs ex H H2 h h2 where
  keep := fun c ob q n hc hx => b.keep c ob (a.keep c ob q n hc hx) (a.free c ob q n hx) hc hx
  slot := fun c ob q n hc hx => by
    obtain ⟨sl, e1⟩ := a.slot c ob q n hc hx
    obtain ⟨sl', e2⟩ := b.slot c _ e1 (a.free c ob q n hx) hc hx
    exact ⟨sl', e2⟩
  free := fun c ob q n hx => by
    obtain ⟨o', e1⟩ := a.there c ob q hx
    exact b.free c o' e1 (a.free c ob q n hx) hx
  there := fun c ob q hx => by
    obtain ⟨o', e1⟩ := a.there c ob q hx
    exact b.there c o' e1 hx
  tups := fun c xs q => b.tups c xs (a.tups c xs q)
  frzs := fun c ob xs q => b.frzs c ob xs (a.frzs c ob xs q)
  tbls := fun c ps q => by
    obtain ⟨m1, e1⟩ := a.tbls c ps q
    obtain ⟨m2, e2⟩ := b.tbls c _ e1
    exact ⟨m1 ++ m2, by rw [e2, Array.append_assoc]⟩
theorem Un.kept (k : ∀ b u, h.get? b = some u -> h'.get? b = some u) : Un fs ex H H h h' :=
  ⟨fun b ob q _ _ _ => k b ob q, fun b ob q _ _ _ => ⟨ob.slots, k b ob q⟩, fun _ _ _ n _ => n, fun b ob q _ => ⟨ob, k b ob q⟩, fun _ _ q => q, fun _ _ _ q => q, fun _ ps q => ⟨#[], by rw [q]; simp⟩⟩
theorem Un.refl : Un fs ex H H h h := Un.kept fun _ _ q => q
theorem Un.laid (k : ∀ b u, h.get? b = some u -> h'.get? b = some u) (hp : h.objs.size <= a) (hn : H a = none) : Un fs ex H (upd H a o) h h' where
  keep := fun b u q _ _ _ => k b u q
  slot := fun b u q _ _ _ => ⟨u.slots, k b u q⟩
  free := fun b u q n _ => by rw [z4O (Nat.ne_of_lt (Nat.lt_of_lt_of_le (Heap.lt_size q) hp))]; exact n
  there := fun b u q _ => ⟨u, k b u q⟩
  tups := fun b xs q => by rw [z4O (z4U q hn)]; exact q
  frzs := fun b u xs q => by rw [z4O (z4U q hn)]; exact q
  tbls := fun b ps q => ⟨#[], by rw [z4O (z4U q hn), q]; simp⟩
theorem Un.write (mu : Mut (H x)) (he : e = x \/ H e = some (.own x)) (k : ∀ b u, b ≠ e -> h.get? b = some u -> h'.get? b = some u) (heo : ∃ u, h'.get? e = some u) : Un fs ex H (upd H x o) h h' := by
  have hx : ∀ b, H b = none -> b ≠ x := fun b n z => by subst z; rw [n] at mu; exact mu
  have hb : ∀ b, H b = none -> b ≠ e := fun b n z => by
    subst z
    rcases he with r | r
    · exact hx b n r
    · rw [n] at r; cases r
  have hm : ∀ b u, H b = some u -> ¬ Mut (some u) -> b ≠ x := fun b u q nm z => by subst z; rw [q] at mu; exact nm mu
  refine ⟨fun b u q n _ _ => k b u (hb b n) q, fun b u q n _ _ => ⟨u.slots, k b u (hb b n) q⟩, fun b u q n _ => by rw [z4O (hx b n)]; exact n, fun b u q _ => ?_,
    fun b xs q => by rw [z4O (hm b _ q fun z => z)]; exact q, fun b u xs q => by rw [z4O (hm b _ q fun z => z)]; exact q, fun b ps q => ⟨#[], by rw [z4O (hm b _ q fun z => z), q]; simp⟩⟩
  by_cases hbe : b = e
  · subst hbe; exact heo
  · exact ⟨u, k b u hbe q⟩
end
def trk (h : Heap) (H : Hp) : List Addr := (List.range h.objs.size).filter fun a => (H a).isSome
def zci (h : Heap) (H : Hp) : Heap := PySem.W.hideAll h (trk h H)
theorem zbn (h : Heap) (H : Hp) : (zci h H).objs.size = h.objs.size := PySem.W.hideAll_size _ _
theorem zcB {h : Heap} {H : Hp} {b : Addr} {o : Obj} (e : h.get? b = some o) (n : H b = none) : (zci h H).get? b = some o :=
  PySem.W.hideAll_get _ e fun hm => by
    have q : (H b).isSome = true := (List.mem_filter.mp hm).2
    rw [n] at q; simp at q
theorem zdZ {h : Heap} {H : Hp} {b : Addr} {o : Obj} (e : (zci h H).get? b = some o) : h.get? b = some o /\ H b = none := by
  have e' : h.get? b = some o := PySem.W.of_hideAll (trk h H) e
  refine ⟨e', ?_⟩
  cases q : H b with
  | none => rfl
  | some x =>
    have hm : b ∈ trk h H := List.mem_filter.mpr ⟨List.mem_range.mpr (Heap.lt_size e'), by simp [q]⟩
    have z : (zci h H).get? b = none := PySem.W.hideAll_none (trk h H) hm
    rw [z] at e; cases e
def zin (g h : Heap) (L : Addr) : List (Addr × Obj) := (List.range h.objs.size).filterMap fun a => if a = L \/ (g.get? a).isSome = true then none else (h.get? a).map fun o => (a, o)
def z6F (g h : Heap) (L d : Addr) : List (Addr × Obj) := (zin g h L).filter fun p => decide (p.1 ≠ d)
end L2
namespace L2
open PySem PySem.Spec PyProof.Rows
structure Mod (K : PySem.W.Frag) (mg : Str -> Option Value) (base : Heap) : Prop where
  kin : K.In base
  glob : base.Ns mainGlobals mg
  blt : ∃ mb, base.Ns builtinsNs mb /\ ∀ x : Str, x ≠ "__name__" -> mb x = bootBuiltins x
  nolimit : base.NoLimit
structure Cx where
  prog : Program
  w : World
  K : PySem.W.Frag
  mg : Str -> Option Value
  base : Heap
  A : Around
  N : List Str
  s₀ : Shared
  H₀ : Hp
  env : Env
  outer : List Env
  stack : List Env
  ex : List Addr
  fn : Str -> Bool
  calm : Bool
  pn : List (Addr × Obj)
  xe : Value -> Shared -> Prop
def frs (l : List Env) : List Addr := l.filterMap (·.frame)
abbrev Cx.fs (X : Cx) : List Addr := frs X.outer
def Vis (sc : Scope) (x : Str) : Prop := sc.names.lookup x = some .local \/ sc.names.lookup x = some .cell \/ sc.names.lookup x = some .free
def Loc (sc : Scope) (x : Str) : Prop := sc.names.lookup x = some .local \/ sc.names.lookup x = some .cell
def zlL (env : Env) (h : Heap) (m : Str -> Option Value) (x : Str) (u : Value) : Prop :=
  (env.kindOf x = some .local /\ m x = some u) \/ ((env.kindOf x = some .cell \/ env.kindOf x = some .free) /\ ∃ c, env.cells.lookup x = some c /\ h.IsCell c (some u))
structure Cx.Ok (X : Cx) : Prop where
  mod : Mod X.K X.mg X.base
  kind : X.env.scope.kind = .function
  glob : X.env.globals = mainGlobals
  blt : X.env.builtins = builtinsNs
  above : X.s₀.heap.objs.size <= X.env.locals
  inj : ∀ x y c, X.env.cells.lookup x = some c -> X.env.cells.lookup y = some c -> x = y
  has : ∀ x, (X.env.kindOf x = some .cell \/ X.env.kindOf x = some .free) -> ∃ c, X.env.cells.lookup x = some c
  cab : ∀ x c, X.fn x = true -> X.env.cells.lookup x = some c -> X.s₀.heap.objs.size <= c
  hd : X.calm = true -> X.A.handled = none
  frames : X.A.frames = some X.stack
  stk : X.stack = X.outer \/ (X.stack = X.env :: X.outer /\ X.env.frame = some X.env.locals)
  exf : ∀ b ∈ X.ex, b ≠ X.env.locals /\ ∀ x c, X.env.cells.lookup x = some c -> c ≠ b
  bs : ∀ b o, X.base.get? b = some o -> X.s₀.heap.get? b = some o /\ X.H₀ b = none
  bsz : X.base.objs.size <= X.s₀.heap.objs.size
  noex : ∀ b o, X.base.get? b = some o -> b ∉ X.ex
  exfs : ∀ b ∈ X.ex, b ∉ X.fs
  funs : X.s₀.heap.FunFrames X.base X.outer
  frf : ∀ b ∈ X.fs, X.H₀ b = none
structure Inv (X : Cx) (pins : List (Addr × Obj)) (σ : List (Option V)) (H : Hp) (s : Shared) : Prop where
  ok : X.Ok
  os : s.os = X.s₀.os
  bare : AllBare s.gens
  base : Un X.fs X.ex X.H₀ H X.s₀.heap s.heap
  loc : ∃ m, s.heap.Ns X.env.locals m /\ ∀ (i : Nat) (x : Str) (v : V), X.N[i]? = some x -> σ[i]? = some (some v) -> Vis X.env.scope x -> ∃ u, RelV v u /\ zlL X.env s.heap m x u
  cell : ∀ x c, X.env.cells.lookup x = some c -> ∃ v, s.heap.IsCell c v
  free : H X.env.locals = none
  freeC : ∀ x c, X.env.cells.lookup x = some c -> H c = none
  pin : ∀ p ∈ X.pn ++ pins, s.heap.get? p.1 = some p.2 /\ H p.1 = none /\ p.1 ≠ X.env.locals /\ p.1 ∉ X.fs /\ ∀ v, p.2.data ≠ .cell v
  hok : HOk X.prog X.w H s.heap
  len : σ.length = X.N.length
section
variable {X : Cx} {pins : List (Addr × Obj)} {σ : List (Option V)} {H H' : Hp} {s : Shared} {h' : Heap}
theorem Cx.Ok.nofr (ok : X.Ok) {b : Addr} {o : Obj} (e : X.base.get? b = some o) : b ∉ X.fs := fun hb => by
  have := (ok.funs.mem hb).1
  rw [e] at this; cases this
theorem Inv.bs (I : Inv X pins σ H s) : ∀ b o, X.base.get? b = some o -> s.heap.get? b = some o /\ H b = none := fun b o e =>
  ⟨I.base.keep b o (I.ok.bs b o e).1 (I.ok.bs b o e).2 (I.ok.nofr e) (I.ok.noex b o e), I.base.free b o (I.ok.bs b o e).1 (I.ok.bs b o e).2 (I.ok.noex b o e)⟩
theorem Inv.bk (I : Inv X pins σ H s) : ∀ b o, X.base.get? b = some o -> s.heap.get? b = some o := fun b o e => (I.bs b o e).1
theorem Inv.mod (I : Inv X pins σ H s) : Mod X.K X.mg X.base := I.ok.mod
theorem Inv.kIn (I : Inv X pins σ H s) : X.K.In s.heap := I.ok.mod.kin.keeps I.bk
theorem Inv.nolimit (I : Inv X pins σ H s) : s.heap.NoLimit := I.ok.mod.nolimit.keeps I.bk
theorem Inv.fr (I : Inv X pins σ H s) : ∃ m, Fr X.base X.env.locals s.heap m :=
  let ⟨m, hn, _⟩ := I.loc
  ⟨m, hn, I.bk, Nat.le_trans I.ok.bsz I.ok.above⟩
theorem Inv.lt (I : Inv X pins σ H s) : X.env.locals < s.heap.objs.size := let ⟨_, hn, _⟩ := I.loc; hn.lt
theorem Inv.sz (I : Inv X pins σ H s) : X.s₀.heap.objs.size <= s.heap.objs.size := Nat.le_trans I.ok.above (Nat.le_of_lt I.lt)
theorem Inv.nofs (I : Inv X pins σ H s) {a : Addr} (h : s.heap.objs.size <= a) : a ∉ X.fs := fun hb => by
  obtain ⟨_, o, ho, _⟩ := I.ok.funs.mem hb
  exact absurd (Nat.lt_of_lt_of_le (Heap.lt_size ho) (Nat.le_trans I.sz h)) (Nat.lt_irrefl _)
theorem Inv.cne (I : Inv X pins σ H s) : ∀ x c, X.env.cells.lookup x = some c -> c ≠ X.env.locals := fun x c e z => by
  obtain ⟨v, o, ho, hd⟩ := I.cell x c e
  obtain ⟨m, ⟨o', es, ep, ho', hd', _⟩, _⟩ := I.loc
  rw [z, ho'] at ho; cases ho; rw [hd'] at hd; cases hd
theorem Inv.funs (I : Inv X pins σ H s) : s.heap.FunFrames X.base X.outer := by
  have all : ∀ (l : List Env), (∀ b ∈ frs l, b ∈ X.fs) -> X.s₀.heap.FunFrames X.base l -> s.heap.FunFrames X.base l := by
    intro l
    induction l with
    | nil => intro _ _; trivial
    | cons env r ih =>
      intro hs hl
      obtain ⟨hk, ⟨L, o, hf, hn, ho, hd⟩, hr⟩ := hl
      have hL : L ∈ X.fs := hs L (by unfold frs; rw [List.filterMap_cons, hf]; exact List.mem_cons_self)
      obtain ⟨sl, e⟩ := I.base.slot L o ho (I.ok.frf L hL) hL fun z => I.ok.exfs L z hL
      exact ⟨hk, ⟨L, _, hf, hn, e, hd⟩, ih (fun b hb => hs b (by unfold frs; rw [List.filterMap_cons, hf]; exact List.mem_cons_of_mem _ hb)) hr⟩
  exact all X.outer (fun _ hb => hb) I.ok.funs
theorem Inv.stack (I : Inv X pins σ H s) : s.heap.FunFrames X.base X.stack := by
  rcases I.ok.stk with e | ⟨e, hf⟩
  · rw [e]; exact I.funs
  · rw [e]
    obtain ⟨m, hn, _⟩ := I.loc
    refine .cons (by rw [I.ok.kind]; decide) hf hn ?_ I.funs
    exact Heap.get?_none_of_le (Nat.le_trans I.ok.bsz I.ok.above)
theorem Inv.stkSub (I : Inv X pins σ H s) : ∀ b ∈ frs X.stack, b ∈ X.env.locals :: X.fs := fun b hb => by
  rcases I.ok.stk with e | ⟨e, hf⟩
  · rw [e] at hb; exact List.mem_cons_of_mem _ hb
  · rw [e] at hb
    unfold frs at hb
    rw [List.filterMap_cons, hf] at hb
    exact hb
theorem Inv.stkFree (I : Inv X pins σ H s) : ∀ b ∈ frs X.stack, H b = none := fun b hb => by
  rcases List.mem_cons.mp (I.stkSub b hb) with e | hb
  · rw [e]; exact I.free
  · obtain ⟨_, o, ho, _⟩ := I.ok.funs.mem hb
    exact I.base.free b o ho (I.ok.frf b hb) fun z => I.ok.exfs b z hb
theorem Inv.step {g' : Array GenState} {t' : Nat} {d' : Drawn} {ch : List Addr} (I : Inv X pins σ H s)
    (hch : ∀ b ∈ ch, (b ∈ X.ex \/ X.s₀.heap.objs.size <= b) /\ b ≠ X.env.locals /\ (∀ x c, X.env.cells.lookup x = some c -> c ≠ b) /\ ∀ p ∈ X.pn ++ pins, p.1 ≠ b)
    (keep : ∀ b o, b ≠ X.env.locals -> b ∉ X.fs -> b ∉ ch -> s.heap.get? b = some o -> H b = none -> h'.get? b = some o)
    (slot : ∀ b o, b ≠ X.env.locals -> b ∈ X.fs -> b ∉ ch -> s.heap.get? b = some o -> H b = none -> ∃ sl, h'.get? b = some { o with slots := sl }) (free : ∀ b o, b ∉ ch -> s.heap.get? b = some o -> H b = none -> H' b = none)
    (there : ∀ b o, b ∉ ch -> s.heap.get? b = some o -> ∃ o', h'.get? b = some o')
    (tups : ∀ b xs, H b = some (.tup xs) -> H' b = some (.tup xs)) (frzs : ∀ b o u, H b = some (.frz o u) -> H' b = some (.frz o u)) (tbls : ∀ b ps, H b = some (.tbl ps) -> ∃ more, H' b = some (.tbl (ps ++ more)))
    (ns : ∀ m, s.heap.Ns X.env.locals m -> h'.Ns X.env.locals m) (hok : HOk X.prog X.w H' h') (hg : AllBare g') :
    Inv X pins σ H' { s with heap := h', gens := g', drawn := d', toks := t' } := by
  have neL : ∀ b o, X.s₀.heap.get? b = some o -> b ≠ X.env.locals := fun b o e => Nat.ne_of_lt (Nat.lt_of_lt_of_le (Heap.lt_size e) I.ok.above)
  have neC : ∀ b o, X.s₀.heap.get? b = some o -> b ∉ X.ex -> b ∉ ch := fun b o e hx hb => by
    rcases (hch b hb).1 with z | z
    · exact hx z
    · exact absurd (Nat.lt_of_lt_of_le (Heap.lt_size e) z) (Nat.lt_irrefl _)
  have cellK : ∀ x c, X.env.cells.lookup x = some c -> ∀ v, s.heap.IsCell c v -> h'.IsCell c v := fun x c e v ⟨o, ho, hd⟩ => by
    have nch : c ∉ ch := fun z => (hch c z).2.2.1 x c e rfl
    by_cases hc : c ∈ X.fs
    · obtain ⟨sl, q⟩ := slot c o (I.cne x c e) hc nch ho (I.freeC x c e)
      exact ⟨_, q, hd⟩
    · exact ⟨o, keep c o (I.cne x c e) hc nch ho (I.freeC x c e), hd⟩
  refine ⟨I.ok, I.os, hg, ⟨fun b o e n hb hx => ?_, fun b o e n hb hx => ?_, fun b o e n hx => ?_, fun b o e hx => ?_, fun b xs e => tups b xs (I.base.tups b xs e), fun b o xs e => frzs b o xs (I.base.frzs b o xs e), fun b ps e => ?_⟩, ?_, fun x c e => ?_, ?_, fun x c e => ?_, fun p hp => ?_, hok, I.len⟩
  · exact keep b o (neL b o e) hb (neC b o e hx) (I.base.keep b o e n hb hx) (I.base.free b o e n hx)
  · obtain ⟨sl, e1⟩ := I.base.slot b o e n hb hx
    obtain ⟨sl', e2⟩ := slot b _ (neL b o e) hb (neC b o e hx) e1 (I.base.free b o e n hx)
    exact ⟨sl', e2⟩
  · obtain ⟨o', e1⟩ := I.base.there b o e hx
    exact free b o' (neC b o e hx) e1 (I.base.free b o e n hx)
  · obtain ⟨o', e1⟩ := I.base.there b o e hx
    exact there b o' (neC b o e hx) e1
  · obtain ⟨m1, e1⟩ := I.base.tbls b ps e
    obtain ⟨m2, e2⟩ := tbls b _ e1
    exact ⟨m1 ++ m2, by rw [e2, Array.append_assoc]⟩
  · obtain ⟨m, hn, hl⟩ := I.loc
    refine ⟨m, ns m hn, fun i x v e1 e2 e3 => ?_⟩
    obtain ⟨u, r, l⟩ := hl i x v e1 e2 e3
    refine ⟨u, r, ?_⟩
    rcases l with l | ⟨k, c, e, z⟩
    · exact .inl l
    · exact .inr ⟨k, c, e, cellK x c e _ z⟩
  · obtain ⟨v, z⟩ := I.cell x c e
    exact ⟨v, cellK x c e v z⟩
  · obtain ⟨m, ⟨o, _, _, ho, _⟩, _⟩ := I.loc
    exact free _ o (fun z => (hch _ z).2.1 rfl) ho I.free
  · obtain ⟨v, o, ho, hd⟩ := I.cell x c e
    exact free c o (fun z => (hch c z).2.2.1 x c e rfl) ho (I.freeC x c e)
  · obtain ⟨e, n, ne, nf, d⟩ := I.pin p hp
    have nch : p.1 ∉ ch := fun z => (hch p.1 z).2.2.2 p hp rfl
    exact ⟨keep p.1 p.2 ne nf nch e n, free p.1 p.2 nch e n, ne, nf, d⟩
theorem Inv.un {t' : Nat} (I : Inv X pins σ H s) (u : Un X.fs [] H H' s.heap h') (hok : HOk X.prog X.w H' h') : Inv X pins σ H' { s with heap := h', toks := t' } := by
  obtain ⟨m, ⟨o, es, ep, ho, r⟩, _⟩ := id I.loc
  obtain ⟨sl, hL⟩ := u.any ho I.free (by simp)
  exact I.step (g' := s.gens) (d' := s.drawn) (ch := []) (fun _ z => nomatch z) (fun b o _ hb _ e n => u.keep b o e n hb (by simp)) (fun b o _ hb _ e n => u.slot b o e n hb (by simp)) (fun b o _ e n => u.free b o e n (by simp)) (fun b o _ e => u.there b o e (by simp)) u.tups u.frzs u.tbls (fun m' hm => by
    obtain ⟨o', es', ep', ho', r'⟩ := hm
    rw [ho] at ho'; cases ho'
    exact ⟨_, es', ep', hL, r'⟩) hok I.bare
theorem Inv.call {g' : Array GenState} {t' : Nat} {d' : Drawn} {ch : List Addr} (I : Inv X pins σ H s) (u : Un (frs X.stack) ch H H' s.heap h') (hok : HOk X.prog X.w H' h') (hg : AllBare g')
    (hch : ∀ b ∈ ch, (b ∈ X.ex \/ X.s₀.heap.objs.size <= b) /\ b ≠ X.env.locals /\ (∀ x c, X.env.cells.lookup x = some c -> c ≠ b) /\ ∀ p ∈ X.pn ++ pins, p.1 ≠ b) :
    Inv X pins σ H' { s with heap := h', gens := g', drawn := d', toks := t' } := by
  obtain ⟨m, ⟨o, es, ep, ho, r⟩, _⟩ := id I.loc
  obtain ⟨sl, hL⟩ := u.any ho I.free fun z => (hch _ z).2.1 rfl
  exact I.step (ch := ch) hch (fun b o hL hb hc e n => u.keep b o e n (fun z => (List.mem_cons.mp (I.stkSub b z)).elim hL hb) hc) (fun b o _ _ hc e n => u.any e n hc) (fun b o hc e n => u.free b o e n hc) (fun b o hc e => u.there b o e hc) u.tups u.frzs u.tbls (fun m' hm => by
    obtain ⟨o', es', ep', ho', r'⟩ := hm
    rw [ho] at ho'; cases ho'
    exact ⟨_, es', ep', hL, r'⟩) hok hg
theorem Inv.turned {t' : Nat} {it : Addr} (I : Inv X pins σ H s) (k : ∀ b o, b ≠ it -> s.heap.get? b = some o -> h'.get? b = some o) (hn : H it = none) (hL : it ≠ X.env.locals)
    (h1 : it ∈ X.ex \/ X.s₀.heap.objs.size <= it) (h2 : ∀ x c, X.env.cells.lookup x = some c -> c ≠ it) (h3 : ∀ p ∈ X.pn ++ pins, p.1 ≠ it) : Inv X pins σ H { s with heap := h', toks := t' } := by
  have nit : ∀ b u, H b = some u -> b ≠ it := fun b u e z => by rw [z, hn] at e; cases e
  refine I.step (g' := s.gens) (d' := s.drawn) (ch := [it]) (fun b hb => ?_) (fun b o _ _ hc e _ => k b o (fun z => hc (by simp [z])) e) (fun b o _ _ hc e _ => ⟨o.slots, k b o (fun z => hc (by simp [z])) e⟩) (fun _ _ _ _ n => n)
    (fun b o hc e => ⟨o, k b o (fun z => hc (by simp [z])) e⟩) (fun _ _ e => e) (fun _ _ _ e => e) (fun b ps e => ⟨#[], by rw [e]; simp⟩) (fun m hm => ?_) (fun b u e => ?_) I.bare
  · have e : b = it := by simpa using hb
    subst e
    exact ⟨h1, hL, h2, h3⟩
  · obtain ⟨o, es, ep, ho, r⟩ := hm
    exact ⟨o, es, ep, k _ o (Ne.symm hL) ho, r⟩
  · refine (I.hok b u e).stay (fun c v hc q => k c v ?_ q) (fun _ q => q) fun _ _ q => q
    rcases hc with z | z
    · rw [z]; exact nit b u e
    · exact nit c _ z
theorem Inv.tok (I : Inv X pins σ H s) (t : Nat) : Inv X pins σ H { s with toks := t } := I.un (h' := s.heap) (t' := t) Un.refl I.hok
theorem Inv.kept {t' : Nat} (I : Inv X pins σ H s) (k : ∀ b u, s.heap.get? b = some u -> h'.get? b = some u) : Inv X pins σ H { s with heap := h', toks := t' } := I.un (Un.kept k) (I.hok.kept k)
theorem Inv.laid {a : Addr} {o : HO} {t' : Nat} (I : Inv X pins σ H s) (k : ∀ b u, s.heap.get? b = some u -> h'.get? b = some u) (hp : s.heap.objs.size <= a) (new : ObjOk X.prog X.w (upd H a o) h' a o) :
    Inv X pins σ (upd H a o) { s with heap := h', toks := t' } := I.un (Un.laid k hp (I.hok.fresh hp)) (I.hok.laid k hp new)
theorem Inv.write {x e : Addr} {o : HO} {t' : Nat} (I : Inv X pins σ H s) (mu : Mut (H x)) (he : e = x \/ H e = some (.own x)) (k : ∀ b u, b ≠ e -> s.heap.get? b = some u -> h'.get? b = some u) (heo : ∃ u, h'.get? e = some u)
    (new : ObjOk X.prog X.w (upd H x o) h' x o) : Inv X pins σ (upd H x o) { s with heap := h', toks := t' } := I.un (Un.write mu he k heo) (I.hok.write mu he k heo new)
theorem Inv.weak {σ' : List (Option V)} (I : Inv X pins σ H s) (hl : σ'.length = σ.length) (w : ∀ (i : Nat) v, σ'[i]? = some (some v) -> σ[i]? = some (some v)) : Inv X pins σ' H s :=
  ⟨I.ok, I.os, I.bare, I.base, let ⟨m, hn, hl'⟩ := I.loc; ⟨m, hn, fun i x v e1 e2 e3 => hl' i x v e1 (w i v e2) e3⟩, I.cell, I.free, I.freeC, I.pin, I.hok, hl.trans I.len⟩
theorem Inv.pins_of {pins' : List (Addr × Obj)} (I : Inv X pins σ H s) (h : ∀ p ∈ pins', s.heap.get? p.1 = some p.2 /\ H p.1 = none /\ p.1 ≠ X.env.locals /\ p.1 ∉ X.fs /\ ∀ v, p.2.data ≠ .cell v) : Inv X pins' σ H s :=
  ⟨I.ok, I.os, I.bare, I.base, I.loc, I.cell, I.free, I.freeC, fun p hp => (List.mem_append.mp hp).elim (fun z => I.pin p (List.mem_append_left _ z)) (h p), I.hok, I.len⟩
theorem zaf {N : List Str} (hN : N.Nodup) {i j : Nat} {x : Str} (a : N[i]? = some x) (b : N[j]? = some x) : i = j := by
  obtain ⟨h1, e1⟩ := List.getElem?_eq_some_iff.mp a
  obtain ⟨h2, e2⟩ := List.getElem?_eq_some_iff.mp b
  exact (List.getElem_inj hN).mp (e1.trans e2.symm)
theorem zbm {M : Model} {A : Around} {E : Value -> Shared -> Prop} {i : Nat} {x : Str} {v : V} {u : Value} {Q : Unit -> Shared -> Prop} (I : Inv X pins σ H s) (hN : X.N.Nodup) (hi : X.N[i]? = some x) (hx : Loc X.env.scope x) (r : RelV v u)
    (h : ∀ s', Inv X pins (σ.set i (some v)) H s' -> (∃ a, Heap.SameBut a s.heap s'.heap /\ (a = X.env.locals \/ X.env.cells.lookup x = some a)) -> Q () s') (hf : X.fn x = true \/ X.env.scope.names.lookup x = some .local := by first | exact .inl rfl | exact .inr rfl | assumption) : wpAny M A (storeName X.env x u) Q E s := by
  obtain ⟨m, hn, hl⟩ := id I.loc
  have hcls : (X.env.scope.kind == .class || (X.env.scope.kind == .module && X.env.locals != X.env.globals)) = false := by rw [I.ok.kind]; rfl
  have hiσ : i < σ.length := by rw [I.len]; exact (List.getElem?_eq_some_iff.mp hi).1
  have cne := I.cne
  have tracked : ∀ {a : Addr} {h' : Heap}, (∃ o, s.heap.get? a = some o /\ H a = none) -> Heap.SameBut a s.heap h' -> HOk X.prog X.w H h' := fun {a h'} ha hs b ob e => by
    obtain ⟨_, _, hfree⟩ := ha
    refine (I.hok b ob e).stay (fun c w' hc q => (hs.2 c ?_).trans q) (fun _ q => q) fun _ _ q => q
    rintro rfl
    rcases hc with rfl | hc
    · rw [hfree] at e; cases e
    · rw [hfree] at hc; cases hc
  rcases hx with hk | hk
  · refine wpAny_storeName_local hk hn (fun h' hn' hs => ?_) hcls
    obtain ⟨oL, _, _, hoL, _⟩ := id hn
    refine h _ ⟨I.ok, I.os, I.bare, ⟨fun b o e n hb hx => ?_, fun b o e n hb hx => ?_, I.base.free, fun b o e hx => ?_, I.base.tups, I.base.frzs, I.base.tbls⟩, ⟨_, hn', fun j y v' e1 e2 e3 => ?_⟩, fun y c e => ?_, I.free, I.freeC, fun p hp => ?_, tracked ⟨oL, hoL, I.free⟩ hs, by simpa using I.len⟩ ⟨_, hs, .inl rfl⟩
    · exact (hs.2 b (Nat.ne_of_lt (Nat.lt_of_lt_of_le (Heap.lt_size e) I.ok.above))).trans (I.base.keep b o e n hb hx)
    · obtain ⟨sl, e1⟩ := I.base.slot b o e n hb hx
      exact ⟨sl, (hs.2 b (Nat.ne_of_lt (Nat.lt_of_lt_of_le (Heap.lt_size e) I.ok.above))).trans e1⟩
    · obtain ⟨o', e1⟩ := I.base.there b o e hx
      exact ⟨o', (hs.2 b (Nat.ne_of_lt (Nat.lt_of_lt_of_le (Heap.lt_size e) I.ok.above))).trans e1⟩
    · by_cases hj : j = i
      · subst hj
        rw [hi] at e1; cases e1
        rw [List.getElem?_set_self hiσ] at e2
        cases e2
        exact ⟨u, r, .inl ⟨hk, by simp⟩⟩
      · rw [List.getElem?_set_ne (Ne.symm hj)] at e2
        obtain ⟨u', r', q⟩ := hl j y v' e1 e2 e3
        refine ⟨u', r', ?_⟩
        rcases q with ⟨k, e⟩ | ⟨k, c, e, z⟩
        · refine .inl ⟨k, ?_⟩
          have : y ≠ x := fun e => hj (zaf hN e1 (e ▸ hi))
          simp [this, e]
        · exact .inr ⟨k, c, e, z.sameBut hs (cne y c e)⟩
    · obtain ⟨w', z⟩ := I.cell y c e
      exact ⟨w', z.sameBut hs (cne y c e)⟩
    · obtain ⟨e, n, ne, nf, d⟩ := I.pin p hp
      exact ⟨(hs.2 p.1 ne).trans e, n, ne, nf, d⟩
  · have hfn : X.fn x = true := by
      rcases hf with z | z
      · exact z
      · rw [z] at hk; cases hk
    obtain ⟨c, hc⟩ := I.ok.has x (.inl hk)
    obtain ⟨w', z⟩ := I.cell x c hc
    refine wpAny_storeName_cell I.ok.kind hk hc z (fun h' hc' hs => ?_)
    obtain ⟨oc, hoc, hocd⟩ := id z
    refine h { s with heap := h' } ⟨I.ok, I.os, I.bare, ⟨fun b o e n hb hx => ?_, fun b o e n hb hx => ?_, I.base.free, fun b o e hx => ?_, I.base.tups, I.base.frzs, I.base.tbls⟩, ⟨m, hn.sameBut hs (Ne.symm (cne x c hc)), fun j y v' e1 e2 e3 => ?_⟩, fun y c' e => ?_, I.free, I.freeC, fun p hp => ?_, tracked ⟨oc, hoc, I.freeC x c hc⟩ hs, by simpa using I.len⟩ ⟨c, hs, .inr hc⟩
    · exact (hs.2 b (Nat.ne_of_lt (Nat.lt_of_lt_of_le (Heap.lt_size e) (I.ok.cab x c hfn hc)))).trans (I.base.keep b o e n hb hx)
    · obtain ⟨sl, e1⟩ := I.base.slot b o e n hb hx
      exact ⟨sl, (hs.2 b (Nat.ne_of_lt (Nat.lt_of_lt_of_le (Heap.lt_size e) (I.ok.cab x c hfn hc)))).trans e1⟩
    · obtain ⟨o', e1⟩ := I.base.there b o e hx
      exact ⟨o', (hs.2 b (Nat.ne_of_lt (Nat.lt_of_lt_of_le (Heap.lt_size e) (I.ok.cab x c hfn hc)))).trans e1⟩
    · by_cases hj : j = i
      · subst hj
        rw [hi] at e1; cases e1
        rw [List.getElem?_set_self hiσ] at e2
        cases e2
        exact ⟨u, r, .inr ⟨.inl hk, c, hc, hc'⟩⟩
      · rw [List.getElem?_set_ne (Ne.symm hj)] at e2
        obtain ⟨u', r', q⟩ := hl j y v' e1 e2 e3
        refine ⟨u', r', ?_⟩
        rcases q with q | ⟨k, c', e, z'⟩
        · exact .inl q
        · refine .inr ⟨k, c', e, z'.sameBut hs ?_⟩
          rintro rfl
          exact hj (zaf hN e1 (I.ok.inj _ _ _ e hc ▸ hi))
    · by_cases hcc : c' = c
      · subst hcc; exact ⟨_, hc'⟩
      · obtain ⟨w2, z2⟩ := I.cell y c' e
        exact ⟨w2, z2.sameBut hs hcc⟩
    · obtain ⟨e, n, ne, nf, d⟩ := I.pin p hp
      refine ⟨(hs.2 p.1 ?_).trans e, n, ne, nf, d⟩
      intro q
      rw [q, hoc] at e
      have q' : oc = p.2 := Option.some.inj e
      exact d w' (by rw [<- q']; exact hocd)
theorem z8y {M : Model} {A : Around} {E : Value -> Shared -> Prop} {i : Nat} {x : Str} {v : V} {u : Value} {Q : Unit -> Shared -> Prop} (I : Inv X pins σ H s) (hN : X.N.Nodup) (hi : X.N[i]? = some x) (hx : Loc X.env.scope x) (r : RelV v u)
    (h : ∀ s', Inv X pins (σ.set i (some v)) H s' -> Q () s') (hf : X.fn x = true \/ X.env.scope.names.lookup x = some .local := by first | exact .inl rfl | exact .inr rfl | assumption) : wpAny M A (storeName X.env x u) Q E s :=
  zbm I hN hi hx r (fun s' I' _ => h s' I') hf
theorem Inv.call' {s' : Shared} {ch : List Addr} (I : Inv X pins σ H s) (ho : s'.os = s.os) (u : Un (frs X.stack) ch H H' s.heap s'.heap) (hok : HOk X.prog X.w H' s'.heap) (hg : AllBare s'.gens)
    (hch : ∀ b ∈ ch, (b ∈ X.ex \/ X.s₀.heap.objs.size <= b) /\ b ≠ X.env.locals /\ (∀ x c, X.env.cells.lookup x = some c -> c ≠ b) /\ ∀ p ∈ X.pn ++ pins, p.1 ≠ b) : Inv X pins σ H' s' := by
  obtain ⟨h', g', d', t', o'⟩ := s'
  have e : o' = s.os := ho
  subst e
  exact I.call (g' := g') (t' := t') (d' := d') u hok hg hch
end
abbrev XK := Value -> Option Addr -> Hp -> Prop
abbrev St := List (Option V)
abbrev VK := V -> Hp -> Prop
abbrev TE := St -> Hp -> VK -> Prop
abbrev TT := St -> Hp -> (Bool -> Hp -> Prop) -> Prop
abbrev TA := St -> Hp -> (List V -> Hp -> Prop) -> Prop
structure zds where
  nx : St -> Hp -> Prop
  rt : VK
  bk : St -> Hp -> Prop := fun _ _ => False
  ct : St -> Hp -> Prop := fun _ _ => False
abbrev TS := zds -> St -> Hp -> Prop
def EP (X : Cx) (pins : List (Addr × Obj)) (σ : St) (Q : VK) (u : Value) (s' : Shared) : Prop := ∃ v H', Inv X pins σ H' s' /\ RelV v u /\ Q v H'
def TP (X : Cx) (pins : List (Addr × Obj)) (σ : St) (Q : Bool -> Hp -> Prop) (b : Bool) (s' : Shared) : Prop := ∃ H', Inv X pins σ H' s' /\ Q b H'
def AP (X : Cx) (pins : List (Addr × Obj)) (σ : St) (Q : List V -> Hp -> Prop) (us : List Value) (s' : Shared) : Prop := ∃ vs H', Inv X pins σ H' s' /\ Vals vs us /\ Q vs H'
def SP (X : Cx) (pins : List (Addr × Obj)) (D : zds) (f : Flow) (s' : Shared) : Prop :=
  match f with
  | .next => ∃ σ' H', Inv X pins σ' H' s' /\ D.nx σ' H'
  | .brk => ∃ σ' H', Inv X pins σ' H' s' /\ D.bk σ' H'
  | .cont => ∃ σ' H', Inv X pins σ' H' s' /\ D.ct σ' H'
  | .ret u => ∃ v σ' H', Inv X pins σ' H' s' /\ RelV v u /\ D.rt v H'
def PE (X : Cx) (e : Expr) (t : TE) : Prop :=
  ∀ (pins : List (Addr × Obj)) (s : Shared) (σ : St) (H : Hp) (Q : VK), Inv X pins σ H s -> t σ H Q -> wpAny (model X.prog X.w) X.A (eval e X.env) (EP X pins σ Q) X.xe s
def PT (X : Cx) (e : Expr) (t : TT) : Prop :=
  ∀ (pins : List (Addr × Obj)) (s : Shared) (σ : St) (H : Hp) (Q : Bool -> Hp -> Prop), Inv X pins σ H s -> t σ H Q -> wpAny (model X.prog X.w) X.A (isTrue e X.env (eval e X.env)) (TP X pins σ Q) X.xe s
def PW (X : Cx) (e : Expr) (t : TT) : Prop :=
  ∀ (whole : Sem Value) (pins : List (Addr × Obj)) (s : Shared) (σ : St) (H : Hp) (Q : Bool -> Hp -> Prop), Inv X pins σ H s -> t σ H Q -> wpAny (model X.prog X.w) X.A (isTrue e X.env whole) (TP X pins σ Q) X.xe s
theorem PW.pt {X : Cx} {e : Expr} {t : TT} (h : PW X e t) : PT X e t := h _
def PA (X : Cx) (es : List Expr) (t : TA) : Prop :=
  ∀ (pos : Pos) (pins : List (Addr × Obj)) (s : Shared) (σ : St) (H : Hp) (Q : List V -> Hp -> Prop), Inv X pins σ H s -> t σ H Q -> wpAny (model X.prog X.w) X.A (spliced (backTo pos (starEach es X.env))) (AP X pins σ Q) X.xe s
def PS (X : Cx) (st : Stmt) (t : TS) : Prop :=
  ∀ (pins : List (Addr × Obj)) (s : Shared) (σ : St) (H : Hp) (D : zds), Inv X pins σ H s -> t D σ H -> wpAny (model X.prog X.w) X.A (exec st X.env) (SP X pins D) X.xe s
def PSs (X : Cx) (st : List Stmt) (t : TS) : Prop :=
  ∀ (pins : List (Addr × Obj)) (s : Shared) (σ : St) (H : Hp) (D : zds), Inv X pins σ H s -> t D σ H -> wpAny (model X.prog X.w) X.A (execs st X.env) (SP X pins D) X.xe s
theorem thn {α : Type} {t : Sem α} {Q Q' : α -> Shared -> Prop} {M : Model} {A : Around} {E : Value -> Shared -> Prop} {s : Shared} (h : wpAny M A t Q E s) (hQ : ∀ a s, Q a s -> Q' a s) : wpAny M A t Q' E s := wpAny_mono h hQ fun _ _ x => x
end L2
namespace L2
open PySem PySem.Spec PyProof.Rows
section
variable {X : Cx}
theorem bin {a b : Expr} {ta tb : TE} (ha : PE X a ta) (hb : PE X b tb) {pins : List (Addr × Obj)} {s : Shared} {σ : St} {H : Hp} {R : V -> V -> Hp -> Prop} (I : Inv X pins σ H s) (h : ta σ H fun x H1 => tb σ H1 fun y H2 => R x y H2)
    {α : Type} {Q : α -> Shared -> Prop} {f : Value -> Value -> Sem α}
    (hf : ∀ v u s2 x y H2, Inv X pins σ H2 s2 -> RelV x v -> RelV y u -> R x y H2 -> wpAny (model X.prog X.w) X.A (f v u) Q X.xe s2) :
    wpAny (model X.prog X.w) X.A (eval a X.env) (fun v s₁ => wpAny (model X.prog X.w) X.A (eval b X.env) (fun u s₂ => wpAny (model X.prog X.w) X.A (f v u) Q X.xe s₂) X.xe s₁) X.xe s := by
  refine thn (ha pins s σ H _ I h) fun v s1 ⟨x, H1, I1, r1, q1⟩ => ?_
  refine thn (hb pins s1 σ H1 _ I1 q1) fun u s2 ⟨y, H2, I2, r2, q2⟩ => ?_
  exact hf v u s2 x y H2 I2 r1 r2 q2
def zlU (i : Nat) : TE := fun σ H Q => ∃ v, σ[i]? = some (some v) /\ Q v H
def tC (v : V) : TE := fun _ H Q => Q v H
theorem zgB {i : Nat} {x : Str} {pos : Pos} (hN : X.N[i]? = some x) (hv : Vis X.env.scope x) (hd : (x == ("__debug__" : Str)) = false := by decide) (hcd : (x == ("__classdict__" : Str)) = false := by decide) : PE X (.Name x pos) (zlU i) := by
  intro pins s σ H Q I h
  obtain ⟨v, e, h⟩ := h
  obtain ⟨m, hn, hl⟩ := I.loc
  obtain ⟨u, r, l⟩ := hl i x v hN e hv
  have fin : EP X pins σ Q u s := ⟨v, H, I, r, h⟩
  rcases l with ⟨hk, hm⟩ | ⟨hk, c, hc, hcell⟩
  · exact wpAny_Name (wpAny_loadName_local I.ok.kind hk hn hm fin) hd
  · rcases hk with hk | hk
    · exact wpAny_Name (wpAny_loadName_cell I.ok.kind hk hc hcell fin) hd
    · exact wpAny_Name (wpAny_loadName_free I.ok.kind hk hc hcell fin hcd) hd
theorem z7S {i j pos} : PE X (.Constant (.int i) j pos) (tC (.int i)) := fun _ _ _ H _ I h => wpAny_Constant_int ⟨.int i, H, I.tok _, ⟨_, rfl⟩, h⟩
theorem zks {b j pos} : PE X (.Constant (.bool b) j pos) (tC (.bl b)) := fun _ _ _ H _ I h => Constant_bool ⟨.bl b, H, I, rfl, h⟩
theorem zgQ {j pos} : PE X (.Constant .none j pos) (tC .non) := fun _ _ _ H _ I h => Constant_none ⟨.non, H, I, rfl, h⟩
theorem zjx {x j pos} : PE X (.Constant (.str x) j pos) (tC (.str x)) := fun _ _ _ H _ I h => Calls.Constant_str ⟨.str x, H, I.tok _, ⟨_, rfl⟩, h⟩
def Gl (X : Cx) (x : Str) : Prop := X.env.kindOf x = some .globalImplicit
theorem z91 {E : Value -> Shared -> Prop} {pins : List (Addr × Obj)} {s : Shared} {σ : St} {H : Hp} {x : Str} {u : Value} {pos : Pos} {Q : Value -> Shared -> Prop} (I : Inv X pins σ H s) (hg : Gl X x) (hm : X.mg x = some u) (h : Q u s)
    (hd : (x == ("__debug__" : Str)) = false := by decide) : wpAny (model X.prog X.w) X.A (eval (.Name x pos) X.env) Q E s :=
  Calls.Name_function_global I.ok.kind hg (Calls.loadGlobal_global (by rw [I.ok.glob]; exact I.mod.glob.keeps I.bk) hm h) hd
theorem z9D {E : Value -> Shared -> Prop} {pins : List (Addr × Obj)} {s : Shared} {σ : St} {H : Hp} {x : Str} {u : Value} {pos : Pos} {Q : Value -> Shared -> Prop} (I : Inv X pins σ H s) (hg : Gl X x) (hm : X.mg x = none) (hv : bootBuiltins x = some u) (h : Q u s)
    (hn : x ≠ "__name__" := by decide) (hd : (x == ("__debug__" : Str)) = false := by decide) : wpAny (model X.prog X.w) X.A (eval (.Name x pos) X.env) Q E s := by
  obtain ⟨mb, h1, h2⟩ := I.mod.blt
  exact Calls.Name_function_global I.ok.kind hg (Calls.loadGlobal_builtin (by rw [I.ok.glob]; exact I.mod.glob.keeps I.bk) hm (by rw [I.ok.blt]; exact h1.keeps I.bk) ((h2 x hn).trans hv) h) hd
theorem z9N {x : Str} {v : V} {u : Value} {pos : Pos} (hg : Gl X x) (hm : X.mg x = some u) (r : RelV v u) (hd : (x == ("__debug__" : Str)) = false := by decide) : PE X (.Name x pos) (tC v) :=
  fun _ _ _ H _ I h => z91 I hg hm ⟨v, H, I, r, h⟩ hd
theorem zah {x : Str} {v : V} {u : Value} {pos : Pos} (hg : Gl X x) (hm : X.mg x = none) (hv : bootBuiltins x = some u) (r : RelV v u) (hn : x ≠ "__name__" := by decide) (hd : (x == ("__debug__" : Str)) = false := by decide) : PE X (.Name x pos) (tC v) :=
  fun _ _ _ H _ I h => z9D I hg hm hv ⟨v, H, I, r, h⟩ hn hd
variable {a b : Expr} {ta tb : TE} {pos : Pos}
def PC (X : Cx) (op : CmpOp) (a b : Expr) (t : TE) : Prop :=
  ∀ (pins : List (Addr × Obj)) (s : Shared) (σ : St) (H : Hp) (Q : VK), Inv X pins σ H s -> t σ H Q ->
    wpAny (model X.prog X.w) X.A (eval a X.env) (fun v s₁ => wpAny (model X.prog X.w) X.A (eval b X.env) (fun u s₂ => wpAny (model X.prog X.w) X.A (compareOp op v u) (EP X pins σ Q) X.xe s₂) X.xe s₁) X.xe s
theorem zgm (b : Expr) {op : CmpOp} (h : op ≠ .In) (h2 : op ≠ .NotIn) : behindInMarks op b = false := by
  have e1 : (op == CmpOp.In) = false := by cases op <;> first | rfl | exact absurd rfl h
  have e2 : (op == CmpOp.NotIn) = false := by cases op <;> first | rfl | exact absurd rfl h2
  cases b <;> simp [behindInMarks, e1, e2]
def tB (t : TE) : TT := fun σ H Q => t σ H fun x H1 => ∃ c, x = .bl c /\ Q c H1
theorem zjB {op : CmpOp} {t : TE} (h : PC X op a b t) (h1 : behindInMarks op b = false := by first | exact zgm _ (by decide) (by decide) | rfl) : PT X (.Compare a [op] [b] pos) (tB t) := by
  intro pins s σ H Q I hw
  refine wpAny_isTrue_Compare1 (thn (h pins s σ H _ I hw) fun v s1 h1 => thn h1 fun u s2 h2 => thn h2 fun c s3 ⟨x, H1, I1, r1, q1⟩ => ?_) h1
  obtain ⟨d, rfl, q⟩ := q1
  cases r1
  exact wpAny_truthy_bool ⟨H1, I1, q⟩
variable {tA tB' : TT} {z6F : List Expr}
def zlK (t u : TT) : TT := fun σ H Q => t σ H fun c H1 => if c = true then u σ H1 Q else Q false H1
def tOr (t u : TT) : TT := fun σ H Q => t σ H fun c H1 => if c = true then Q true H1 else u σ H1 Q
def zlx (t : TT) : TT := fun σ H Q => t σ H fun c H1 => Q (!c) H1
theorem zhr (ha : PT X a tA) : PW X (.BoolOp .And [a] pos) tA := by
  intro wh pins s σ H Q I h
  refine isTrue_and (thn (ha pins s σ H Q I h) fun c s1 e => ?_)
  cases c with
  | true => exact isTrue_and_nil e
  | false => exact e
theorem zjh (ha : PT X a tA) : PW X (.BoolOp .Or [a] pos) tA := by
  intro wh pins s σ H Q I h
  refine isTrue_or (thn (ha pins s σ H Q I h) fun c s1 e => ?_)
  cases c with
  | false => exact isTrue_or_nil e
  | true => exact e
theorem zjU (ha : PT X a tA) (hb : PW X (.BoolOp .And (b :: z6F) pos) tB') : PW X (.BoolOp .And (a :: b :: z6F) pos) (zlK tA tB') := by
  intro wh pins s σ H Q I h
  refine isTrue_and (thn (ha pins s σ H _ I h) fun c s1 ⟨H1, I1, q1⟩ => ?_)
  cases c with
  | true => exact hb wh pins s1 σ H1 Q I1 q1
  | false => exact ⟨H1, I1, q1⟩
theorem zku (ha : PT X a tA) (hb : PW X (.BoolOp .Or (b :: z6F) pos) tB') : PW X (.BoolOp .Or (a :: b :: z6F) pos) (tOr tA tB') := by
  intro wh pins s σ H Q I h
  refine isTrue_or (thn (ha pins s σ H _ I h) fun c s1 ⟨H1, I1, q1⟩ => ?_)
  cases c with
  | true => exact ⟨H1, I1, q1⟩
  | false => exact hb wh pins s1 σ H1 Q I1 q1
theorem ziL (ha : PT X a tA) : PT X (.UnaryOp .Not a pos) (zlx tA) := by
  intro pins s σ H Q I h
  exact isTrue_not (ha pins s σ H (fun c H1 => Q (!c) H1) I h)
def zk9 (ta tb : TE) : TE := fun σ H Q => ta σ H fun x H1 => ∃ c, x = .bl c /\ if c = true then tb σ H1 Q else Q (.bl false) H1
def zlD (ta tb : TE) : TE := fun σ H Q => ta σ H fun x H1 => ∃ c, x = .bl c /\ if c = true then Q (.bl true) H1 else tb σ H1 Q
def zk7 (ta : TE) : TE := fun σ H Q => ta σ H fun x H1 => ∃ c, x = .bl c /\ Q (.bl (!c)) H1
theorem ziA {op} {t : TE} (h : PE X a t) : PE X (.BoolOp op [a] pos) t := fun pins s σ H Q I hw => BoolOp_one (h pins s σ H Q I hw)
theorem zjA (ha : PE X a ta) (hb : PE X (.BoolOp .And (b :: z6F) pos) tb) : PE X (.BoolOp .And (a :: b :: z6F) pos) (zk9 ta tb) := by
  intro pins s σ H Q I h
  refine BoolOp_and (thn (ha pins s σ H _ I h) fun v s1 ⟨x, H1, I1, r1, q1⟩ => ?_)
  obtain ⟨c, rfl, q1⟩ := q1
  cases r1
  refine wpAny_truthy_bool ?_
  cases c with
  | true => exact hb pins s1 σ H1 Q I1 q1
  | false => exact ⟨.bl false, H1, I1, rfl, q1⟩
theorem zkL (ha : PE X a ta) (hb : PE X (.BoolOp .Or (b :: z6F) pos) tb) : PE X (.BoolOp .Or (a :: b :: z6F) pos) (zlD ta tb) := by
  intro pins s σ H Q I h
  refine BoolOp_or (thn (ha pins s σ H _ I h) fun v s1 ⟨x, H1, I1, r1, q1⟩ => ?_)
  obtain ⟨c, rfl, q1⟩ := q1
  cases r1
  refine wpAny_truthy_bool ?_
  cases c with
  | false => exact hb pins s1 σ H1 Q I1 q1
  | true => exact ⟨.bl true, H1, I1, rfl, q1⟩
theorem zjc (ha : PE X a ta) : PE X (.UnaryOp .Not a pos) (zk7 ta) := by
  intro pins s σ H Q I h
  refine UnaryOp_ (thn (ha pins s σ H _ I h) fun v s1 ⟨x, H1, I1, r1, q1⟩ => ?_)
  obtain ⟨c, rfl, q1⟩ := q1
  cases r1
  exact not_of (wpAny_truthy_bool ⟨.bl (!c), H1, I1, rfl, q1⟩)
end
end L2
namespace L2
open PySem PySem.Spec PyProof.Rows
def SqL (K : PySem.W.Frag) (H : Hp) (a : Addr) (xs : List V) : Prop :=
  Rd H a (.lst xs) \/
    ∃ (o : Obj) (its : Array Value) (n : Nat), K.lookup a = some o /\ o.cls = .type "list" /\ o.dict = none /\ o.data = .seq its n /\ its.size <= sizeLine /\ Vals xs its.toList
def SqT (K : PySem.W.Frag) (H : Hp) (a : Addr) (xs : List V) : Prop :=
  Rd H a (.tup xs) \/
    ∃ (o : Obj) (its : Array Value) (n : Nat), K.lookup a = some o /\ o.cls = .type "tuple" /\ o.data = .seq its n /\ its.size <= sizeLine /\ Vals xs its.toList
def zlB : Value -> Option V
  | .none => some .non
  | .bool b => some (.bl b)
  | .int i _ => some (.int i)
  | .str x _ => some (.str x)
  | .bytes b _ => some (.byt b)
  | .float b _ => some (.flt b)
  | .ref a => some (.ref a)
  | .type n => some (.ty n)
  | _ => none
theorem RelV.abs {x : V} {u : Value} (r : RelV x u) : zlB u = some x := by
  cases x with
  | non => cases r; rfl
  | bl _ => cases r; rfl
  | int _ => obtain ⟨t, rfl⟩ := r; rfl
  | str _ => obtain ⟨t, rfl⟩ := r; rfl
  | byt _ => obtain ⟨t, rfl⟩ := r; rfl
  | flt _ => obtain ⟨t, rfl⟩ := r; rfl
  | ref _ => cases r; rfl
  | ty _ => cases r; rfl
theorem RelV.inj {x y : V} {u : Value} (r : RelV x u) (q : RelV y u) : x = y := Option.some.inj (r.abs.symm.trans q.abs)
theorem Vals.inj : ∀ {xs ys : List V} {us : List Value}, Vals xs us -> Vals ys us -> xs = ys
  | _, _, _, .nil, .nil => rfl
  | _, _, _, .cons r t, .cons r' t' => by rw [r.inj r', Vals.inj t t']
section
variable {X : Cx} {pins : List (Addr × Obj)} {σ : St} {H : Hp} {s : Shared} {a : Addr} {xs ys : List V}
theorem SqL.of {K : PySem.W.Frag} (h : H a = some (.lst xs)) : SqL K H a xs := .inl (.inl h)
theorem SqT.of {K : PySem.W.Frag} (h : H a = some (.tup xs)) : SqT K H a xs := .inl (.inl h)
theorem Inv.list (I : Inv X pins σ H s) (h : SqL X.K H a xs) : ∃ its : List Value, Vals xs its /\ PlainL s.heap a its.toArray /\ xs.length <= sizeLine := by
  rcases h with h | ⟨o, its, n, hk, hc, hd, hs, hz, r⟩
  · obtain ⟨z, its, n, r, e⟩ := h.ok I.hok
    exact ⟨its, r, ⟨_, n, e, rfl, rfl, rfl⟩, z⟩
  · refine ⟨its.toList, r, ⟨o, n, I.kIn a o hk, hc, hd, by simpa using hs⟩, ?_⟩
    have e := r.length
    simp only [Array.length_toList] at e
    omega
theorem Inv.tuple (I : Inv X pins σ H s) (h : SqT X.K H a xs) : ∃ its : List Value, Vals xs its /\ IsTup s.heap a its.toArray /\ xs.length <= sizeLine := by
  rcases h with h | ⟨o, its, n, hk, hc, hs, hz, r⟩
  · obtain ⟨z, its, r, p⟩ := h.ok I.hok
    exact ⟨its, r, p, z⟩
  · refine ⟨its.toList, r, ⟨o, I.kIn a o hk, hc, n, by simpa using hs⟩, ?_⟩
    have e := r.length
    simp only [Array.length_toList] at e
    omega
theorem Inv.list_inj (I : Inv X pins σ H s) (h : SqL X.K H a xs) (h' : SqL X.K H a ys) : xs = ys := by
  obtain ⟨its, r, ⟨o, n, e, _, _, d⟩, _⟩ := I.list h
  obtain ⟨its', r', ⟨o', n', e', _, _, d'⟩, _⟩ := I.list h'
  rw [e] at e'; cases e'
  rw [d] at d'
  injection d' with d1 _
  have : its = its' := by simpa using congrArg Array.toList d1
  subst this
  exact r.inj r'
theorem Inv.tuple_inj (I : Inv X pins σ H s) (h : SqT X.K H a xs) (h' : SqT X.K H a ys) : xs = ys := by
  obtain ⟨its, r, ⟨o, e, _, n, d⟩, _⟩ := I.tuple h
  obtain ⟨its', r', ⟨o', e', _, n', d'⟩, _⟩ := I.tuple h'
  rw [e] at e'; cases e'
  rw [d] at d'
  injection d' with d1 _
  have : its = its' := by simpa using congrArg Array.toList d1
  subst this
  exact r.inj r'
end
abbrev Cx.wish (X : Cx) (E : Value -> Shared -> Prop) : Cx := { X with xe := E }
abbrev Cx.nox (X : Cx) : Cx := X.wish fun _ _ => False
theorem Cx.Ok.wish {X : Cx} (ok : X.Ok) (E : Value -> Shared -> Prop) : (X.wish E).Ok :=
  ⟨ok.mod, ok.kind, ok.glob, ok.blt, ok.above, ok.inj, ok.has, ok.cab, ok.hd, ok.frames, ok.stk, ok.exf, ok.bs, ok.bsz, ok.noex, ok.exfs, ok.funs, ok.frf⟩
theorem Cx.Ok.unwish {X : Cx} {E : Value -> Shared -> Prop} (ok : (X.wish E).Ok) : X.Ok :=
  ⟨ok.mod, ok.kind, ok.glob, ok.blt, ok.above, ok.inj, ok.has, ok.cab, ok.hd, ok.frames, ok.stk, ok.exf, ok.bs, ok.bsz, ok.noex, ok.exfs, ok.funs, ok.frf⟩
section
variable {X : Cx} {pins : List (Addr × Obj)} {σ : St} {H : Hp} {s : Shared} {E : Value -> Shared -> Prop}
theorem Inv.wish (I : Inv X pins σ H s) (E : Value -> Shared -> Prop) : Inv (X.wish E) pins σ H s := ⟨I.ok.wish E, I.os, I.bare, I.base, I.loc, I.cell, I.free, I.freeC, I.pin, I.hok, I.len⟩
theorem Inv.unwish (I : Inv (X.wish E) pins σ H s) : Inv X pins σ H s := ⟨I.ok.unwish, I.os, I.bare, I.base, I.loc, I.cell, I.free, I.freeC, I.pin, I.hok, I.len⟩
theorem SP.unwish {D : zds} {f : Flow} {s' : Shared} (h : SP (X.wish E) pins D f s') : SP X pins D f s' := by
  cases f with
  | next => obtain ⟨σ', H', I, q⟩ := h; exact ⟨σ', H', I.unwish, q⟩
  | brk => obtain ⟨σ', H', I, q⟩ := h; exact ⟨σ', H', I.unwish, q⟩
  | cont => obtain ⟨σ', H', I, q⟩ := h; exact ⟨σ', H', I.unwish, q⟩
  | ret u => obtain ⟨v, σ', H', I, r, q⟩ := h; exact ⟨v, σ', H', I.unwish, r, q⟩
theorem PE.nox {e : Expr} {t : TE} (h : PE X.nox e t) : PE X e t := fun pins s σ H Q I hw =>
  wpAny_mono (h pins s σ H Q (I.wish _) hw) (fun _ _ ⟨v, H', I', r, q⟩ => ⟨v, H', I'.unwish, r, q⟩) fun _ _ z => False.elim z
theorem PT.nox {e : Expr} {t : TT} (h : PT X.nox e t) : PT X e t := fun pins s σ H Q I hw =>
  wpAny_mono (h pins s σ H Q (I.wish _) hw) (fun _ _ ⟨H', I', q⟩ => ⟨H', I'.unwish, q⟩) fun _ _ z => False.elim z
theorem PSs.nox {st : List Stmt} {t : TS} (h : PSs X.nox st t) : PSs X st t := fun pins s σ H D I hw =>
  wpAny_mono (h pins s σ H D (I.wish _) hw) (fun _ _ q => q.unwish) fun _ _ z => False.elim z
end
section
variable {X : Cx} {st : Stmt} {z6F : List Stmt} {t u : TS} {e : Expr} {te : TE} {pos : Pos}
def zkP : TS := fun D σ H => D.nx σ H
def zlq (t u : TS) : TS := fun D σ H => t { D with nx := u D } σ H
theorem zee : PSs X [] zkP := fun _ _ σ H _ I h => wpAny_execs_nil ⟨σ, H, I, h⟩
theorem zcq (h1 : PS X st t) (h2 : PSs X z6F u) : PSs X (st :: z6F) (zlq t u) := by
  intro pins s σ H D I h
  refine wpAny_execs_cons (thn (h1 pins s σ H { D with nx := u D } I h) fun f s1 q => ?_)
  cases f with
  | next =>
    obtain ⟨σ', H', I', q⟩ := q
    exact h2 pins s1 σ' H' D I' q
  | ret v => exact q
  | brk => exact q
  | cont => exact q
theorem zhA (h1 : PS X st t) : PSs X [st] t := by
  intro pins s σ H D I h
  refine wpAny_execs_cons (thn (h1 pins s σ H D I h) fun f s1 q => ?_)
  cases f with
  | next => exact wpAny_execs_nil q
  | ret v => exact q
  | brk => exact q
  | cont => exact q
theorem Inv.quiet {pins : List (Addr × Obj)} {σ : St} {H : Hp} {s : Shared} (I : Inv X pins σ H s) : interactive X.env = false := by simp [interactive, I.ok.kind]
def zkU (te : TE) : TS := fun D σ H => te σ H fun _ H1 => D.nx σ H1
theorem zhe (he : PE X e te) (hs : swapsWith e none pos.line X.env = pure false := by rfl) : PS X (.Expr e pos) (zkU te) := by
  intro pins s σ H D I h
  exact wpAny_Expr_any (thn (he pins s σ H _ I h) fun v s1 ⟨x, H1, I1, r1, q1⟩ => ⟨σ, H1, I1, q1⟩) I.quiet hs
def zlN (te : TE) : TS := fun D σ H => te σ H D.rt
theorem zjH (he : PE X e te) : PS X (.Return (some e) pos) (zlN te) := by
  intro pins s σ H D I h
  exact wpAny_Return_some (thn (he pins s σ H _ I h) fun v s1 ⟨x, H1, I1, r1, q1⟩ => ⟨x, σ, H1, I1, r1, q1⟩)
def zlH (c : TT) (t u : TS) : TS := fun D σ H => c σ H fun b H1 => if b = true then t D σ H1 else u D σ H1
theorem zkS {c : Expr} {a b : List Stmt} {tc : TT} (hc : PT X c tc) (ha : PSs X a t) (hb : PSs X b u) : PS X (.If c a b pos) (zlH tc t u) := by
  intro pins s σ H D I h
  refine wpAny_If (thn (hc pins s σ H _ I h) fun d s1 ⟨H1, I1, q1⟩ => ?_)
  cases d with
  | true => exact ha pins s1 σ H1 D I1 q1
  | false => exact hb pins s1 σ H1 D I1 q1
def zj0 : TS := fun _ _ _ => False
theorem zdM {sts : List Stmt} : PSs X sts zj0 := fun _ _ _ _ _ _ h => h.elim
end
abbrev TG := V -> St -> Hp -> (St -> Hp -> Prop) -> Prop
abbrev TGs := List V -> St -> Hp -> (St -> Hp -> Prop) -> Prop
def PG (X : Cx) (target : Expr) (t : TG) : Prop :=
  ∀ (pins : List (Addr × Obj)) (s : Shared) (σ : St) (H : Hp) (v : V) (u : Value) (Q : St -> Hp -> Prop), Inv X pins σ H s -> RelV v u -> t v σ H Q ->
    wpAny (model X.prog X.w) X.A (assign target X.env u) (fun _ s' => ∃ σ' H', Inv X pins σ' H' s' /\ Q σ' H') X.xe s
def PGs (X : Cx) (ts : List Expr) (t : TGs) : Prop :=
  ∀ (pins : List (Addr × Obj)) (s : Shared) (σ : St) (H : Hp) (vs : List V) (us : List Value) (Q : St -> Hp -> Prop), Inv X pins σ H s -> Vals vs us -> t vs σ H Q ->
    wpAny (model X.prog X.w) X.A (assignInOrder ((assignEach ts X.env).map (·.2)) us) (fun _ s' => ∃ σ' H', Inv X pins σ' H' s' /\ Q σ' H') X.xe s
abbrev zkx := V -> V -> V -> Hp -> (Hp -> Prop) -> Prop
def zli (X : Cx) (t : zkx) : Prop :=
  ∀ (pins : List (Addr × Obj)) (s : Shared) (σ : St) (H : Hp) (o i v : V) (ov iv u : Value) (Q : Hp -> Prop), Inv X pins σ H s -> RelV o ov -> RelV i iv -> RelV v u -> t o i v H Q ->
    wpAny (model X.prog X.w) X.A (setItem ov iv u) (fun _ s' => ∃ H', Inv X pins σ H' s' /\ Q H') X.xe s
section
variable {X : Cx} {pos : Pos}
def z8U (i : Nat) : TG := fun v σ H Q => Q (σ.set i (some v)) H
theorem z7o {i : Nat} {x : Str} (hN : X.N.Nodup) (hi : X.N[i]? = some x) (hx : Loc X.env.scope x) (hf : X.fn x = true \/ X.env.scope.names.lookup x = some .local := by first | exact .inl rfl | exact .inr rfl | assumption) : PG X (.Name x pos) (z8U i) := by
  intro pins s σ H v u Q I r h
  exact wpAny_assign_Name (z8y I hN hi hx r (fun s' I' => ⟨_, H, I', h⟩) hf)
def zk1 : TGs := fun vs σ H Q => vs = [] /\ Q σ H
def z9Y (t : TG) (u : TGs) : TGs := fun vs σ H Q => ∃ v r, vs = v :: r /\ t v σ H fun σ' H' => u r σ' H' Q
theorem zdQ : PGs X [] zk1 := by
  intro pins s σ H vs us Q I r h
  obtain ⟨e, h⟩ := h
  subst e
  cases r
  exact assignInOrder_nil ⟨σ, H, I, h⟩
theorem z7R {e : Expr} {es : List Expr} {t : TG} {u : TGs} (h1 : PG X e t) (h2 : PGs X es u)
    (hs : (assignEach (e :: es) X.env).map (·.2) = assign e X.env :: (assignEach es X.env).map (·.2) := by rfl) : PGs X (e :: es) (z9Y t u) := by
  intro pins s σ H vs us Q I r h
  obtain ⟨v, vr, e1, h⟩ := h
  subst e1
  cases r with
  | cons r rr =>
    rw [hs]
    refine assignInOrder_cons (thn (h1 pins s σ H _ _ _ I r h) fun _ s1 ⟨σ1, H1, I1, q1⟩ => ?_)
    exact h2 pins s1 σ1 H1 _ _ Q I1 rr q1
def zk5 (K : PySem.W.Frag) (n : Nat) (t : TGs) : TG := fun v σ H Q => ∃ a xs, v = .ref a /\ SqT K H a xs /\ xs.length = n /\ t xs σ H Q
theorem zgU {es : List Expr} {k : Nat} {t : TGs} {n : Nat} (hc : X.calm = true) (h : PGs X es t)
    (hn : (assignEach es X.env).length = n := by rfl) (hst : (assignEach es X.env).findIdx? (·.1) = none := by rfl) : PG X (.Tuple es k pos) (zk5 X.K n t) := by
  intro pins s σ H v u Q I r hw
  obtain ⟨a, xs, e1, hq, hl, hw⟩ := hw
  subst e1
  cases r
  obtain ⟨its, rv, ht, hz⟩ := I.tuple hq
  refine assign_Tuple_tuple (I.ok.hd hc) ht (by simp [hn, <- hl, rv.length]) hst fun h' hx => ?_
  have I1 : Inv X pins σ H { s with heap := h' } := I.kept (t' := s.toks) fun b o e => hx b o (Nat.ne_of_lt (Heap.lt_size e)) e
  exact h pins _ σ H xs _ Q I1 (by simpa using rv) hw
def zgK (to ti : TE) (t : zkx) : TG := fun v σ H Q => to σ H fun o H1 => ti σ H1 fun i H2 => t o i v H2 fun H3 => Q σ H3
theorem ziM {o i : Expr} {to ti : TE} {t : zkx} (ho : PE X o to) (hi : PE X i ti) (hs : zli X t)
    (ha : ∀ v, assign (.Subscript o i pos) X.env v = (do
      let ov <- holding [v] (eval o X.env)
      let iv <- holding [v, ov] (eval i X.env)
      standAt pos
      holding [v, ov, iv] (setItem ov iv v)
      release [v, ov, iv] []) := by intro _; rfl) : PG X (.Subscript o i pos) (zgK to ti t) := by
  intro pins s σ H v u Q I r h
  rw [ha]
  refine wpAny_bind (wpAny_holding (thn (ho pins s σ H _ I h) fun ov s1 ⟨x, H1, I1, r1, q1⟩ => ?_))
  refine wpAny_bind (wpAny_holding (thn (hi pins s1 σ H1 _ I1 q1) fun iv s2 ⟨y, H2, I2, r2, q2⟩ => ?_))
  refine wpAny_bind (wpAny_standAt (wpAny_bind (wpAny_holding (thn (hs pins s2 σ H2 x y v ov iv u _ I2 r1 r2 r q2) fun _ s3 ⟨H3, I3, q3⟩ => ?_))))
  exact wpAny_release ⟨σ, H3, I3, q3⟩
def zle (te : TE) (g : TG) : TS := fun D σ H => te σ H fun x H1 => g x σ H1 D.nx
theorem zeM {tg e : Expr} {te : TE} {g : TG} (he : PE X e te) (hg : PG X tg g) (hs : swapsWithSole [tg] e pos.line X.env = pure false := by rfl) (hw : swappedStores [tg] e X.env = pure none := by rfl)
    (h1 : (assignEach [tg] X.env).map (·.2) = [assign tg X.env] := by rfl) : PS X (.Assign [tg] e pos) (zle te g) := by
  intro pins s σ H D I h
  refine wpAny_Assign_stores (thn (he pins s σ H _ I h) fun v s1 ⟨x, H1, I1, r1, q1⟩ => ?_) hs hw
  rw [h1]
  exact thn (hg pins s1 σ H1 x v _ I1 r1 q1) fun _ s2 q => q
theorem zgy {i : Nat} {x : Str} {e : Expr} {te : TE} {pos' : Pos} (hN : X.N.Nodup) (hi : X.N[i]? = some x) (hx : Loc X.env.scope x) (he : PE X e te) (hs : swapsWith e (some (.Name x pos')) pos.line X.env = pure false := by rfl) (hf : X.fn x = true \/ X.env.scope.names.lookup x = some .local := by first | exact .inl rfl | exact .inr rfl | assumption) :
    PS X (.Assign [.Name x pos'] e pos) (zle te (z8U i)) := by
  intro pins s σ H D I h
  refine wpAny_Assign_Name (thn (he pins s σ H _ I h) fun v s1 ⟨y, H1, I1, r1, q1⟩ => ?_) hs
  exact z8y I1 hN hi hx r1 (fun s2 I2 => ⟨_, H1, I2, q1⟩) hf
end
section
variable {X : Cx} {pos : Pos}
end
structure It where
  go : Nat -> Hp -> Prop
  yld : Nat -> Hp -> V -> Hp -> Prop
  stop : Nat -> Hp -> Prop
def zbz (X : Cx) (pins : List (Addr × Obj)) (H : Hp) (b : Addr) : Prop :=
  H b = none /\ b ≠ X.env.locals /\ b ∉ X.fs /\ (b ∈ X.ex \/ X.s₀.heap.objs.size <= b) /\ (∀ x c, X.env.cells.lookup x = some c -> c ≠ b) /\ ∀ p ∈ X.pn ++ pins, p.1 ≠ b
theorem Inv.fpOk {X : Cx} {pins : List (Addr × Obj)} {σ : St} {H H' : Hp} {s : Shared} {b : Addr} (I : Inv X pins σ H s) (hb : s.heap.objs.size <= b) (hn : H' b = none) : zbz X pins H' b := by
  refine ⟨hn, Nat.ne_of_gt (Nat.lt_of_lt_of_le I.lt hb), I.nofs hb, .inr (Nat.le_trans I.sz hb), fun x c e z => ?_, fun p hp z => ?_⟩
  · obtain ⟨v, q⟩ := I.cell x c e
    exact absurd (Nat.lt_of_lt_of_le q.lt (by rw [z]; exact hb)) (Nat.lt_irrefl _)
  · exact absurd (Nat.lt_of_lt_of_le (Heap.lt_size (I.pin p hp).1) (by rw [z]; exact hb)) (Nat.lt_irrefl _)
structure zeg (P : Program) (w : World) (K : PySem.W.Frag) (tg : Expr) (J : It) (fp : List Addr) (it : Addr) (tn : Nat -> Heap -> Prop) : Prop where
  mem : it ∈ fp
  obj : ∀ i h, tn i h -> ∀ b ∈ fp, ∃ o, h.get? b = some o /\ ∀ v, o.data ≠ .cell v
  keep : ∀ i h h', tn i h -> (∀ b ∈ fp, ∀ o, h.get? b = some o -> h'.get? b = some o) -> tn i h'
  item : ∀ (X : Cx), X.prog = P -> X.w = w -> X.K = K -> X.calm = true -> ∀ (i : Nat) (pins : List (Addr × Obj)) (s : Shared) (σ : St) (H : Hp) (E : Value -> Shared -> Prop), Inv X pins σ H s -> (∀ b ∈ fp, zbz X pins H b) -> tn i s.heap -> J.go i H ->
    wpAny (model P w) X.A (pyNext (.ref it)) (fun r s1 => ∃ u, r = some u /\
      wpAny (model P w) X.A (letOwnedTupleGo tg (.ref it) u) (fun _ s2 => ∃ x H', Inv X pins σ H' s2 /\ RelV x u /\ J.yld i H x H' /\ tn (i + 1) s2.heap /\ ∀ b ∈ fp, H' b = none) E s1) E s
  done : ∀ (X : Cx), X.prog = P -> X.w = w -> X.K = K -> X.calm = true -> ∀ (i : Nat) (pins : List (Addr × Obj)) (s : Shared) (σ : St) (H : Hp) (E : Value -> Shared -> Prop), Inv X pins σ H s -> (∀ b ∈ fp, zbz X pins H b) -> tn i s.heap -> J.stop i H ->
    wpAny (model P w) X.A (pyNext (.ref it)) (fun r s1 => r = none /\ Inv X pins σ H s1) E s
  self : ∀ (A : Around) (i : Nat) (s : Shared) (Q : Value -> Shared -> Prop) (E : Value -> Shared -> Prop), tn i s.heap -> Q (.ref it) s -> wpAny (model P w) A (pyIter (.ref it)) Q E s
abbrev TI := St -> Hp -> (It -> Hp -> Prop) -> Prop
def PIE (X : Cx) (pins : List (Addr × Obj)) (σ : St) (tg : Expr) (R : It -> Hp -> Prop) (itv : Value) (s2 : Shared) : Prop :=
  ∃ (it : Addr) (fp : List Addr) (tn : Nat -> Heap -> Prop) (J : It) (H' : Hp), itv = .ref it /\ Inv X pins σ H' s2 /\ zeg X.prog X.w X.K tg J fp it tn /\ tn 0 s2.heap /\ (∀ b ∈ fp, zbz X pins H' b) /\ R J H'
def PI (X : Cx) (tg iter : Expr) (wi : TI) : Prop :=
  ∀ (pins : List (Addr × Obj)) (s : Shared) (σ : St) (H : Hp) (R : It -> Hp -> Prop), Inv X pins σ H s -> wi σ H R ->
    wpAny (model X.prog X.w) X.A (eval iter X.env) (fun v s1 => wpAny (model X.prog X.w) X.A (pyIter v) (PIE X pins σ tg R) X.xe s1) X.xe s
theorem zfP {M : Model} {A : Around} {E : Value -> Shared -> Prop} {s : Shared} {tg : Expr} {it : Addr} {u : Value} {o : Obj} {n : String} {vs : Array Value} {Q : Unit -> Shared -> Prop} (ho : s.heap.get? it = some o) (hc : o.cls = .type n) (hd : o.data = .fields vs)
    (hn : ["enumerate", "zip", "dict_itemiterator", "dict_reverseitemiterator", "odict_iterator", "itertools.zip_longest", "itertools.pairwise"].contains n = false) (hQ : Q () s) : wpAny M A (letOwnedTupleGo tg (.ref it) u) Q E s := by
  unfold letOwnedTupleGo
  cases tg <;> first
    | exact wpAny_pure hQ
    | (cases u <;> first
        | exact wpAny_pure hQ
        | (refine wpAny_bind (wpAny_load ho ?_)
           rw [hc, hd]
           show wpAny M A (if (["enumerate", "zip", "dict_itemiterator", "dict_reverseitemiterator", "odict_iterator", "itertools.zip_longest", "itertools.pairwise"].contains n && vs[0]? == some (rawInt _)) = true then _ else _) Q E s
           rw [if_neg (by intro h; rw [hn, Bool.false_and] at h; cases h)]
           exact wpAny_pure hQ))
def Itl (K : PySem.W.Frag) (a : Addr) : It :=
  ⟨fun i H => ∃ xs x, SqL K H a xs /\ xs[i]? = some x, fun i H x H' => H' = H /\ ∀ xs, SqL K H a xs -> xs[i]? = some x, fun i H => ∃ xs, SqL K H a xs /\ xs.length <= i⟩
def Itt (K : PySem.W.Frag) (a : Addr) : It :=
  ⟨fun i H => ∃ xs x, SqT K H a xs /\ xs[i]? = some x, fun i H x H' => H' = H /\ ∀ xs, SqT K H a xs -> xs[i]? = some x, fun i H => ∃ xs, SqT K H a xs /\ xs.length <= i⟩
def Itr (lo : Int) (n : Nat) : It := ⟨fun i _ => i < n, fun i H x H' => H' = H /\ x = .int (lo + i), fun i _ => n <= i⟩
theorem zaB {P : Program} {w : World} {K : PySem.W.Frag} {tg : Expr} (a it : Addr) : zeg P w K tg (Itl K a) [it] it (fun i h => h.IsListIter it a i) where
  mem := by simp
  obj := fun i h st b hb => by
    have e : b = it := by simpa using hb
    subst e
    obtain ⟨o, e, c, d⟩ := st
    exact ⟨o, e, fun v z => by rw [d] at z; cases z⟩
  keep := fun i h h' st k => st.at fun o e => k it (by simp) o e
  item := by
    intro X hP hw hK hc i pins s σ H E I hf st hg
    subst hP hw hK
    obtain ⟨xs, x, hq, hx⟩ := hg
    obtain ⟨its, rv, p, hz⟩ := I.list hq
    obtain ⟨u, hu, ru⟩ := rv.get hx
    obtain ⟨f0, f1, f2, f3, f4, f5⟩ := hf it (by simp)
    refine wpAny_pyNext_list_item st p.isList (x := u) (by simpa using hu) fun h' st' sb => ?_
    have I1 : Inv X pins σ H { s with heap := h' } := I.turned (t' := s.toks) (fun b o hb e => (sb.2 b hb).trans e) f0 f1 f3 f4 f5
    obtain ⟨o, e, c, d⟩ := id st'
    exact ⟨u, rfl, zfP (s := { s with heap := h' }) e c d (by decide) ⟨x, H, I1, ru, ⟨rfl, fun ys hy => by rw [I.list_inj hy hq]; exact hx⟩, st', fun b hb => (hf b hb).1⟩⟩
  done := by
    intro X hP hw hK hc i pins s σ H E I hf st hg
    subst hP hw hK
    obtain ⟨xs, hq, hx⟩ := hg
    obtain ⟨its, rv, p, hz⟩ := I.list hq
    obtain ⟨f0, f1, f2, f3, f4, f5⟩ := hf it (by simp)
    have hl := rv.length
    exact wpAny_pyNext_list_end (I.ok.hd hc) st p.isList (by simp; omega) fun h' eb => ⟨rfl, I.turned (t' := s.toks) (fun b o hb e => eb b o hb e) f0 f1 f3 f4 f5⟩
  self := fun _ _ _ _ _ st h => wpAny_pyIter_listiter st h
theorem zdd {P : Program} {w : World} {K : PySem.W.Frag} {tg : Expr} (a it : Addr) : zeg P w K tg (Itt K a) [it] it (fun i h => h.IsTupleIter it a i) where
  mem := by simp
  obj := fun i h st b hb => by
    have e : b = it := by simpa using hb
    subst e
    obtain ⟨o, e, c, d⟩ := st
    exact ⟨o, e, fun v z => by rw [d] at z; cases z⟩
  keep := fun i h h' st k => st.at fun o e => k it (by simp) o e
  item := by
    intro X hP hw hK hc i pins s σ H E I hf st hg
    subst hP hw hK
    obtain ⟨xs, x, hq, hx⟩ := hg
    obtain ⟨its, rv, p, hz⟩ := I.tuple hq
    obtain ⟨u, hu, ru⟩ := rv.get hx
    obtain ⟨f0, f1, f2, f3, f4, f5⟩ := hf it (by simp)
    refine wpAny_pyNext_tuple_item st (show s.heap.IsTuple a its.toArray from p) (x := u) (by simpa using hu) fun h' st' sb => ?_
    have I1 : Inv X pins σ H { s with heap := h' } := I.turned (t' := s.toks) (fun b o hb e => (sb.2 b hb).trans e) f0 f1 f3 f4 f5
    obtain ⟨o, e, c, d⟩ := id st'
    exact ⟨u, rfl, zfP (s := { s with heap := h' }) e c d (by decide) ⟨x, H, I1, ru, ⟨rfl, fun ys hy => by rw [I.tuple_inj hy hq]; exact hx⟩, st', fun b hb => (hf b hb).1⟩⟩
  done := by
    intro X hP hw hK hc i pins s σ H E I hf st hg
    subst hP hw hK
    obtain ⟨xs, hq, hx⟩ := hg
    obtain ⟨its, rv, p, hz⟩ := I.tuple hq
    obtain ⟨f0, f1, f2, f3, f4, f5⟩ := hf it (by simp)
    have hl := rv.length
    exact wpAny_pyNext_tuple_end (I.ok.hd hc) st (show s.heap.IsTuple a its.toArray from p) (by simp; omega) fun h' eb => ⟨rfl, I.turned (t' := s.toks) (fun b o hb e => eb b o hb e) f0 f1 f3 f4 f5⟩
  self := fun _ _ _ _ _ st h => wpAny_pyIter_tupleiter st h
theorem zd6 {P : Program} {w : World} {K : PySem.W.Frag} {tg : Expr} (it : Addr) (lo : Int) (n : Nat) : zeg P w K tg (Itr lo n) [it] it (fun i h => IsRangeIter h it (lo + (i : Nat) * 1) ((n : Int) - (i : Nat)) 1) where
  mem := by simp
  obj := fun i h st b hb => by
    have e : b = it := by simpa using hb
    subst e
    exact ⟨_, st, fun v z => by
      have z' : Data.fields _ = Data.cell v := z
      cases z'⟩
  keep := fun i h h' st k => k it (by simp) _ st
  item := by
    intro X hP hw hK hc i pins s σ H E I hf st hg
    subst hP hw hK
    obtain ⟨f0, f1, f2, f3, f4, f5⟩ := hf it (by simp)
    have W := Walks.range (prog := X.prog) (w := X.w) (I.ok.hd hc) it lo 1 n
    refine W.item i s _ _ hg st fun v h' tk hv st' kk => ?_
    obtain ⟨t, rfl⟩ := hv
    have I1 : Inv X pins σ H { s with heap := h', toks := tk } := I.turned (fun b o hb e => kk b o (by simpa using hb) e) f0 f1 f3 f4 f5
    refine ⟨_, rfl, zfP (s := { s with heap := h', toks := tk }) (n := "range_iterator") st' rfl rfl (by decide) ⟨.int (lo + i), H, I1, ⟨t, ?_⟩, ⟨rfl, rfl⟩, st', fun b hb => (hf b hb).1⟩⟩
    rw [Int.mul_one]
  done := by
    intro X hP hw hK hc i pins s σ H E I hf st hg
    subst hP hw hK
    obtain ⟨f0, f1, f2, f3, f4, f5⟩ := hf it (by simp)
    exact wpAny_pyNext_range_end (I.ok.hd hc) st (by have : n <= i := hg; omega) fun h' eb => ⟨rfl, I.turned (t' := s.toks) (fun b o hb e => eb b o hb e) f0 f1 f3 f4 f5⟩
  self := fun _ _ _ _ _ st h => wpAny_pyIter_rangeiter st h
end L2
namespace L2
open PySem PySem.Spec PyProof.Rows
section
variable {X : Cx} {tg : Expr}
theorem zfJ {pins : List (Addr × Obj)} {σ : St} {H : Hp} {s : Shared} {R : It -> Hp -> Prop} {E : Value -> Shared -> Prop} {lo hi : Int} {t u v : Tok} {tk : Nat} (I : Inv X pins σ H s) (h1 : -(2 ^ 62) <= lo) (h2 : lo < 2 ^ 62) (h3 : -(2 ^ 62) <= hi) (h4 : hi < 2 ^ 62)
    (q : R (Itr lo (hi - lo).toNat) H) : wpAny (model X.prog X.w) X.A (pyIter (.ref s.heap.objs.size)) (PIE X pins σ tg R) E { s with heap := s.heap.push { cls := .type "range", data := .fields #[.int lo t, .int hi u, .int 1 v] }, toks := tk } := by
  refine wpAny_pyIter_range (IsRange.new ..) (small_one h1 h2 h3 h4) ?_
  have I1 : Inv X pins σ H { s with heap := s.heap.push { cls := .type "range", data := .fields #[.int lo t, .int hi u, .int 1 v] }, toks := tk } := I.kept fun b o e => Heap.get?_push_of_some _ e
  refine ⟨(s.heap.push { cls := .type "range", data := .fields #[.int lo t, .int hi u, .int 1 v] }).objs.size, [(s.heap.push { cls := .type "range", data := .fields #[.int lo t, .int hi u, .int 1 v] }).objs.size], _, _, H, rfl,
    I1.kept (t' := tk) fun b o e => Heap.get?_push_of_some _ e, zd6 _ lo (hi - lo).toNat, ?_, fun b hb => ?_, q⟩
  · have e1 : lo + ((0 : Nat) : Int) * 1 = lo := by simp
    have e2 : (((hi - lo).toNat : Nat) : Int) - ((0 : Nat) : Int) = Builtin.Range.rangeSize lo hi 1 := by rw [rangeSize_one]; split <;> omega
    show IsRangeIter _ _ (lo + ((0 : Nat) : Int) * 1) ((((hi - lo).toNat : Nat) : Int) - ((0 : Nat) : Int)) 1
    rw [e1, e2]
    exact Heap.get?_push_size _ rfl
  · have e : b = (s.heap.push { cls := .type "range", data := .fields #[.int lo t, .int hi u, .int 1 v] }).objs.size := by simpa using hb
    subst e
    exact I1.fpOk (Nat.le_refl _) (I1.hok.fresh (Nat.le_refl _))
def zkV (ta : TA) : TI := fun σ H R => ta σ H fun vs H1 => ∃ j : Int, vs = [.int j] /\ -(2 ^ 62) <= j /\ j < 2 ^ 62 /\ R (Itr 0 j.toNat) H1
theorem zef {a : Expr} {ta : TA} {p pos : Pos} (hg : Gl X "range") (hm : X.mg "range" = none) (ha : PA X [a] ta) (hs : starEach [a] X.env = [(false, eval a X.env)] := by rfl) : PI X tg (.Call (.Name "range" p) [a] [] pos) (zkV ta) := by
  intro pins s σ H R I h
  refine Call_ (z9D I hg hm boot_range (PyProof.Rows.callWith_type1 (thn (ha pos pins s σ H _ I h) fun us s1 ⟨vs, H1, I1, r1, q1⟩ => ?_) hs rfl))
  obtain ⟨j, e, q1, q2, q⟩ := q1
  subst e
  cases r1 with
  | cons r rr =>
    cases rr
    obtain ⟨t, rfl⟩ := r
    exact call_range_1 (zfJ I1 (by omega) (by omega) q1 q2 (by simpa using q))
def zlm (wi : TI) (g : TG) (tb : TS) : TS := fun D σ H => wi σ H fun J H1 => ∃ W : Nat -> Nat -> St -> Hp -> Prop, (∃ m, W 0 m σ H1) /\ ∀ i m σ H, W i m σ H ->
  (J.stop i H /\ D.nx σ H) \/ (J.go i H /\ ∃ N : St -> Hp -> Prop, (∀ σ' H', N σ' H' -> ∃ m', m' < m /\ W (i + 1) m' σ' H') /\ ∀ x H', J.yld i H x H' -> g x σ H' fun σ2 H2 => tb { D with nx := N, ct := N, bk := D.nx } σ2 H2)
def zaR (fp : List Addr) (h : Heap) : List (Addr × Obj) := fp.filterMap fun b => (h.get? b).map fun o => (b, o)
theorem z7h {fp : List Addr} {h : Heap} {b : Addr} {o : Obj} (hb : b ∈ fp) (e : h.get? b = some o) : (b, o) ∈ zaR fp h := List.mem_filterMap.mpr ⟨b, hb, by rw [e]; rfl⟩
theorem zfg {fp : List Addr} {h : Heap} {p : Addr × Obj} (hp : p ∈ zaR fp h) : p.1 ∈ fp /\ h.get? p.1 = some p.2 := by
  obtain ⟨b, hb, e⟩ := List.mem_filterMap.mp hp
  cases q : h.get? b with
  | none => rw [q] at e; cases e
  | some o =>
    rw [q] at e
    have e' : (b, o) = p := Option.some.inj e
    subst e'
    exact ⟨hb, q⟩
theorem Inv.pinned {pins : List (Addr × Obj)} {σ : St} {H : Hp} {s : Shared} {fp : List Addr} (I : Inv X pins σ H s) (hf : ∀ b ∈ fp, zbz X pins H b) (ho : ∀ b ∈ fp, ∃ o, s.heap.get? b = some o /\ ∀ v, o.data ≠ .cell v) : Inv X (pins ++ zaR fp s.heap) σ H s :=
  I.pins_of fun p hp => (List.mem_append.mp hp).elim (fun z => I.pin p (List.mem_append_right _ z)) fun z => by
    obtain ⟨hb, e⟩ := zfg z
    obtain ⟨f0, f1, f2, _⟩ := hf p.1 hb
    obtain ⟨o, e', d⟩ := ho p.1 hb
    rw [e] at e'; cases e'
    exact ⟨e, f0, f1, f2, d⟩
theorem Inv.unpinned {pins pl : List (Addr × Obj)} {σ : St} {H : Hp} {s : Shared} (I : Inv X (pins ++ pl) σ H s) : Inv X pins σ H s := I.pins_of fun p hp => I.pin p (List.mem_append_right _ (List.mem_append_left _ hp))
theorem zj9 {iter : Expr} {body : List Stmt} {wi : TI} {g : TG} {tb : TS} {pos : Pos} (hp : PassesOwn (model X.prog X.w) X.A X.env X.xe) (hc : X.calm = true) (hi : PI X tg iter wi) (hg : PG X tg g) (hb : PSs X body tb)
    (hs : ∀ x, foldedSetIterable iter X.env x = pure x := by intro _; rfl) : PS X (.For tg iter body [] pos) (zlm wi g tb) := by
  intro pins s σ H D I h
  refine wpAny_For (thn (hi pins s σ H _ I h) fun v s1 h1 => thn h1 fun itv s2 h2 => ?_) hs
  obtain ⟨it, fp, tn, J, H2, e, I2, T, st2, f2, W, ⟨m0, w0⟩, turn⟩ := h2
  subst e
  -- what stays true of the iterator's objects through the loop
  have stat : ∀ {H' : Hp}, (∀ b ∈ fp, H' b = none) -> ∀ b ∈ fp, zbz X pins H' b := fun hn b hb => ⟨hn b hb, (f2 b hb).2⟩
  refine codeAny_forLoop_any (fun n s' => ∃ i σ' H', Inv X pins σ' H' s' /\ tn i s'.heap /\ (∀ b ∈ fp, H' b = none) /\ W i n σ' H') ?_ m0 ⟨0, σ, H2, I2, st2, fun b hb => (f2 b hb).1, w0⟩
  rintro n s3 ⟨i, σ3, H3, I3, st3, fr3, w3⟩
  rcases turn i n σ3 H3 w3 with ⟨stop, qn⟩ | ⟨go, N, hN, step⟩
  · refine wpAny_passesOwn hp (thn (T.done X rfl rfl rfl hc i pins s3 σ3 H3 X.xe I3 (stat fr3) st3 stop) fun r s4 ⟨hr, I4⟩ => ?_)
    subst hr
    exact wpAny_execs_nil ⟨σ3, H3, I4, qn⟩
  · refine wpAny_passesOwn hp (thn (T.item X rfl rfl rfl hc i pins s3 σ3 H3 X.xe I3 (stat fr3) st3 go) fun r s4 ⟨u, hr, h4⟩ => ?_)
    subst hr
    refine wpAny_passesOwn hp (thn h4 fun _ s5 ⟨x, H5, I5, r5, y5, st5, fr5⟩ => ?_)
    have I5' := I5.pinned (stat fr5) (T.obj _ _ st5)
    refine wpAny_passesOwn hp (thn (hg _ s5 σ3 H5 x u _ I5' r5 (step x H5 y5)) fun _ s6 ⟨σ6, H6, I6, q6⟩ => ?_)
    refine wpAny_passesOwn hp (thn (hb _ s6 σ6 H6 _ I6 q6) fun f s7 q7 => ?_)
    have again : ∀ {σ7 : St} {H7 : Hp}, Inv X (pins ++ zaR fp s5.heap) σ7 H7 s7 -> N σ7 H7 -> ∃ m, m < n /\ ∃ i σ' H', Inv X pins σ' H' s7 /\ tn i s7.heap /\ (∀ b ∈ fp, H' b = none) /\ W i m σ' H' := fun {σ7 H7} I7 n7 => by
      obtain ⟨m', hm, w7⟩ := hN σ7 H7 n7
      refine ⟨m', hm, i + 1, σ7, H7, I7.unpinned, T.keep _ _ _ st5 fun b hb o e => (I7.pin (b, o) (List.mem_append_right _ (List.mem_append_right _ (z7h hb e)))).1, fun b hb => ?_, w7⟩
      obtain ⟨o, e, d⟩ := T.obj _ _ st5 b hb
      exact (I7.pin (b, o) (List.mem_append_right _ (List.mem_append_right _ (z7h hb e)))).2.1
    cases f with
    | next => obtain ⟨σ7, H7, I7, n7⟩ := q7; exact again I7 n7
    | cont => obtain ⟨σ7, H7, I7, n7⟩ := q7; exact again I7 n7
    | brk => obtain ⟨σ7, H7, I7, q7⟩ := q7; exact ⟨σ7, H7, I7.unpinned, q7⟩
    | ret v => obtain ⟨x7, σ7, H7, I7, r7, q7⟩ := q7; exact ⟨x7, σ7, H7, I7.unpinned, r7, q7⟩
end
end L2
namespace L2
open PySem PySem.Spec PyProof.Rows
abbrev R2 := V -> V -> Hp -> VK -> Prop
def OpR (X : Cx) (f : Value -> Value -> Sem Value) (r : R2) : Prop :=
  ∀ (pins : List (Addr × Obj)) (s : Shared) (σ : St) (H : Hp) (x y : V) (v u : Value) (Q : VK), Inv X pins σ H s -> RelV x v -> RelV y u -> r x y H Q ->
    wpAny (model X.prog X.w) X.A (f v u) (EP X pins σ Q) X.xe s
def UnR (X : Cx) (f : Value -> Sem Value) (r : V -> Hp -> VK -> Prop) : Prop :=
  ∀ (pins : List (Addr × Obj)) (s : Shared) (σ : St) (H : Hp) (x : V) (v : Value) (Q : VK), Inv X pins σ H s -> RelV x v -> r x H Q ->
    wpAny (model X.prog X.w) X.A (f v) (EP X pins σ Q) X.xe s
def CallR (X : Cx) (f : Value) (r : List V -> Hp -> VK -> Prop) : Prop :=
  ∀ (pins : List (Addr × Obj)) (s : Shared) (σ : St) (H : Hp) (xs : List V) (us : List Value) (Q : VK), Inv X pins σ H s -> Vals xs us -> r xs H Q ->
    wpAny (model X.prog X.w) X.A (call f us) (EP X pins σ Q) X.xe s
def zll (X : Cx) (r : V -> Hp -> (Bool -> Hp -> Prop) -> Prop) : Prop :=
  ∀ (pins : List (Addr × Obj)) (s : Shared) (σ : St) (H : Hp) (x : V) (v : Value) (Q : Bool -> Hp -> Prop), Inv X pins σ H s -> RelV x v -> r x H Q ->
    wpAny (model X.prog X.w) X.A (truthy v) (TP X pins σ Q) X.xe s
def tOp (r : R2) (ta tb : TE) : TE := fun σ H Q => ta σ H fun x H1 => tb σ H1 fun y H2 => r x y H2 Q
def tUn (r : V -> Hp -> VK -> Prop) (ta : TE) : TE := fun σ H Q => ta σ H fun x H1 => r x H1 Q
def rI (C : Int -> Int -> Prop) (g : Int -> Int -> V) : R2 := fun x y H Q => ∃ i j, x = .int i /\ y = .int j /\ C i j /\ Q (g i j) H
def rI0 (g : Int -> Int -> V) : R2 := fun x y H Q => ∃ i j, x = .int i /\ y = .int j /\ Q (g i j) H
def rU (g : Int -> V) : V -> Hp -> VK -> Prop := fun x H Q => ∃ i, x = .int i /\ Q (g i) H
section
variable {X : Cx} {a b c : Expr} {ta tb tc : TE} {pos : Pos}
theorem zkK (ha : PE X a ta) (hb : PE X b tb) {pins : List (Addr × Obj)} {s : Shared} {σ : St} {H : Hp} {R : V -> V -> Hp -> Prop} (I : Inv X pins σ H s)
    (h : ta σ H fun x H1 => tb σ H1 fun y H2 => R x y H2) {Q : Value -> Shared -> Prop} {f : Value -> Value -> Sem Value}
    (hf : ∀ v u s2 x y H2, Inv X pins σ H2 s2 -> RelV x v -> RelV y u -> R x y H2 -> wpAny (model X.prog X.w) X.A (f v u) Q X.xe s2) :
    wpAny (model X.prog X.w) X.A (eval a X.env) (fun v s₁ => wpAny (model X.prog X.w) X.A (eval b X.env) (fun u s₂ => wpAny (model X.prog X.w) X.A (f v u) Q X.xe s₂) X.xe s₁) X.xe s := by
  refine thn (ha pins s σ H _ I h) fun v s1 ⟨x, H1, I1, r1, q1⟩ => ?_
  refine thn (hb pins s1 σ H1 _ I1 q1) fun u s2 ⟨y, H2, I2, r2, q2⟩ => ?_
  exact hf v u s2 x y H2 I2 r1 r2 q2
theorem zkI {op : Operator} {r : R2} (ho : OpR X (binaryOp op) r) (ha : PE X a ta) (hb : PE X b tb) : PE X (.BinOp a op b pos) (tOp r ta tb) := by
  intro pins s σ H Q I h
  exact wpAny_BinOp (zkK ha hb I h fun v u s2 x y H2 I2 rx ry q => ho pins s2 σ H2 x y v u Q I2 rx ry q)
theorem zkb {op : UnaryOp} {r : V -> Hp -> VK -> Prop} (ho : UnR X (unaryOp op) r) (ha : PE X a ta) : PE X (.UnaryOp op a pos) (tUn r ta) := by
  intro pins s σ H Q I h
  exact UnaryOp_ (thn (ha pins s σ H _ I h) fun v s1 ⟨x, H1, I1, r1, q1⟩ => ho pins s1 σ H1 x v Q I1 r1 q1)
theorem opI {f : Value -> Value -> Sem Value} {C : Int -> Int -> Prop} {g : Int -> Int -> Int}
    (rule : ∀ (i j : Int) (t u : Tok) (s : Shared) (Q : Value -> Shared -> Prop) (E : Value -> Shared -> Prop), C i j -> Q (.int (g i j) s.toks) { s with toks := s.toks + 1 } -> wpAny (model X.prog X.w) X.A (f (.int i t) (.int j u)) Q E s) :
    OpR X f (rI C fun i j => .int (g i j)) := by
  intro pins s σ H x y v u Q I rx ry h
  obtain ⟨i, j, rfl, rfl, hc, q⟩ := h
  obtain ⟨t, rfl⟩ := rx
  obtain ⟨t', rfl⟩ := ry
  exact rule i j t t' s _ _ hc ⟨.int (g i j), H, I.tok _, ⟨_, rfl⟩, q⟩
theorem zlf {f : Value -> Value -> Sem Value} {g : Int -> Int -> Int}
    (rule : ∀ (i j : Int) (t u : Tok) (s : Shared) (Q : Value -> Shared -> Prop) (E : Value -> Shared -> Prop), Q (.int (g i j) s.toks) { s with toks := s.toks + 1 } -> wpAny (model X.prog X.w) X.A (f (.int i t) (.int j u)) Q E s) :
    OpR X f (rI0 fun i j => .int (g i j)) := by
  intro pins s σ H x y v u Q I rx ry h
  obtain ⟨i, j, rfl, rfl, q⟩ := h
  obtain ⟨t, rfl⟩ := rx
  obtain ⟨t', rfl⟩ := ry
  exact rule i j t t' s _ _ ⟨.int (g i j), H, I.tok _, ⟨_, rfl⟩, q⟩
theorem zk8 {f : Value -> Value -> Sem Value} {g : Int -> Int -> Bool}
    (rule : ∀ (i j : Int) (t u : Tok) (s : Shared) (Q : Value -> Shared -> Prop) (E : Value -> Shared -> Prop), Q (.bool (g i j)) s -> wpAny (model X.prog X.w) X.A (f (.int i t) (.int j u)) Q E s) :
    OpR X f (rI0 fun i j => .bl (g i j)) := by
  intro pins s σ H x y v u Q I rx ry h
  obtain ⟨i, j, rfl, rfl, q⟩ := h
  obtain ⟨t, rfl⟩ := rx
  obtain ⟨t', rfl⟩ := ry
  exact rule i j t t' s _ _ ⟨.bl (g i j), H, I, rfl, q⟩
def zlj (i j : Int) : Prop := 0 < j /\ j < 1073741824
def zk3 (i j : Int) : Prop := 0 <= j /\ j <= 1000000 /\ i.natAbs < 2 ^ 64
def CMul (i j : Int) : Prop := (-(2 ^ 64) < i /\ i < 2 ^ 64) \/ (-(2 ^ 64) < j /\ j < 2 ^ 64)
theorem CMul.ok {i j : Int} (h : CMul i j) : IntMulOk i j := by
  rcases h with ⟨h1, h2⟩ | ⟨h1, h2⟩
  · exact .of_left (intBits_le_64 h1 h2)
  · exact .of_right (intBits_le_64 h1 h2)
theorem zjN : OpR X (binaryOp .Add) (rI0 fun i j => .int (i + j)) := zlf fun _ _ _ _ _ _ _ q => add_int q
theorem zgV : OpR X (binaryOp .Sub) (rI0 fun i j => .int (i - j)) := zlf fun _ _ _ _ _ _ _ q => sub_int q
theorem zaY : OpR X (binaryOp .Mult) (rI CMul fun i j => .int (i * j)) := opI fun _ _ _ _ _ _ _ hc q => mul_int q hc.ok
theorem z9L : OpR X (binaryOp .FloorDiv) (rI zlj fun i j => .int (i / j)) := opI fun i j _ _ _ _ _ hc q => by
  have h1 : (0 : Int) < j := hc.1
  have h2 : j < 1073741824 := hc.2
  exact floordiv_int (by omega) (by rw [Int.fdiv_eq_ediv_of_nonneg i (by omega)]; exact q) (.inl (PyProof.noPylong_small (by omega)))
theorem z98 : OpR X (binaryOp .Mod) (rI (fun _ j => 0 < j) fun i j => .int (i % j)) := opI fun i j _ _ _ _ _ hc q => by
  have h1 : (0 : Int) < j := hc
  exact mod_int' (by omega) (by rw [Int.fmod_eq_emod_of_nonneg i (by omega)]; exact q)
theorem zeJ : OpR X (binaryOp .Pow) (rI zk3 fun i j => .int (i ^ j.toNat)) := opI fun _ _ _ _ _ _ _ hc q => pow_int_small hc.1 hc.2.1 hc.2.2 q
theorem zcG : OpR X (binaryOp .LShift) (rI zk3 fun i j => .int (i * 2 ^ j.toNat)) := opI fun _ _ _ _ _ _ _ hc q => lshift_int_small hc.1 hc.2.1 hc.2.2 q
theorem unI {f : Value -> Sem Value} {g : Int -> Int}
    (rule : ∀ (i : Int) (t : Tok) (s : Shared) (Q : Value -> Shared -> Prop) (E : Value -> Shared -> Prop), Q (.int (g i) s.toks) { s with toks := s.toks + 1 } -> wpAny (model X.prog X.w) X.A (f (.int i t)) Q E s) :
    UnR X f (rU fun i => .int (g i)) := by
  intro pins s σ H x v Q I rx h
  obtain ⟨i, rfl, q⟩ := h
  obtain ⟨t, rfl⟩ := rx
  exact rule i t s _ _ ⟨.int (g i), H, I.tok _, ⟨_, rfl⟩, q⟩
theorem zjq : UnR X (unaryOp .USub) (rU fun i => .int (-i)) := unI fun _ _ _ _ _ q => neg_int q
end
section
variable {X : Cx} {a b c : Expr} {ta tb tc : TE} {pos : Pos}
theorem zcO {pins : List (Addr × Obj)} {σ : St} {H : Hp} {s : Shared} {Q : VK} {k k' : Bool} (I : Inv X pins σ H s) (q : Q (.bl k) H) (e : k = k') : EP X pins σ Q (.bool k') s := by
  subst e
  exact ⟨.bl k, H, I, rfl, q⟩
theorem zjM : OpR X (compareOp .Lt) (rI0 fun i j => .bl (decide (i < j))) := zk8 fun _ _ _ _ _ _ _ q => lt_int q
theorem ziX : OpR X (compareOp .LtE) (rI0 fun i j => .bl (decide (i <= j))) := zk8 fun _ _ _ _ _ _ _ q => le_int q
theorem zkz : OpR X (compareOp .GtE) (rI0 fun i j => .bl (decide (j <= i))) := zk8 fun _ _ _ _ _ _ _ q => ge_int q
theorem zfl : OpR X (compareOp .In) (fun x y H Q => ∃ i j, x = .str i /\ y = .str j /\ Q (.bl (!(Builtin.Str.occurrences j i 0 j.length 1).isEmpty)) H) := by
  intro pins s σ H x y v u Q I rx ry h
  obtain ⟨i, j, rfl, rfl, q⟩ := h
  obtain ⟨t, rfl⟩ := rx
  obtain ⟨t', rfl⟩ := ry
  exact in_str (zcO I q rfl)
theorem zgE : OpR X (compareOp .Is) (fun x y H Q => y = .non /\ Q (.bl (decide (x = .non))) H) := by
  intro pins s σ H x y v u Q I rx ry h
  obtain ⟨rfl, q⟩ := h
  cases ry
  refine is_none_gen (zcO I q ?_)
  cases x <;> first
    | (cases rx; rfl)
    | (obtain ⟨t, rfl⟩ := rx; rfl)
theorem zi2 : OpR X (compareOp .IsNot) (fun x y H Q => y = .non /\ Q (.bl (!decide (x = .non))) H) := by
  intro pins s σ H x y v u Q I rx ry h
  obtain ⟨rfl, q⟩ := h
  cases ry
  refine isnot_none_gen (zcO I q ?_)
  cases x <;> first
    | (cases rx; rfl)
    | (obtain ⟨t, rfl⟩ := rx; rfl)
theorem zaG : OpR X (compareOp .NotIn) (fun x y H Q => ∃ i j, x = .str i /\ y = .str j /\ Q (.bl (!(!(Builtin.Str.occurrences j i 0 j.length 1).isEmpty))) H) := by
  intro pins s σ H x y v u Q I rx ry h
  obtain ⟨i, j, rfl, rfl, q⟩ := h
  obtain ⟨t, rfl⟩ := rx
  obtain ⟨t', rfl⟩ := ry
  exact notIn_str (zcO I q rfl)
theorem OpR.or {f : Value -> Value -> Sem Value} {r r' : R2} (h : OpR X f r) (h' : OpR X f r') : OpR X f (fun x y H Q => r x y H Q \/ r' x y H Q) := by
  intro pins s σ H x y v u Q I rx ry q
  rcases q with q | q
  · exact h pins s σ H x y v u Q I rx ry q
  · exact h' pins s σ H x y v u Q I rx ry q
theorem z5O (b : Expr) {op : CmpOp} (h : op ≠ .In := by decide) (h2 : op ≠ .NotIn := by decide) : behindInMarks op b = false := by
  have e1 : (op == CmpOp.In) = false := by cases op <;> first | rfl | exact absurd rfl h
  have e2 : (op == CmpOp.NotIn) = false := by cases op <;> first | rfl | exact absurd rfl h2
  cases b <;> simp [behindInMarks, e1, e2]
theorem zhh {op : CmpOp} {r : R2} (ho : OpR X (compareOp op) r) (ha : PE X a ta) (hb : PE X b tb) (hm : behindInMarks op b = false) : PE X (.Compare a [op] [b] pos) (tOp r ta tb) := by
  intro pins s σ H Q I h
  exact wpAny_Compare1 (zkK ha hb I h fun v u s2 x y H2 I2 rx ry q => ho pins s2 σ H2 x y v u Q I2 rx ry q) hm
def ziO (t : TE) : TT := fun σ H Q => t σ H fun x H' => ∃ k, x = .bl k /\ Q k H'
theorem zhy {op : CmpOp} {r : R2} (ho : OpR X (compareOp op) r) (ha : PE X a ta) (hb : PE X b tb) (hm : behindInMarks op b = false) : PT X (.Compare a [op] [b] pos) (ziO (tOp r ta tb)) := by
  intro pins s σ H Q I h
  refine wpAny_isTrue_Compare1 (thn (ha pins s σ H _ I h) fun v s1 ⟨x, H1, I1, r1, q1⟩ => thn (hb pins s1 σ H1 _ I1 q1) fun u s2 ⟨y, H2, I2, r2, q2⟩ =>
    thn (ho pins s2 σ H2 x y v u _ I2 r1 r2 q2) fun c s3 ⟨z, H3, I3, r3, k, e, q3⟩ => ?_) hm
  subst e
  cases r3
  exact wpAny_truthy_bool ⟨H3, I3, q3⟩
def ziN (r r' : R2) (ta tb tc : TE) : TE := fun σ H Q => ta σ H fun x H1 => tb σ H1 fun y H2 => r x y H2 fun z H3 => ∃ k, z = .bl k /\
  (if k = true then tc σ H3 fun w' H4 => r' y w' H4 Q else Q (.bl false) H3)
theorem zfr {op op' : CmpOp} {r r' : R2} (ho : OpR X (compareOp op) r) (ho' : OpR X (compareOp op') r') (ha : PE X a ta) (hb : PE X b tb) (hc : PE X c tc)
    (hm : lastMarks [op, op'] [b, c] = false := by with_unfolding_all rfl) : PE X (.Compare a [op, op'] [b, c] pos) (ziN r r' ta tb tc) := by
  intro pins s σ H Q I h
  refine Compare_chain (thn (ha pins s σ H _ I h) fun v s1 ⟨x, H1, I1, r1, q1⟩ => chain_link (thn (hb pins s1 σ H1 _ I1 q1) fun u s2 ⟨y, H2, I2, r2, q2⟩ =>
    thn (ho pins s2 σ H2 x y v u _ I2 r1 r2 q2) fun d s3 ⟨z, H3, I3, r3, k, e, q3⟩ => ?_)) hm
  subst e
  cases r3
  refine wpAny_truthy_bool ?_
  cases k with
  | false => exact ite_ff ⟨.bl false, H3, I3, rfl, q3⟩
  | true => exact ite_tt (chain_last (thn (hc pins s3 σ H3 _ I3 q3) fun w' s4 ⟨z', H4, I4, r4, q4⟩ => ho' pins s4 σ H4 y z' u w' Q I4 r2 r4 q4))
def zlg (K : PySem.W.Frag) (x : V) (H : Hp) (k : Bool) : Prop :=
  match x with
  | .non => k = false
  | .bl b => k = b
  | .int i => k = (i != 0)
  | .str y => y.length <= sizeLine /\ k = ((y.length : Int) != 0)
  | .byt y => y.size <= sizeLine /\ k = ((y.size : Int) != 0)
  | .ref p => (∃ xs, SqL K H p xs /\ k = !xs.isEmpty) \/ (∃ xs, SqT K H p xs /\ k = !xs.isEmpty) \/ ∃ kvs, H p = some (.dK kvs) /\ k = !kvs.isEmpty
  | _ => False
theorem zdi {κ : Type} {kvs : List (κ × V)} {vs : List (κ × Value)} (r : KV kvs vs) : (!vs.isEmpty) = !kvs.isEmpty := by
  cases r <;> rfl
theorem z9E {xs : List V} {its : List Value} (r : Vals xs its) : (!its.toArray.isEmpty) = !xs.isEmpty := by
  cases r <;> simp
theorem z9w : (sizeLine : Nat) < 2 ^ 63 := by rw [sizeLine_eq]; decide
theorem zj5 : zll X (fun x H Q => ∃ k, zlg X.K x H k /\ Q k H) := by
  intro pins s σ H x v Q I rx h
  obtain ⟨k, e, q⟩ := h
  have hl := z9w
  have hs : sizeLine = 16777216 := sizeLine_eq
  cases x with
  | non =>
    cases rx
    have e' : k = false := e
    subst e'
    exact truthy_none ⟨H, I, q⟩
  | bl b =>
    cases rx
    have e' : k = b := e
    subst e'
    exact wpAny_truthy_bool ⟨H, I, q⟩
  | int i =>
    obtain ⟨t, rfl⟩ := rx
    have e' : k = (i != 0) := e
    subst e'
    exact PySem.P.truthy_int ⟨H, I, q⟩
  | str y =>
    obtain ⟨t, rfl⟩ := rx
    obtain ⟨hy, e'⟩ : y.length <= sizeLine /\ k = ((y.length : Int) != 0) := e
    subst e'
    exact PySem.P.truthy_str (by omega) ⟨H, I.tok _, q⟩
  | byt y =>
    obtain ⟨t, rfl⟩ := rx
    obtain ⟨hy, e'⟩ : y.size <= sizeLine /\ k = ((y.size : Int) != 0) := e
    subst e'
    exact PySem.W.truthy_bytes (by omega) ⟨H, I.tok _, q⟩
  | ref p =>
    cases rx
    have e' : (∃ xs, SqL X.K H p xs /\ k = !xs.isEmpty) \/ (∃ xs, SqT X.K H p xs /\ k = !xs.isEmpty) \/ ∃ kvs, H p = some (.dK kvs) /\ k = !kvs.isEmpty := e
    rcases e' with ⟨xs, hx, e'⟩ | ⟨xs, hx, e'⟩ | ⟨kvs, hx, e'⟩
    · subst e'
      obtain ⟨its, r, pl, hz⟩ := I.list hx
      have hlen := r.length
      exact wpAny_truthy_list pl.isList (by simp only [List.size_toArray]; omega) ⟨H, I.tok _, by rw [z9E r]; exact q⟩
    · subst e'
      obtain ⟨its, r, pl, hz⟩ := I.tuple hx
      have hlen := r.length
      exact truthy_tuple pl (by simp only [List.size_toArray]; omega) ⟨H, I.tok _, by rw [z9E r]; exact q⟩
    · subst e'
      obtain ⟨hz, hS, vs, r, m⟩ : kvs.length <= sizeLine /\ (p == sysModules) = false /\ ∃ vs, KV kvs vs /\ s.heap.DictOf (z62 X.prog X.w) p vs := I.hok p _ hx
      have hlen : kvs.length = vs.length := Paired.length r
      exact wpAny_truthy_dict hS m (by omega) ⟨H, I.tok _, by rw [zdi r]; exact q⟩
  | _ => exact (show False from e).elim
theorem zg0 (ha : PE X a ta) (he : ∀ whole, isTrue a X.env whole = (do let v <- whole; standAt a.pos; holding [v] (truthy v))) :
    PT X a (fun σ H Q => ta σ H fun x H' => ∃ k, zlg X.K x H' k /\ Q k H') := by
  intro pins s σ H Q I h
  exact isTrue_plain (thn (ha pins s σ H _ I h) fun v s1 ⟨x, H1, I1, r1, q1⟩ => zj5 pins s1 σ H1 x v Q I1 r1 q1) (he _)
theorem zd2 : OpR X (binaryOp .Add) (fun x y H Q => ∃ i j, x = .str i /\ y = .str j /\ i.length + j.length <= sizeLine /\ Q (.str (i ++ j)) H) := by
  intro pins s σ H x y v u Q I rx ry h
  obtain ⟨i, j, rfl, rfl, hz, q⟩ := h
  obtain ⟨t, rfl⟩ := rx
  obtain ⟨t', rfl⟩ := ry
  exact add_str (fun t' tk => ⟨.str (i ++ j), H, I.tok _, ⟨_, rfl⟩, q⟩) hz
theorem z82 {x : V} {us : List Value} (r : Vals [x] us) : ∃ u, us = [u] /\ RelV x u := by
  cases r with
  | cons r1 r2 => cases r2; exact ⟨_, rfl, r1⟩
theorem zbM {x y : V} {us : List Value} (r : Vals [x, y] us) : ∃ u w', us = [u, w'] /\ RelV x u /\ RelV y w' := by
  cases r with
  | cons r1 r2 =>
    cases r2 with
    | cons r3 r4 => cases r4; exact ⟨_, _, rfl, r1, r3⟩
theorem zei (hc : X.calm = true) : CallR X (.builtin "max") (fun xs H Q => ∃ i j, xs = [.int i, .int j] /\ Q (.int (if j > i then j else i)) H) := by
  intro pins s σ H xs us Q I r h
  obtain ⟨i, j, rfl, q⟩ := h
  obtain ⟨u, w', rfl, ⟨t, rfl⟩, ⟨t', rfl⟩⟩ := zbM r
  refine max_two_ints (I.ok.hd hc) fun h' tk k => ⟨_, H, I.kept k, ?_, q⟩
  by_cases hj : j > i
  · rw [if_pos hj, if_pos hj]; exact ⟨_, rfl⟩
  · rw [if_neg hj, if_neg hj]; exact ⟨_, rfl⟩
theorem zdD (hc : X.calm = true) : CallR X (.builtin "min") (fun xs H Q => ∃ i j, xs = [.int i, .int j] /\ Q (.int (if j < i then j else i)) H) := by
  intro pins s σ H xs us Q I r h
  obtain ⟨i, j, rfl, q⟩ := h
  obtain ⟨u, w', rfl, ⟨t, rfl⟩, ⟨t', rfl⟩⟩ := zbM r
  refine min_two_ints (I.ok.hd hc) fun h' tk k => ⟨_, H, I.kept k, ?_, q⟩
  by_cases hj : j < i
  · rw [if_pos hj, if_pos hj]; exact ⟨_, rfl⟩
  · rw [if_neg hj, if_neg hj]; exact ⟨_, rfl⟩
theorem zev : CallR X (.type "int") (fun xs H Q => (∃ i, xs = [.int i] /\ Q (.int i) H) \/ ∃ k, xs = [.bl k] /\ Q (.int (if k then 1 else 0)) H) := by
  intro pins s σ H xs us Q I r h
  rcases h with ⟨i, rfl, q⟩ | ⟨k, rfl, q⟩
  · obtain ⟨u, rfl, t, rfl⟩ := z82 r
    exact call_int_int ⟨.int i, H, I, ⟨_, rfl⟩, q⟩
  · obtain ⟨u, rfl, r1⟩ := z82 r
    cases r1
    exact call_int_bool ⟨.int (if k then 1 else 0), H, I.tok _, ⟨_, rfl⟩, q⟩
theorem zas : CallR X (.type "str") (fun xs H Q => ∃ i, xs = [.int i] /\ i.natAbs.log2 < 1920 /\ Q (.str (toString i)) H) := by
  intro pins s σ H xs us Q I r h
  obtain ⟨i, rfl, hz, q⟩ := h
  obtain ⟨u, rfl, t, rfl⟩ := z82 r
  exact PySem.P.str_of_int hz ⟨.str _, H, I.tok _, ⟨_, rfl⟩, q⟩
def zl4 (K : PySem.W.Frag) (x : V) (H : Hp) (n : Nat) : Prop :=
  match x with
  | .str y => y.length <= sizeLine /\ n = y.length
  | .byt y => y.size <= sizeLine /\ n = y.size
  | .ref p => (∃ xs, SqL K H p xs /\ n = xs.length) \/ ∃ xs, SqT K H p xs /\ n = xs.length
  | _ => False
theorem z5s : CallR X (.builtin "len") (fun xs H Q => ∃ x n, xs = [x] /\ zl4 X.K x H n /\ Q (.int n) H) := by
  intro pins s σ H xs us Q I r h
  obtain ⟨x, n, rfl, e, q⟩ := h
  obtain ⟨u, rfl, rx⟩ := z82 r
  have hl := z9w
  have hs : sizeLine = 16777216 := sizeLine_eq
  cases x with
  | str y =>
    obtain ⟨t, rfl⟩ := rx
    obtain ⟨hy, e'⟩ : y.length <= sizeLine /\ n = y.length := e
    subst e'
    exact len_str (by omega) ⟨.int _, H, I.tok _, ⟨_, rfl⟩, q⟩
  | byt y =>
    obtain ⟨t, rfl⟩ := rx
    obtain ⟨hy, e'⟩ : y.size <= sizeLine /\ n = y.size := e
    subst e'
    exact PySem.W.len_bytes (by omega) ⟨.int _, H, I.tok _, ⟨_, rfl⟩, q⟩
  | ref p =>
    cases rx
    have e' : (∃ xs, SqL X.K H p xs /\ n = xs.length) \/ ∃ xs, SqT X.K H p xs /\ n = xs.length := e
    rcases e' with ⟨xs, hx, e'⟩ | ⟨xs, hx, e'⟩
    · subst e'
      obtain ⟨its, r', pl, hz⟩ := I.list hx
      have hlen := r'.length
      exact Calls.call_len_list pl.isList (by simp only [List.size_toArray]; omega) ⟨.int xs.length, H, I.tok _, ⟨_, by simp only [List.size_toArray]; rw [hlen]⟩, q⟩
    · subst e'
      obtain ⟨its, r', pl, hz⟩ := I.tuple hx
      have hlen := r'.length
      exact len_tuple pl (by simp only [List.size_toArray]; omega) ⟨.int xs.length, H, I.tok _, ⟨_, by simp only [List.size_toArray]; rw [hlen]⟩, q⟩
  | _ => exact (show False from e).elim
end
end L2
namespace L2
open PySem PySem.Spec PyProof.Rows
structure zlY (h : Heap) (x dx C : Addr) (mA : Str -> Option Value) : Prop where
  obj : h.get? x = some (PySem.W.instObj C dx)
  ns : h.Ns1 dx mA
  ne : dx ≠ x
section
variable {prog : Program} {w : World} {A : Around} {E : Value -> Shared -> Prop} {s : Shared} {K : PySem.W.Frag} {x dx C f : Addr} {mA : Str -> Option Value} {name : Str} {v : Value}
end
theorem RelO.some_of {v : V} {o : Option Value} (r : RelO (some v) o) : ∃ u, o = some u /\ RelV v u := by
  cases o with
  | none => exact (show False from r).elim
  | some u => exact ⟨u, rfl, r⟩
section
variable {P : Program} {w : World} {H H' : Hp} {h h' : Heap} {a C dx : Addr} {fs fs' : List (Str × V)}
end
structure Cls (K : PySem.W.Frag) (C : Addr) : Prop where
  pg : PySem.W.plainGet K C Str.empty = true
  hd : PySem.W.hasDictIn K C = true
  po : PySem.W.plainOver K C = true
  sa : PySem.W.findIn K (.ref C) "__setattr__" = some (some (.builtin "object.__setattr__"))
theorem Cls.get {K : PySem.W.Frag} {C : Addr} (c : Cls K C) (f : Str) : PySem.W.plainGet K C f = true := c.pg
structure Con (K : PySem.W.Frag) (C : Addr) (f : Str) (v : V) (u : Value) : Prop where
  at_ : PySem.W.findIn K (.ref C) f = some (some u)
  rel : RelV v u
  get : PySem.W.specialIn K u "__get__" = some none
  cp : PySem.W.copiedNames.contains f = false
structure zlX (K : PySem.W.Frag) (C : Addr) (m : Str) (f : Addr) : Prop where
  at_ : PySem.W.findIn K (.ref C) m = some (some (.ref f))
  fn : PySem.W.isFn K (.ref f) = true
  kp : PySem.W.keepIn K (.ref f) = true
section
variable {X : Cx} {pins : List (Addr × Obj)} {σ : St} {H : Hp} {s : Shared} {a C dx : Addr} {fs : List (Str × V)} {f : Str} {v : V} {A : Around} {E : Value -> Shared -> Prop}
end
section
variable {X : Cx} {o e value : Expr} {f : Str} {pos pos' tpos : Pos} {ta tv : TE}
end
section
variable {X : Cx} {pins : List (Addr × Obj)} {σ : St} {H : Hp} {s : Shared} {A : Around} {E : Value -> Shared -> Prop} {Q : Value -> Shared -> Prop} {c : Value} {b : Bool}
inductive zes (K : PySem.W.Frag) (H : Hp) : V -> Value -> Prop where
  | non : zes K H .non (.type "NoneType")
  | bl (x : Bool) : zes K H (.bl x) (.type "bool")
  | int (i : Int) : zes K H (.int i) (.type "int")
  | str (x : Str) : zes K H (.str x) (.type "str")
  | flt (x : UInt64) : zes K H (.flt x) (.type "float")
  | lst {a : Addr} {xs : List V} (e : H a = some (.lst xs)) : zes K H (.ref a) (.type "list")
  | frz {a : Addr} {o : Obj} {xs : List V} (e : H a = some (.frz o (.lst xs))) : zes K H (.ref a) (.type "list")
  | tup {a : Addr} {xs : List V} (e : H a = some (.tup xs)) : zes K H (.ref a) (.type "tuple")
  | dK {a : Addr} {kvs : List (Key × V)} (e : H a = some (.dK kvs)) : zes K H (.ref a) (.type "dict")
  | dT {a : Addr} {kvs : List (List Key × V)} (e : H a = some (.dT kvs)) : zes K H (.ref a) (.type "dict")
  | ins {a C dx : Addr} {fs : List (Str × V)} (e : H a = some (.ins C dx fs)) (cl : Cls K C) (ha : PySem.W.findIn K (.ref C) "__class__" = some (some (.builtin "object.__class__")))
      (hn : PySem.W.specialIn K (.builtin "object.__class__") "__get__" = some (some (.builtin "getset_descriptor.__get__"))) (htk : PySem.W.takesIn K (.builtin "object.__class__") = some true)
      (hm : PySem.W.mroIn K C (.type "object") = some true) : zes K H (.ref a) (.ref C)
end
end L2
namespace L2
open PySem PySem.Spec PyProof.Rows
structure Room (k : Nat) (A : Around) : Prop where
  hd : A.handled = none
  dp : A.depth + 3 * k + 5 < recursionLimit
  un : A.units + 16 * k + 200 < cLine
theorem Room.mono {j k : Nat} {A : Around} (r : Room k A) (h : j <= k) : Room j A := ⟨r.hd, by have := r.dp; omega, by have := r.un; omega⟩
theorem Room.deeper {k : Nat} {A : Around} (r : Room (k + 1) A) (env : Env) : Room k (A.deeper env) :=
  ⟨r.hd, by have := r.dp; show A.depth + 1 + 3 * k + 5 < _; omega, by have := r.un; show A.units + 3 + 16 * k + 200 < _; omega⟩
theorem Room.depth {k : Nat} {A : Around} (r : Room k A) : A.depth < recursionLimit := by have := r.dp; omega
theorem Room.units {k : Nat} {A : Around} (r : Room k A) : A.units + 64 < cLine := by have := r.un; omega
def zlw : TA := fun _ H Q => Q [] H
def zkp (ta : TE) (tr : TA) : TA := fun σ H Q => ta σ H fun x H1 => tr σ H1 fun xs H2 => Q (x :: xs) H2
section
variable {X : Cx} {e : Expr} {es : List Expr} {te : TE} {t : TA} {pos : Pos}
theorem z97 : PA X [] zlw := fun _ _ _ _ H Q I h => Calls.spliced_nil ⟨[], H, I, .nil, h⟩
theorem z6o (ha : PE X e te) (hr : PA X es t) (hs : starEach (e :: es) X.env = (false, eval e X.env) :: starEach es X.env := by rfl) : PA X (e :: es) (zkp te t) := by
  intro pos pins s σ H Q I h
  rw [hs]
  show wpAny _ _ (spliced ((false, eval e X.env) :: backTo pos (starEach es X.env))) _ _ s
  refine Calls.spliced_cons (thn (ha pins s σ H _ I h) fun u s1 ⟨x, H1, I1, r1, q1⟩ => ?_)
  exact thn (hr pos pins s1 σ H1 _ I1 q1) fun us s2 ⟨xs, H2, I2, r2, q2⟩ => ⟨x :: xs, H2, I2, .cons r1 r2, q2⟩
def zlC (t : TA) : TE := fun σ H Q => t σ H fun xs H1 => xs.length <= sizeLine /\ ∀ p, H1 p = none -> Q (.ref p) (upd H1 p (.tup xs))
def zlG (t : TA) : TE := fun σ H Q => t σ H fun xs H1 => xs.length <= sizeLine /\ ∀ p, H1 p = none -> Q (.ref p) (upd H1 p (.lst xs))
theorem zgO {x1} (h : PA X es t) : PE X (.Tuple es x1 pos) (zlC t) := by
  intro pins s σ H Q I hq
  refine wpAny_Tuple_spliced (thn (h pos pins s σ H _ I hq) fun us s1 ⟨xs, H1, I1, r, z, q⟩ => ⟨by rw [<- r.length]; exact z, ?_⟩)
  have hf : H1 s1.heap.objs.size = none := I1.hok.fresh (Nat.le_refl _)
  refine ⟨.ref s1.heap.objs.size, upd H1 s1.heap.objs.size (.tup xs), I1.laid (t' := s1.toks) (fun b u e => Heap.get?_push_of_some _ e) (Nat.le_refl _) ?_, rfl, q _ hf⟩
  exact ⟨z, us, r, ⟨_, Heap.get?_push_size _ rfl, rfl, _, rfl⟩⟩
theorem zgN (h : PA X es t) : PE X (.List es pos) (zlG t) := by
  intro pins s σ H Q I hq
  refine wpAny_List_spliced (thn (h pos pins s σ H _ I hq) fun us s1 ⟨xs, H1, I1, r, z, q⟩ => ⟨by rw [<- r.length]; exact z, ?_⟩)
  have hf : H1 s1.heap.objs.size = none := I1.hok.fresh (Nat.le_refl _)
  refine ⟨.ref s1.heap.objs.size, upd H1 s1.heap.objs.size (.lst xs), I1.laid (t' := s1.toks) (fun b u e => Heap.get?_push_of_some _ e) (Nat.le_refl _) ?_, rfl, q _ hf⟩
  exact ⟨z, us, 0, r, Heap.get?_push_size _ rfl⟩
end
abbrev Sp := List V -> Hp -> VK -> XK -> Prop
abbrev CXT := List Env -> Hp -> Shared -> XK -> Value -> Shared -> Prop
structure zh2 (P : Program) (w : World) (K : PySem.W.Frag) (mg : Str -> Option Value) (base : Heap) (A : Around) (outer : List Env) (s : Shared) (H : Hp) : Prop where
  frames : A.frames = some outer
  mod : Mod K mg base
  bs : ∀ b o, base.get? b = some o -> s.heap.get? b = some o /\ H b = none
  bsz : base.objs.size <= s.heap.objs.size
  funs : s.heap.FunFrames base outer
  frf : ∀ b ∈ frs outer, H b = none
  hok : HOk P w H s.heap
  bare : AllBare s.gens
def CE (outer : List Env) (P : Program) (w : World) (H : Hp) (s : Shared) (Q : VK) (u : Value) (s' : Shared) : Prop :=
  ∃ v H', s'.os = s.os /\ AllBare s'.gens /\ Un (frs outer) [] H H' s.heap s'.heap /\ HOk P w H' s'.heap /\ RelV v u /\ Q v H'
def CR (CX : CXT) (outer : List Env) (P : Program) (w : World) (H : Hp) (s : Shared) (Q : VK) (E : XK) (r : Result) (s' : Shared) : Prop :=
  match r with
  | .ok (.ret u) => CE outer P w H s Q u s'
  | .ok _ => False
  | .error e => CX outer H s E e s'
structure FnOk (P : Program) (w : World) (K : PySem.W.Frag) (mg : Str -> Option Value) (base : Heap) (CX : CXT) (k : Nat) (f : Addr) (fd : FuncData) (ps : List Str) (sp : Sp) : Prop where
  len : ∀ vs H Q E, sp vs H Q E -> vs.length = ps.length
  run : ∀ (A : Around) (outer : List Env) (s : Shared) (H : Hp) (args : Args) (us : List Value) (vs : List V) (Q : VK) (E : XK), Room k A -> zh2 P w K mg base A outer s H -> BindsTo s fd args (ps.zip us) -> Vals vs us -> sp vs H Q E ->
    codeAny (model P w) A (.call (.ref f) args) (CR CX outer P w H s Q E) s
theorem FnOk.mono {P : Program} {w : World} {K : PySem.W.Frag} {mg : Str -> Option Value} {base : Heap} {CX : CXT} {j k : Nat} {f : Addr} {fd : FuncData} {ps : List Str} {sp : Sp} (F : FnOk P w K mg base CX j f fd ps sp) (h : j <= k) :
    FnOk P w K mg base CX k f fd ps sp := ⟨F.len, fun A outer s H args us vs Q E hr => F.run A outer s H args us vs Q E (hr.mono h)⟩
theorem FnOk.imp {P : Program} {w : World} {K : PySem.W.Frag} {mg : Str -> Option Value} {base : Heap} {CX : CXT} {k : Nat} {f : Addr} {fd : FuncData} {ps : List Str} {sp sp' : Sp} (F : FnOk P w K mg base CX k f fd ps sp)
    (h : ∀ vs H Q E, sp' vs H Q E -> sp vs H Q E) : FnOk P w K mg base CX k f fd ps sp' :=
  ⟨fun vs H Q E q => F.len vs H Q E (h _ _ _ _ q), fun A outer s H args us vs Q E hr he hb hv hs => F.run A outer s H args us vs Q E hr he hb hv (h _ _ _ _ hs)⟩
section
variable {X : Cx} {pins : List (Addr × Obj)} {σ : St} {H : Hp} {s s' : Shared}
theorem Inv.env0 (I : Inv X pins σ H s) : zh2 X.prog X.w X.K X.mg X.base X.A X.stack s H :=
  ⟨I.ok.frames, I.ok.mod, I.bs, Nat.le_trans I.ok.bsz I.sz, I.stack, I.stkFree, I.hok, I.bare⟩
theorem Inv.after {Q : VK} {u : Value} (I : Inv X pins σ H s) (h : CE X.stack X.prog X.w H s Q u s') : EP X pins σ Q u s' := by
  obtain ⟨v, H', os, bare, un, hok, r, q⟩ := h
  obtain ⟨hh, g, d, t, os'⟩ := s'
  obtain rfl : os' = s.os := os
  exact ⟨v, H', I.call (h' := hh) (g' := g) (d' := d) (t' := t) (ch := []) un hok bare (fun b z => absurd z (by simp)), r, q⟩
end
def zkG (sp : Sp) (dvs : List V) (E : XK) (t : TA) : TE := fun σ H Q => t σ H fun vs H1 => sp (vs ++ dvs) H1 Q E
def Binds (K : PySem.W.Frag) (fd : FuncData) (ps : List Str) (ds : List Value) : Prop :=
  ∀ (s : Shared) (us : List Value), K.In s.heap -> (us ++ ds).length = ps.length -> BindsTo s fd ⟨us, []⟩ (ps.zip (us ++ ds))
theorem Binds.all {K : PySem.W.Frag} {fd : FuncData} {ps : List Str} (h : ∀ us : List Value, us.length = ps.length -> bindArgs fd ⟨us, []⟩ = pure (ps.zip us)) : Binds K fd ps [] := fun s us _ hl => by
  rw [List.append_nil] at hl ⊢
  exact .of_eq (h us hl)
def z9x (CX : CXT) (X : Cx) (E : XK) : Prop := ∀ (pins : List (Addr × Obj)) (σ : St) (H : Hp) (s : Shared) (e : Value) (s' : Shared), Inv X pins σ H s -> CX X.stack H s E e s' -> X.xe e s'
section
variable {X : Cx} {CX : CXT} {k : Nat} {f C : Addr} {fd : FuncData} {ps : List Str} {sp : Sp} {dvs : List V} {ds : List Value} {E : XK} {x m : Str} {p pos apos : Pos} {e o : Expr} {es : List Expr} {ta : TE} {t : TA}
theorem zjf {pins : List (Addr × Obj)} {σ : St} {H : Hp} {s : Shared} {Q : VK} {us : List Value} {vs : List V} (F : FnOk X.prog X.w X.K X.mg X.base CX k f fd ps sp) (hr : Room k X.A) (hb : Binds X.K fd ps ds) (hd : Vals dvs ds) (hx : z9x CX X E)
    (I : Inv X pins σ H s) (r : Vals vs us) (h : sp (vs ++ dvs) H Q E) : wpAny (model X.prog X.w) X.A (call (.ref f) us) (EP X pins σ Q) X.xe s := by
  have r2 : Vals (vs ++ dvs) (us ++ ds) := r.append hd
  have hl : (us ++ ds).length = ps.length := by rw [<- r2.length]; exact F.len _ _ _ _ h
  refine wpAny_call (codeAny_mono (F.run X.A X.stack s H ⟨us, []⟩ (us ++ ds) (vs ++ dvs) Q E hr I.env0 (hb s us I.kIn hl) r2 h) fun r s' hq => ?_)
  cases r with
  | error e => exact hx pins σ H s e s' I hq
  | ok fl =>
    cases fl with
    | ret u => exact I.after hq
    | next => exact False.elim hq
    | brk => exact False.elim hq
    | cont => exact False.elim hq
theorem zi6 (F : FnOk X.prog X.w X.K X.mg X.base CX k f fd ps sp) (hr : Room k X.A) (hg : Gl X x) (hm : X.mg x = some (.ref f)) (hk : PySem.W.keepIn X.K (.ref f) = true) (hb : Binds X.K fd ps ds) (hd : Vals dvs ds) (hx : z9x CX X E)
    (ha : PA X (e :: es) t) (hdb : (x == ("__debug__" : Str)) = false := by decide) (he : starEach (e :: es) X.env = (false, eval e X.env) :: starEach es X.env := by rfl) (hpl : (backTo pos (starEach es X.env)).any (·.1) = false := by rfl) :
    PE X (.Call (.Name x p) (e :: es) [] pos) (zkG sp dvs E t) := by
  intro pins s σ H Q I h
  refine wpAny_Call_Name_kw (z91 I hg hm ?_ hdb)
  refine PySem.W.callWith_K (h₀ := X.base) I.ok.mod.kin hk (thn (ha pos pins s σ H _ I h) fun us s1 ⟨vs, H1, I1, r, q⟩ => ⟨I1.kIn, ?_⟩) he hpl
  exact zjf F hr hb hd hx I1 r q
structure Mk (K : PySem.W.Frag) (C f : Addr) : Prop where
  makes : PySem.W.makesIn K C = true
  init : PySem.W.findIn K (.ref C) "__init__" = some (some (.ref f))
  fn : PySem.W.isFn K (.ref f) = true
  kp : PySem.W.keepIn K (.ref C) = true
end
section
variable {X : Cx} {CX : CXT} {k : Nat} {f C : Addr} {fd : FuncData} {ps ks : List Str} {sp : Sp} {E : XK} {x m : Str} {p pos apos kpos : Pos} {e o : Expr} {es : List Expr} {kws : List Keyword} {te ta : TE} {t tk : TA} {nm : Option Str}
structure zkZ (K : PySem.W.Frag) (fd : FuncData) (ps ks : List Str) (g : List Value -> List Value -> List Value) (gV : List V -> List V -> List V) : Prop where
  to : ∀ (s : Shared) (us ws : List Value), K.In s.heap -> (g us ws).length = ps.length -> BindsTo s fd ⟨us, ks.zip ws⟩ (ps.zip (g us ws))
  rel : ∀ {vs : List V} {us : List Value} {zs : List V} {ws : List Value}, Vals vs us -> Vals zs ws -> Vals (gV vs zs) (g us ws)
variable {g : List Value -> List Value -> List Value} {gV : List V -> List V -> List V}
end
structure z4X (N P : List Str) (sc : Scope) : Prop where
  kind : sc.kind = .function
  co : sc.isCoroutine = false
  gen : sc.isGenerator = false
  nd : N.Nodup
  pre : N.take P.length = P
  par : ∀ x ∈ P, sc.names.lookup x = some .local \/ sc.names.lookup x = some .cell
  nofree : ∀ y ∈ sc.names, y.2 ≠ .free
theorem zaU {kindOf : Str -> Option NameKind} {x : Str} : ∀ {binds : List (Str × Value)} {m : Str -> Option Value}, (∀ v, (x, v) ∉ binds) -> bindL kindOf binds m x = m x
  | [], _, _ => rfl
  | (n, v) :: r, m, h => by
    unfold bindL
    rw [zaU fun w hw => h w (List.mem_cons_of_mem _ hw)]
    split
    · have : x ≠ n := by rintro rfl; exact h v List.mem_cons_self
      simp [this]
    · rfl
theorem zbq {kindOf : Str -> Option NameKind} {x : Str} : ∀ {binds : List (Str × Value)} {m : Str -> Option Value}, (∀ v, (x, v) ∉ binds) -> bindC kindOf binds m x = m x
  | [], _, _ => rfl
  | (n, v) :: r, m, h => by
    unfold bindC
    rw [zbq fun w hw => h w (List.mem_cons_of_mem _ hw)]
    split
    · rfl
    · have : x ≠ n := by rintro rfl; exact h v List.mem_cons_self
      simp [this]
theorem zbk {kindOf : Str -> Option NameKind} {x : Str} {v : Value} : ∀ {P : List Str} {vs : List Value} {i : Nat} {m : Str -> Option Value}, P.Nodup -> P[i]? = some x -> vs[i]? = some v -> kindOf x = some .local ->
    bindL kindOf (P.zip vs) m x = some v
  | [], _, _, _, _, h, _, _ => by simp at h
  | _ :: _, [], _, _, _, _, h, _ => by simp at h
  | p :: P, w :: vs, 0, m, nd, h1, h2, hk => by
    simp at h1 h2; subst h1; subst h2
    show bindL kindOf ((p, w) :: P.zip vs) m p = _
    unfold bindL
    rw [zaU fun v hv => (List.nodup_cons.mp nd).1 (List.of_mem_zip hv).1, if_pos hk]
    simp
  | p :: P, w :: vs, i + 1, m, nd, h1, h2, hk => by
    show bindL kindOf ((p, w) :: P.zip vs) m x = _
    unfold bindL
    exact zbk (i := i) (List.nodup_cons.mp nd).2 (by simpa using h1) (by simpa using h2) hk
theorem zaN {kindOf : Str -> Option NameKind} {x : Str} {v : Value} : ∀ {P : List Str} {vs : List Value} {i : Nat} {m : Str -> Option Value}, P.Nodup -> P[i]? = some x -> vs[i]? = some v -> kindOf x ≠ some .local ->
    bindC kindOf (P.zip vs) m x = some v
  | [], _, _, _, _, h, _, _ => by simp at h
  | _ :: _, [], _, _, _, _, h, _ => by simp at h
  | p :: P, w :: vs, 0, m, nd, h1, h2, hk => by
    simp at h1 h2; subst h1; subst h2
    show bindC kindOf ((p, w) :: P.zip vs) m p = _
    unfold bindC
    rw [zbq fun v hv => (List.nodup_cons.mp nd).1 (List.of_mem_zip hv).1, if_neg hk]
    simp
  | p :: P, w :: vs, i + 1, m, nd, h1, h2, hk => by
    show bindC kindOf ((p, w) :: P.zip vs) m x = _
    unfold bindC
    exact zaN (i := i) (List.nodup_cons.mp nd).2 (by simpa using h1) (by simpa using h2) hk
def start (N : List Str) (vs : List V) : St := vs.map some ++ List.replicate (N.length - vs.length) none
def zg3 (CX : CXT) (P : Program) (w : World) (K : PySem.W.Frag) (mg : Str -> Option Value) (base : Heap) (N : List Str) (qual : Str) (scope : Scope) (f : Addr) (cd : Value) (A : Around) (outer : List Env) (s : Shared) (H : Hp) (E : XK) : Cx where
  prog := P
  w := w
  K := K
  mg := mg
  base := base
  A := A.deeper (envOfC qual scope s.heap.objs.size f cd)
  N := N
  s₀ := s
  H₀ := H
  env := envOfC qual scope s.heap.objs.size f cd
  outer := outer
  stack := envOfC qual scope s.heap.objs.size f cd :: outer
  ex := []
  calm := true
  fn := fun _ => true
  pn := []
  xe := fun e s' => wpAny (model P w) (A.deeper (envOfC qual scope s.heap.objs.size f cd)) (leaving (envOfC qual scope s.heap.objs.size f cd) e) (fun _ s'' => CX outer H s E e s'') (fun e' s'' => CX outer H s E e' s'') s'
theorem zcp {sc : Scope} {n : Nat} {x : Str} (h : sc.names.lookup x = some .cell) : ∃ c, (cellsFrom n sc.names []).lookup x = some c := by
  have q := PySem.W.cellsFrom_some sc.names n [] (.inl h)
  exact Option.isSome_iff_exists.mp q
theorem zaZ {CX : CXT} {P : Program} {w : World} {K : PySem.W.Frag} {mg : Str -> Option Value} {base : Heap} {N ps : List Str} {qual : Str} {scope : Scope} {f : Addr} {cd : Value} {A : Around} {outer : List Env} {s s1 : Shared} {H : Hp} {E : XK} {us : List Value} {vs : List V}
    (S : z4X N ps scope) (hd : A.handled = none) (e0 : zh2 P w K mg base A outer s H) (hl : vs.length = ps.length) (r : Vals vs us)
    (x : InCallC s s.heap.objs.size (bindL (envOfC qual scope s.heap.objs.size f cd).kindOf (ps.zip us) fun _ => none) (cellsFrom (s.heap.objs.size + 1) scope.names []) (bindC (envOfC qual scope s.heap.objs.size f cd).kindOf (ps.zip us) fun _ => none) s1) :
    Inv (zg3 CX P w K mg base N qual scope f cd A outer s H E) [] (start N vs) H s1 := by
  have hpl : ps.length <= N.length := by have := congrArg List.length S.pre; rw [List.length_take] at this; omega
  obtain ⟨h1, tk, rfl, hk⟩ := x.done
  have noA : ∀ b : Addr, b ∉ (zg3 CX P w K mg base N qual scope f cd A outer s H E).ex := fun b z => absurd (show b ∈ ([] : List Addr) from z) (by simp)
  refine ⟨⟨e0.mod, S.kind, rfl, rfl, Nat.le_refl _, fun y z c h1 h2 => ?_, fun y hy => ?_, fun y c _ h => ?_, fun _ => hd, Around.frames_deeper e0.frames, .inr ⟨rfl, rfl⟩, fun b z => absurd z (noA b), e0.bs, e0.bsz, fun b _ _ => noA b, fun b z => absurd z (noA b), e0.funs, e0.frf⟩,
    rfl, e0.bare, Un.kept hk, ⟨_, x.toInCall.ns, fun i y v h1 h2 h3 => ?_⟩, fun y c h => ⟨_, x.cell y c h⟩, e0.hok.fresh (Nat.le_refl _), fun y c h => ?_, fun p hp => absurd (show p ∈ ([] : List (Addr × Obj)) from hp) (by simp), e0.hok.kept hk, ?_⟩
  · exact name_of_addr x.apart (PySem.mem_of_lookup h1) (PySem.mem_of_lookup h2)
  · have hy : scope.names.lookup y = some .cell \/ scope.names.lookup y = some .free := hy
    rcases hy with hy | hy
    · exact zcp hy
    · exact absurd rfl (S.nofree _ (PySem.mem_of_lookup hy))
  · exact Nat.le_of_lt (x.above y c (PySem.mem_of_lookup h))
  · have hi : i < vs.length := by
      unfold start at h2
      by_cases hi : i < vs.length
      · exact hi
      · rw [List.getElem?_append_right (by simpa using hi)] at h2
        rw [List.getElem?_replicate] at h2
        split at h2 <;> cases h2
    have ha : vs[i]? = some v := by
      unfold start at h2
      rw [List.getElem?_append_left (by simpa using hi), List.getElem?_map] at h2
      cases e : vs[i]? with
      | none => rw [e] at h2; cases h2
      | some a => rw [e] at h2; cases h2; rfl
    obtain ⟨u, hu, rv⟩ := r.get ha
    have hp : ps[i]? = some y := by
      rw [<- S.pre, List.getElem?_take_of_lt (by omega)]; exact h1
    have ndP : ps.Nodup := by rw [<- S.pre]; exact S.nd.sublist (List.take_sublist _ _)
    refine ⟨u, rv, ?_⟩
    rcases S.par y (List.mem_of_getElem? hp) with k | k
    · exact .inl ⟨k, zbk ndP hp hu k⟩
    · obtain ⟨c, e⟩ := zcp (n := s.heap.objs.size + 1) k
      refine .inr ⟨.inl k, c, e, ?_⟩
      have q := x.cell y c e
      rw [zaN ndP hp hu (by show scope.names.lookup y ≠ _; rw [k]; decide)] at q
      exact q
  · exact e0.hok.fresh (Nat.le_of_lt (x.above y c (PySem.mem_of_lookup h)))
  · unfold start
    show _ = N.length
    rw [List.length_append, List.length_map, List.length_replicate]
    omega
theorem zfT {CX : CXT} {P : Program} {w : World} {K : PySem.W.Frag} {mg : Str -> Option Value} {base : Heap} {k : Nat} {f : Addr} {name qual : Str} {params : Arguments} {body : List Stmt} {scope : Scope} {dV kV doc pm cdv ct oc : Value} {an od : Option Addr}
    {osl : Array (Option Value)} {N ps : List Str} {sp : Sp} (lk : K.lookup f = some ⟨oc, od, .func (PySem.W.fnOf name qual params body scope dV kV doc pm an cdv ct), osl⟩) (hcd : PySem.W.codeIn K cdv qual = true) (S : z4X N ps scope)
    (len : ∀ vs H Q E, sp vs H Q E -> vs.length = ps.length)
    (hbody : ∀ (A : Around) (outer : List Env) (s : Shared) (H : Hp) (vs : List V) (Q : VK) (E : XK), Room k (A.deeper (envOfC qual scope s.heap.objs.size f cdv)) -> sp vs H Q E ->
      ∃ t, PSs (zg3 CX P w K mg base N qual scope f cdv A outer s H E) body t /\ t { nx := fun _ H' => Q .non H', rt := Q } (start N vs) H) :
    FnOk P w K mg base CX (k + 1) f (PySem.W.fnOf name qual params body scope dV kV doc pm an cdv ct) ps sp := by
  refine ⟨len, fun A outer s H args us vs Q E hr e0 hb r hsp => ?_⟩
  have hl := len _ _ _ _ hsp
  have KX : K.In s.heap := e0.mod.kin.keeps fun b o e => (e0.bs b o e).1
  have lim : s.heap.NoLimit := e0.mod.nolimit.keeps fun b o e => (e0.bs b o e).1
  have hkind : ∀ y ∈ ps.zip us, scope.names.lookup y.1 = some .local \/ (scope.names.lookup y.1 = some .cell /\ ((cellsFrom (s.heap.objs.size + 1) scope.names []).lookup y.1).isSome = true) := fun ⟨n, v⟩ hy => by
    rcases S.par n (List.of_mem_zip hy).1 with q | q
    · exact .inl q
    · exact .inr ⟨q, PySem.W.cellsFrom_some _ _ _ (.inl q)⟩
  refine codeAny_call_function hr.depth (KX _ _ lk) rfl S.co S.gen rfl (PySem.W.codeRec_of KX hcd) (hb _ _ _ _ ?_)
  refine wpAny_newFunctionEnv_cells S.kind hkind fun env he s1 x => ?_
  subst he
  refine ⟨lim.keeps x.toInCall.keep, codeAny_func ?_⟩
  obtain ⟨t, ht, hq⟩ := hbody A outer s H vs Q E (hr.deeper _) hsp
  have I : Inv (zg3 CX P w K mg base N qual scope f cdv A outer s H E) [] (start N vs) H s1 := zaZ S hr.hd e0 hl r x
  refine wpAny_mono (ht [] s1 (start N vs) H _ I hq) (fun fl s' hs => ?_) fun e s' hs => hs
  have fin : ∀ {σ' : St} {H' : Hp} {v : V} {u : Value}, Inv (zg3 CX P w K mg base N qual scope f cdv A outer s H E) [] σ' H' s' -> RelV v u -> Q v H' -> CE outer P w H s Q u s' :=
    fun {σ' H' v u} J rv q => ⟨v, H', J.os, J.bare, J.base, J.hok, rv, q⟩
  cases fl with
  | ret u =>
    obtain ⟨v, σ', H', J, rv, q⟩ := hs
    exact fin J rv q
  | next =>
    obtain ⟨σ', H', J, q⟩ := hs
    exact fin (v := V.non) (u := Value.none) J rfl q
  | brk =>
    obtain ⟨_, _, _, q⟩ := hs
    exact False.elim q
  | cont =>
    obtain ⟨_, _, _, q⟩ := hs
    exact False.elim q
end L2
namespace L2
open PySem PySem.Spec PyProof.Rows
section
variable {X : Cx} {x : Str} {p pos : Pos} {e : Expr} {es : List Expr} {t : TA} {id T : String} {r : List V -> Hp -> VK -> Prop}
def tCB (r : List V -> Hp -> VK -> Prop) (t : TA) : TE := fun σ H Q => t σ H fun vs H1 => r vs H1 Q
theorem z7g (hc : CallR X (.builtin id) r) (hg : Gl X x) (hm : X.mg x = none) (hv : bootBuiltins x = some (.builtin id)) (ha : PA X (e :: es) t) (hn : x ≠ "__name__" := by decide) (hdb : (x == ("__debug__" : Str)) = false := by decide)
    (he : starEach (e :: es) X.env = (false, eval e X.env) :: starEach es X.env := by rfl) (hpl : (backTo pos (starEach es X.env)).any (·.1) = false := by rfl) : PE X (.Call (.Name x p) (e :: es) [] pos) (tCB r t) := by
  intro pins s σ H Q I h
  refine wpAny_Call_Name_kw (z9D I hg hm hv ?_ hn hdb)
  exact PyProof.Rows.callWith_builtin1 (thn (ha pos pins s σ H _ I h) fun us s1 ⟨vs, H1, I1, r1, q1⟩ => hc pins s1 σ H1 vs us Q I1 r1 q1) he hpl
theorem zb3 (hc : CallR X (.type T) r) (hg : Gl X x) (hm : X.mg x = none) (hv : bootBuiltins x = some (.type T)) (ha : PA X (e :: es) t) (hn : x ≠ "__name__" := by decide) (hdb : (x == ("__debug__" : Str)) = false := by decide)
    (he : starEach (e :: es) X.env = (false, eval e X.env) :: starEach es X.env := by rfl) (hpl : (backTo pos (starEach es X.env)).any (·.1) = false := by rfl) : PE X (.Call (.Name x p) (e :: es) [] pos) (tCB r t) := by
  intro pins s σ H Q I h
  refine wpAny_Call_Name_kw (z9D I hg hm hv ?_ hn hdb)
  exact PyProof.Rows.callWith_type1 (thn (ha pos pins s σ H _ I h) fun us s1 ⟨vs, H1, I1, r1, q1⟩ => hc pins s1 σ H1 vs us Q I1 r1 q1) he hpl
end
end L2
namespace HT
open PySem PyProof.Rows
section
open PySem.SeqAt
open PySem.AutoSeq1 (wpAny_loadPart')
open PySem.MeetsSeq PySem.MeetsSeq2 PySem.MeetsSeq3
end
section
variable {prog : Program} {w : World} {A : Around} {E : Value -> Shared -> Prop} {s : Shared}
theorem cat_tup {t b : Addr} {vs ws : List Value} {Q : Value -> Shared -> Prop} (ht : IsTup s.heap t vs.toArray) (hb : IsTup s.heap b ws.toArray) (hv : vs ≠ [])
    (h1 : ws = [] -> Q (.ref t) s) (h2 : ws ≠ [] -> Q (.ref s.heap.objs.size) { s with heap := s.heap.push { cls := .type "tuple", data := .seq (vs ++ ws).toArray } })
    (hsz : vs.length + ws.length <= sizeLine) : wpAny (model prog w) A (binaryOp .Add (.ref t) (.ref b)) Q E s := by
  obtain ⟨⟨cls, dd, data, sl⟩, ho, hc, n, hd⟩ := id ht
  obtain ⟨⟨cls2, dd2, data2, sl2⟩, ho2, hc2, n2, hd2⟩ := id hb
  simp only at hc hd hc2 hd2
  subst hc hd hc2 hd2
  have e : vs.toArray ++ ws.toArray = (vs ++ ws).toArray := by simp
  by_cases hw : ws = []
  · exact concat_meets ⟨_, ho, rfl⟩ ⟨_, ho2, rfl⟩ noFill_tuple_add seq_tuple_add PySem.F.slot_tuple_add PySem.F.entry_tuple_add (PySem.F.args_tuple_add_2 _ _)
      (tuple_addW1 t b vs.toArray ws.toArray n n2 dd dd2 sl sl2 (by simpa using hv) (by simp [hw])) ⟨ho, ho2, h1 hw⟩
  · refine concat_meets ⟨_, ho, rfl⟩ ⟨_, ho2, rfl⟩ noFill_tuple_add seq_tuple_add PySem.F.slot_tuple_add PySem.F.entry_tuple_add (PySem.F.args_tuple_add_2 _ _)
      (tuple_addW2 t b vs.toArray ws.toArray n n2 dd dd2 sl sl2 (by simpa using hv) (by simpa using hw) (by rw [List.size_toArray, List.size_toArray]; exact hsz)) ⟨ho, ho2, ?_⟩
    rw [e]
    exact h2 hw
def sIx (n d : Nat) : Option Int -> Nat
  | none => d
  | some v => if v < 0 then (v + (n : Int)).toNat else min v.toNat n
theorem sIx_none (n d : Nat) : sIx n d none = d := rfl
theorem sIx_nat (n d k : Nat) : sIx n d (some (k : Int)) = min k n := by
  show (if (k : Int) < 0 then ((k : Int) + (n : Int)).toNat else min (k : Int).toNat n) = min k n
  rw [if_neg (by omega), Int.toNat_natCast]
theorem ziH (n d : Nat) (hd : d <= n) (o : Option Int) : sIx n d o <= n := by
  cases o with
  | none => exact hd
  | some v =>
    show (if v < 0 then (v + (n : Int)).toNat else min v.toNat n) <= n
    by_cases hv : v < 0
    · rw [if_pos hv]; omega
    · rw [if_neg hv]; exact Nat.min_le_right _ _
theorem zff (v : Int) (n d : Nat) : (if v < 0 then max (v + (n : Int)) 0 else min v (n : Int)) = ((sIx n d (some v) : Nat) : Int) := by
  show (if v < 0 then max (v + (n : Int)) 0 else min v (n : Int)) = (((if v < 0 then (v + (n : Int)).toNat else min v.toNat n) : Nat) : Int)
  by_cases hv : v < 0
  · simp only [if_pos hv]; omega
  · simp only [if_neg hv]; omega
theorem zd7 (lo hi : Option Int) (n : Nat) : Builtin.Slice.sliceAdjust lo hi 1 (n : Int) = (((sIx n 0 lo : Nat) : Int), ((sIx n n hi : Nat) : Int)) := by
  have h1 : ¬ ((1 : Int) < 0) := by omega
  unfold Builtin.Slice.sliceAdjust
  simp only [h1, if_false]
  refine Prod.ext ?_ ?_
  · cases lo with
    | none => rfl
    | some v => exact zff v n 0
  · cases hi with
    | none => rfl
    | some v => exact zff v n n
theorem zd1 (i j : Nat) : Builtin.Slice.slicePlaces (i : Int) (j : Int) 1 = j - i := by
  unfold Builtin.Slice.slicePlaces
  have h1 : (1 : Int) > 0 := by omega
  simp only [h1, if_true, Int.ediv_one]
  split <;> omega
theorem z9G {v : Value} {o : Option Int} {Q : Option Int -> Shared -> Prop} (p : IsPart v o) (h : Q o s) : wpAny (model prog w) A (Builtin.Slice.slicePartIndex v) Q E s := by
  cases p with
  | none => exact slicePart_none h
  | int i t => exact slicePart_int h
theorem sliceApplied_gen {sl : Addr} {vl vu : Value} {lo hi : Option Int} {n : Nat} {Q : Int × Int × Nat -> Shared -> Prop} (hs : s.heap.IsSliceOf sl vl vu .none) (pl : IsPart vl lo) (pu : IsPart vu hi)
    (h : Q (((sIx n 0 lo : Nat) : Int), 1, sIx n n hi - sIx n 0 lo) s) : wpAny (model prog w) A (Builtin.Slice.sliceApplied (.ref sl) (pure (n : Int))) Q E s := by
  obtain ⟨os, hos, hcs, hds⟩ := id hs
  unfold Builtin.Slice.sliceApplied Builtin.Slice.sliceFields
  refine wpAny_bind (wpAny_bind (wpAny_field hos hds (x := vl) rfl (wpAny_bind (wpAny_field hos hds (x := vu) rfl (wpAny_bind (wpAny_field hos hds (x := .none) rfl (wpAny_pure ?_)))))))
  refine wpAny_bind (slicePart_none ?_)
  show wpAny _ _ (if ((1 : Int) == 0) = true then _ else _) _ _ s
  rw [if_neg (by decide)]
  refine wpAny_bind (z9G pl (wpAny_bind (z9G pu (wpAny_bind (wpAny_pure ?_)))))
  show wpAny _ _ (match Builtin.Slice.sliceAdjust lo hi 1 (n : Int) with | (lo, hi) => pure (lo, (1 : Int), Builtin.Slice.slicePlaces lo hi 1)) _ _ s
  rw [zd7 lo hi n]
  show wpAny _ _ (pure (((sIx n 0 lo : Nat) : Int), (1 : Int), Builtin.Slice.slicePlaces ((sIx n 0 lo : Nat) : Int) ((sIx n n hi : Nat) : Int) 1)) _ _ s
  rw [zd1]
  exact wpAny_pure h
theorem zfB (xs : Array Value) (i k : Nat) : ((List.range k).filterMap fun (m : Nat) => xs[((i : Int) + (m : Int) * 1).toNat]?).toArray = ((xs.toList.drop i).take k).toArray := by
  have e : (fun (m : Nat) => xs[((i : Int) + (m : Int) * 1).toNat]?) = fun m => xs[i + m]? := by
    funext m
    have : ((i : Int) + (m : Int) * 1).toNat = i + m := by omega
    rw [this]
  rw [e]
  have := pick_run xs i k
  rw [List.filterMap_map] at this
  have e2 : ((fun x => xs[x]?) ∘ fun x => i + x) = fun m => xs[i + m]? := rfl
  rw [e2] at this
  rw [this]
theorem getItem_tuple_cut {t sl : Addr} {items : Array Value} {vl vu : Value} {lo hi : Option Int} {Q : Value -> Shared -> Prop} (ht : IsTup s.heap t items) (hs : s.heap.IsSliceOf sl vl vu .none) (pl : IsPart vl lo) (pu : IsPart vu hi)
    (hw : ¬ (sIx items.size 0 lo = 0 /\ sIx items.size items.size hi = items.size))
    (h : Q (.ref s.heap.objs.size) { s with heap := s.heap.push { cls := .type "tuple", data := .seq ((items.toList.drop (sIx items.size 0 lo)).take (sIx items.size items.size hi - sIx items.size 0 lo)).toArray } })
    (hsz : items.size <= sizeLine) : wpAny (model prog w) A (getItem (.ref t) (.ref sl)) Q E s := by
  have htake : sizeOk (.seq ((items.toList.drop (sIx items.size 0 lo)).take (sIx items.size items.size hi - sIx items.size 0 lo)).toArray) := by
    show ((items.toList.drop (sIx items.size 0 lo)).take (sIx items.size items.size hi - sIx items.size 0 lo)).toArray.size <= sizeLine
    rw [List.size_toArray, List.length_take, List.length_drop, Array.length_toList]
    omega
  have hj : sIx items.size items.size hi <= items.size := ziH _ _ (Nat.le_refl _) hi
  obtain ⟨os, hos, hcs, hds⟩ := id hs
  have hTs : s.TypeIs (.ref sl) "slice" := ⟨os, hos, hcs⟩
  unfold getItem
  try with_reducible refine wpAny_holding ?_
  first | refine wpAny_bind (wpAny_pure ?_) | skip
  refine wpAny_bind (wpAny_sequenceKey ht.typeIs (by decide) ?_)
  refine wpAny_bind (wpAny_callSpecial?_slot (name := Str.ofString "__getitem__") ht.typeIs PyProof.Rows.slot_tuple_getitem
    (wpAny_call_entry PyProof.Rows.slot_tuple_getitem ht.typeIs entry_tuple_getitem ?_ (args_tuple_getitem _ _)))
  show wpAny _ _ (Builtin.Tuple.tupleItemsOf (.ref t) >>= _) _ _ s
  refine wpAny_bind (tupleItemsOf_ ht ?_)
  refine wpAny_bind (wpAny_typeOf hTs ?_)
  rw [if_pos (by decide)]
  refine wpAny_bind (sliceApplied_gen hs pl pu ?_)
  have hno : ¬ ((((sIx items.size 0 lo : Nat) : Int) == 0 && (1 : Int) == 1 && (sIx items.size items.size hi - sIx items.size 0 lo) == items.size) = true) := by
    intro q
    rw [Bool.and_eq_true, Bool.and_eq_true] at q
    have q1 : ((sIx items.size 0 lo : Nat) : Int) = 0 := eq_of_beq q.1.1
    have q2 : sIx items.size items.size hi - sIx items.size 0 lo = items.size := eq_of_beq q.2
    exact hw ⟨by omega, by omega⟩
  show wpAny _ _ (if (((sIx items.size 0 lo : Nat) : Int) == 0 && (1 : Int) == 1 && (sIx items.size items.size hi - sIx items.size 0 lo) == items.size) = true then _ else _) _ _ s
  rw [if_neg hno, zfB]
  first
    | exact wpAny_bind (m := Builtin.Tuple.tupleExact _) (wpAny_newObj_type (wpAny_pure ⟨_, rfl, wpAny_pure h⟩) htake)
    | exact wpAny_bind (m := Builtin.Tuple.tupleExact _) (wpAny_newObj_type (wpAny_bind (wpAny_pure (wpAny_pure ⟨_, rfl, wpAny_pure h⟩))) htake)
    | exact wpAny_bind (wpAny_bind (m := Builtin.Tuple.tupleExact _) (wpAny_newObj_type (wpAny_pure (wpAny_pure ⟨_, rfl, wpAny_pure h⟩)) htake))
    | exact wpAny_bind (wpAny_bind (m := Builtin.Tuple.tupleExact _) (wpAny_newObj_type (wpAny_pure ⟨_, rfl, wpAny_pure h⟩) htake))
end
end HT
namespace L2
open PySem PySem.Spec PyProof.Rows
abbrev TO := St -> Hp -> (Option Int -> Hp -> Prop) -> Prop
def PO (X : Cx) (e : Option Expr) (t : TO) : Prop :=
  ∀ (pins : List (Addr × Obj)) (s : Shared) (σ : St) (H : Hp) (Q : Option Int -> Hp -> Prop), Inv X pins σ H s -> t σ H Q ->
    wpAny (model X.prog X.w) X.A (evalPart e X.env) (fun u s' => ∃ o H', Inv X pins σ H' s' /\ IsPart u o /\ Q o H') X.xe s
def zhW : TO := fun _ H Q => Q none H
def zkE (t : TE) : TO := fun σ H Q => t σ H fun x H1 => ∃ i, x = .int i /\ Q (some i) H1
theorem zdn {ns : List Int} : ∀ {us : List Value}, Vals (ns.map V.int) us -> IntsAre us ns := by
  induction ns with
  | nil => intro us r; rw [List.map_nil] at r; cases r; exact .nil
  | cons n ns ih =>
    intro us r
    rw [List.map_cons] at r
    cases r with
    | cons r1 r2 =>
      obtain ⟨t, e⟩ := r1
      subst e
      exact .cons n t (ih r2)
section
variable {X : Cx} {e : Expr} {te : TE} {lo hi : Option Expr} {tl th : TO} {pos p2 : Pos}
theorem zhG : PO X none zhW := by
  intro pins s σ H Q I h
  rw [evalPart_none]
  exact wpAny_pure ⟨none, H, I, .none, h⟩
theorem zik (h : PE X e te) : PO X (some e) (zkE te) := by
  intro pins s σ H Q I hw
  rw [evalPart_some]
  refine thn (h pins s σ H _ I hw) fun u s1 ⟨x, H1, I1, r1, q1⟩ => ?_
  obtain ⟨i, rfl, q⟩ := q1
  obtain ⟨t, rfl⟩ := r1
  exact ⟨some i, H1, I1, .int i t, q⟩
def SlR (X : Cx) (r : V -> Option Int -> Option Int -> Hp -> VK -> Prop) : Prop :=
  ∀ (pins : List (Addr × Obj)) (s : Shared) (σ : St) (H : Hp) (x : V) (v vl vu : Value) (lo hi : Option Int) (sl : Addr) (Q : VK), Inv X pins σ H s -> RelV x v -> s.heap.IsSliceOf sl vl vu .none -> IsPart vl lo -> IsPart vu hi -> r x lo hi H Q ->
    ∃ T id, typeLookup (.type T) "__getitem__" = pure (some (.builtin id)) /\ s.TypeIs v T /\ wpAny (model X.prog X.w) X.A (getItem v (.ref sl)) (EP X pins σ Q) X.xe s
theorem SlR.or {r r' : V -> Option Int -> Option Int -> Hp -> VK -> Prop} (h : SlR X r) (h' : SlR X r') : SlR X (fun x lo hi H Q => r x lo hi H Q \/ r' x lo hi H Q) := by
  intro pins s σ H x v vl vu lo hi sl Q I rx hs pl pu q
  rcases q with q | q
  · exact h pins s σ H x v vl vu lo hi sl Q I rx hs pl pu q
  · exact h' pins s σ H x v vl vu lo hi sl Q I rx hs pl pu q
def tSl (r : V -> Option Int -> Option Int -> Hp -> VK -> Prop) (te : TE) (tl th : TO) : TE := fun σ H Q => te σ H fun x H1 => tl σ H1 fun l H2 => th σ H2 fun u H3 => r x l u H3 Q
theorem zg5 {r : V -> Option Int -> Option Int -> Hp -> VK -> Prop} (hr : SlR X r) (he : PE X e te) (hl : PO X lo tl) (hu : PO X hi th) : PE X (.Subscript e (.Slice lo hi none p2) pos) (tSl r te tl th) := by
  intro pins s σ H Q I h
  refine Subscript_ (thn (he pins s σ H _ I h) fun v s1 ⟨x, H1, I1, r1, q1⟩ => ?_)
  refine wpAny_Slice (thn (hl pins s1 σ H1 _ I1 q1) fun vl s2 ⟨l, H2, I2, pl, q2⟩ => thn (hu pins s2 σ H2 _ I2 q2) fun vu s3 ⟨u, H3, I3, pu, q3⟩ => ?_)
  rw [evalPart_none]
  refine wpAny_pure ?_
  have I4 : Inv X pins σ H3 { s3 with heap := s3.heap.push { cls := .type "slice", data := .fields #[vl, vu, .none] } } := I3.kept (t' := s3.toks) fun b ob q => Heap.get?_push_of_some _ q
  obtain ⟨T, id, hT, ht, hg⟩ := hr pins { s3 with heap := s3.heap.push { cls := .type "slice", data := .fields #[vl, vu, .none] } } σ H3 x v vl vu l u s3.heap.objs.size Q I4 r1 (Heap.IsSliceOf.new ..) pl pu q3
  show wpAny (model X.prog X.w) X.A (subscriptTail e (.Slice lo hi none p2) v (.ref s3.heap.objs.size)) (EP X pins σ Q) X.xe { s3 with heap := s3.heap.push { cls := .type "slice", data := .fields #[vl, vu, .none] } }
  exact tail_any (ops := [.ref s3.heap.objs.size, v]) ht hT hg (by with_unfolding_all rfl)
def zgS (xs : List V) (lo hi : Option Int) : List V := (xs.drop (HT.sIx xs.length 0 lo)).take (HT.sIx xs.length xs.length hi - HT.sIx xs.length 0 lo)
theorem z9a (xs : List V) (lo hi : Option Int) : (zgS xs lo hi).length <= xs.length := by
  unfold zgS
  rw [List.length_take, List.length_drop]
  omega
def zl8 (K : PySem.W.Frag) : V -> Option Int -> Option Int -> Hp -> VK -> Prop := fun x lo hi H Q => ∃ a xs, x = .ref a /\ SqT K H a xs /\
  ¬ (HT.sIx xs.length 0 lo = 0 /\ HT.sIx xs.length xs.length hi = xs.length) /\ ∀ p, H p = none -> Q (.ref p) (upd H p (.tup (zgS xs lo hi)))
theorem zju : SlR X (zl8 X.K) := by
  intro pins s σ H x v vl vu lo hi sl Q I rx hs pl pu h
  obtain ⟨a, xs, rfl, hx, hw, q⟩ := h
  cases rx
  obtain ⟨its, r, ht, hz⟩ := I.tuple hx
  have hlen : its.toArray.size = xs.length := by rw [List.size_toArray]; exact r.length.symm
  refine ⟨"tuple", _, PyProof.Rows.slot_tuple_getitem.lookup, ht.typeIs, ?_⟩
  refine HT.getItem_tuple_cut ht hs pl pu (by rw [hlen]; exact hw) ?_ (by rw [hlen]; exact hz)
  rw [hlen]
  refine ⟨.ref s.heap.objs.size, _, I.laid (t' := s.toks) (o := .tup (zgS xs lo hi)) (fun b ob q => Heap.get?_push_of_some _ q) (Nat.le_refl _) ?_, rfl, q _ (I.hok.fresh (Nat.le_refl _))⟩
  exact ⟨Nat.le_trans (z9a xs lo hi) hz, _, (r.drop (HT.sIx xs.length 0 lo)).take (HT.sIx xs.length xs.length hi - HT.sIx xs.length 0 lo), IsTup.new _ _⟩
def zjd (K : PySem.W.Frag) : R2 := fun x y H Q => ∃ a b xs ys, x = .ref a /\ y = .ref b /\ SqT K H a xs /\ SqT K H b ys /\ xs ≠ [] /\ xs.length + ys.length <= sizeLine /\
  (ys = [] -> Q (.ref a) H) /\ (ys ≠ [] -> ∀ p, H p = none -> Q (.ref p) (upd H p (.tup (xs ++ ys))))
theorem Vals.nil_iff {xs : List V} {us : List Value} (r : Vals xs us) : us = [] ↔ xs = [] := by
  cases r with
  | nil => simp
  | cons _ _ => simp
theorem zhH : OpR X (binaryOp .Add) (zjd X.K) := by
  intro pins s σ H x y v u Q I rx ry h
  obtain ⟨a, b, xs, ys, rfl, rfl, ha, hb, hx, hz, q1, q2⟩ := h
  cases rx
  cases ry
  obtain ⟨its, r1, p1, _⟩ := I.tuple ha
  obtain ⟨its2, r2, p2, _⟩ := I.tuple hb
  refine HT.cat_tup p1 p2 (fun z => hx (r1.nil_iff.mp z)) (fun z => ⟨.ref a, H, I, rfl, q1 (r2.nil_iff.mp z)⟩) (fun z => ?_) (by rw [<- r1.length, <- r2.length]; exact hz)
  refine ⟨.ref s.heap.objs.size, _, I.laid (t' := s.toks) (o := .tup (xs ++ ys)) (fun b ob q => Heap.get?_push_of_some _ q) (Nat.le_refl _) ?_, rfl, q2 (fun w => z (r2.nil_iff.mpr w)) _ (I.hok.fresh (Nat.le_refl _))⟩
  exact ⟨by rw [List.length_append]; exact hz, _, r1.append r2, IsTup.new _ _⟩
end
end L2
namespace L2
open PySem PySem.Spec PyProof.Rows
def ixN (n : Nat) (i : Int) : Option Nat := if 0 <= i then (if i < n then some i.toNat else none) else if -(n : Int) <= i then some (i + n).toNat else none
def atI {α : Type} (xs : List α) (i : Int) : Option α := (ixN xs.length i).bind fun j => xs[j]?
theorem zeu {n : Nat} {i : Int} {j : Nat} (h : ixN n i = some j) : seqIndex? i n = some j /\ j < n /\ -(n : Int) <= i /\ i < n := by
  unfold ixN at h
  by_cases h0 : 0 <= i
  · rw [if_pos h0] at h
    by_cases h1 : i < n
    · rw [if_pos h1] at h
      have e : i.toNat = j := Option.some.inj h
      exact ⟨by rw [seqIndex_of h0 h1, e], by omega, by omega, h1⟩
    · rw [if_neg h1] at h; cases h
  · rw [if_neg h0] at h
    by_cases h1 : -(n : Int) <= i
    · rw [if_pos h1] at h
      have e : (i + n).toNat = j := Option.some.inj h
      exact ⟨by rw [seqIndex_neg (by omega) h1, e], by omega, h1, by omega⟩
    · rw [if_neg h1] at h; cases h
theorem zc4 {α : Type} {xs : List α} {i : Int} {v : α} (h : atI xs i = some v) : ∃ j, seqIndex? i xs.length = some j /\ xs[j]? = some v /\ j < xs.length /\ -(xs.length : Int) <= i /\ i < xs.length := by
  unfold atI at h
  cases e : ixN xs.length i with
  | none => rw [e] at h; cases h
  | some j =>
    rw [e] at h
    obtain ⟨h1, h2, h3, h4⟩ := zeu e
    exact ⟨j, h1, h, h2, h3, h4⟩
theorem atI_nat {α : Type} {xs : List α} {j : Nat} {v : α} (h : xs[j]? = some v) : atI xs (j : Int) = some v := by
  have hj : j < xs.length := (List.getElem?_eq_some_iff.mp h).1
  have e : ixN xs.length (j : Int) = some j := by
    unfold ixN
    rw [if_pos (by omega), if_pos (by omega)]; simp
  unfold atI; rw [e]; exact h
def zdC (b : Expr) : Prop := ∀ o i, subscripted b false o i = operate [o, i] (getItem o i)
def IxR (X : Cx) (r : R2) : Prop :=
  ∀ (value slice : Expr) (pins : List (Addr × Obj)) (s : Shared) (σ : St) (H : Hp) (x y : V) (v u : Value) (Q : VK), Inv X pins σ H s -> RelV x v -> RelV y u -> r x y H Q ->
    subscripted slice false v u = operate [v, u] (getItem v u) -> wpAny (model X.prog X.w) X.A (subscriptTail value slice v u) (EP X pins σ Q) X.xe s
def MtR (X : Cx) (id : String) (r : V -> List V -> Hp -> VK -> Prop) : Prop :=
  ∀ (pins : List (Addr × Obj)) (s : Shared) (σ : St) (H : Hp) (x : V) (xs : List V) (v : Value) (us : List Value) (Q : VK), Inv X pins σ H s -> RelV x v -> Vals xs us -> r x xs H Q ->
    wpAny (model X.prog X.w) X.A (call (.builtin id) (v :: us)) (EP X pins σ Q) X.xe s
section
variable {X : Cx} {a b : Expr} {ta tb : TE} {pos : Pos}
theorem IxR.or {r r' : R2} (h : IxR X r) (h' : IxR X r') : IxR X (fun x y H Q => r x y H Q \/ r' x y H Q) := by
  intro value slice pins s σ H x y v u Q I rx ry q hs
  rcases q with q | q
  · exact h value slice pins s σ H x y v u Q I rx ry q hs
  · exact h' value slice pins s σ H x y v u Q I rx ry q hs
theorem zkh {r : R2} (hr : IxR X r) (ha : PE X a ta) (hb : PE X b tb) (hs : zdC b) : PE X (.Subscript a b pos) (tOp r ta tb) := by
  intro pins s σ H Q I h
  exact Subscript_ (zkK ha hb I h fun v u s2 x y H2 I2 rx ry q => hr a b pins s2 σ H2 x y v u Q I2 rx ry q (hs _ _))
def zl1 (K : PySem.W.Frag) : R2 := fun x y H Q => ∃ p xs i v, x = .ref p /\ y = .int i /\ SqL K H p xs /\ atI xs i = some v /\ Q v H
def zl9 (K : PySem.W.Frag) : R2 := fun x y H Q => ∃ p xs i v, x = .ref p /\ y = .int i /\ SqT K H p xs /\ atI xs i = some v /\ Q v H
def zla : R2 := fun x y H Q => ∃ z i c, x = .str z /\ y = .int i /\ z.length <= sizeLine /\ atI z.cps.toList i = some c /\ Q (.str ⟨#[c]⟩) H
theorem ix_list : IxR X (zl1 X.K) := by
  intro value slice pins s σ H x y v u Q I rx ry h hs
  obtain ⟨p, xs, i, z, rfl, rfl, hq, he, q⟩ := h
  cases rx
  obtain ⟨t, rfl⟩ := ry
  obtain ⟨its, r, pl, hz⟩ := I.list hq
  obtain ⟨j, h1, h2, h3, h4, h5⟩ := zc4 he
  obtain ⟨w, ew, rw'⟩ := r.get h2
  have hl := r.length
  have hn := z9w
  have fin : EP X pins σ Q w s := ⟨z, H, I, rw', q⟩
  by_cases h0 : 0 <= i
  · have hj : i.toNat = j := by
      rw [seqIndex_of h0 h5] at h1
      exact Option.some.inj h1
    exact item_listR pl.isList h0 (by omega) (by rw [hj]; simpa using ew) fin hs
  · have hj : (i + (its.toArray.size : Int)).toNat = j := by
      rw [seqIndex_neg (by omega) h4] at h1
      rw [List.size_toArray, <- hl]
      exact Option.some.inj h1
    exact subscriptTail_builtinR (x := w) pl.isList.typeIs slot_list_getitem.lookup
      (wpAny_getItem_list_neg (Q := fun r s' => r = w /\ EP X pins σ Q r s') pl.isList (by omega) (by rw [List.size_toArray] <;> omega) (by omega) (by rw [hj]; simpa using ew) ⟨rfl, fin⟩) hs
theorem ix_tup : IxR X (zl9 X.K) := by
  intro value slice pins s σ H x y v u Q I rx ry h hs
  obtain ⟨p, xs, i, z, rfl, rfl, hq, he, q⟩ := h
  cases rx
  obtain ⟨t, rfl⟩ := ry
  obtain ⟨its, r, pl, hz⟩ := I.tuple hq
  obtain ⟨j, h1, h2, h3, h4, h5⟩ := zc4 he
  obtain ⟨w, ew, rw'⟩ := r.get h2
  have hl := r.length
  have hn := z9w
  have fin : EP X pins σ Q w s := ⟨z, H, I, rw', q⟩
  exact subscriptTail_builtinR (x := w) pl.typeIs slot_tuple_getitem.lookup
    (getItem_tuple (j := j) (Q := fun r s' => r = w /\ EP X pins σ Q r s') pl (by omega) (by omega) (by rw [List.size_toArray, <- hl]; exact h1) (by simpa using ew) ⟨rfl, fin⟩) hs
theorem zjJ : IxR X zla := by
  intro value slice pins s σ H x y v u Q I rx ry h hs
  obtain ⟨z, i, c, rfl, rfl, hz, he, q⟩ := h
  obtain ⟨t, rfl⟩ := rx
  obtain ⟨t', rfl⟩ := ry
  obtain ⟨j, h1, h2, h3, h4, h5⟩ := zc4 he
  have hl : z.cps.toList.length = z.length := by simp [Str.length]
  rw [hl] at h1 h4 h5
  have hn := z9w
  exact tail_any (typeIs_str s z t) slot_str_getitem.lookup (getItem_str (c := c) (by
    have e1 : decide (i < -(2 ^ 63 : Int)) = false := decide_eq_false (by omega)
    have e2 : decide (i ≥ 2 ^ 63) = false := decide_eq_false (by omega)
    rw [e1, e2, Bool.or_false]) (by rw [h1]; simpa using h2) ⟨.str ⟨#[c]⟩, H, I.tok _, ⟨_, rfl⟩, q⟩) hs
def rIx (K : PySem.W.Frag) : R2 := fun x y H Q => zl1 K x y H Q \/ zl9 K x y H Q \/ zla x y H Q
theorem ziS : IxR X (rIx X.K) := ix_list.or (ix_tup.or zjJ)
theorem zdo (its : List Value) (n j : Nat) (u : Value) : Obj.mapSeq (·.setIfInBounds j u) { cls := .type "list", data := .seq its.toArray n } = { cls := .type "list", data := .seq (its.set j u).toArray n } := by
  simp [Obj.mapSeq]
theorem Inv.lst {pins : List (Addr × Obj)} {σ : St} {H : Hp} {s : Shared} {p : Addr} {xs : List V} (I : Inv X pins σ H s) (h : H p = some (.lst xs)) :
    ∃ (its : List Value) (n : Nat), Vals xs its /\ s.heap.get? p = some { cls := .type "list", data := .seq its.toArray n } /\ xs.length <= sizeLine := by
  obtain ⟨z, its, n, r, e⟩ := I.hok p _ h
  exact ⟨its, n, r, e, z⟩
theorem Inv.lstUpd {pins : List (Addr × Obj)} {σ : St} {H : Hp} {s : Shared} {p : Addr} {xs ys : List V} {its its' : List Value} {n n' : Nat} {f : Obj -> Obj} (I : Inv X pins σ H s) (h : H p = some (.lst xs))
    (ho : s.heap.get? p = some { cls := .type "list", data := .seq its.toArray n }) (hf : f { cls := .type "list", data := .seq its.toArray n } = { cls := .type "list", data := .seq its'.toArray n' }) (r : Vals ys its') (hz : ys.length <= sizeLine) (t : Nat) :
    Inv X pins σ (upd H p (.lst ys)) { s with heap := s.heap.update p f, toks := t } := by
  have e : (s.heap.update p f).get? p = some { cls := .type "list", data := .seq its'.toArray n' } := by
    rw [Heap.get?_update_self f ho (by rw [hf] <;> rfl), hf]
  refine I.write (x := p) (e := p) (by rw [h]; trivial) (.inl rfl) (fun b u hb q => (Heap.get?_update_other _ _ (Ne.symm hb)).trans q) ⟨_, e⟩ ?_
  exact ⟨hz, its', n', r, e⟩
def zkT : V -> V -> V -> Hp -> (Hp -> Prop) -> Prop := fun o i v H Q => ∃ p xs k j, o = .ref p /\ i = .int k /\ H p = some (.lst xs) /\ ixN xs.length k = some j /\ Q (upd H p (.lst (xs.set j v)))
theorem zfU : zli X zkT := by
  intro pins s σ H o i v ov iv u Q I ro ri rv h
  obtain ⟨p, xs, k, j, rfl, rfl, hp, hj, q⟩ := h
  cases ro
  obtain ⟨t, rfl⟩ := ri
  obtain ⟨its, n, r, ho, hz⟩ := I.lst hp
  obtain ⟨h1, h2, h3, h4⟩ := zeu hj
  have hl := r.length
  have hn := z9w
  have I' : Inv X pins σ (upd H p (.lst (xs.set j v))) { s with heap := s.heap.update p (Obj.mapSeq (·.setIfInBounds j u)) } :=
    I.lstUpd hp ho (zdo its n j u) (r.set rv j) (by rw [List.length_set]; exact hz) s.toks
  by_cases h0 : 0 <= k
  · have hk : k.toNat = j := by
      rw [seqIndex_of h0 h4] at h1
      exact Option.some.inj h1
    exact PySem.W.ki_setAt ho h0 (by omega) (by rw [List.size_toArray, <- hl]; exact h4) (by rw [hk]; exact ⟨_, I', q⟩)
  · have hk : (k + (its.toArray.size : Int)).toNat = j := by
      rw [seqIndex_neg (by omega) h3] at h1
      rw [List.size_toArray, <- hl]
      exact Option.some.inj h1
    exact PySem.W.ki_setBack ho (by omega) (by rw [List.size_toArray, <- hl]; exact h3) (by omega) (by rw [hk]; exact ⟨_, I', q⟩)
theorem zaz (lo hi : Option Int) (n : Nat) : (sliceBounds lo hi none n).1 = ((HT.sIx n 0 lo : Nat) : Int) /\ (sliceBounds lo hi none n).2.1 = ((HT.sIx n n hi : Nat) : Int) /\ (sliceBounds lo hi none n).2.2 = 1 := by
  refine ⟨?_, ?_, rfl⟩
  · cases lo with
    | none => simp [sliceBounds, HT.sIx]
    | some i =>
      simp only [sliceBounds, HT.sIx, Option.getD_none, show (1 : Int) > 0 by decide, if_true]
      by_cases h : i < 0
      · simp only [h, if_true] <;> omega
      · simp only [h, if_false] <;> omega
  · cases hi with
    | none => simp [sliceBounds, HT.sIx]
    | some i =>
      simp only [sliceBounds, HT.sIx, Option.getD_none, show (1 : Int) > 0 by decide, if_true]
      by_cases h : i < 0
      · simp only [h, if_true] <;> omega
      · simp only [h, if_false] <;> omega
theorem zae (its : List Value) (lo hi : Option Int) : slicePick its.toArray lo hi none = ((its.drop (HT.sIx its.length 0 lo)).take (HT.sIx its.length its.length hi - HT.sIx its.length 0 lo)).toArray := by
  obtain ⟨h1, h2, h3⟩ := zaz lo hi its.toArray.size
  unfold slicePick
  rw [h1, h2, h3]
  simp only [sliceRange_one, pick_run, List.size_toArray] <;> rfl
def zl6 (K : PySem.W.Frag) : V -> Option Int -> Option Int -> Hp -> VK -> Prop := fun x lo hi H Q => ∃ a xs, x = .ref a /\ SqL K H a xs /\ ∀ p, H p = none -> Q (.ref p) (upd H p (.lst (zgS xs lo hi)))
theorem zii : SlR X (zl6 X.K) := by
  intro pins s σ H x v vl vu lo hi sl Q I rx hs pl pu h
  obtain ⟨a, xs, rfl, hx, q⟩ := h
  cases rx
  obtain ⟨its, r, ht, hz⟩ := I.list hx
  have hlen := r.length
  refine ⟨"list", _, slot_list_getitem.lookup, ht.isList.typeIs, ?_⟩
  refine wpAny_getItem_list_slice ht.isList hs pl pu .none (by simp) ?_ (by rw [List.size_toArray] <;> omega)
  rw [zae, <- hlen]
  refine ⟨.ref s.heap.objs.size, _, I.laid (t' := s.toks) (o := .lst (zgS xs lo hi)) (fun b ob q => Heap.get?_push_of_some _ q) (Nat.le_refl _) ?_, rfl, q _ (I.hok.fresh (Nat.le_refl _))⟩
  exact ⟨Nat.le_trans (z9a xs lo hi) hz, _, 0, (r.drop (HT.sIx xs.length 0 lo)).take (HT.sIx xs.length xs.length hi - HT.sIx xs.length 0 lo), Heap.get?_push_size _ rfl⟩
theorem CallR.or {f : Value} {r r' : List V -> Hp -> VK -> Prop} (h : CallR X f r) (h' : CallR X f r') : CallR X f (fun xs H Q => r xs H Q \/ r' xs H Q) := by
  intro pins s σ H xs us Q I rs q
  rcases q with q | q
  · exact h pins s σ H xs us Q I rs q
  · exact h' pins s σ H xs us Q I rs q
theorem z8e : CallR X (.type "list") (fun xs H Q => ∃ p ys, xs = [.ref p] /\ (SqL X.K H p ys \/ SqT X.K H p ys) /\ ∀ l, H l = none -> Q (.ref l) (upd H l (.lst ys))) := by
  intro pins s σ H xs us Q I r h
  obtain ⟨p, ys, rfl, hq, q⟩ := h
  obtain ⟨u, rfl, rx⟩ := z82 r
  cases rx
  have fin : ∀ (its : List Value), Vals ys its -> ys.length <= sizeLine -> ∀ (h' : Heap) (c' : Nat), (∀ b o', s.heap.get? b = some o' -> h'.get? b = some o') ->
      h'.get? s.heap.objs.size = some { cls := .type "list", dict := none, data := .seq its.toArray c', slots := #[] } -> EP X pins σ Q (.ref s.heap.objs.size) { s with heap := h' } := fun its r' hz h' c' kp e =>
    ⟨.ref s.heap.objs.size, _, I.laid (t' := s.toks) kp (Nat.le_refl _) (show ObjOk X.prog X.w _ h' _ (.lst ys) from ⟨hz, its, c', r', e⟩), rfl, q _ (I.hok.fresh (Nat.le_refl _))⟩
  rcases hq with hq | hq
  · obtain ⟨its, r', pl, hz⟩ := I.list hq
    have hlen := r'.length
    obtain ⟨o, ho, hc, n, hd⟩ := pl.isList
    exact call_list_seq p (.inl rfl) ho hc hd (fun h' c' kp e => fin its r' hz h' c' kp e) (by simp only [List.size_toArray] <;> omega)
  · obtain ⟨its, r', pl, hz⟩ := I.tuple hq
    have hlen := r'.length
    obtain ⟨o, ho, hc, n, hd⟩ := pl
    exact call_list_seq p (.inr rfl) ho hc hd (fun h' c' kp e => fin its r' hz h' c' kp e) (by simp only [List.size_toArray] <;> omega)
theorem z6Z : CallR X (.type "tuple") (fun xs H Q => ∃ p ys, xs = [.ref p] /\ ((SqL X.K H p ys /\ ∀ l, H l = none -> Q (.ref l) (upd H l (.tup ys))) \/ (SqT X.K H p ys /\ Q (.ref p) H))) := by
  intro pins s σ H xs us Q I r h
  obtain ⟨p, ys, rfl, h⟩ := h
  obtain ⟨u, rfl, rx⟩ := z82 r
  cases rx
  rcases h with ⟨hq, q⟩ | ⟨hq, q⟩
  · obtain ⟨its, r', pl, hz⟩ := I.list hq
    have hlen := r'.length
    refine call_tuple_list pl.isList (fun h' kp => ?_) (by simp only [List.size_toArray] <;> omega)
    have I1 : Inv X pins σ H { s with heap := h' } := I.kept (t' := s.toks) kp
    have I2 : Inv X pins σ (upd H h'.objs.size (.tup ys)) { s with heap := h'.push { cls := .type "tuple", data := .seq its.toArray } } :=
      I1.laid (t' := s.toks) (fun b o e => Heap.get?_push_of_some _ e) (Nat.le_refl _) (show ObjOk X.prog X.w _ _ _ (.tup ys) from ⟨hz, its, r', IsTup.new _ _⟩)
    exact ⟨.ref h'.objs.size, _, I2, rfl, q _ (I1.hok.fresh (Nat.le_refl _))⟩
  · obtain ⟨its, r', pl, hz⟩ := I.tuple hq
    exact call_tuple_same pl ⟨.ref p, H, I, rfl, q⟩
def tyV (K : PySem.W.Frag) (T : String) (x : V) (H : Hp) : Prop := match x with
  | .str _ => T = "str"
  | .int _ => T = "int"
  | .ref p => (T = "list" /\ ∃ xs, SqL K H p xs) \/ (T = "tuple" /\ ∃ o, K.lookup p = some o /\ o.cls = .type "tuple" /\ o.dict = none) \/
      (T = "dict" /\ ((∃ kvs, H p = some (.dK kvs)) \/ ∃ kvs, H p = some (.dT kvs))) \/ (T = "set" /\ ∃ S n, H p = some (.set S n))
  | _ => False
theorem ziQ {pins : List (Addr × Obj)} {σ : St} {H : Hp} {s : Shared} {T : String} {x : V} {v : Value} (I : Inv X pins σ H s) (r : RelV x v) (ty : tyV X.K T x H) :
    s.TypeIs v T /\ ∀ a, v = .ref a -> ∃ ob, s.heap.get? a = some ob /\ ob.dict = none := by
  cases x with
  | str z =>
    obtain ⟨t, rfl⟩ := r
    cases (show T = "str" from ty)
    exact ⟨typeIs_str s z t, fun _ e => nomatch e⟩
  | int i =>
    obtain ⟨t, rfl⟩ := r
    cases (show T = "int" from ty)
    exact ⟨typeIs_int s i t, fun _ e => nomatch e⟩
  | ref p =>
    cases r
    rcases ty with ⟨rfl, xs, hq⟩ | ⟨rfl, o, hk, hc, hd⟩ | ⟨rfl, hk⟩ | ⟨rfl, S, n, hk⟩
    · obtain ⟨its, _, pl, _⟩ := I.list hq
      refine ⟨pl.isList.typeIs, fun a e => ?_⟩
      cases e
      obtain ⟨o, n, e, c, hd, _⟩ := pl
      exact ⟨o, e, hd⟩
    · refine ⟨⟨o, I.kIn p o hk, hc⟩, fun a e => ?_⟩
      cases e
      exact ⟨o, I.kIn _ o hk, hd⟩
    · have z : ∃ o, s.heap.get? p = some o /\ o.ExactDict := by
        rcases hk with ⟨kvs, hk⟩ | ⟨kvs, hk⟩
        · obtain ⟨_, _, _, _, o, _, _, e, ex, _⟩ := I.hok p _ hk
          exact ⟨o, e, ex⟩
        · obtain ⟨_, _, _, _, o, _, _, e, ex, _⟩ := I.hok p _ hk
          exact ⟨o, e, ex⟩
      obtain ⟨o, e, ex⟩ := z
      refine ⟨⟨o, e, ex.1⟩, fun a e2 => ?_⟩
      cases e2
      exact ⟨o, e, ex.2.1⟩
    · obtain ⟨o, _, _, _, e, ex, _⟩ := I.hok p _ hk
      refine ⟨⟨o, e, ex.1⟩, fun a e2 => ?_⟩
      cases e2
      exact ⟨o, e, ex.2.1⟩
  | _ => exact False.elim ty
def tBM (K : PySem.W.Frag) (T : String) (r : V -> List V -> Hp -> VK -> Prop) (to : TE) (t : TA) : TE := fun σ H Q => to σ H fun x H1 => tyV K T x H1 /\ t σ H1 fun xs H2 => r x xs H2 Q
variable {o e : Expr} {es : List Expr} {to : TE} {t : TA} {name : Str} {apos cpos : Pos} {T id : String} {r : V -> List V -> Hp -> VK -> Prop}
theorem zj6 (pa : PlainAttrs T) (slot : Slot T name id) (hty : typeOf (.builtin id) = pure (.type "method_descriptor")) (hm : MtR X id r) (ho : PE X o to) (ha : PA X (e :: es) t)
    (hbase : attributeBase o name X.env (eval o X.env) = eval o X.env := by rfl)
    (hfew : ((backTo cpos (starEach (e :: es) X.env)).all (fun x => !x.1) && (backToKw cpos (keywordEach [] X.env)).all (fun x => x.1.isSome)
      && decide ((e :: es).length + ([] : List Keyword).length + (if ([] : List Keyword).isEmpty then 0 else 1) < 30)) = true := by rfl)
    (hline : (apos.endLine == cpos.line) = true := by rfl) (hs : starEach (e :: es) X.env = (false, eval e X.env) :: starEach es X.env := by rfl) (hplain : (backTo cpos (starEach es X.env)).any (·.1) = false := by rfl) :
    PE X (.Call (.Attribute o name apos) (e :: es) [] cpos) (tBM X.K T r to t) := by
  intro pins s σ H Q I h
  refine wpAny_Call_method_late hbase hfew hline rfl (thn (ho pins s σ H _ I h) fun v s1 ⟨x, H1, I1, r1, ty, q1⟩ => ?_)
  obtain ⟨h1, h2⟩ := ziQ I1 r1 ty
  refine ⟨T, id, pa, slot, hty, h1, h2, ?_⟩
  have hA := ha cpos pins s1 σ H1 _ I1 q1
  rw [hs] at hA ⊢
  refine Calls.callWith_builtin (by show (false || (backTo cpos (starEach es X.env)).any (·.1)) = false; rw [hplain] <;> rfl) (Calls.evalArgs_plain ?_)
  exact thn hA fun us s2 ⟨vs, H2, I2, r2, q2⟩ => hm pins s2 σ H2 x vs v us Q I2 r1 r2 q2
end
end L2
namespace L2
open PySem PySem.Spec PyProof.Rows
def MtM (X : Cx) (id : String) (r : V -> List V -> Hp -> VK -> Prop) : Prop :=
  ∀ (pins : List (Addr × Obj)) (s : Shared) (σ : St) (H : Hp) (x : V) (xs : List V) (v : Value) (us : List Value) (Q : VK), Inv X pins σ H s -> RelV x v -> Vals xs us -> r x xs H Q ->
    wpAny (model X.prog X.w) X.A (call (.builtin id) (v :: us)) (EP X pins σ Q) X.xe s
theorem Vals.one : ∀ {x : V} {us : List Value}, Vals [x] us -> ∃ u, us = [u] /\ RelV x u
  | _, _, .cons r .nil => ⟨_, rfl, r⟩
section
variable {X : Cx} {pins : List (Addr × Obj)} {σ : St} {H : Hp} {s : Shared} {l b : Addr} {xs ys zs : List V}
theorem Inv.lset {its its' : List Value} {n : Nat} {f : Array Value -> Array Value} {t' : Nat} (I : Inv X pins σ H s) (hH : H l = some (.lst xs))
    (e : s.heap.get? l = some { cls := .type "list", data := .seq its.toArray n }) (hf : f its.toArray = its'.toArray) (hv : Vals ys its') (hz : ys.length <= sizeLine) :
    Inv X pins σ (upd H l (.lst ys)) { s with heap := s.heap.update l (Obj.mapSeq f), toks := t' } := by
  have q := PySem.IsL.update e f
  rw [hf] at q
  refine I.write (x := l) (e := l) (by rw [hH]; exact trivial) (.inl rfl) (fun b' u hb hu => (Heap.get?_update_other s.heap (Obj.mapSeq f) (Ne.symm hb)).trans hu) ⟨_, q⟩ ?_
  exact ⟨hz, its', _, hv, q⟩
theorem Inv.lnew {its : List Value} {t' : Nat} (I : Inv X pins σ H s) (hv : Vals ys its) (hz : ys.length <= sizeLine) :
    Inv X pins σ (upd H s.heap.objs.size (.lst ys)) { s with heap := s.heap.push { cls := .type "list", data := .seq its.toArray }, toks := t' } :=
  I.laid (fun _ _ q => Heap.get?_push_of_some _ q) (Nat.le_refl _) ⟨hz, its, 0, hv, Heap.get?_push_size _ rfl⟩
theorem Inv.fresh (I : Inv X pins σ H s) : H s.heap.objs.size = none := I.hok.fresh (Nat.le_refl _)
theorem Inv.lstM (I : Inv X pins σ H s) (hH : H l = some (.lst xs)) : xs.length <= sizeLine /\ ∃ (its : List Value) (n : Nat), Vals xs its /\ xs.length = its.length /\ s.heap.get? l = some { cls := .type "list", data := .seq its.toArray n } := by
  obtain ⟨z, its, n, r, e⟩ := I.hok l _ hH
  exact ⟨z, its, n, r, r.length, e⟩
end
section
variable {X : Cx}
def zig : V -> List V -> Hp -> VK -> Prop := fun x vs H Q => ∃ l xs y, x = .ref l /\ vs = [y] /\ H l = some (.lst xs) /\ xs.length < sizeLine /\ Q .non (upd H l (.lst (xs ++ [y])))
theorem zaK : MtM X "list.append" zig := by
  intro pins s σ H x vs v us Q I rx rv h
  obtain ⟨l, xs, y, rfl, rfl, hH, hz, q⟩ := h
  cases rx
  obtain ⟨u, rfl, ru⟩ := rv.one
  obtain ⟨z, its, n, r, hl, e⟩ := I.lstM hH
  refine call_meets F.slot_list_append ⟨_, e, rfl⟩ F.entry_list_append (F.args_list_append_2 _ _) (PySem.list_append l its.toArray n u (by rw [List.size_toArray]; omega)) ⟨e, ?_⟩
  refine ⟨.non, _, I.lset (its' := its ++ [u]) hH e (by simp) (r.append (.cons ru .nil)) ?_, rfl, q⟩
  rw [List.length_append, List.length_singleton]
  omega
end
section
variable {prog : Program} {w : World} {A : Around} {E : Value -> Shared -> Prop} {s : Shared}
end
section
variable {X : Cx}
end
end L2
namespace Att
open PySem PySem.W PySem.Calls PyProof.Rows
theorem z8I {P : Params} {h : Heap} : ∀ (ns : List Int) (vs : List Value), WellAll P h vs (ns.map WData.int) -> IntsAre vs ns := by
  intro ns
  induction ns with
  | nil =>
    intro vs w
    rw [List.map_nil] at w
    cases w
    exact .nil
  | cons n ns ih =>
    intro vs w
    rw [List.map_cons] at w
    cases w with
    | cons a b =>
      cases a
      exact .cons _ _ (ih _ b)
theorem zdy {l : OpenLaw} {n : Nat} (hn : l.most = some n) {P : Params} {h : Heap} {args : List WData} {vals : List Value}
    (hpre : l.row.toRowW.claim.pre args = true) (hwl : WellAll P h vals args) :
    ∃ a vs ns, vals = [Value.ref a] /\ args = [WData.list (ns.map WData.int)] /\ h.get? a = some { cls := .type "list", data := .seq vs.toArray } /\ IntsAre vs ns /\ ns.length <= n := by
  have hsh : WShape.hasAll [] args [.list .int] = true := (pre_splitW hpre).1
  have hc : l.pre.holds [] { args := args } = true := (pre_splitW hpre).2
  obtain ⟨d, r, rfl, h1, h2⟩ := hasAllW_cons hsh
  obtain rfl := hasAllW_nil h2
  obtain ⟨xs, rfl, h3⟩ := hasW_list h1
  obtain ⟨ns, rfl⟩ := items_int h3
  have hlen : ns.length <= n := by
    unfold OpenLaw.pre at hc
    have h4 : (WTm.not (.lt (.lit (.int (n : Int))) (.len (.arg 0)))).holds [] { args := [.list (ns.map .int)] } = true := by
      have h4 := (holds_andW hc).1
      rw [hn] at h4
      exact h4
    have h5 := condW_of h4 (w_not (w_lt w_lit (w_len_list (w_arg rfl))))
    rw [List.length_map] at h5
    refine Nat.le_of_not_lt fun q => ?_
    have q' : (n : Int) < ((ns.length : Nat) : Int) := by omega
    first
      | (rw [decide_eq_true q'] at h5; exact absurd h5 (by decide))
      | (simp at h5; omega)
  cases hwl with
  | cons w1 w2 =>
    cases w2
    cases w1 with
    | list ho hall => exact ⟨_, _, ns, rfl, rfl, ho, z8I ns _ hall, hlen⟩
theorem zf7 (l : OpenLaw) (args : List WData) : l.row.toRowW.claim.post args (.bool true) args = true :=
  postW_of (r := l.row.toRowW) (X := (true == true))
    (show WShape.has [] (.bool true) .bool = true by first | rfl | decide | simp [WShape.has, WShape.arms, WShape.armsAll])
    (show (WTm.eq .res (.lit (.bool true))).value [] { args := args, res := some (.bool true), after := args } = some (.bool (true == true)) from w_eq_bool (w_res rfl) w_lit) rfl
theorem attach_call {l : OpenLaw} {n : Nat} {q : Program} {loose : List Str} {XP : (Str -> Option Value) -> Heap -> Prop} {YP : World -> Heap -> Prop} {d : DefRec}
    (hn : l.most = some n) (hdf : d.params.defaults = [])
    (call : ∀ (w : World) (s₀ s₁ : Shared) (mg mb : Str -> Option Value) (fa : Addr) (o : Obj) (pm cd doc : Value) (a : Addr) (vs : List Value) (ns : List Int),
      Ground q loose [] XP w s₀ mg mb s₁.heap -> YP w s₁.heap ->
      s₁.heap.get? fa = some o -> o.data = .func (docDef d.name d.params d.body d.scope pm cd doc) -> s₁.heap.CodeRec cd d.name -> mg d.name = some (.ref fa) ->
      s₁.heap.get? a = some { cls := .type "list", data := .seq vs.toArray } -> IntsAre vs ns -> ns.length <= n -> s₁.gens = #[] ->
      codeAny (model l.prog w) callerA (.call (.ref fa) ⟨[.ref a], []⟩) (fun r s' => r = .ok (.ret (.bool true)) /\ OldK s₁.heap s'.heap /\ s'.os = s₁.os /\ AllBare s'.gens) s₁) :
    WalkO q loose XP YP l.row.toRowW d [] (fun f vs => PySem.call f vs) := by
  intro w s₀ s₁ mg mb G Y fa o pm cd doc dV kV ho hd hcd hD hmg hg args vals as hpre hlay hrd hwl hlo
  obtain rfl : dV = .none := Dflts.none hD hdf
  obtain rfl : kV = .none := Dflts.noKw hD
  obtain ⟨a, vs, ns, rfl, rfl, hobj, hints, hlen⟩ := zdy hn hpre hwl
  refine enter_call (codeAny_mono (call w s₀ s₁ mg mb fa o pm cd doc a vs ns G Y ho (fd_plain hd) hcd hmg hobj hints hlen hg) fun r s' hq => ?_)
  obtain ⟨rfl, h2, h3, h4⟩ := hq
  exact ⟨.inl ⟨.bool true, .bool true, [], rfl, fun _ => rfl, .bool true, zf7 l _, fun _ => ⟨List.Pairwise.nil, fun _ hm => (nomatch hm)⟩⟩, h2, h3, h4⟩
section
variable {prog : Program} {w : World} {A : Around} {E : Value -> Shared -> Prop} {s : Shared} {K : Frag}
def zl3 (h : Heap) (L d : Addr) : List (Addr × Obj) := (List.range h.objs.size).filterMap fun a => if a = L \/ a = d then none else (h.get? a).map fun o => (a, o)
end
end Att
namespace L2
open PySem PySem.Spec PyProof.Rows
theorem z8D : ∀ {vs : List Value} {ns : List Int}, IntsAre vs ns -> Vals (ns.map V.int) vs
  | _, _, .nil => .nil
  | _, _, .cons n t h => .cons ⟨t, rfl⟩ (z8D h)
def zke (H : Hp) : Prop := ∀ b, H b = none \/ ∃ o xs, H b = some (.frz o (.lst xs))
theorem zfF {P : Program} {w : World} {K : PySem.W.Frag} {mg mb : Str -> Option Value} {CX : CXT} {k : Nat} {fa a : Addr} {fd : FuncData} {x : Str} {sp : Sp} {s₁ : Shared} {vs : List Value} {ns : List Int}
    (KX : K.In s₁.heap) (hns : s₁.heap.Ns mainGlobals mg) (hb : s₁.heap.Ns builtinsNs mb) (hbb : ∀ x : Str, x ≠ "__name__" -> mb x = bootBuiltins x) (hlim : s₁.heap.NoLimit) (hg : s₁.gens = #[])
    (ha : s₁.heap.get? a = some { cls := .type "list", data := .seq vs.toArray }) (hi : IntsAre vs ns) (hl : ns.length <= sizeLine) (hr : Room k callerA)
    (F : ∀ base : Heap, K.In base -> base.Ns mainGlobals mg -> FnOk P w K mg base CX k fa fd [x] sp) (hbind : ∀ (s : Shared) (u : Value), BindsTo s fd ⟨[u], []⟩ [(x, u)])
    (hsp : ∀ H : Hp, zke H -> SqL K H a (ns.map V.int) -> sp [.ref a] H (fun v _ => v = .bl true) fun _ _ _ => False)
    (hCX : ∀ H e s', CX [] H s₁ (fun _ _ _ => False) e s' -> False) :
    codeAny (model P w) callerA (.call (.ref fa) ⟨[.ref a], []⟩) (fun r s' => r = .ok (.ret (.bool true)) /\ OldK s₁.heap s'.heap /\ s'.os = s₁.os /\ AllBare s'.gens) s₁ := by
  have rv := z8D hi
  have lenV := hi.length
  -- from an abstract heap in which nothing but the script may be tracked
  have core : ∀ H : Hp, zke H -> SqL K H a (ns.map V.int) -> HOk P w H s₁.heap -> (∀ b, H b ≠ none -> b = a) -> (H a ≠ none -> K.lookup a = none) ->
      codeAny (model P w) callerA (.call (.ref fa) ⟨[.ref a], []⟩) (fun r s' => r = .ok (.ret (.bool true)) /\ OldK s₁.heap s'.heap /\ s'.os = s₁.os /\ AllBare s'.gens) s₁ := by
    intro H hO hS hok hA hK
    have base_of : ∀ {b : Addr} {o : Obj}, s₁.heap.get? b = some o -> H b = none -> (zci s₁.heap H).get? b = some o := fun e n => zcB e n
    have noA : ∀ {b : Addr} {o : Obj} {es : Array DictEntry} {ep : Nat}, s₁.heap.get? b = some o -> o.data = .dict es ep -> H b = none := fun {b o es ep} e d => by
      cases q : H b with
      | none => rfl
      | some u =>
        have e' : b = a := hA b (by rw [q]; simp)
        subst e'
        rw [ha] at e; cases e
        have d' : Data.seq vs.toArray _ = Data.dict es ep := d
        cases d'
    have nsK : ∀ {b : Addr} {m : Str -> Option Value}, s₁.heap.Ns b m -> (zci s₁.heap H).Ns b m := fun {b m} ⟨o, es, ep, e, d, r⟩ => ⟨o, es, ep, base_of e (noA e d), d, r⟩
    have hKb : K.In (zci s₁.heap H) := fun b o e => base_of (KX b o e) (by
      cases q : H b with
      | none => rfl
      | some u =>
        have e' : b = a := hA b (by rw [q]; simp)
        subst e'
        rw [hK (by rw [q]; simp)] at e; cases e)
    have hM : Mod K mg (zci s₁.heap H) := ⟨hKb, nsK hns, ⟨mb, nsK hb, hbb⟩, let ⟨mc, h1, h2⟩ := hlim; ⟨mc, nsK h1, h2⟩⟩
    have e0 : zh2 P w K mg (zci s₁.heap H) callerA [] s₁ H := ⟨rfl, hM, fun b o e => zdZ e, Nat.le_of_eq (zbn _ _), trivial, fun b hb => absurd (show b ∈ ([] : List Addr) from hb) (by simp), hok, .of_eq hg⟩
    refine codeAny_mono ((F _ hKb (nsK hns)).run callerA [] s₁ H ⟨[.ref a], []⟩ [.ref a] [.ref a] _ _ hr e0 (hbind s₁ (.ref a)) (.cons rfl .nil) (hsp H hO hS)) fun r s' h => ?_
    cases r with
    | error e => exact (hCX H e s' h).elim
    | ok fl =>
      cases fl with
      | next => exact False.elim h
      | brk => exact False.elim h
      | cont => exact False.elim h
      | ret u =>
        obtain ⟨v, H', os, bare, un, hok', r', q⟩ := h
        have q' : v = .bl true := q
        subst q'
        obtain rfl : u = Value.bool true := r'
        refine ⟨rfl, OldK.of_keep fun b o e => ?_, os, bare⟩
        cases q : H b with
        | none => exact un.keep b o e q (by intro z; exact absurd (show b ∈ ([] : List Addr) from z) (by simp)) (by simp)
        | some u =>
          rcases hO b with z | ⟨ob, xs, z⟩
          · rw [q] at z; cases z
          · have z2 := un.frzs b ob _ z
            obtain ⟨e1, _⟩ := hok b _ z
            obtain ⟨e2, _⟩ := hok' b _ z2
            rw [e] at e1; cases e1
            exact e2
  cases hk : K.lookup a with
  | some o =>
    -- the script is one of the module's own objects
    have e := KX a o hk
    rw [ha] at e
    cases e
    refine core (fun _ => none) (fun _ => .inl rfl) (.inr ⟨_, vs.toArray, _, hk, rfl, rfl, rfl, by rw [List.size_toArray, lenV]; exact hl, by simpa using rv⟩) (fun b u z => by have z' : (none : Option HO) = some u := z; cases z') (fun b z => absurd rfl z) fun z => absurd rfl z
  | none =>
    refine core (fun b => if b = a then some (.frz { cls := .type "list", data := .seq vs.toArray } (.lst (ns.map V.int))) else none) (fun b => ?_) (.inl (.inr ⟨{ cls := .type "list", data := .seq vs.toArray }, if_pos rfl⟩)) (fun b u z => ?_) (fun b z => ?_) fun _ => hk
    · by_cases hb : b = a
      · exact .inr ⟨_, _, if_pos hb⟩
      · exact .inl (if_neg hb)
    · by_cases hb : b = a
      · have z' := (if_pos hb).symm.trans z
        cases z'
        subst hb
        exact ⟨ha, by rw [List.length_map]; exact hl, vs, _, rv, ha⟩
      · have z' := (if_neg hb).symm.trans z
        cases z'
    · by_cases hb : b = a
      · exact hb
      · exact absurd (if_neg hb) z
end L2
namespace L2
open PySem PySem.Spec PyProof.Rows
abbrev KOf {K : PySem.W.Frag} {h : Heap} (_ : K.In h) : PySem.W.Frag := K
theorem zkB {l : PySem.W.OpenLaw} {n k : Nat} {q : Program} {loose : List Str} {XP : (Str -> Option Value) -> Heap -> Prop} {YP : World -> Heap -> Prop} {d : DefRec} {K : Params -> PySem.W.Frag} {CX : World -> CXT} {sp : World -> Sp} {x : Str}
    (hn : l.most = some n) (hn2 : n <= sizeLine) (hdf : d.params.defaults = []) (hr : Room k callerA)
    (hY : ∀ (w : World) (h : Heap), YP w h -> (K w.params).In h)
    (F : ∀ (w : World) (mg : Str -> Option Value) (fa : Addr) (h : Heap), (K w.params).In h -> h.Ns mainGlobals mg -> mg d.name = some (.ref fa) ->
      ∃ fd : FuncData, (∀ (s : Shared) (u : Value), BindsTo s fd ⟨[u], []⟩ [(x, u)]) /\
        ∀ base : Heap, (K w.params).In base -> base.Ns mainGlobals mg -> FnOk l.prog w (K w.params) mg base (CX w) k fa fd [x] (sp w))
    (hsp : ∀ (w : World) (H : Hp) (a : Addr) (ns : List Int), ns.length <= n -> zke H -> SqL (K w.params) H a (ns.map V.int) -> sp w [.ref a] H (fun v _ => v = .bl true) fun _ _ _ => False)
    (hCX : ∀ (w : World) (H : Hp) (s : Shared) (e : Value) (s' : Shared), CX w [] H s (fun _ _ _ => False) e s' -> False) :
    PySem.W.WalkO q loose XP YP l.row.toRowW d [] (fun f vs => PySem.call f vs) := by
  refine Att.attach_call hn hdf fun w s₀ s₁ mg mb fa o pm cd doc a vs ns G Y ho hd hcd hmg hobj hints hlen hg => ?_
  have KX := hY w _ Y
  obtain ⟨fd, hb, hF⟩ := F w mg fa _ KX G.T.g hmg
  exact zfF KX G.T.g G.T.b G.T.builtins G.T.nolimit hg hobj hints (Nat.le_trans hlen hn2) hr hF hb (fun H hO hS => hsp w H a ns hlen hO hS) fun H e s' => hCX w H s₁ e s'
end L2
namespace L2
open PySem PySem.Spec PyProof.Rows
def z50 (s : Stmt) : Arguments := match s with
  | .FunctionDef _ a _ _ _ _ _ _ _ _ => a
  | _ => { posonlyargs := [], args := [], vararg := none, kwonlyargs := [], kw_defaults := [], kwarg := none, defaults := [] }
def z4V (s : Stmt) : List Stmt := match s with
  | .FunctionDef _ _ b _ _ _ _ _ _ _ => b
  | _ => []
def z4E (s : Stmt) : Scope := match s with
  | .FunctionDef _ _ _ _ _ _ sc _ _ _ => sc
  | _ => { kind := .function, names := [], isGenerator := false, isCoroutine := false }
abbrev CX0 : CXT := fun _ _ _ _ _ _ => False
abbrev E0 : XK := fun _ _ _ => False
structure Fun (K : PySem.W.Frag) (x qual : Str) (st : Stmt) (f : Addr) (fd : FuncData) : Prop where
  ex : ∃ (oc : Value) (od : Option Addr) (kV doc pm : Value) (an : Option Addr) (cdv ct : Value) (osl : Array (Option Value)),
    fd = PySem.W.fnOf x qual (z50 st) (z4V st) (z4E st) .none kV doc pm an cdv ct /\ K.lookup f = some ⟨oc, od, .func fd, osl⟩ /\ PySem.W.codeIn K cdv qual = true
  kp : PySem.W.keepIn K (.ref f) = true
section
variable {P : Program} {w : World} {K : PySem.W.Frag} {mg : Str -> Option Value} {base : Heap}
theorem Fun.ok {x qual : Str} {st : Stmt} {f : Addr} {fd : FuncData} {N ps : List Str} {k : Nat} {sp : Sp} (F : Fun K x qual st f fd) (S : z4X N ps (z4E st)) (len : ∀ vs H Q E, sp vs H Q E -> vs.length = ps.length)
    (hbody : ∀ (cdv : Value) (A : Around) (outer : List Env) (s : Shared) (H : Hp) (vs : List V) (Q : VK) (E : XK), Room k (A.deeper (envOfC qual (z4E st) s.heap.objs.size f cdv)) -> sp vs H Q E ->
      ∃ t, PSs (zg3 CX0 P w K mg base N qual (z4E st) f cdv A outer s H E).nox (z4V st) t /\ t { nx := fun _ H' => Q .non H', rt := Q } (start N vs) H) : FnOk P w K mg base CX0 (k + 1) f fd ps sp := by
  obtain ⟨oc, od, kV, doc, pm, an, cdv, ct, osl, rfl, lk, hcd⟩ := F.ex
  refine zfT lk hcd S len fun A outer s H vs Q E hr hsp => ?_
  obtain ⟨t, h, q⟩ := hbody cdv A outer s H vs Q E hr hsp
  exact ⟨t, h.nox, q⟩
theorem Fun.binds {x qual : Str} {st : Stmt} {f : Addr} {fd : FuncData} {ps : List Str} (F : Fun K x qual st f fd)
    (h : ∀ (kV doc pm : Value) (an : Option Addr) (cdv ct : Value) (us : List Value), us.length = ps.length -> bindArgs (PySem.W.fnOf x qual (z50 st) (z4V st) (z4E st) .none kV doc pm an cdv ct) ⟨us, []⟩ = pure (ps.zip us)) : Binds K fd ps [] := by
  obtain ⟨oc, od, kV, doc, pm, an, cdv, ct, osl, rfl, lk, hcd⟩ := F.ex
  exact .all (h kV doc pm an cdv ct)
theorem z5u {x qual : Str} {st : Stmt} {f : Addr} {oc : Value} {od an : Option Addr} {osl : Array (Option Value)} {kV doc pm cdv ct : Value} (l : K.lookup f = some ⟨oc, od, .func (PySem.W.fnOf x qual (z50 st) (z4V st) (z4E st) .none kV doc pm an cdv ct), osl⟩)
    (c : PySem.W.codeIn K cdv qual = true) (k : PySem.W.keepIn K (.ref f) = true) : Fun K x qual st f (PySem.W.fnOf x qual (z50 st) (z4V st) (z4E st) .none kV doc pm an cdv ct) := ⟨⟨oc, od, kV, doc, pm, an, cdv, ct, osl, rfl, l, c⟩, k⟩
end
theorem zkk {A : Around} {k : Nat} (hr : Room k A) : A.units + 1 < cLine := Nat.lt_of_le_of_lt (Nat.add_le_add_left (by decide : 1 <= 64) _) hr.units
section
variable {X : Cx}
end
def Same (H H' : Hp) : Prop := ∀ b o, H b = some o -> H' b = some o
theorem Same.trans {H H1 H2 : Hp} (a : Same H H1) (b : Same H1 H2) : Same H H2 := fun c o h => b c o (a c o h)
theorem Same.free {H H' : Hp} (e : Same H H') {l : Addr} (h : H' l = Option.none) : H l = Option.none := by
  cases q : H l with
  | none => rfl
  | some o =>
    rw [e l o q] at h
    cases h
theorem Same.seq {K : PySem.W.Frag} {H H' : Hp} {a : Addr} {xs : List V} (e : Same H H') (h : SqL K H a xs) : SqL K H' a xs := by
  rcases h with (h | ⟨o, h⟩) | h
  · exact .inl (.inl (e _ _ h))
  · exact .inl (.inr ⟨o, e _ _ h⟩)
  · exact .inr h
end L2
namespace L2
open PySem PySem.Spec PyProof.Rows
section
variable {κ : Type} [DecidableEq κ]
def zfh (kvs : List (κ × V)) (k : κ) : Option V := (kvs.find? fun kv => decide (kv.1 = k)).map (·.2)
def zgT (kvs : List (κ × V)) (k : κ) (v : V) : List (κ × V) :=
  if (kvs.any fun kv => decide (kv.1 = k)) = true then kvs.map (fun kv => if kv.1 = k then (kv.1, v) else kv) else kvs ++ [(k, v)]
theorem zcE {p : κ × V} {r : List (κ × V)} {k : κ} (e : p.1 = k) : zfh (p :: r) k = some p.2 := by simp [zfh, List.find?_cons, e]
theorem zcr {p : κ × V} {r : List (κ × V)} {k : κ} (e : ¬ p.1 = k) : zfh (p :: r) k = zfh r k := by simp [zfh, List.find?_cons, e]
theorem zbP (kvs : List (κ × V)) (k : κ) (v : V) : (zgT kvs k v).length <= kvs.length + 1 := by
  unfold zgT
  split
  · rw [List.length_map]; omega
  · rw [List.length_append, List.length_cons, List.length_nil]; omega
theorem KV.val {kvs : List (κ × V)} {vs : List (κ × Value)} (r : KV kvs vs) (k : κ) : RelO (zfh kvs k) (valueAt vs k) := by
  unfold KV at r
  induction r with
  | nil => exact True.intro
  | @cons p q ps qs h t ih =>
    obtain ⟨h1, h2⟩ := h
    by_cases e : p.1 = k
    · have e' : q.1 = k := h1.symm.trans e
      have b : valueAt (q :: qs) k = some q.2 := by simp [valueAt, List.find?_cons, e']
      rw [zcE e, b]; exact h2
    · have e' : ¬ q.1 = k := fun z => e (h1.trans z)
      have b : valueAt (q :: qs) k = valueAt qs k := by simp [valueAt, List.find?_cons, e']
      rw [zcr e, b]; exact ih
theorem KV.any {kvs : List (κ × V)} {vs : List (κ × Value)} (r : KV kvs vs) (k : κ) : (kvs.any fun kv => decide (kv.1 = k)) = vs.any fun kv => decide (kv.1 = k) := by
  unfold KV at r
  induction r with
  | nil => rfl
  | cons h t ih => rw [List.any_cons, List.any_cons, ih, h.1]
theorem KV.repl {kvs : List (κ × V)} {vs : List (κ × Value)} (r : KV kvs vs) (k : κ) {y : V} {u : Value} (ry : RelV y u) :
    KV (kvs.map fun kv => if kv.1 = k then (kv.1, y) else kv) (vs.map fun kv => if kv.1 = k then (kv.1, u) else kv) := by
  unfold KV at r ⊢
  induction r with
  | nil => exact .nil
  | @cons p q ps qs h t ih =>
    rw [List.map_cons, List.map_cons]
    refine .cons ?_ ih
    obtain ⟨h1, h2⟩ := h
    by_cases e : p.1 = k
    · rw [if_pos e, if_pos (h1.symm.trans e)]; exact ⟨h1, ry⟩
    · rw [if_neg e, if_neg (fun z => e (h1.trans z))]; exact ⟨h1, h2⟩
theorem KV.put {kvs : List (κ × V)} {vs : List (κ × Value)} (r : KV kvs vs) (k : κ) {y : V} {u : Value} (ry : RelV y u) : KV (zgT kvs k y) (stored vs k u) := by
  unfold zgT stored
  rw [r.any k]
  by_cases e : (vs.any fun kv => decide (kv.1 = k)) = true
  · rw [if_pos e, if_pos e]; exact r.repl k ry
  · rw [if_neg e, if_neg e]; exact Paired.snoc r ⟨rfl, ry⟩
theorem KV.length {kvs : List (κ × V)} {vs : List (κ × Value)} (r : KV kvs vs) : kvs.length = vs.length := Paired.length r
end
theorem zhg {P : Program} {w : World} {k : Key} {u : Value} (r : RelV (kV k) u) : (z62 P w).is k u = true := by
  cases k with
  | inl i => obtain ⟨t, e⟩ := (show ∃ t, u = Value.int i t from r); subst e; exact zbK P w i t
  | inr x => obtain ⟨t, e⟩ := (show ∃ t, u = Value.str x t from r); subst e; exact zc2 P w x t
theorem zbo {P : Program} {w : World} : ∀ {ks : List Key} {us : List Value}, Vals (ks.map kV) us -> ItemsAre (z62 P w) ks us
  | [], _, r => by rw [List.map_nil] at r; cases r; exact .nil
  | k :: ks, _, r => by
    rw [List.map_cons] at r
    cases r with
    | cons h t => exact .cons (zhg h) (zbo t)
abbrev KT (H : Hp) : List (List Key × V) -> List (List Key × Addr × Value) -> Prop := Paired fun p q => p.1 = q.1 /\ H q.2.1 = some (.tup (p.1.map kV)) /\ RelV p.2 q.2.2
theorem KT.val {H : Hp} {kvs : List (List Key × V)} {xs : List (List Key × Addr × Value)} (r : KT H kvs xs) (k : List Key) : RelO (zfh kvs k) ((atKey xs k).map (·.2)) := by
  induction r with
  | nil => exact True.intro
  | @cons p q ps qs h t ih =>
    obtain ⟨h1, _, h2⟩ := h
    by_cases e : p.1 = k
    · have e' : q.1 = k := h1.symm.trans e
      have b : atKey (q :: qs) k = some q.2 := by simp [atKey, List.find?_cons, e']
      rw [zcE e, b]; exact h2
    · have e' : ¬ q.1 = k := fun z => e (h1.trans z)
      have b : atKey (q :: qs) k = atKey qs k := by simp [atKey, List.find?_cons, e']
      rw [zcr e, b]; exact ih
section
variable {P : Program} {w : World} {H : Hp} {h : Heap} {a : Addr}
theorem ziy {u : HO} (ok : HOk P w H h) (e : Rd H a u) : ObjOk P w H h a u := e.ok ok
theorem zh4 {kvs : List (Key × V)} (ok : HOk P w H h) (e : Rd H a (.dK kvs)) : kvs.length <= sizeLine /\ (a == sysModules) = false /\ ∃ vs, KV kvs vs /\ h.DictOf (z62 P w) a vs :=
  show ObjOk P w H h a (.dK kvs) from ziy ok e
theorem zkH {kvs : List (Key × V)} (ok : HOk P w H h) (e : H a = some (.dK kvs)) : kvs.length <= sizeLine /\ (a == sysModules) = false /\ ∃ vs, KV kvs vs /\ h.DictOf (z62 P w) a vs := zh4 ok (.inl e)
theorem zh3 {ks : List Key} (ok : HOk P w H h) (e : H a = some (.tup (ks.map kV))) : (tupleKind (z62 P w)).is h ks a := by
  obtain ⟨_, its, r, o, h1, h2, n, h3⟩ := (show ObjOk P w H h a (.tup (ks.map kV)) from ok a _ e)
  exact ⟨o, its.toArray, n, h1, h2, h3, by simpa using zbo r⟩
theorem zjO {kvs : List (List Key × V)} (ok : HOk P w H h) (e : Rd H a (.dT kvs)) : kvs.length <= sizeLine /\ (a == sysModules) = false /\
    ∃ xs, KT H kvs xs /\ h.DictOfH (tupleKind (z62 P w)) a xs := by
  obtain ⟨z, y, xs, r, o, es, ep, h1, h2, h3, h4, h5⟩ := (show ObjOk P w H h a (.dT kvs) from ziy ok e)
  refine ⟨z, y, xs, r, o, es, ep, h1, h2, h3, h4, fun x hx => ?_, h5⟩
  have all : ∀ {l : List (List Key × V)} {m : List (List Key × Addr × Value)}, KT H l m -> ∀ x ∈ m, (tupleKind (z62 P w)).is h x.1 x.2.1 := by
    intro l m q
    induction q with
    | nil => intro x hx; exact nomatch hx
    | @cons p q ps qs hq t ih =>
      intro x hx
      rcases List.mem_cons.mp hx with e | hx
      · subst e
        exact zh3 ok (by rw [<- hq.1]; exact hq.2.1)
      · exact ih x hx
  exact all r x hx
end
def zk6 (H : Hp) (a : Addr) (y : V) (r : Option V) : Prop :=
  (∃ kvs k, Rd H a (.dK kvs) /\ y = kV k /\ r = zfh kvs k) \/ ∃ kvs k b, Rd H a (.dT kvs) /\ y = .ref b /\ H b = some (.tup (k.map kV)) /\ r = zfh kvs k
section
variable {X : Cx} {pins : List (Addr × Obj)} {σ : St} {H : Hp} {s : Shared} {a : Addr} {y v : V} {u r : Value} {o : Option V} {A : Around} {E : Value -> Shared -> Prop}
theorem Inv.big (I : Inv X pins σ H s) : sysModules < s.heap.objs.size := by
  have h : mainGlobals < s.heap.objs.size := (I.mod.glob.keeps I.bk).lt
  exact Nat.lt_trans (by decide) h
theorem zeR {Q : Value -> Shared -> Prop} (hu : A.units + 1 < cLine) (I : Inv X pins σ H s) (g : zk6 H a y (some v)) (ry : RelV y u) (h : ∀ w' s', Inv X pins σ H s' -> RelV v w' -> Q w' s') :
    wpAny (model X.prog X.w) A (getItem (.ref a) u) Q E s := by
  rcases g with ⟨kvs, k, e, ey, l⟩ | ⟨kvs, k, b, e, ey, eb, l⟩
  · subst ey
    obtain ⟨z, hd, vs, rel, dd⟩ := zh4 I.hok e
    obtain ⟨w', hw, rw'⟩ := RelO.some_of (v := v) (o := valueAt vs k) (by rw [l]; exact rel.val k)
    exact wpAny_getItem_of (zhg ry) dd.mapOf hw (h w' _ (I.tok _) rw')
  · subst ey
    cases (show u = Value.ref b from ry)
    obtain ⟨z, hd, xs, rel, dd⟩ := zjO I.hok e
    obtain ⟨w', hw, rw'⟩ := RelO.some_of (v := v) (o := (atKey xs k).map (·.2)) (by rw [l]; exact rel.val k)
    obtain ⟨p, hp, hp2⟩ := Option.map_eq_some_iff.mp hw
    refine wpAny_getItem_heap (tupleKind_room_in1 hu) (zh3 I.hok eb) dd hp ?_
    rw [hp2]
    exact h w' _ (I.tok _) rw'
theorem zhY {h' : Heap} {t' : Nat} {ob : HO} (I : Inv X pins σ H s) (mu : Mut (H a)) (hs : Heap.SameBut a s.heap h') (he : ∃ q, h'.get? a = some q) (new : ObjOk X.prog X.w (upd H a ob) h' a ob) :
    Inv X pins σ (upd H a ob) { s with heap := h', toks := t' } :=
  I.write (x := a) (e := a) mu (.inl rfl) (fun b q hb z => (hs.2 b hb).trans z) he new
theorem ziW {P : Program} {w : World} {H' : Hp} {h' : Heap} {kvs : List (Key × V)} {vs : List (Key × Value)} (z : kvs.length <= sizeLine) (hd : (a == sysModules) = false) (rel : KV kvs vs) (dd : h'.DictOf (z62 P w) a vs) :
    ObjOk P w H' h' a (.dK kvs) := ⟨z, hd, vs, rel, dd⟩
end
section
variable {X : Cx} {pins : List (Addr × Obj)} {σ : St} {H : Hp} {s : Shared} {a : Addr} {kvs : List (Key × V)} {k : Key} {u : Value} {A : Around} {E : Value -> Shared -> Prop}
end
def zjX (i : Expr) : Prop := ∀ ov iv, subscripted i false ov iv = operate [ov, iv] (getItem ov iv)
theorem zew {prog : Program} {w : World} {A : Around} {E : Value -> Shared -> Prop} {s : Shared} {env : Env} {value slice : Expr} {pos : Pos} {T id : String} {Q : Value -> Shared -> Prop}
    (hl : typeLookup (.type T) "__getitem__" = pure (some (.builtin id))) (hs : zjX slice)
    (h : wpAny (model prog w) A (eval value env) (fun o s₁ => wpAny (model prog w) A (eval slice env) (fun i s₂ => s₂.TypeIs o T /\ wpAny (model prog w) A (getItem o i) Q E s₂) E s₁) E s) :
    wpAny (model prog w) A (eval (.Subscript value slice pos) env) Q E s := by
  refine Subscript_ (wpAny_mono h (fun o s₁ h₁ => wpAny_mono h₁ (fun i s₂ h₂ => ?_) fun _ _ x => x) fun _ _ x => x)
  obtain ⟨hT, h₂⟩ := h₂
  unfold subscriptTail
  refine wpAny_bind ?_
  rw [getitemInPython_of_ne hT.not_modules]
  refine wpAny_bind (wpAny_specialOf hT hl ?_)
  have fin : wpAny (model prog w) A (subscripted slice false o i) (fun r s₃ => wpAny (model prog w) A (letTemporaryGo value o r >>= fun _ => pure r) Q E s₃) E s₂ := by
    rw [hs o i]
    exact wpAny_operating (wpAny_mono h₂ (fun r s₃ h₃ => wpAny_bind (wpAny_letTemporaryGo (wpAny_pure h₃))) fun _ _ x => x)
  first
    | exact wpAny_pure (wpAny_bind fin)
    | exact wpAny_bind (wpAny_pure (wpAny_bind fin))
    | exact wpAny_bind fin
theorem zbJ {X : Cx} {pins : List (Addr × Obj)} {σ : St} {H : Hp} {s : Shared} {a : Addr} {y : V} {o : Option V} (I : Inv X pins σ H s) (g : zk6 H a y o) : s.TypeIs (.ref a) "dict" := by
  rcases g with ⟨kvs, k, e, _, _⟩ | ⟨kvs, k, b, e, _, _, _⟩
  · obtain ⟨_, _, vs, _, dd⟩ := zh4 I.hok e
    exact dd.typeIs
  · obtain ⟨_, _, xs, _, dd⟩ := zjO I.hok e
    exact dd.typeIs
def zkO (td ty : TE) : TE := fun σ H Q => td σ H fun x H1 => ty σ H1 fun y H2 => ∃ a v, x = .ref a /\ zk6 H2 a y (some v) /\ Q v H2
section
variable {X : Cx} {o i e value : Expr} {pos pos' tpos : Pos} {td ty tv : TE}
theorem zhc (hu : X.A.units + 1 < cLine) (ho : PE X o td) (hi : PE X i ty) (hs : zjX i) : PE X (.Subscript o i pos) (zkO td ty) := by
  intro pins s σ H Q I h
  refine zew PySem.F.slot_dict_getitem.lookup hs (thn (ho pins s σ H _ I h) fun u s1 ⟨x, H1, I1, rx, q1⟩ => thn (hi pins s1 σ H1 _ I1 q1) fun iv s2 ⟨y, H2, I2, ry, a, v, ex, g, q2⟩ => ?_)
  subst ex
  obtain rfl : u = Value.ref a := rx
  exact ⟨zbJ I2 g, zeR hu I2 g ry fun w' s3 I3 rw' => ⟨v, H2, I3, rw', q2⟩⟩
end
theorem zcP {P : Program} {w : World} {H : Hp} (h : Heap) (hb : sysModules < h.objs.size) : ObjOk P w H (h.push { cls := .type "dict", data := .dict #[] }) h.objs.size (.dK []) :=
  ⟨Nat.zero_le _, beq_eq_false_iff_ne.mpr (Ne.symm (Nat.ne_of_lt hb)), [], .nil, Heap.DictOf.new h⟩
def zj4 : TE := fun _ H Q => ∀ p, H p = none -> Q (.ref p) (upd H p (.dK []))
section
variable {X : Cx} {pos : Pos}
theorem zfw : PE X (.Dict [] [] pos) zj4 := fun pins s σ H Q I h =>
  wpAny_Dict_empty ⟨.ref s.heap.objs.size, _, I.laid (a := s.heap.objs.size) (o := .dK []) (t' := s.toks) (fun _ _ q => Heap.get?_push_of_some _ q) (Nat.le_refl _) (zcP s.heap I.big), rfl, h _ (I.hok.fresh (Nat.le_refl _))⟩
end
def zaJ : List (TE × TE) -> St -> Hp -> (List (V × V) -> Hp -> Prop) -> Prop
  | [], _, H, Q => Q [] H
  | (tk, tv) :: r, σ, H, Q => tk σ H fun x H1 => tv σ H1 fun y H2 => zaJ r σ H2 fun ps H3 => Q ((x, y) :: ps) H3
abbrev VV : List (V × V) -> List (Value × Value) -> Prop := Paired fun p q => RelV p.1 q.1 /\ RelV p.2 q.2
def PPs (X : Cx) (pos : Pos) (keys : List (Option Expr)) (values : List Expr) (trs : List (TE × TE)) : Prop :=
  ∀ (pins : List (Addr × Obj)) (s : Shared) (σ : St) (H : Hp) (Q : List (V × V) -> Hp -> Prop), Inv X pins σ H s -> zaJ trs σ H Q ->
    wpAny (model X.prog X.w) X.A (evalPairs (pairTrees keys values X.env pos)) (fun vs s' => ∃ ps H', Inv X pins σ H' s' /\ VV ps vs /\ Q ps H') X.xe s
theorem zib {X : Cx} {pos : Pos} : PPs X pos [] [] [] := fun pins s σ H Q I h => pairTrees_nil_walk ⟨[], H, I, .nil, h⟩
theorem z8B {X : Cx} {pos : Pos} {k v : Expr} {ks : List (Option Expr)} {vs : List Expr} {tk tv : TE} {trs : List (TE × TE)} (hk : PE X k tk) (hv : PE X v tv) (hr : PPs X pos ks vs trs) :
    PPs X pos (some k :: ks) (v :: vs) ((tk, tv) :: trs) := fun pins s σ H Q I h =>
  pairTrees_cons_walk (thn (hk pins s σ H _ I h) fun u s1 ⟨x, H1, I1, rx, q1⟩ => thn (hv pins s1 σ H1 _ I1 q1) fun w2 s2 ⟨y, H2, I2, ry, q2⟩ =>
    thn (hr pins s2 σ H2 _ I2 q2) fun ws s3 ⟨ps, H3, I3, rel, q3⟩ => ⟨(x, y) :: ps, H3, I3, .cons ⟨rx, ry⟩ rel, q3⟩)
def z7V (kvs more : List (Key × V)) : List (Key × V) := more.foldl (fun acc kv => zgT acc kv.1 kv.2) kvs
theorem KV.merge : ∀ {more : List (Key × V)} {rs : List (Key × Value)} {kvs : List (Key × V)} {vs : List (Key × Value)}, KV more rs -> KV kvs vs -> KV (z7V kvs more) (merged vs rs) := by
  intro more rs kvs vs r
  unfold KV at r
  induction r generalizing kvs vs with
  | nil => intro q; exact q
  | @cons p q ps qs h t ih =>
    intro r0
    have e : KV (zgT kvs p.1 p.2) (stored vs q.1 q.2) := by
      have := r0.put p.1 h.2
      rw [<- h.1]; exact this
    exact ih e
theorem z7T : ∀ (more kvs : List (Key × V)), (z7V kvs more).length <= kvs.length + more.length
  | [], kvs => by show kvs.length <= kvs.length + 0; omega
  | p :: r, kvs => by
    have h1 := z7T r (zgT kvs p.1 p.2)
    have h2 := zbP kvs p.1 p.2
    show (z7V (zgT kvs p.1 p.2) r).length <= _
    rw [List.length_cons]; omega
theorem z9z {P : Program} {w : World} : ∀ {kvs : List (Key × V)} {ws : List (Value × Value)}, VV (kvs.map fun kv => (kV kv.1, kv.2)) ws -> ∃ rs, Carries (z62 P w) ws rs /\ KV kvs rs
  | [], _, r => by rw [List.map_nil] at r; cases r; exact ⟨[], True.intro, .nil⟩
  | p :: kvs, _, r => by
    rw [List.map_cons] at r
    cases r with
    | @cons a b as bs h t =>
      obtain ⟨rs, c, q⟩ := z9z (P := P) (w := w) t
      obtain ⟨b1, b2⟩ := b
      exact ⟨(p.1, b2) :: rs, ⟨zhg h.1, rfl, c⟩, .cons ⟨rfl, h.2⟩ q⟩
def zkv (trs : List (TE × TE)) : TE := fun σ H Q => ∀ p, H p = none -> zaJ trs σ (upd H p (.dK [])) fun ps H2 => H2 p = some (.dK []) /\ ∃ kvs : List (Key × V), ps = kvs.map (fun kv => (kV kv.1, kv.2)) /\ kvs.length <= 15 /\ Q (.ref p) (upd H2 p (.dK (z7V [] kvs)))
theorem zhX {X : Cx} {pos : Pos} {keys : List (Option Expr)} {values : List Expr} {trs : List (TE × TE)} (h : PPs X pos keys values trs) (hall : keys.all (·.isSome) = true) (hl : keys.length = values.length) (h0 : keys ≠ [])
    (h15 : keys.length <= 15) : PE X (.Dict keys values pos) (zkv trs) := by
  intro pins s σ H Q I q
  have hn := I.hok.fresh (Nat.le_refl s.heap.objs.size)
  have I1 := I.laid (a := s.heap.objs.size) (o := .dK []) (h' := s.heap.push { cls := .type "dict", data := .dict #[] }) (t' := s.toks) (fun _ _ q => Heap.get?_push_of_some _ q) (Nat.le_refl _) (zcP s.heap I.big)
  refine wpAny_Dict_walk (knd := z62 X.prog X.w) hall hl h0 h15 (thn (h pins _ σ _ _ I1 (q _ hn)) fun ws s2 ⟨ps, H2, I2, rel, e, kvs, ep, lk, q2⟩ => ?_)
  subst ep
  obtain ⟨rs, c, rk⟩ := z9z (P := X.prog) (w := X.w) rel
  obtain ⟨z, hd, vs0, r0, dd⟩ := zkH I2.hok e
  cases r0
  refine ⟨rs, c, dd, fun h' dd' hs => ⟨.ref s.heap.objs.size, _, ?_, rfl, q2⟩⟩
  have hz : (z7V [] kvs).length <= sizeLine := by
    have h1 := z7T kvs []
    rw [List.length_nil] at h1
    rw [sizeLine_eq]; omega
  have he : ∃ q, h'.get? s.heap.objs.size = some q := let ⟨q, _, _, hq, _⟩ := dd'; ⟨q, hq⟩
  exact zhY I2 (by rw [e]; exact True.intro) hs he (ziW hz hd (rk.merge .nil) dd')
structure M1 (X : Cx) (o : Expr) (m : Str) (apos : Pos) (e : Expr) (cpos : Pos) : Prop where
  base : attributeBase o m X.env (eval o X.env) = eval o X.env
  few : ((backTo cpos (starEach [e] X.env)).all (fun x => !x.1) && (backToKw cpos (keywordEach [] X.env)).all (fun x => x.1.isSome)
    && decide (([e] : List Expr).length + ([] : List Keyword).length + (if ([] : List Keyword).isEmpty then 0 else 1) < 30)) = true
  line : (apos.endLine == cpos.line) = true
  trees : backTo cpos (starEach [e] X.env) = [(false, eval e X.env)]
structure M2 (X : Cx) (o : Expr) (m : Str) (apos : Pos) (e f : Expr) (cpos : Pos) : Prop where
  base : attributeBase o m X.env (eval o X.env) = eval o X.env
  few : ((backTo cpos (starEach [e, f] X.env)).all (fun x => !x.1) && (backToKw cpos (keywordEach [] X.env)).all (fun x => x.1.isSome)
    && decide (([e, f] : List Expr).length + ([] : List Keyword).length + (if ([] : List Keyword).isEmpty then 0 else 1) < 30)) = true
  line : (apos.endLine == cpos.line) = true
  trees : backTo cpos (starEach [e, f] X.env) = [(false, eval e X.env), (false, eval f X.env)]
section
variable {X : Cx} {pins : List (Addr × Obj)} {σ : St} {H : Hp} {s : Shared} {a : Addr} {y d : V} {u r : Value} {o : Option V} {A : Around} {E : Value -> Shared -> Prop}
end
section
variable {X : Cx} {o e f : Expr} {apos cpos : Pos} {td ty tx : TE}
end
section
variable {X : Cx} {pins : List (Addr × Obj)} {σ : St} {H : Hp} {s : Shared} {a : Addr} {kvs : List (Key × V)} {A : Around} {E : Value -> Shared -> Prop}
end
section
variable {X : Cx} {pins : List (Addr × Obj)} {σ : St} {H : Hp} {s : Shared} {a : Addr} {y : V} {u : Value} {A : Around} {E : Value -> Shared -> Prop}
end
end L2
namespace DL
open PySem L2
structure XcK (K : PySem.W.Frag) (C : Addr) : Prop where
  ga : PySem.W.findIn K (.ref C) "__getattribute__" = some (some (.builtin "BaseException.__getattribute__"))
  nh : PySem.W.findIn K (.ref C) "__getattr__" = some none
  cl : ∃ cd, PySem.W.clsIn K C = some cd
  at_ : PySem.W.findIn K (.ref C) "__class__" = some (some (.builtin "object.__class__"))
  gt : PySem.W.specialIn K (.builtin "object.__class__") "__get__" = some (some (.builtin "getset_descriptor.__get__"))
  tk : PySem.W.takesIn K (.builtin "object.__class__") = some true
  ob : PySem.W.mroIn K C (.type "object") = some true
  bx : PySem.W.mroIn K C (.type "BaseException") = some true
  kit : ∀ c ∈ (["int", "bool", "str", "list", "tuple", "dict"] : List String), PySem.W.kitOne K (.ref C) (.type c) = some false
section
open PySem.W
variable {prog : Program} {w : World} {A : Around} {E : Value -> Shared -> Prop} {s : Shared} {K : PySem.W.Frag} {x C : Addr} {ox : Obj}
theorem zhi {M : Model} {nameV : Value} {Q : Unit -> Shared -> Prop} (X : K.In s.heap) (k : XcK K C) (I : PySem.W.InstAt s.heap x ox C none) (hq : Q () s) : wpAny M A (checkBuiltinCall "BaseException.__getattribute__" ⟨[.ref x, nameV], []⟩) Q E s := by
  have hk : builtinKind "BaseException.__getattribute__" = some .slot := by decide +kernel
  have hsplit : splitId "BaseException.__getattribute__" = some ("BaseException", "__getattribute__") := by decide +kernel
  have ha := F.args_bexc_ga (.ref x) nameV
  have L0 := I.type (M := M)
  have L1 := looks_mroIn (M := M) X k.bx
  have LI : Looks M s.heap (isInstance (.ref x) (.type "BaseException")) true := L0.andThen L1
  simp only [checkBuiltinCall, hk, hsplit]
  refine wpAny_bind (LI.at ?_)
  repeat (first | wp_step | exact hq)
theorem zi7 {Q : Option Value -> Shared -> Prop} (X : K.In s.heap) (k : XcK K C) (I : PySem.W.InstAt s.heap x ox C none) (h : Q (some (.ref C)) { s with toks := s.toks + 1 }) : wpAny (model prog w) A (getAttr? (.ref x) "__class__") Q E s := by
  obtain ⟨cd, hcd⟩ := k.cl
  have hf : findObj K C none "__class__" = some (.bind (.builtin "getset_descriptor.__get__") (.builtin "object.__class__")) := by
    unfold findObj
    rw [hcd, k.at_]
    simp only [Option.bind_some, k.gt, k.tk]
  have L0 := I.type (M := model prog w)
  have L1 := looks_findIn (M := model prog w) X k.ga
  have L2 := looks_findIn (M := model prog w) X k.nh
  have LF := looks_find (M := model prog w) X I hf
  unfold getAttr? getAttrBy? getAttrBy
  refine wpAny_bind (wpAny_mkText (wpAny_bind (wpAny_attempt (wpAny_holding (wpAny_bind (L0.at (wpAny_bind (L1.at ?_))))))))
  have hx1 : (onTheHeap (Value.ref C) && Value.builtin "BaseException.__getattribute__" == Value.builtin "object.__getattribute__") = false := by
    rw [show (Value.builtin "BaseException.__getattribute__" == Value.builtin "object.__getattribute__") = false from by decide +kernel]; rfl
  show wpAny _ _ (if (onTheHeap (Value.ref C) && Value.builtin "BaseException.__getattribute__" == Value.builtin "object.__getattribute__") = true then _ else _) _ _ _
  rw [if_neg (by rw [hx1]; decide)]
  unfold getAttrByItsOwn hookBefore
  rw [if_pos (by rfl)]
  refine wpAny_bind (L2.at (wpAny_bind (wpAny_attempt (wpAny_holding ?_))))
  unfold callGetattribute boundAndCalled
  rw [if_neg (by decide)]
  rw [F.attr_ValueError.ga.bind (.ref x)]
  refine wpAny_bind (wpAny_pure (wpAny_call ?_))
  refine codeAny_call_builtin F.attr_ValueError.ga.plain F.entry_bexc_ga (zhi (s := { s with toks := s.toks + 1 }) X k I ?_)
  unfold Builtin.«object.__getattribute__»
  refine wpAny_bind (wpAny_pure (wpAny_bind (wpAny_pure (wpAny_bind (L0.at (wpAny_bind (LF.at ?_)))))))
  show wpAny _ _ (Builtin.ObjectAttr.bindTo _ _ _ _) _ _ _
  unfold Builtin.ObjectAttr.bindTo
  refine wpAny_bind (wpAny_holding (wpAny_call (class_get (s := { s with toks := s.toks + 1 }) X I k.ob ?_)))
  exact wpAny_pure (wpAny_pure (wpAny_pure h))
theorem zgF (k : XcK K C) : KitX K (.ref x) (.ref C) (fun h => ∃ ox, PySem.W.InstAt h x ox C none) where
  ty := fun _ _ _ ⟨ox, I⟩ => I.type
  it := fun _ _ X _ => by
    obtain ⟨cd, hcd⟩ := k.cl
    unfold clsIn at hcd
    split at hcd
    · rename_i c' d' cd' sl' ho
      intro A' Q' E' s' kp q
      unfold isType loadHead
      exact wpAny_bind (wpAny_loadPart (kp _ _ (X _ _ ho)) (wpAny_pure q))
    · cases hcd
  ne := fun h tp dd its n sl X htp => by
    obtain ⟨cd, hcd⟩ := k.cl
    refine Bool.eq_false_iff.mpr fun q => ?_
    have e : C = tp := Value.ref.inj (beq_iff_eq.mp q)
    subst e
    unfold clsIn at hcd
    split at hcd
    · rename_i c' d' cd' sl' ho
      have z := (X _ _ ho).symm.trans htp
      cases z
    · cases hcd
  ca := fun X ⟨ox, I⟩ q => zi7 X k I q
end
end DL
namespace DL
open PySem L2
inductive D where
  | non
  | bl (b : Bool)
  | int (i : Int)
  | str (cs : List Nat)
  | lst (xs : List D)
  | tup (xs : List D)
  | own (k : Nat)
  | dct
  | exn (C : Nat)
  | tab (P : Nat)
  deriving Repr, BEq, Inhabited
abbrev Ow := List (List D)
inductive R (α : Type) where
  | ok (a : α) (O : Ow)
  | exc (c : Nat) (O : Ow)
  | bad
  deriving Repr, BEq, Inhabited
def R.bnd {α β : Type} (r : R α) (k : α -> Ow -> R β) : R β := match r with
  | .ok a O => k a O
  | .exc c O => .exc c O
  | .bad => .bad
abbrev Sg := List (Option D)
abbrev DE := Sg -> Ow -> R D
abbrev DT := Sg -> Ow -> R Bool
abbrev DA := Sg -> Ow -> R (List D)
section
variable (K : PySem.W.Frag) (H : Hp) (hid μ : List Addr)
def zlQ (K : PySem.W.Frag) (a : Addr) (xs : List V) : Prop := ∃ (o : Obj) (its : Array Value) (n : Nat), K.lookup a = some o /\ o.cls = .type "list" /\ o.dict = none /\ o.data = .seq its n /\ its.size <= sizeLine /\ Vals xs its.toList
def zlJ (K : PySem.W.Frag) (a : Addr) (xs : List V) : Prop := ∃ (o : Obj) (its : Array Value) (n : Nat), K.lookup a = some o /\ o.cls = .type "tuple" /\ o.data = .seq its n /\ its.size <= sizeLine /\ Vals xs its.toList
def LstAt (a : Addr) (vs : List V) : Prop := (Rd H a (.lst vs) /\ a ∉ hid /\ a ∉ μ) \/ zlQ K a vs
def TupAt (a : Addr) (vs : List V) : Prop := (Rd H a (.tup vs) /\ a ∉ hid /\ a ∉ μ) \/ zlJ K a vs
end
def Tidy (H : Hp) (P : Addr) : Prop := ∃ ps, H P = some (.tbl ps) /\ TriplesOk ps.toList /\ ∀ pos cv, codeAmong pos ps.toList = some cv -> ∃ c φ, cv = .ref c /\ H c = some (.ext φ) /\ ∀ h : Heap, φ h -> ∃ q, h.CodeRec (.ref c) q
def zda (o : HO) : Prop := ∀ ps, o ≠ .tbl ps
section
variable (K : PySem.W.Frag) (H : Hp) (hid μ : List Addr)
mutual
def Dat : D -> V -> Prop
  | .non, v => v = .non
  | .bl b, v => v = .bl b
  | .int i, v => v = .int i
  | .str cs, v => v = .str ⟨cs.toArray⟩
  | .lst ds, v => ∃ a vs, v = .ref a /\ LstAt K H hid μ a vs /\ Dats ds vs
  | .tup ds, v => ∃ a vs, v = .ref a /\ TupAt K H hid μ a vs /\ Dats ds vs
  | .own k, v => ∃ a, v = .ref a /\ μ[k]? = some a
  | .dct, v => ∃ a, v = .ref a /\ Rd H a (.dK []) /\ a ∉ hid /\ a ∉ μ
  | .exn C, v => ∃ a φ, v = .ref a /\ (XcK K C /\ ∀ h : Heap, φ h -> ∃ ox, PySem.W.InstAt h a ox C none) /\ Rd H a (.ext φ) /\ a ∉ hid /\ a ∉ μ
  | .tab P, v => v = .bl false /\ Tidy H P
def Dats : List D -> List V -> Prop
  | [], vs => vs = []
  | d :: ds, vs => ∃ v r, vs = v :: r /\ Dat d v /\ Dats ds r
end
structure Cells (O : Ow) : Prop where
  len : μ.length = O.length
  nd : μ.Nodup
  nh : ∀ a ∈ μ, a ∉ hid
  ht : ∀ a ∈ hid, H a ≠ none
  at_ : ∀ (k : Nat) a, μ[k]? = some a -> ∃ ds vs, O[k]? = some ds /\ H a = some (.lst vs) /\ Dats K H hid μ ds vs
structure EnvOk (σ : Sg) (σv : St) : Prop where
  len : σ.length = σv.length
  at_ : ∀ (i : Nat) d, σ[i]? = some (some d) -> ∃ v, σv[i]? = some (some v) /\ Dat K H hid μ d v
end
structure Ext (H : Hp) (μ : List Addr) (H' : Hp) (μ' : List Addr) : Prop where
  pre : ∃ ν, μ' = μ ++ ν
  kept : ∀ b o, H b = some o -> b ∉ μ -> zda o -> H' b = some o
  fresh : ∀ b ∈ μ', b ∈ μ \/ H b = none
  there : ∀ b, H b ≠ none -> H' b ≠ none
  tab : ∀ P, Tidy H P -> Tidy H' P
structure Mv (H : Hp) (hid μ : List Addr) (H' : Hp) (hid' μ' : List Addr) : Prop where
  pre : ∃ ν, μ' = μ ++ ν
  kept : ∀ b o, H b = some o -> b ∉ μ -> b ∉ hid -> zda o -> H' b = some o
  fresh : ∀ b ∈ μ', b ∈ μ \/ H b = none
  hids : ∀ b ∈ hid', b ∈ hid \/ H b = none
  there : ∀ b, H b ≠ none -> H' b ≠ none
  tab : ∀ P, Tidy H P -> Tidy H' P
section
variable {K : PySem.W.Frag} {H H' H1 H2 : Hp} {hid hid' hid1 hid2 μ μ' μ1 μ2 : List Addr}
theorem Ext.keep (e : Ext H μ H' μ') (b : Addr) (o : HO) (h : H b = some o) (n : b ∉ μ) (ht : zda o := by intro ps z; cases z) : H' b = some o := e.kept b o h n ht
theorem Tidy.upd {P p : Addr} {o : HO} (t : Tidy H P) (hp : H p = none \/ ∃ vs, H p = some (.lst vs)) : Tidy (L2.upd H p o) P := by
  obtain ⟨ps, h1, h2, h3⟩ := t
  have n1 : P ≠ p := by
    rintro rfl
    rcases hp with z | ⟨vs, z⟩ <;> (rw [z] at h1; cases h1)
  refine ⟨ps, by rw [z4O n1]; exact h1, h2, fun pos cv e => ?_⟩
  obtain ⟨c, φ, rfl, hc, hf⟩ := h3 pos cv e
  have n2 : c ≠ p := by
    rintro rfl
    rcases hp with z | ⟨vs, z⟩ <;> (rw [z] at hc; cases hc)
  exact ⟨c, φ, rfl, by rw [z4O n2]; exact hc, hf⟩
theorem Ext.refl : Ext H μ H μ := ⟨⟨[], by simp⟩, fun _ _ h _ _ => h, fun _ h => .inl h, fun _ h => h, fun _ t => t⟩
theorem Ext.trans (a : Ext H μ H1 μ1) (b : Ext H1 μ1 H2 μ2) : Ext H μ H2 μ2 := by
  refine ⟨?_, fun c o h n ht => ?_, fun c h => ?_, fun c h => b.there c (a.there c h), fun P t => b.tab P (a.tab P t)⟩
  · obtain ⟨x, rfl⟩ := a.pre
    obtain ⟨y, rfl⟩ := b.pre
    exact ⟨x ++ y, by simp⟩
  · refine b.kept c o (a.kept c o h n ht) (fun m => ?_) ht
    rcases a.fresh c m with z | z
    · exact n z
    · rw [z] at h; cases h
  · rcases b.fresh c h with z | z
    · exact a.fresh c z
    · by_cases hm : c ∈ μ
      · exact .inl hm
      · cases e : H c with
        | none => exact .inr rfl
        | some o => exact absurd z (a.there c (by rw [e]; simp))
theorem Ext.mv (a : Ext H μ H' μ') : Mv H hid μ H' hid μ' := ⟨a.pre, fun b o h n _ ht => a.kept b o h n ht, a.fresh, fun _ h => .inl h, a.there, a.tab⟩
theorem Mv.trans (a : Mv H hid μ H1 hid1 μ1) (b : Mv H1 hid1 μ1 H2 hid2 μ2) : Mv H hid μ H2 hid2 μ2 := by
  have nn : ∀ c, H1 c = none -> H c = none := fun c h => by
    cases e : H c with
    | none => rfl
    | some o => exact absurd h (a.there c (by rw [e]; simp))
  refine ⟨?_, fun c o h n1 n2 ht => ?_, fun c h => ?_, fun c h => ?_, fun c h => b.there c (a.there c h), fun P t => b.tab P (a.tab P t)⟩
  · obtain ⟨x, rfl⟩ := a.pre
    obtain ⟨y, rfl⟩ := b.pre
    exact ⟨x ++ y, by simp⟩
  · refine b.kept c o (a.kept c o h n1 n2 ht) (fun m => ?_) (fun m => ?_) ht
    · rcases a.fresh c m with z | z
      · exact n1 z
      · rw [z] at h; cases h
    · rcases a.hids c m with z | z
      · exact n2 z
      · rw [z] at h; cases h
  · rcases b.fresh c h with z | z
    · exact a.fresh c z
    · exact .inr (nn c z)
  · rcases b.hids c h with z | z
    · exact a.hids c z
    · exact .inr (nn c z)
theorem Mv.hide {b : Addr} (h : H b = none) : Mv H hid μ H (b :: hid) μ := ⟨⟨[], by simp⟩, fun _ _ h _ _ _ => h, fun _ m => .inl m, fun c m => (List.mem_cons.mp m).elim (fun e => .inr (by rw [e]; exact h)) .inl, fun _ h => h, fun _ t => t⟩
theorem Mv.unhide {b : Addr} : Mv H (b :: hid) μ H hid μ := ⟨⟨[], by simp⟩, fun _ _ h _ _ _ => h, fun _ m => .inl m, fun _ m => .inl (List.mem_cons_of_mem _ m), fun _ h => h, fun _ t => t⟩
theorem Rd.mv {a : Addr} {u : HO} (r : Rd H a u) (e : Mv H hid μ H' hid' μ') (n1 : a ∉ hid) (n2 : a ∉ μ) (ht : zda u := by intro ps z; cases z) : Rd H' a u /\ a ∉ hid' /\ a ∉ μ' := by
  have out : ∀ o, H a = some o -> a ∉ hid' /\ a ∉ μ' := by
    intro o h
    constructor
    · intro m
      rcases e.hids a m with z | z
      · exact n1 z
      · rw [z] at h; cases h
    · intro m
      rcases e.fresh a m with z | z
      · exact n2 z
      · rw [z] at h; cases h
  rcases r with r | ⟨o, r⟩
  · exact ⟨.inl (e.kept _ _ r n2 n1 ht), out _ r⟩
  · exact ⟨.inr ⟨o, e.kept _ _ r n2 n1 (by intro ps z; cases z)⟩, out _ r⟩
theorem LstAt.mv {a : Addr} {vs : List V} (h : LstAt K H hid μ a vs) (e : Mv H hid μ H' hid' μ') : LstAt K H' hid' μ' a vs :=
  h.imp (fun z => Rd.mv z.1 e z.2.1 z.2.2) id
theorem TupAt.mv {a : Addr} {vs : List V} (h : TupAt K H hid μ a vs) (e : Mv H hid μ H' hid' μ') : TupAt K H' hid' μ' a vs :=
  h.imp (fun z => Rd.mv z.1 e z.2.1 z.2.2) id
theorem LstAt.sq {a : Addr} {vs : List V} (h : LstAt K H hid μ a vs) : SqL K H a vs := h.elim (fun z => .inl z.1) .inr
theorem TupAt.sq {a : Addr} {vs : List V} (h : TupAt K H hid μ a vs) : SqT K H a vs := h.elim (fun z => .inl z.1) .inr
mutual
theorem Dat.mv (e : Mv H hid μ H' hid' μ') : ∀ {d : D} {v : V}, Dat K H hid μ d v -> Dat K H' hid' μ' d v
  | .non, _, h => h
  | .bl _, _, h => h
  | .int _, _, h => h
  | .str _, _, h => h
  | .lst ds, v, h => by
    unfold Dat at h ⊢
    obtain ⟨a, vs, r, l, q⟩ := h
    exact ⟨a, vs, r, l.mv e, Dats.mv e q⟩
  | .tup ds, v, h => by
    unfold Dat at h ⊢
    obtain ⟨a, vs, r, l, q⟩ := h
    exact ⟨a, vs, r, l.mv e, Dats.mv e q⟩
  | .own k, v, h => by
    unfold Dat at h ⊢
    obtain ⟨a, r, q⟩ := h
    obtain ⟨x, rfl⟩ := e.pre
    exact ⟨a, r, by rw [List.getElem?_append_left (List.getElem?_eq_some_iff.mp q).1]; exact q⟩
  | .dct, v, h => by
    unfold Dat at h ⊢
    obtain ⟨a, r, q, n1, n2⟩ := h
    exact ⟨a, r, Rd.mv q e n1 n2⟩
  | .exn C, v, h => by
    unfold Dat at h ⊢
    obtain ⟨a, φ, r, g, q, n1, n2⟩ := h
    exact ⟨a, φ, r, g, Rd.mv q e n1 n2⟩
  | .tab P, v, h => by
    unfold Dat at h ⊢
    exact ⟨h.1, e.tab _ h.2⟩
theorem Dats.mv (e : Mv H hid μ H' hid' μ') : ∀ {ds : List D} {vs : List V}, Dats K H hid μ ds vs -> Dats K H' hid' μ' ds vs
  | [], _, h => h
  | d :: ds, vs, h => by
    unfold Dats at h ⊢
    obtain ⟨v, r, e1, h1, h2⟩ := h
    exact ⟨v, r, e1, Dat.mv e h1, Dats.mv e h2⟩
end
theorem Dat.ext (e : Ext H μ H' μ') {d : D} {v : V} (h : Dat K H hid μ d v) : Dat K H' hid μ' d v := h.mv e.mv
theorem Dats.ext (e : Ext H μ H' μ') {ds : List D} {vs : List V} (h : Dats K H hid μ ds vs) : Dats K H' hid μ' ds vs := h.mv e.mv
theorem EnvOk.mv {σ : Sg} {σv : St} (h : EnvOk K H hid μ σ σv) (e : Mv H hid μ H' hid' μ') : EnvOk K H' hid' μ' σ σv :=
  ⟨h.len, fun i d q => let ⟨v, a, b⟩ := h.at_ i d q; ⟨v, a, b.mv e⟩⟩
theorem EnvOk.ext {σ : Sg} {σv : St} (h : EnvOk K H hid μ σ σv) (e : Ext H μ H' μ') : EnvOk K H' hid μ' σ σv := h.mv e.mv
theorem EnvOk.set {σ : Sg} {σv : St} (h : EnvOk K H hid μ σ σv) {d : D} {v : V} (q : Dat K H hid μ d v) (i : Nat) : EnvOk K H hid μ (σ.set i (some d)) (σv.set i (some v)) := by
  refine ⟨by simp [h.len], fun j x e => ?_⟩
  by_cases hj : i = j
  · subst hj
    have hi : i < σ.length := by have := (List.getElem?_eq_some_iff.mp e).1; simpa using this
    rw [List.getElem?_set_self hi] at e
    cases e
    exact ⟨v, by rw [List.getElem?_set_self (by rw [<- h.len]; exact hi)], q⟩
  · rw [List.getElem?_set_ne hj] at e
    obtain ⟨w, a, b⟩ := h.at_ j x e
    exact ⟨w, by rw [List.getElem?_set_ne hj]; exact a, b⟩
theorem Dats.length : ∀ {ds : List D} {vs : List V}, Dats K H hid μ ds vs -> ds.length = vs.length
  | [], _, h => by unfold Dats at h; subst h; rfl
  | d :: ds, vs, h => by
    unfold Dats at h
    obtain ⟨v, r, rfl, _, h2⟩ := h
    simp [Dats.length h2]
theorem Dats.nil : Dats K H hid μ [] [] := by unfold Dats; rfl
theorem Dats.cons {d : D} {v : V} {ds : List D} {vs : List V} (h : Dat K H hid μ d v) (t : Dats K H hid μ ds vs) : Dats K H hid μ (d :: ds) (v :: vs) := by
  unfold Dats; exact ⟨v, vs, rfl, h, t⟩
theorem Dats.append : ∀ {ds es : List D} {vs ws : List V}, Dats K H hid μ ds vs -> Dats K H hid μ es ws -> Dats K H hid μ (ds ++ es) (vs ++ ws)
  | [], _, _, _, h, t => by unfold Dats at h; subst h; exact t
  | d :: ds, es, vs, ws, h, t => by
    unfold Dats at h
    obtain ⟨v, r, rfl, h1, h2⟩ := h
    exact .cons h1 (Dats.append h2 t)
theorem Dats.get : ∀ {ds : List D} {vs : List V} {i : Nat} {d : D}, Dats K H hid μ ds vs -> ds[i]? = some d -> ∃ v, vs[i]? = some v /\ Dat K H hid μ d v
  | [], _, _, _, _, e => by simp at e
  | d :: ds, vs, 0, x, h, e => by
    unfold Dats at h
    obtain ⟨v, r, rfl, h1, h2⟩ := h
    simp at e; subst e
    exact ⟨v, by simp, h1⟩
  | d :: ds, vs, i + 1, x, h, e => by
    unfold Dats at h
    obtain ⟨v, r, rfl, h1, h2⟩ := h
    obtain ⟨z, a, b⟩ := Dats.get (i := i) h2 (by simpa using e)
    exact ⟨z, by simpa using a, b⟩
theorem Dats.take : ∀ {ds : List D} {vs : List V} (n : Nat), Dats K H hid μ ds vs -> Dats K H hid μ (ds.take n) (vs.take n)
  | _, _, 0, _ => by simpa using Dats.nil
  | [], _, n + 1, h => by unfold Dats at h; subst h; simpa using Dats.nil
  | d :: ds, vs, n + 1, h => by
    unfold Dats at h
    obtain ⟨v, r, rfl, h1, h2⟩ := h
    simpa using Dats.cons h1 (Dats.take n h2)
theorem Dats.drop : ∀ {ds : List D} {vs : List V} (n : Nat), Dats K H hid μ ds vs -> Dats K H hid μ (ds.drop n) (vs.drop n)
  | _, _, 0, h => by simpa using h
  | [], _, n + 1, h => by unfold Dats at h; subst h; simpa using Dats.nil
  | d :: ds, vs, n + 1, h => by
    unfold Dats at h
    obtain ⟨v, r, rfl, h1, h2⟩ := h
    simpa using Dats.drop n h2
theorem Dats.set {d : D} {v : V} (q : Dat K H hid μ d v) : ∀ {ds : List D} {vs : List V} (i : Nat), Dats K H hid μ ds vs -> Dats K H hid μ (ds.set i d) (vs.set i v)
  | [], _, i, h => by unfold Dats at h; subst h; simpa using Dats.nil
  | x :: ds, vs, 0, h => by
    unfold Dats at h
    obtain ⟨w, r, rfl, h1, h2⟩ := h
    simpa using Dats.cons q h2
  | x :: ds, vs, i + 1, h => by
    unfold Dats at h
    obtain ⟨w, r, rfl, h1, h2⟩ := h
    simpa using Dats.cons h1 (Dats.set q i h2)
theorem Dats.rev : ∀ {ds : List D} {vs : List V}, Dats K H hid μ ds vs -> Dats K H hid μ ds.reverse vs.reverse
  | [], _, h => by unfold Dats at h; subst h; simpa using Dats.nil
  | d :: ds, vs, h => by
    unfold Dats at h
    obtain ⟨v, r, rfl, h1, h2⟩ := h
    simpa using Dats.append (Dats.rev h2) (.cons h1 .nil)
theorem z5J {p : Addr} {o : HO} (b : Addr) (h : H b ≠ none) : upd H p o b ≠ none := by
  by_cases e : b = p
  · subst e; rw [z54]; simp
  · rw [z4O e]; exact h
theorem Ext.laid {p : Addr} {o : HO} (h : H p = none) : Ext H μ (upd H p o) μ :=
  ⟨⟨[], by simp⟩, fun b u e _ _ => by rw [z4O (z4U e h)]; exact e, fun _ m => .inl m, z5J, fun _ t => t.upd (.inl h)⟩
theorem Cells.laid {p : Addr} {o : HO} {O : Ow} (c : Cells K H hid μ O) (h : H p = none) : Cells K (upd H p o) hid μ O := by
  refine ⟨c.len, c.nd, c.nh, fun a m => ?_, fun k a e => ?_⟩
  · by_cases q : a = p
    · subst q; rw [z54]; simp
    · rw [z4O q]; exact c.ht a m
  · obtain ⟨ds, vs, h1, h2, h3⟩ := c.at_ k a e
    exact ⟨ds, vs, h1, by rw [z4O (z4U h2 h)]; exact h2, h3.ext (.laid h)⟩
theorem Cells.not_in {O : Ow} (c : Cells K H hid μ O) {p : Addr} (h : H p = none) : p ∉ hid /\ p ∉ μ := by
  refine ⟨fun m => c.ht p m h, fun m => ?_⟩
  obtain ⟨k, hk, e⟩ := List.mem_iff_getElem.mp m
  obtain ⟨ds, vs, _, h2, _⟩ := c.at_ k p (by rw [List.getElem?_eq_some_iff]; exact ⟨hk, e⟩)
  rw [h] at h2; cases h2
theorem Dat.newL {O : Ow} {p : Addr} {vs : List V} {ds : List D} (c : Cells K H hid μ O) (h : H p = none) (q : Dats K H hid μ ds vs) : Dat K (upd H p (.lst vs)) hid μ (.lst ds) (.ref p) := by
  unfold Dat
  exact ⟨p, vs, rfl, .inl ⟨.inl z54, c.not_in h⟩, q.ext (.laid h)⟩
theorem Dat.newT {O : Ow} {p : Addr} {vs : List V} {ds : List D} (c : Cells K H hid μ O) (h : H p = none) (q : Dats K H hid μ ds vs) : Dat K (upd H p (.tup vs)) hid μ (.tup ds) (.ref p) := by
  unfold Dat
  exact ⟨p, vs, rfl, .inl ⟨.inl z54, c.not_in h⟩, q.ext (.laid h)⟩
theorem Ext.cell {p : Addr} {o : HO} (h : H p = none) : Ext H μ (upd H p o) (μ ++ [p]) :=
  ⟨⟨[p], rfl⟩, fun b u e _ _ => by rw [z4O (z4U e h)]; exact e, fun b m => by
    rcases List.mem_append.mp m with m | m
    · exact .inl m
    · have : b = p := by simpa using m
      subst this; exact .inr h, z5J, fun _ t => t.upd (.inl h)⟩
theorem Cells.cell {O : Ow} {p : Addr} {vs : List V} {ds : List D} (c : Cells K H hid μ O) (h : H p = none) (q : Dats K H hid μ ds vs) : Cells K (upd H p (.lst vs)) hid (μ ++ [p]) (O ++ [ds]) := by
  have ni := c.not_in h
  refine ⟨by simp [c.len], ?_, fun a m => ?_, fun a m => ?_, fun k a e => ?_⟩
  · rw [List.nodup_append]
    refine ⟨c.nd, by simp, fun a ha b hb => ?_⟩
    have : b = p := by simpa using hb
    subst this
    rintro rfl
    exact ni.2 ha
  · rcases List.mem_append.mp m with m | m
    · exact c.nh a m
    · have : a = p := by simpa using m
      subst this; exact ni.1
  · by_cases q : a = p
    · subst q; rw [z54]; simp
    · rw [z4O q]; exact c.ht a m
  · by_cases hk : k < μ.length
    · rw [List.getElem?_append_left hk] at e
      obtain ⟨ds', vs', h1, h2, h3⟩ := c.at_ k a e
      exact ⟨ds', vs', by rw [List.getElem?_append_left (by rw [<- c.len]; exact hk)]; exact h1, by rw [z4O (z4U h2 h)]; exact h2, h3.ext (.cell h)⟩
    · rw [List.getElem?_append_right (by omega)] at e
      have e0 : k - μ.length = 0 := by
        have := (List.getElem?_eq_some_iff.mp e).1
        simp at this; omega
      rw [e0] at e
      simp at e; subst e
      refine ⟨ds, vs, ?_, z54, q.ext (.cell h)⟩
      have : k = O.length := by have := c.len; omega
      subst this; simp
theorem Ext.put {p : Addr} {o : HO} (h : p ∈ μ) (hl : ∃ vs, H p = some (.lst vs)) : Ext H μ (upd H p o) μ :=
  ⟨⟨[], by simp⟩, fun b u e n _ => by rw [z4O (by rintro rfl; exact n h)]; exact e, fun _ m => .inl m, z5J, fun _ t => t.upd (.inr hl)⟩
theorem Cells.put {O : Ow} {p : Addr} {k : Nat} {vs : List V} {ds : List D} (c : Cells K H hid μ O) (hk : μ[k]? = some p) (q : Dats K H hid μ ds vs) : Cells K (upd H p (.lst vs)) hid μ (O.set k ds) := by
  have hm : p ∈ μ := List.mem_of_getElem? hk
  have hl : ∃ vs, H p = some (.lst vs) := let ⟨_, vs, _, h2, _⟩ := c.at_ k p hk; ⟨vs, h2⟩
  refine ⟨by simp [c.len], c.nd, c.nh, fun a m => ?_, fun j a e => ?_⟩
  · by_cases q : a = p
    · subst q; rw [z54]; simp
    · rw [z4O q]; exact c.ht a m
  · by_cases hj : j = k
    · subst hj
      rw [hk] at e; cases e
      refine ⟨ds, vs, ?_, z54, q.ext (.put hm hl)⟩
      rw [List.getElem?_set_self (by rw [<- c.len]; exact (List.getElem?_eq_some_iff.mp hk).1)]
    · have ne : a ≠ p := by
        rintro rfl
        obtain ⟨h1, e1⟩ := List.getElem?_eq_some_iff.mp e
        obtain ⟨h2, e2⟩ := List.getElem?_eq_some_iff.mp hk
        exact hj ((List.getElem_inj c.nd).mp (e1.trans e2.symm))
      obtain ⟨ds', vs', h1, h2, h3⟩ := c.at_ j a e
      exact ⟨ds', vs', by rw [List.getElem?_set_ne (Ne.symm hj)]; exact h1, by rw [z4O ne]; exact h2, h3.ext (.put hm hl)⟩
end
section
variable (Ex : Nat -> Hp -> Prop) (K : PySem.W.Frag)
def post {α β : Type} (rel : Hp -> List Addr -> α -> β -> Prop) (H : Hp) (hid μ : List Addr) (r : R α) (Q : β -> Hp -> Prop) : Prop := match r with
  | .ok d O' => ∀ v H' μ', Ext H μ H' μ' -> Cells K H' hid μ' O' -> rel H' μ' d v -> Q v H'
  | .exc c O' => ∀ H' μ', Ext H μ H' μ' -> Cells K H' hid μ' O' -> Ex c H'
  | .bad => False
abbrev z5L (H : Hp) (hid μ : List Addr) (r : R D) (Q : VK) : Prop := post Ex K (fun H' μ' d v => Dat K H' hid μ' d v) H hid μ r Q
abbrev z8s (H : Hp) (hid μ : List Addr) (r : R Bool) (Q : Bool -> Hp -> Prop) : Prop := post Ex K (fun _ _ d v => d = v) H hid μ r Q
abbrev ziC (H : Hp) (hid μ : List Addr) (r : R (List D)) (Q : List V -> Hp -> Prop) : Prop := post Ex K (fun H' μ' d v => Dats K H' hid μ' d v) H hid μ r Q
def rd (t : DE) : TE := fun σv H Q => ∃ hid μ σ O, EnvOk K H hid μ σ σv /\ Cells K H hid μ O /\ z5L Ex K H hid μ (t σ O) Q
def rdT (t : DT) : TT := fun σv H Q => ∃ hid μ σ O, EnvOk K H hid μ σ σv /\ Cells K H hid μ O /\ z8s Ex K H hid μ (t σ O) Q
def rdA (t : DA) : TA := fun σv H Q => ∃ hid μ σ O, EnvOk K H hid μ σ σv /\ Cells K H hid μ O /\ ziC Ex K H hid μ (t σ O) Q
end
section
variable {Ex : Nat -> Hp -> Prop} {K : PySem.W.Frag} {H H1 : Hp} {hid μ μ1 : List Addr}
theorem post.ext {α β : Type} {rel : Hp -> List Addr -> α -> β -> Prop} {r : R α} {Q : β -> Hp -> Prop} (h : post Ex K rel H hid μ r Q) (e : Ext H μ H1 μ1) : post Ex K rel H1 hid μ1 r Q := by
  cases r with
  | ok d O' => exact fun v H' μ' e' c q => h v H' μ' (e.trans e') c q
  | exc c O' => exact fun H' μ' e' c => h H' μ' (e.trans e') c
  | bad => exact h
theorem post.bnd {α β α' β' : Type} {rel : Hp -> List Addr -> α -> β -> Prop} {rel' : Hp -> List Addr -> α' -> β' -> Prop} {r : R α} {k : α -> Ow -> R α'} {Q : β' -> Hp -> Prop} {Q1 : β -> Hp -> Prop}
    (h : post Ex K rel' H hid μ (r.bnd k) Q)
    (hk : ∀ d O1 v H1 μ1, Ext H μ H1 μ1 -> Cells K H1 hid μ1 O1 -> rel H1 μ1 d v -> post Ex K rel' H1 hid μ1 (k d O1) Q -> Q1 v H1) : post Ex K rel H hid μ r Q1 := by
  cases r with
  | ok d O' => exact fun v H' μ' e c q => hk d O' v H' μ' e c q (post.ext (show post Ex K rel' H hid μ (k d O') Q from h) e)
  | exc c O' => exact h
  | bad => exact h
theorem post.ok {α β : Type} {rel : Hp -> List Addr -> α -> β -> Prop} {d : α} {O : Ow} {Q : β -> Hp -> Prop} {v : β} (h : post Ex K rel H hid μ (.ok d O) Q) {H' : Hp} {μ' : List Addr} (e : Ext H μ H' μ') (c : Cells K H' hid μ' O) (q : rel H' μ' d v) : Q v H' := h v H' μ' e c q
theorem post.here {α β : Type} {rel : Hp -> List Addr -> α -> β -> Prop} {d : α} {O : Ow} {Q : β -> Hp -> Prop} {v : β} (h : post Ex K rel H hid μ (.ok d O) Q) (c : Cells K H hid μ O) (q : rel H μ d v) : Q v H := h v H μ .refl c q
end
structure PD (X : Cx) (Ex : Nat -> Hp -> Prop) (e : Expr) (t : DE) : Prop where
  out : PE X e (rd Ex X.K t)
structure PDT (X : Cx) (Ex : Nat -> Hp -> Prop) (e : Expr) (t : DT) : Prop where
  out : PT X e (rdT Ex X.K t)
structure PDA (X : Cx) (Ex : Nat -> Hp -> Prop) (es : List Expr) (t : DA) : Prop where
  out : PA X es (rdA Ex X.K t)
theorem PE.imp {X : Cx} {e : Expr} {t t' : TE} (h : PE X e t) (f : ∀ σ H Q, t' σ H Q -> t σ H Q) : PE X e t' := fun pins s σ H Q I q => h pins s σ H Q I (f σ H Q q)
theorem PT.imp {X : Cx} {e : Expr} {t t' : TT} (h : PT X e t) (f : ∀ σ H Q, t' σ H Q -> t σ H Q) : PT X e t' := fun pins s σ H Q I q => h pins s σ H Q I (f σ H Q q)
theorem PA.imp {X : Cx} {e : List Expr} {t t' : TA} (h : PA X e t) (f : ∀ σ H Q, t' σ H Q -> t σ H Q) : PA X e t' := fun pos pins s σ H Q I q => h pos pins s σ H Q I (f σ H Q q)
theorem PW.imp {X : Cx} {e : Expr} {t t' : TT} (h : PW X e t) (f : ∀ σ H Q, t' σ H Q -> t σ H Q) : PW X e t' := fun w pins s σ H Q I q => h w pins s σ H Q I (f σ H Q q)
end DL
namespace DL
open PySem L2
def z4z (i : Nat) : DE := fun σ O => match σ[i]? with
  | some (some d) => .ok d O
  | _ => .bad
def dC (d : D) : DE := fun _ O => .ok d O
section
variable {X : Cx} {Ex : Nat -> Hp -> Prop} {pos : Pos} {a b c : Expr} {ta tb tc : DE}
theorem z5Y {e : Expr} {t : TE} {t' : DE} (h : PE X e t) (f : ∀ hid μ σ O σv H Q, EnvOk X.K H hid μ σ σv -> Cells X.K H hid μ O -> z5L Ex X.K H hid μ (t' σ O) Q -> t σv H Q) : PD X Ex e t' :=
  ⟨PE.imp h fun σv H Q ⟨hid, μ, σ, O, e1, c1, q⟩ => f hid μ σ O σv H Q e1 c1 q⟩
theorem zcu {e : Expr} {t : TT} {t' : DT} (h : PT X e t) (f : ∀ hid μ σ O σv H Q, EnvOk X.K H hid μ σ σv -> Cells X.K H hid μ O -> z8s Ex X.K H hid μ (t' σ O) Q -> t σv H Q) : PDT X Ex e t' :=
  ⟨PT.imp h fun σv H Q ⟨hid, μ, σ, O, e1, c1, q⟩ => f hid μ σ O σv H Q e1 c1 q⟩
theorem zgA {e : List Expr} {t : TA} {t' : DA} (h : PA X e t) (f : ∀ hid μ σ O σv H Q, EnvOk X.K H hid μ σ σv -> Cells X.K H hid μ O -> ziC Ex X.K H hid μ (t' σ O) Q -> t σv H Q) : PDA X Ex e t' :=
  ⟨PA.imp h fun σv H Q ⟨hid, μ, σ, O, e1, c1, q⟩ => f hid μ σ O σv H Q e1 c1 q⟩
theorem rd.go {α' β' : Type} {rel' : Hp -> List Addr -> α' -> β' -> Prop} {t : DE} {hid μ : List Addr} {σ : Sg} {O : Ow} {σv : St} {H : Hp} {Q1 : VK} {k : D -> Ow -> R α'} {Q : β' -> Hp -> Prop} (e1 : EnvOk X.K H hid μ σ σv) (c1 : Cells X.K H hid μ O)
    (q : post Ex X.K rel' H hid μ ((t σ O).bnd k) Q)
    (f : ∀ d O1 v H1 μ1, EnvOk X.K H1 hid μ1 σ σv -> Ext H μ H1 μ1 -> Cells X.K H1 hid μ1 O1 -> Dat X.K H1 hid μ1 d v -> post Ex X.K rel' H1 hid μ1 (k d O1) Q -> Q1 v H1) : rd Ex X.K t σv H Q1 :=
  ⟨hid, μ, σ, O, e1, c1, post.bnd q fun d O1 v H1 μ1 x c r p => f d O1 v H1 μ1 (e1.ext x) x c r p⟩
theorem rdT.go {α' β' : Type} {rel' : Hp -> List Addr -> α' -> β' -> Prop} {t : DT} {hid μ : List Addr} {σ : Sg} {O : Ow} {σv : St} {H : Hp} {Q1 : Bool -> Hp -> Prop} {k : Bool -> Ow -> R α'} {Q : β' -> Hp -> Prop} (e1 : EnvOk X.K H hid μ σ σv) (c1 : Cells X.K H hid μ O)
    (q : post Ex X.K rel' H hid μ ((t σ O).bnd k) Q)
    (f : ∀ v O1 H1 μ1, EnvOk X.K H1 hid μ1 σ σv -> Ext H μ H1 μ1 -> Cells X.K H1 hid μ1 O1 -> post Ex X.K rel' H1 hid μ1 (k v O1) Q -> Q1 v H1) : rdT Ex X.K t σv H Q1 :=
  ⟨hid, μ, σ, O, e1, c1, post.bnd q fun d O1 v H1 μ1 x c r p => by
    have r : d = v := r
    subst r
    exact f d O1 H1 μ1 (e1.ext x) x c p⟩
theorem rdA.go {α' β' : Type} {rel' : Hp -> List Addr -> α' -> β' -> Prop} {t : DA} {hid μ : List Addr} {σ : Sg} {O : Ow} {σv : St} {H : Hp} {Q1 : List V -> Hp -> Prop} {k : List D -> Ow -> R α'} {Q : β' -> Hp -> Prop} (e1 : EnvOk X.K H hid μ σ σv) (c1 : Cells X.K H hid μ O)
    (q : post Ex X.K rel' H hid μ ((t σ O).bnd k) Q)
    (f : ∀ d O1 v H1 μ1, EnvOk X.K H1 hid μ1 σ σv -> Ext H μ H1 μ1 -> Cells X.K H1 hid μ1 O1 -> Dats X.K H1 hid μ1 d v -> post Ex X.K rel' H1 hid μ1 (k d O1) Q -> Q1 v H1) : rdA Ex X.K t σv H Q1 :=
  ⟨hid, μ, σ, O, e1, c1, post.bnd q fun d O1 v H1 μ1 x c r p => f d O1 v H1 μ1 (e1.ext x) x c r p⟩
theorem z4y {i : Nat} {x : Str} (hN : X.N[i]? = some x) (hv : Vis X.env.scope x) (hd : (x == ("__debug__" : Str)) = false := by decide) (hcd : (x == ("__classdict__" : Str)) = false := by decide) : PD X Ex (.Name x pos) (z4z i) :=
  z5Y (zgB hN hv hd hcd) fun hid μ σ O σv H Q e1 c1 q => by
    unfold z4z at q
    split at q
    · rename_i d hd
      obtain ⟨v, h1, h2⟩ := e1.at_ i d hd
      exact ⟨v, h1, post.here q c1 h2⟩
    · exact False.elim q
theorem z4G {i j} : PD X Ex (.Constant (.int i) j pos) (dC (.int i)) := z5Y z7S fun hid μ σ O σv H Q e1 c1 q => post.here q c1 (by unfold Dat; rfl)
theorem z6T {i j} : PD X Ex (.Constant (.bool i) j pos) (dC (.bl i)) := z5Y zks fun hid μ σ O σv H Q e1 c1 q => post.here q c1 (by unfold Dat; rfl)
theorem z6G {j} : PD X Ex (.Constant .none j pos) (dC .non) := z5Y zgQ fun hid μ σ O σv H Q e1 c1 q => post.here q c1 (by unfold Dat; rfl)
theorem z6J {x : Str} {j} (cs : List Nat) (h : x = ⟨cs.toArray⟩) : PD X Ex (.Constant (.str x) j pos) (dC (.str cs)) := z5Y zjx fun hid μ σ O σv H Q e1 c1 q => post.here q c1 (by unfold Dat; rw [h])
def dOp (f : Ow -> D -> D -> R D) (ta tb : DE) : DE := fun σ O => (ta σ O).bnd fun x O1 => (tb σ O1).bnd fun y O2 => f O2 x y
def OpD (X : Cx) (Ex : Nat -> Hp -> Prop) (r : R2) (f : Ow -> D -> D -> R D) : Prop := ∀ (H : Hp) (hid μ : List Addr) (O : Ow) (x y : D) (v w : V) (Q : VK), Cells X.K H hid μ O -> Dat X.K H hid μ x v -> Dat X.K H hid μ y w -> z5L Ex X.K H hid μ (f O x y) Q -> r v w H Q
theorem zcT {r : R2} {f : Ow -> D -> D -> R D} (h : OpD X Ex r f) (hid μ : List Addr) (σ : Sg) (O : Ow) (σv : St) (H : Hp) (Q : VK) (e1 : EnvOk X.K H hid μ σ σv) (c1 : Cells X.K H hid μ O) (q : z5L Ex X.K H hid μ (dOp f ta tb σ O) Q) :
    tOp r (rd Ex X.K ta) (rd Ex X.K tb) σv H Q :=
  rd.go e1 c1 q fun x O1 v H1 μ1 e2 x2 c2 d2 q2 => rd.go e2 c2 q2 fun y O2 w H2 μ2 e3 x3 c3 d3 q3 => h H2 hid μ2 O2 x y v w Q c3 (d2.ext x3) d3 q3
theorem z6g {op : Operator} {r : R2} {f : Ow -> D -> D -> R D} (ho : OpR X (binaryOp op) r) (h : OpD X Ex r f) (ha : PD X Ex a ta) (hb : PD X Ex b tb) : PD X Ex (.BinOp a op b pos) (dOp f ta tb) :=
  z5Y (zkI ho ha.out hb.out) (zcT h)
theorem z8d {op : CmpOp} {r : R2} {f : Ow -> D -> D -> R D} (ho : OpR X (compareOp op) r) (h : OpD X Ex r f) (ha : PD X Ex a ta) (hb : PD X Ex b tb) (hm : behindInMarks op b = false) : PD X Ex (.Compare a [op] [b] pos) (dOp f ta tb) :=
  z5Y (zhh ho ha.out hb.out hm) (zcT h)
def z5h (t : DE) : DT := fun σ O => (t σ O).bnd fun x O1 => match x with
  | .bl k => .ok k O1
  | _ => .bad
theorem zco {t : TE} {td : DE} (f : ∀ hid μ σ O σv H Q, EnvOk X.K H hid μ σ σv -> Cells X.K H hid μ O -> z5L Ex X.K H hid μ (td σ O) Q -> t σv H Q) (hid μ : List Addr) (σ : Sg) (O : Ow) (σv : St) (H : Hp) (Q : Bool -> Hp -> Prop)
    (e1 : EnvOk X.K H hid μ σ σv) (c1 : Cells X.K H hid μ O) (q : z8s Ex X.K H hid μ (z5h td σ O) Q) : ziO t σv H Q := by
  refine f hid μ σ O σv H _ e1 c1 ?_
  refine post.bnd q fun d O1 v H1 μ1 x c r p => ?_
  cases d with
  | bl k =>
    have r : v = .bl k := by unfold Dat at r; exact r
    exact ⟨k, r, post.here p c rfl⟩
  | _ => exact False.elim p
theorem z5q {op : CmpOp} {r : R2} {f : Ow -> D -> D -> R D} (ho : OpR X (compareOp op) r) (h : OpD X Ex r f) (ha : PD X Ex a ta) (hb : PD X Ex b tb) (hm : behindInMarks op b = false) : PDT X Ex (.Compare a [op] [b] pos) (z5h (dOp f ta tb)) :=
  zcu (zhy ho ha.out hb.out hm) (zco (zcT h))
def z9j (O : Ow) : D -> R Bool
  | .non => .ok false O
  | .bl b => .ok b O
  | .int i => .ok (i != 0) O
  | .str cs => if cs.length <= 100000 then .ok (!cs.isEmpty) O else .bad
  | .lst ds => .ok (!ds.isEmpty) O
  | .tup ds => .ok (!ds.isEmpty) O
  | .own k => match O[k]? with
    | some ds => .ok (!ds.isEmpty) O
    | none => .bad
  | .dct => .bad
  | .exn _ => .bad
  | .tab _ => .bad
def z5V (t : DE) : DT := fun σ O => (t σ O).bnd fun x O1 => z9j O1 x
theorem z5w {n : Nat} (h : n <= 100000) : n <= sizeLine := Nat.le_trans h (by decide)
theorem z6B {K : PySem.W.Frag} {H : Hp} {hid μ : List Addr} {ds : List D} {vs : List V} (h : Dats K H hid μ ds vs) : (!ds.isEmpty) = !vs.isEmpty := by
  have e := h.length
  cases ds <;> cases vs <;> simp_all
theorem z5N (ha : PD X Ex a ta) (he : ∀ whole, isTrue a X.env whole = (do let v <- whole; standAt a.pos; holding [v] (truthy v))) : PDT X Ex a (z5V ta) :=
  zcu (zg0 ha.out he) fun hid μ σ O σv H Q e1 c1 q => rd.go e1 c1 q fun d O1 v H1 μ1 e2 x c r p => by
    cases d with
    | non => unfold Dat at r; subst r; exact ⟨_, rfl, post.here p c rfl⟩
    | bl b => unfold Dat at r; subst r; exact ⟨_, rfl, post.here p c rfl⟩
    | int b => unfold Dat at r; subst r; exact ⟨_, rfl, post.here p c rfl⟩
    | str cs =>
      unfold Dat at r; subst r
      by_cases hl : cs.length <= 100000
      · have p' : z8s Ex X.K H1 hid μ1 (.ok (!cs.isEmpty) O1) Q := by
          have p2 : z8s Ex X.K H1 hid μ1 (if cs.length <= 100000 then .ok (!cs.isEmpty) O1 else .bad) Q := p
          rw [if_pos hl] at p2; exact p2
        refine ⟨_, ⟨?_, rfl⟩, ?_⟩
        · show cs.toArray.size <= _
          rw [List.size_toArray]; exact z5w hl
        · have e : (((⟨cs.toArray⟩ : Str).length : Int) != 0) = !cs.isEmpty := by
            show ((cs.toArray.size : Int) != 0) = _
            rw [List.size_toArray]
            cases cs <;> simp [bne]
            omega
          rw [e]; exact post.here p' c rfl
      · have p2 : z8s Ex X.K H1 hid μ1 (if cs.length <= 100000 then .ok (!cs.isEmpty) O1 else .bad) Q := p
        rw [if_neg hl] at p2; exact False.elim p2
    | lst ds =>
      unfold Dat at r
      obtain ⟨a, vs, rfl, l, q⟩ := r
      exact ⟨_, .inl ⟨vs, l.sq, rfl⟩, by rw [<- z6B q]; exact post.here p c rfl⟩
    | tup ds =>
      unfold Dat at r
      obtain ⟨a, vs, rfl, l, q⟩ := r
      exact ⟨_, .inr (.inl ⟨vs, l.sq, rfl⟩), by rw [<- z6B q]; exact post.here p c rfl⟩
    | own k =>
      unfold Dat at r
      obtain ⟨a, rfl, hk⟩ := r
      obtain ⟨ds, vs, h1, h2, h3⟩ := c.at_ k a hk
      have p' : z8s Ex X.K H1 hid μ1 (.ok (!ds.isEmpty) O1) Q := by
        have p2 : z8s Ex X.K H1 hid μ1 (match O1[k]? with | some ds => .ok (!ds.isEmpty) O1 | none => .bad) Q := p
        rw [h1] at p2; exact p2
      exact ⟨_, .inl ⟨vs, .of h2, rfl⟩, by rw [<- z6B h3]; exact post.here p' c rfl⟩
    | dct => exact False.elim p
    | exn _ => exact False.elim p
    | tab _ => exact False.elim p
def fI (g : Int -> Int -> Option D) : Ow -> D -> D -> R D := fun O x y => match x, y with
  | .int i, .int j => match g i j with
    | some d => .ok d O
    | none => .bad
  | _, _ => .bad
theorem z8X {C : Int -> Int -> Prop} {gv : Int -> Int -> V} {g : Int -> Int -> Option D} (h : ∀ i j d, g i j = some d -> C i j /\ ∀ K H hid μ, Dat K H hid μ d (gv i j)) : OpD X Ex (rI C gv) (fI g) := by
  intro H hid μ O x y v w Q c dx dy q
  unfold fI at q
  split at q
  · rename_i i j
    unfold Dat at dx dy
    subst dx; subst dy
    split at q
    · rename_i d hd
      obtain ⟨h1, h2⟩ := h i j d hd
      exact ⟨i, j, rfl, rfl, h1, post.here q c (h2 _ _ _ _)⟩
    · exact False.elim q
  · exact False.elim q
theorem z8A {gv : Int -> Int -> V} {g : Int -> Int -> Option D} (h : ∀ i j d, g i j = some d -> ∀ K H hid μ, Dat K H hid μ d (gv i j)) : OpD X Ex (rI0 gv) (fI g) := by
  intro H hid μ O x y v w Q c dx dy q
  unfold fI at q
  split at q
  · rename_i i j
    unfold Dat at dx dy
    subst dx; subst dy
    split at q
    · rename_i d hd
      exact ⟨i, j, rfl, rfl, post.here q c (h i j d hd _ _ _ _)⟩
    · exact False.elim q
  · exact False.elim q
theorem z5v {K H hid μ} {i : Int} : Dat K H hid μ (.int i) (.int i) := by unfold Dat; rfl
theorem z6c {K H hid μ} {i : Bool} : Dat K H hid μ (.bl i) (.bl i) := by unfold Dat; rfl
theorem z8Y {K H hid μ} : Dat K H hid μ .non .non := by unfold Dat; rfl
theorem zeo {K H hid μ} {cs : List Nat} : Dat K H hid μ (.str cs) (.str ⟨cs.toArray⟩) := by unfold Dat; rfl
def gB (p : Int -> Int -> Bool) : Int -> Int -> Option D := fun i j => some (.bl (p i j))
def gI (p : Int -> Int -> Int) : Int -> Int -> Option D := fun i j => some (.int (p i j))
def zgK : Int -> Int -> Option D := gI fun i j => i - j
def zbE : Int -> Int -> Option D := fun i j => if (-1000000000000000 < i /\ i < 1000000000000000) \/ (-1000000000000000 < j /\ j < 1000000000000000) then some (.int (i * j)) else none
def z9J : Int -> Int -> Option D := fun i j => if 0 < j /\ j < 1073741824 then some (.int (i / j)) else none
def z9A : Int -> Int -> Option D := fun i j => if 0 < j then some (.int (i % j)) else none
def zdk : Int -> Int -> Option D := fun i j => if 0 <= j /\ j <= 1000000 /\ i.natAbs < 2 ^ 64 then some (.int (i ^ j.toNat)) else none
def zbZ : Int -> Int -> Option D := fun i j => if 0 <= j /\ j <= 1000000 /\ i.natAbs < 2 ^ 64 then some (.int (i * 2 ^ j.toNat)) else none
theorem zdI : OpD X Ex (rI0 fun i j => .int (i - j)) (fI zgK) := z8A fun i j d h _ _ _ _ => by cases h; exact z5v
theorem z8E : OpD X Ex (rI CMul fun i j => .int (i * j)) (fI zbE) := z8X fun i j d h => by
  unfold zbE at h; split at h
  · rename_i hc; cases h; exact ⟨hc.imp (fun z => ⟨by omega, by omega⟩) fun z => ⟨by omega, by omega⟩, fun _ _ _ _ => z5v⟩
  · cases h
theorem zao : OpD X Ex (rI zlj fun i j => .int (i / j)) (fI z9J) := z8X fun i j d h => by
  unfold z9J at h; split at h
  · rename_i hc; cases h; exact ⟨hc, fun _ _ _ _ => z5v⟩
  · cases h
theorem z7x : OpD X Ex (rI (fun _ j => 0 < j) fun i j => .int (i % j)) (fI z9A) := z8X fun i j d h => by
  unfold z9A at h; split at h
  · rename_i hc; cases h; exact ⟨hc, fun _ _ _ _ => z5v⟩
  · cases h
theorem zc0 : OpD X Ex (rI zk3 fun i j => .int (i ^ j.toNat)) (fI zdk) := z8X fun i j d h => by
  unfold zdk at h; split at h
  · rename_i hc; cases h; exact ⟨hc, fun _ _ _ _ => z5v⟩
  · cases h
theorem z9M : OpD X Ex (rI zk3 fun i j => .int (i * 2 ^ j.toNat)) (fI zbZ) := z8X fun i j d h => by
  unfold zbZ at h; split at h
  · rename_i hc; cases h; exact ⟨hc, fun _ _ _ _ => z5v⟩
  · cases h
def fLt : Ow -> D -> D -> R D := fI (gB fun i j => decide (i < j))
def fLe : Ow -> D -> D -> R D := fI (gB fun i j => decide (i <= j))
def fGe : Ow -> D -> D -> R D := fI (gB fun i j => decide (j <= i))
theorem zgH : OpD X Ex (rI0 fun i j => .bl (decide (i < j))) fLt := z8A fun i j d h _ _ _ _ => by cases h; exact z6c
theorem zh0 : OpD X Ex (rI0 fun i j => .bl (decide (i <= j))) fLe := z8A fun i j d h _ _ _ _ => by cases h; exact z6c
theorem zjk : OpD X Ex (rI0 fun i j => .bl (decide (j <= i))) fGe := z8A fun i j d h _ _ _ _ => by cases h; exact z6c
def ze1 : D -> Bool
  | .non => true
  | _ => false
def zjT : Ow -> D -> D -> R D := fun O x y => match y with
  | .non => .ok (.bl (ze1 x)) O
  | _ => .bad
def zgu : Ow -> D -> D -> R D := fun O x y => match y with
  | .non => .ok (.bl (!ze1 x)) O
  | _ => .bad
theorem zdA {K H hid μ} {x : D} {v : V} (h : Dat K H hid μ x v) : decide (v = .non) = ze1 x := by
  cases x with
  | non => unfold Dat at h; subst h; rfl
  | bl _ => unfold Dat at h; subst h; rfl
  | int _ => unfold Dat at h; subst h; rfl
  | str _ => unfold Dat at h; subst h; rfl
  | lst _ => unfold Dat at h; obtain ⟨_, _, rfl, _⟩ := h; rfl
  | tup _ => unfold Dat at h; obtain ⟨_, _, rfl, _⟩ := h; rfl
  | own _ => unfold Dat at h; obtain ⟨_, rfl, _⟩ := h; rfl
  | dct => unfold Dat at h; obtain ⟨_, rfl, _⟩ := h; rfl
  | exn _ => unfold Dat at h; obtain ⟨_, _, rfl, _⟩ := h; rfl
  | tab _ => unfold Dat at h; obtain ⟨rfl, _⟩ := h; rfl
theorem zdJ : OpD X Ex (fun x y H Q => y = .non /\ Q (.bl (decide (x = .non))) H) zjT := by
  intro H hid μ O x y v w Q c dx dy q
  cases y with
  | non =>
    unfold Dat at dy; subst dy
    refine ⟨rfl, ?_⟩
    rw [zdA dx]
    exact post.here (show z5L Ex X.K H hid μ (.ok (.bl (ze1 x)) O) Q from q) c z6c
  | _ => exact False.elim q
theorem zft : OpD X Ex (fun x y H Q => y = .non /\ Q (.bl (!decide (x = .non))) H) zgu := by
  intro H hid μ O x y v w Q c dx dy q
  cases y with
  | non =>
    unfold Dat at dy; subst dy
    refine ⟨rfl, ?_⟩
    rw [zdA dx]
    exact post.here (show z5L Ex X.K H hid μ (.ok (.bl (!ze1 x)) O) Q from q) c z6c
  | _ => exact False.elim q
def zgC (t u : DE) : DE := fun σ O => (t σ O).bnd fun x O1 => match x with
  | .bl true => u σ O1
  | .bl false => .ok (.bl false) O1
  | _ => .bad
def dOr (t u : DE) : DE := fun σ O => (t σ O).bnd fun x O1 => match x with
  | .bl true => .ok (.bl true) O1
  | .bl false => u σ O1
  | _ => .bad
def zld (t : DE) : DE := fun σ O => (t σ O).bnd fun x O1 => match x with
  | .bl b => .ok (.bl (!b)) O1
  | _ => .bad
def zaD (t u : DT) : DT := fun σ O => (t σ O).bnd fun x O1 => if x = true then u σ O1 else .ok false O1
def zbx (t u : DT) : DT := fun σ O => (t σ O).bnd fun x O1 => if x = true then .ok true O1 else u σ O1
def z5g (t : DT) : DT := fun σ O => (t σ O).bnd fun x O1 => .ok (!x) O1
theorem zav {op} (ha : PD X Ex a ta) : PD X Ex (.BoolOp op [a] pos) ta := ⟨ziA ha.out⟩
theorem zcV {z6F : List Expr} (ha : PD X Ex a ta) (hb : PD X Ex (.BoolOp .And (b :: z6F) pos) tb) : PD X Ex (.BoolOp .And (a :: b :: z6F) pos) (zgC ta tb) :=
  z5Y (zjA ha.out hb.out) fun hid μ σ O σv H Q e1 c1 q => rd.go e1 c1 q fun d O1 v H1 μ1 e2 x c r p => by
    cases d with
    | bl k =>
      unfold Dat at r; subst r
      refine ⟨k, rfl, ?_⟩
      cases k with
      | true => rw [if_pos rfl]; exact ⟨hid, μ1, σ, O1, e2, c, p⟩
      | false => rw [if_neg Bool.false_ne_true]; exact post.here p c z6c
    | _ => exact False.elim p
theorem zkg {z6F : List Expr} (ha : PD X Ex a ta) (hb : PD X Ex (.BoolOp .Or (b :: z6F) pos) tb) : PD X Ex (.BoolOp .Or (a :: b :: z6F) pos) (dOr ta tb) :=
  z5Y (zkL ha.out hb.out) fun hid μ σ O σv H Q e1 c1 q => rd.go e1 c1 q fun d O1 v H1 μ1 e2 x c r p => by
    cases d with
    | bl k =>
      unfold Dat at r; subst r
      refine ⟨k, rfl, ?_⟩
      cases k with
      | true => rw [if_pos rfl]; exact post.here p c z6c
      | false => rw [if_neg Bool.false_ne_true]; exact ⟨hid, μ1, σ, O1, e2, c, p⟩
    | _ => exact False.elim p
theorem ziG (ha : PD X Ex a ta) : PD X Ex (.UnaryOp .Not a pos) (zld ta) :=
  z5Y (zjc ha.out) fun hid μ σ O σv H Q e1 c1 q => rd.go e1 c1 q fun d O1 v H1 μ1 e2 x c r p => by
    cases d with
    | bl k => unfold Dat at r; subst r; exact ⟨k, rfl, post.here p c z6c⟩
    | _ => exact False.elim p
structure PDW (X : Cx) (Ex : Nat -> Hp -> Prop) (e : Expr) (t : DT) : Prop where
  out : PW X e (rdT Ex X.K t)
theorem PDW.pt {e : Expr} {t : DT} (h : PDW X Ex e t) : PDT X Ex e t := ⟨L2.PW.pt h.out⟩
theorem zgL {e : Expr} {t : TT} {t' : DT} (h : PW X e t) (f : ∀ hid μ σ O σv H Q, EnvOk X.K H hid μ σ σv -> Cells X.K H hid μ O -> z8s Ex X.K H hid μ (t' σ O) Q -> t σv H Q) : PDW X Ex e t' :=
  ⟨PW.imp h fun σv H Q ⟨hid, μ, σ, O, e1, c1, q⟩ => f hid μ σ O σv H Q e1 c1 q⟩
theorem zf4 {z6F : List Expr} {tA tB : DT} (ha : PDT X Ex a tA) (hb : PDW X Ex (.BoolOp .And (b :: z6F) pos) tB) : PDW X Ex (.BoolOp .And (a :: b :: z6F) pos) (zaD tA tB) :=
  zgL (zjU ha.out hb.out) fun hid μ σ O σv H Q e1 c1 q => rdT.go e1 c1 q fun k O1 H1 μ1 e2 x c p => by
    cases k with
    | true => rw [if_pos rfl]; exact ⟨hid, μ1, σ, O1, e2, c, p⟩
    | false => rw [if_neg Bool.false_ne_true]; exact post.here p c rfl
theorem zcA {z6F : List Expr} {tA tB : DT} (ha : PDT X Ex a tA) (hb : PDW X Ex (.BoolOp .Or (b :: z6F) pos) tB) : PDW X Ex (.BoolOp .Or (a :: b :: z6F) pos) (zbx tA tB) :=
  zgL (zku ha.out hb.out) fun hid μ σ O σv H Q e1 c1 q => rdT.go e1 c1 q fun k O1 H1 μ1 e2 x c p => by
    cases k with
    | true => rw [if_pos rfl]; exact post.here p c rfl
    | false => rw [if_neg Bool.false_ne_true]; exact ⟨hid, μ1, σ, O1, e2, c, p⟩
theorem zcM {tA : DT} (ha : PDT X Ex a tA) : PDW X Ex (.BoolOp .And [a] pos) tA := ⟨zhr ha.out⟩
theorem z9P {tA : DT} (ha : PDT X Ex a tA) : PDW X Ex (.BoolOp .Or [a] pos) tA := ⟨zjh ha.out⟩
theorem z6l {tA : DT} (ha : PDT X Ex a tA) : PDT X Ex (.UnaryOp .Not a pos) (z5g tA) :=
  zcu (ziL ha.out) fun hid μ σ O σv H Q e1 c1 q => rdT.go e1 c1 q fun k O1 H1 μ1 e2 x c p => post.here p c rfl
def zgR (f g : Ow -> D -> D -> R D) (ta tb tc : DE) : DE := fun σ O => (ta σ O).bnd fun x O1 => (tb σ O1).bnd fun y O2 => (f O2 x y).bnd fun z O3 => match z with
  | .bl true => (tc σ O3).bnd fun w O4 => g O4 y w
  | .bl false => .ok (.bl false) O3
  | _ => .bad
theorem zfu {op op' : CmpOp} {r r' : R2} {f g : Ow -> D -> D -> R D} (ho : OpR X (compareOp op) r) (h : OpD X Ex r f) (ho' : OpR X (compareOp op') r') (h' : OpD X Ex r' g) (ha : PD X Ex a ta) (hb : PD X Ex b tb) (hc : PD X Ex c tc)
    (hm : lastMarks [op, op'] [b, c] = false := by with_unfolding_all rfl) : PD X Ex (.Compare a [op, op'] [b, c] pos) (zgR f g ta tb tc) :=
  z5Y (zfr ho ho' ha.out hb.out hc.out hm) fun hid μ σ O σv H Q e1 c1 q => rd.go e1 c1 q fun x O1 v H1 μ1 e2 x2 c2 d2 q2 => rd.go e2 c2 q2 fun y O2 w H2 μ2 e3 x3 c3 d3 q3 =>
    h H2 hid μ2 O2 x y v w _ c3 (d2.ext x3) d3 (post.bnd q3 fun z O3 u H3 μ3 x4 c4 r4 p => by
      cases z with
      | bl k =>
        unfold Dat at r4; subst r4
        refine ⟨k, rfl, ?_⟩
        cases k with
        | true => rw [if_pos rfl]; exact rd.go (e3.ext x4) c4 p fun w2 O4 v4 H4 μ4 e5 x5 c5 d5 q5 => h' H4 hid μ4 O4 y w2 w v4 Q c5 ((d3.ext x4).ext x5) d5 q5
        | false => rw [if_neg Bool.false_ne_true]; exact post.here p c4 z6c
      | _ => exact False.elim p)
def z4C : DA := fun _ O => .ok [] O
def z4w (t : DE) (u : DA) : DA := fun σ O => (t σ O).bnd fun x O1 => (u σ O1).bnd fun xs O2 => .ok (x :: xs) O2
theorem z4A : PDA X Ex [] z4C := zgA z97 fun hid μ σ O σv H Q e1 c1 q => post.here q c1 .nil
theorem z4x {es : List Expr} {t : DA} (ha : PD X Ex a ta) (hr : PDA X Ex es t) (hs : starEach (a :: es) X.env = (false, eval a X.env) :: starEach es X.env := by rfl) : PDA X Ex (a :: es) (z4w ta t) :=
  zgA (z6o ha.out hr.out hs) fun hid μ σ O σv H Q e1 c1 q => rd.go e1 c1 q fun x O1 v H1 μ1 e2 x2 c2 d2 q2 => rdA.go e2 c2 q2 fun y O2 w H2 μ2 e3 x3 c3 d3 q3 => post.here q3 c3 (.cons (d2.ext x3) d3)
def z72 (t : DA) : DE := fun σ O => (t σ O).bnd fun xs O1 => if xs.length <= 100000 then .ok (.tup xs) O1 else .bad
def z5k (t : DA) : DE := fun σ O => (t σ O).bnd fun xs O1 => if xs.length <= 100000 then .ok (.lst xs) O1 else .bad
def zar (t : DA) : DE := fun σ O => (t σ O).bnd fun xs O1 => if xs.length <= 100000 then .ok (.own O1.length) (O1 ++ [xs]) else .bad
theorem post.ite {α β : Type} {K : PySem.W.Frag} {H : Hp} {hid μ : List Addr} {rel : Hp -> List Addr -> α -> β -> Prop} {Q : β -> Hp -> Prop} {c : Prop} [Decidable c] {r : R α} (h : post Ex K rel H hid μ (if c then r else .bad) Q) : c /\ post Ex K rel H hid μ r Q := by
  by_cases hc : c
  · rw [if_pos hc] at h; exact ⟨hc, h⟩
  · rw [if_neg hc] at h; exact False.elim h
theorem z7c {es : List Expr} {t : DA} {x1} (h : PDA X Ex es t) : PD X Ex (.Tuple es x1 pos) (z72 t) :=
  z5Y (zgO h.out) fun hid μ σ O σv H Q e1 c1 q => rdA.go e1 c1 q fun xs O1 vs H1 μ1 e2 x2 c2 d2 q2 => by
    obtain ⟨hl, q2⟩ := post.ite q2
    exact ⟨by rw [<- d2.length]; exact z5w hl, fun p hp => post.ok q2 (.laid hp) (c2.laid hp) (Dat.newT c2 hp d2)⟩
theorem z5e {es : List Expr} {t : DA} (h : PDA X Ex es t) : PD X Ex (.List es pos) (z5k t) :=
  z5Y (zgN h.out) fun hid μ σ O σv H Q e1 c1 q => rdA.go e1 c1 q fun xs O1 vs H1 μ1 e2 x2 c2 d2 q2 => by
    obtain ⟨hl, q2⟩ := post.ite q2
    exact ⟨by rw [<- d2.length]; exact z5w hl, fun p hp => post.ok q2 (.laid hp) (c2.laid hp) (Dat.newL c2 hp d2)⟩
theorem z6K {K : PySem.W.Frag} {H : Hp} {hid μ : List Addr} {p : Addr} {n : Nat} (h : μ.length = n) : Dat K H hid (μ ++ [p]) (.own n) (.ref p) := by
  unfold Dat
  exact ⟨p, rfl, by rw [<- h]; simp⟩
theorem zc3 {es : List Expr} {t : DA} (h : PDA X Ex es t) : PD X Ex (.List es pos) (zar t) :=
  z5Y (zgN h.out) fun hid μ σ O σv H Q e1 c1 q => rdA.go e1 c1 q fun xs O1 vs H1 μ1 e2 x2 c2 d2 q2 => by
    obtain ⟨hl, q2⟩ := post.ite q2
    exact ⟨by rw [<- d2.length]; exact z5w hl, fun p hp => post.ok q2 (.cell hp) (c2.cell hp d2) (z6K c2.len)⟩
end
end DL
namespace DL
open PySem L2
inductive Src where
  | val (ds : List D)
  | own (k : Nat)
  | zip (a b : Src)
  deriving Repr, Inhabited
def Src.get : Src -> Ow -> Nat -> Option D
  | .val ds, _, i => ds[i]?
  | .own k, O, i => match O[k]? with
    | some ds => ds[i]?
    | none => none
  | .zip a b, O, i => match a.get O i, b.get O i with
    | some x, some y => some (.tup [x, y])
    | _, _ => none
def Src.size : Src -> Ow -> Nat
  | .val ds, _ => ds.length
  | .own k, O => match O[k]? with
    | some ds => ds.length
    | none => 0
  | .zip a b, O => min (a.size O) (b.size O)
abbrev DI := Sg -> Ow -> R Src
def SrcAt (K : PySem.W.Frag) (J : It) (src : Src) (H : Hp) (hid μ : List Addr) : Prop := ∀ hid' H' μ' O', Mv H hid μ H' hid' μ' -> Cells K H' hid' μ' O' -> ∀ i,
  match src.get O' i with
  | some d => J.go i H' /\ ∀ x H'', J.yld i H' x H'' -> Ext H' μ' H'' μ' /\ Cells K H'' hid' μ' O' /\ Dat K H'' hid' μ' d x
  | none => J.stop i H'
def rdI (Ex : Nat -> Hp -> Prop) (K : PySem.W.Frag) (t : DI) : TI := fun σv H Rr => ∃ hid μ σ O, EnvOk K H hid μ σ σv /\ Cells K H hid μ O /\ post Ex K (fun H' μ' s J => SrcAt K J s H' hid μ') H hid μ (t σ O) Rr
structure PDI (X : Cx) (Ex : Nat -> Hp -> Prop) (tg iter : Expr) (t : DI) : Prop where
  out : PI X tg iter (rdI Ex X.K t)
theorem SrcAt.mv {K : PySem.W.Frag} {J : It} {src : Src} {H H1 : Hp} {hid hid1 μ μ1 : List Addr} (h : SrcAt K J src H hid μ) (e : Mv H hid μ H1 hid1 μ1) : SrcAt K J src H1 hid1 μ1 :=
  fun hid' H' μ' O' m c => h hid' H' μ' O' (e.trans m) c
theorem SrcAt.val {K : PySem.W.Frag} {H : Hp} {hid μ : List Addr} {ds : List D} {vs : List V} {a : Addr} (l : LstAt K H hid μ a vs) (q : Dats K H hid μ ds vs) : SrcAt K (Itl K a) (.val ds) H hid μ := by
  intro hid' H' μ' O' m c i
  have sq := (l.mv m).sq
  have q' := q.mv m
  show match ds[i]? with | some d => _ | none => _
  cases e : ds[i]? with
  | some d =>
    obtain ⟨v, h1, h2⟩ := q'.get e
    refine ⟨⟨vs, v, sq, h1⟩, fun x H'' y => ?_⟩
    obtain ⟨rfl, y⟩ := y
    have := y vs sq
    rw [h1] at this; cases this
    exact ⟨.refl, c, h2⟩
  | none =>
    refine ⟨vs, sq, ?_⟩
    have := List.getElem?_eq_none_iff.mp e
    rw [<- q.length]; exact this
theorem SrcAt.tup {K : PySem.W.Frag} {H : Hp} {hid μ : List Addr} {ds : List D} {vs : List V} {a : Addr} (l : TupAt K H hid μ a vs) (q : Dats K H hid μ ds vs) : SrcAt K (Itt K a) (.val ds) H hid μ := by
  intro hid' H' μ' O' m c i
  have sq := (l.mv m).sq
  have q' := q.mv m
  show match ds[i]? with | some d => _ | none => _
  cases e : ds[i]? with
  | some d =>
    obtain ⟨v, h1, h2⟩ := q'.get e
    refine ⟨⟨vs, v, sq, h1⟩, fun x H'' y => ?_⟩
    obtain ⟨rfl, y⟩ := y
    have := y vs sq
    rw [h1] at this; cases this
    exact ⟨.refl, c, h2⟩
  | none =>
    refine ⟨vs, sq, ?_⟩
    have := List.getElem?_eq_none_iff.mp e
    rw [<- q.length]; exact this
theorem SrcAt.own {K : PySem.W.Frag} {H : Hp} {hid μ : List Addr} {k : Nat} {a : Addr} (hk : μ[k]? = some a) : SrcAt K (Itl K a) (.own k) H hid μ := by
  intro hid' H' μ' O' m c i
  obtain ⟨ν, rfl⟩ := m.pre
  have hk' : (μ ++ ν)[k]? = some a := by rw [List.getElem?_append_left (List.getElem?_eq_some_iff.mp hk).1]; exact hk
  obtain ⟨ds, vs, h1, h2, h3⟩ := c.at_ k a hk'
  have sq : SqL K H' a vs := .of h2
  show match (match O'[k]? with | some ds => ds[i]? | none => none) with | some d => _ | none => _
  rw [h1]
  show match ds[i]? with | some d => _ | none => _
  cases e : ds[i]? with
  | some d =>
    obtain ⟨v, g1, g2⟩ := h3.get e
    refine ⟨⟨vs, v, sq, g1⟩, fun x H'' y => ?_⟩
    obtain ⟨rfl, y⟩ := y
    have := y vs sq
    rw [g1] at this; cases this
    exact ⟨.refl, c, g2⟩
  | none =>
    refine ⟨vs, sq, ?_⟩
    have := List.getElem?_eq_none_iff.mp e
    rw [<- h3.length]; exact this
def Its (x : Str) : It := ⟨fun i _ => i < x.cps.size, fun i H v H' => H' = H /\ ∃ c, x.cps[i]? = some c /\ v = .str ⟨#[c]⟩, fun i _ => x.cps.size <= i⟩
theorem SrcAt.str {K : PySem.W.Frag} {H : Hp} {hid μ : List Addr} {cs : List Nat} : SrcAt K (Its ⟨cs.toArray⟩) (.val (cs.map fun c => .str [c])) H hid μ := by
  intro hid' H' μ' O' m c i
  show match (cs.map fun c => D.str [c])[i]? with | some d => _ | none => _
  rw [List.getElem?_map]
  cases e : cs[i]? with
  | some d =>
    have hi := (List.getElem?_eq_some_iff.mp e).1
    refine ⟨by show i < cs.toArray.size; simpa using hi, fun x H'' y => ?_⟩
    obtain ⟨rfl, z, h1, rfl⟩ := y
    have h1' : cs.toArray[i]? = some z := h1
    rw [List.getElem?_toArray, e] at h1'
    cases h1'
    refine ⟨.refl, c, ?_⟩
    unfold Dat
    rfl
  | none =>
    have := List.getElem?_eq_none_iff.mp e
    show cs.toArray.size <= i
    simpa using this
theorem SrcAt.rng {K : PySem.W.Frag} {H : Hp} {hid μ : List Addr} {lo : Int} {n : Nat} : SrcAt K (Itr lo n) (.val ((List.range n).map fun i => .int (lo + (i : Nat)))) H hid μ := by
  intro hid' H' μ' O' m c i
  show match ((List.range n).map fun i => D.int (lo + (i : Nat)))[i]? with | some d => _ | none => _
  rw [List.getElem?_map]
  by_cases hi : i < n
  · rw [List.getElem?_range hi]
    refine ⟨hi, fun x H'' y => ?_⟩
    obtain ⟨rfl, rfl⟩ := y
    exact ⟨.refl, c, z5v⟩
  · rw [List.getElem?_eq_none_iff.mpr (by simpa using hi)]
    exact Nat.not_lt.mp hi
theorem zgd {P : Program} {w : World} {K : PySem.W.Frag} {tg : Expr} (x : Str) (t : Tok) (it : Addr) : zeg P w K tg (Its x) [it] it (fun i h => h.IsStrIter it (strIterType x) x t i) where
  mem := by simp
  obj := fun i h st b hb => by
    have e : b = it := by simpa using hb
    subst e
    obtain ⟨o, e, c, d⟩ := st
    exact ⟨o, e, fun v z => by rw [d] at z; cases z⟩
  keep := fun i h h' st k => by
    obtain ⟨o, e, c, d⟩ := st
    exact ⟨o, k it (by simp) o e, c, d⟩
  item := by
    intro X hP hw hK hc i pins s σ H E I hf st hg
    subst hP hw hK
    obtain ⟨f0, f1, f2, f3, f4, f5⟩ := hf it (by simp)
    obtain ⟨ch, hx⟩ : ∃ c, x.cps[i]? = some c := ⟨_, Array.getElem?_eq_getElem (show i < x.cps.size from hg)⟩
    have go : ∀ (ty : String), (["enumerate", "zip", "dict_itemiterator", "dict_reverseitemiterator", "odict_iterator", "itertools.zip_longest", "itertools.pairwise"].contains ty = false) -> strIterType x = ty -> ∀ h', h'.IsStrIter it ty x t (i + 1) -> Heap.SameBut it s.heap h' ->
        ∃ u, some (Value.str ⟨#[ch]⟩ s.toks) = some u /\ wpAny (model X.prog X.w) X.A (letOwnedTupleGo tg (.ref it) u) (fun _ s2 => ∃ y H', Inv X pins σ H' s2 /\ RelV y u /\ (Its x).yld i H y H' /\ s2.heap.IsStrIter it (strIterType x) x t (i + 1) /\ ∀ b ∈ [it], H' b = none) E { s with heap := h', toks := s.toks + 1 } := by
      intro ty hn et h' st' sb
      have I1 : Inv X pins σ H { s with heap := h', toks := s.toks + 1 } := I.turned (t' := s.toks + 1) (fun b o hb e => (sb.2 b hb).trans e) f0 f1 f3 f4 f5
      obtain ⟨o, e, c, d⟩ := id st'
      refine ⟨_, rfl, zfP (s := { s with heap := h', toks := s.toks + 1 }) e c d hn ⟨.str ⟨#[ch]⟩, H, I1, ⟨_, rfl⟩, ⟨rfl, _, hx, rfl⟩, ?_, fun b hb => (hf b hb).1⟩⟩
      rw [et]; exact st'
    unfold strIterType at st go ⊢
    split at st
    · rename_i ha
      exact wpAny_pyNext_ascii_item st hx fun h' st' sb => go "str_ascii_iterator" (by decide) (by rw [if_pos ha]) h' st' sb
    · rename_i ha
      exact wpAny_pyNext_wide_item st hx fun h' st' sb => go "str_iterator" (by decide) (by rw [if_neg ha]) h' st' sb
  done := by
    intro X hP hw hK hc i pins s σ H E I hf st hg
    subst hP hw hK
    obtain ⟨f0, f1, f2, f3, f4, f5⟩ := hf it (by simp)
    have hx : x.cps[i]? = none := by
      have : x.cps.size <= i := hg
      simp [this]
    unfold strIterType at st
    split at st
    · exact wpAny_pyNext_ascii_end (I.ok.hd hc) st hx fun h' eb => ⟨rfl, I.turned (t' := s.toks) (fun b o hb e => eb b o hb e) f0 f1 f3 f4 f5⟩
    · exact wpAny_pyNext_wide_end (I.ok.hd hc) st hx fun h' eb => ⟨rfl, I.turned (t' := s.toks) (fun b o hb e => eb b o hb e) f0 f1 f3 f4 f5⟩
  self := fun _ _ s _ _ st h => by
    unfold strIterType at st
    split at st
    · exact wpAny_pyIter_striter_ascii st h
    · exact wpAny_pyIter_striter_wide st h
end DL
namespace DL
open PySem L2
section
variable {X : Cx} {Ex : Nat -> Hp -> Prop} {pos : Pos} {a b c tg : Expr} {ta tb tc : DE}
def zjC (O : Ow) : D -> R Src
  | .lst ds => .ok (.val ds) O
  | .tup ds => .ok (.val ds) O
  | .str cs => .ok (.val (cs.map fun c => .str [c])) O
  | .own k => .ok (.own k) O
  | _ => .bad
def dIt (t : DE) : DI := fun σ O => (t σ O).bnd fun x O1 => zjC O1 x
theorem z7Z (ha : PD X Ex a ta) : PDI X Ex tg a (dIt ta) := by
  refine ⟨?_⟩
  rintro pins s σv H Rr I ⟨hid, μ, σ, O, e1, c1, q⟩
  refine thn (ha.out pins s σv H _ I (rd.go e1 c1 q (Q1 := fun v H1 => ∃ hid μ1 O1 d, Cells X.K H1 hid μ1 O1 /\ Dat X.K H1 hid μ1 d v /\ post Ex X.K (fun H' μ' s J => SrcAt X.K J s H' hid μ') H1 hid μ1 (zjC O1 d) Rr)
    fun d O1 v H1 μ1 e2 x c r p => ⟨hid, μ1, O1, d, c, r, p⟩)) fun u s1 ⟨v, H1, I1, ru, hid, μ1, O1, d, c, r, p⟩ => ?_
  have new : ∀ (b : Addr), b ∈ [s1.heap.objs.size] -> zbz X pins H1 b := fun b hb => by
    have e : b = s1.heap.objs.size := by simpa using hb
    subst e
    exact I1.fpOk (Nat.le_refl _) (I1.hok.fresh (Nat.le_refl _))
  cases d with
  | lst ds =>
    unfold Dat at r
    obtain ⟨a, vs, rfl, l, q⟩ := r
    cases ru
    obtain ⟨its, rv, p1, hz⟩ := I1.list l.sq
    refine wpAny_pyIter_list p1.isList ?_
    exact ⟨s1.heap.objs.size, [s1.heap.objs.size], _, _, H1, rfl, I1.kept (t' := s1.toks) fun b o e => Heap.get?_push_of_some _ e, zaB a _, ⟨_, Heap.get?_push_size _ rfl, rfl, rfl⟩, new, post.here p c (.val l q)⟩
  | tup ds =>
    unfold Dat at r
    obtain ⟨a, vs, rfl, l, q⟩ := r
    cases ru
    obtain ⟨its, rv, p1, hz⟩ := I1.tuple l.sq
    refine wpAny_pyIter_tuple (show s1.heap.IsTuple a its.toArray from p1) ?_
    exact ⟨s1.heap.objs.size, [s1.heap.objs.size], _, _, H1, rfl, I1.kept (t' := s1.toks) fun b o e => Heap.get?_push_of_some _ e, zdd a _, ⟨_, Heap.get?_push_size _ rfl, rfl, rfl⟩, new, post.here p c (.tup l q)⟩
  | str cs =>
    unfold Dat at r
    subst r
    obtain ⟨t, rfl⟩ := ru
    refine wpAny_pyIter_strU ?_
    exact ⟨s1.heap.objs.size, [s1.heap.objs.size], _, _, H1, rfl, I1.kept (t' := s1.toks) fun b o e => Heap.get?_push_of_some _ e, zgd ⟨cs.toArray⟩ t _, ⟨_, Heap.get?_push_size _ rfl, rfl, rfl⟩, new, post.here p c .str⟩
  | own k =>
    unfold Dat at r
    obtain ⟨a, rfl, hk⟩ := r
    cases ru
    obtain ⟨ds, vs, h1, h2, h3⟩ := c.at_ k a hk
    obtain ⟨its, rv, p1, hz⟩ := I1.list (.of h2)
    refine wpAny_pyIter_list p1.isList ?_
    exact ⟨s1.heap.objs.size, [s1.heap.objs.size], _, _, H1, rfl, I1.kept (t' := s1.toks) fun b o e => Heap.get?_push_of_some _ e, zaB a _, ⟨_, Heap.get?_push_size _ rfl, rfl, rfl⟩, new, post.here p c (.own hk)⟩
  | _ => exact False.elim p
def zgZ (lo hi : Int) : Src := .val ((List.range (hi - lo).toNat).map fun i => .int (lo + (i : Nat)))
def z5S (t : DA) : DI := fun σ O => (t σ O).bnd fun xs O1 => match xs with
  | [.int j] => if -1000000 <= j /\ j <= 1000000 then .ok (zgZ 0 j) O1 else .bad
  | _ => .bad
theorem PI.imp {iter : Expr} {t t' : TI} (h : PI X tg iter t) (f : ∀ σ H Q, t' σ H Q -> t σ H Q) : PI X tg iter t' := fun pins s σ H Q I q => h pins s σ H Q I (f σ H Q q)
theorem z7Q {K : PySem.W.Frag} {H : Hp} {hid μ : List Addr} {d : D} {vs : List V} (h : Dats K H hid μ [d] vs) : ∃ v, vs = [v] /\ Dat K H hid μ d v := by
  unfold Dats at h
  obtain ⟨v, r, rfl, h1, h2⟩ := h
  unfold Dats at h2
  subst h2
  exact ⟨v, rfl, h1⟩
theorem zd3 {K : PySem.W.Frag} {H : Hp} {hid μ : List Addr} {d e : D} {vs : List V} (h : Dats K H hid μ [d, e] vs) : ∃ v w, vs = [v, w] /\ Dat K H hid μ d v /\ Dat K H hid μ e w := by
  unfold Dats at h
  obtain ⟨v, r, rfl, h1, h2⟩ := h
  obtain ⟨w, rfl, h3⟩ := z7Q h2
  exact ⟨v, w, rfl, h1, h3⟩
theorem z5i {t : DA} {p pos : Pos} (hg : Gl X "range") (hm : X.mg "range" = none) (ha : PDA X Ex [a] t) (hs : starEach [a] X.env = [(false, eval a X.env)] := by rfl) : PDI X Ex tg (.Call (.Name "range" p) [a] [] pos) (z5S t) :=
  PDI.mk <| PI.imp (zef hg hm ha.out hs) fun σv H Q ⟨hid, μ, σ, O, e1, c1, q⟩ => rdA.go e1 c1 q fun d O1 vs H1 μ1 e2 x c r p => by
    split at p
    · rename_i j
      obtain ⟨⟨h1, h2⟩, p⟩ := post.ite p
      obtain ⟨v, rfl, hv⟩ := z7Q r
      unfold Dat at hv; subst hv
      refine ⟨j, rfl, by omega, by omega, ?_⟩
      have := post.here p c (SrcAt.rng (lo := 0) (n := (j - 0).toNat))
      simpa using this
    · exact False.elim p
end
inductive RS where
  | nx (σ : Sg) (O : Ow)
  | rt (d : D) (O : Ow)
  | bk (σ : Sg) (O : Ow)
  | ct (σ : Sg) (O : Ow)
  | exc (c : Nat) (O : Ow)
  | bad
  deriving Repr, Inhabited
abbrev DS := Sg -> Ow -> RS
def R.bnS {α : Type} (r : R α) (k : α -> Ow -> RS) : RS := match r with
  | .ok a O => k a O
  | .exc c O => .exc c O
  | .bad => .bad
section
variable (Ex : Nat -> Hp -> Prop) (K : PySem.W.Frag)
def postS (H : Hp) (hid μ : List Addr) (r : RS) (E : zds) : Prop := match r with
  | .nx σ O => ∀ σv H' μ', Ext H μ H' μ' -> EnvOk K H' hid μ' σ σv -> Cells K H' hid μ' O -> E.nx σv H'
  | .rt d O => ∀ v H' μ', Ext H μ H' μ' -> Cells K H' hid μ' O -> Dat K H' hid μ' d v -> E.rt v H'
  | .bk σ O => ∀ σv H' μ', Ext H μ H' μ' -> EnvOk K H' hid μ' σ σv -> Cells K H' hid μ' O -> E.bk σv H'
  | .ct σ O => ∀ σv H' μ', Ext H μ H' μ' -> EnvOk K H' hid μ' σ σv -> Cells K H' hid μ' O -> E.ct σv H'
  | .exc c O => ∀ H' μ', Ext H μ H' μ' -> Cells K H' hid μ' O -> Ex c H'
  | .bad => False
def rds (t : DS) : TS := fun E σv H => ∃ hid μ σ O, EnvOk K H hid μ σ σv /\ Cells K H hid μ O /\ postS Ex K H hid μ (t σ O) E
end
structure PDS (X : Cx) (Ex : Nat -> Hp -> Prop) (st : Stmt) (t : DS) : Prop where
  out : PS X st (rds Ex X.K t)
structure zcK (X : Cx) (Ex : Nat -> Hp -> Prop) (st : List Stmt) (t : DS) : Prop where
  out : PSs X st (rds Ex X.K t)
theorem PS.imp {X : Cx} {st : Stmt} {t t' : TS} (h : PS X st t) (f : ∀ E σ H, t' E σ H -> t E σ H) : PS X st t' := fun pins s σ H D I q => h pins s σ H D I (f D σ H q)
theorem PSs.imp {X : Cx} {st : List Stmt} {t t' : TS} (h : PSs X st t) (f : ∀ E σ H, t' E σ H -> t E σ H) : PSs X st t' := fun pins s σ H D I q => h pins s σ H D I (f D σ H q)
section
variable {Ex : Nat -> Hp -> Prop} {K : PySem.W.Frag} {H H1 : Hp} {hid μ μ1 : List Addr}
theorem postS.ext {r : RS} {E : zds} (h : postS Ex K H hid μ r E) (e : Ext H μ H1 μ1) : postS Ex K H1 hid μ1 r E := by
  cases r with
  | nx σ O => exact fun σv H' μ' e' a b => h σv H' μ' (e.trans e') a b
  | bk σ O => exact fun σv H' μ' e' a b => h σv H' μ' (e.trans e') a b
  | ct σ O => exact fun σv H' μ' e' a b => h σv H' μ' (e.trans e') a b
  | rt d O => exact fun v H' μ' e' a b => h v H' μ' (e.trans e') a b
  | exc c O => exact fun H' μ' e' a => h H' μ' (e.trans e') a
  | bad => exact h
theorem postS.bnS {α β : Type} {rel : Hp -> List Addr -> α -> β -> Prop} {r : R α} {k : α -> Ow -> RS} {E : zds} {Q1 : β -> Hp -> Prop} (h : postS Ex K H hid μ (r.bnS k) E)
    (hk : ∀ d O1 v H1 μ1, Ext H μ H1 μ1 -> Cells K H1 hid μ1 O1 -> rel H1 μ1 d v -> postS Ex K H1 hid μ1 (k d O1) E -> Q1 v H1) : post Ex K rel H hid μ r Q1 := by
  cases r with
  | ok d O' => exact fun v H' μ' e c q => hk d O' v H' μ' e c q (postS.ext (show postS Ex K H hid μ (k d O') E from h) e)
  | exc c O' => exact h
  | bad => exact h
end
section
variable {X : Cx} {Ex : Nat -> Hp -> Prop} {pos : Pos} {a b c e tg : Expr} {ta tb tc te : DE} {tA : DT}
theorem z8O {st : Stmt} {t : TS} {t' : DS} (h : PS X st t) (f : ∀ hid μ σ O E σv H, EnvOk X.K H hid μ σ σv -> Cells X.K H hid μ O -> postS Ex X.K H hid μ (t' σ O) E -> t E σv H) : PDS X Ex st t' :=
  ⟨PS.imp h fun E σv H ⟨hid, μ, σ, O, e1, c1, q⟩ => f hid μ σ O E σv H e1 c1 q⟩
theorem zca {st : List Stmt} {t : TS} {t' : DS} (h : PSs X st t) (f : ∀ hid μ σ O E σv H, EnvOk X.K H hid μ σ σv -> Cells X.K H hid μ O -> postS Ex X.K H hid μ (t' σ O) E -> t E σv H) : zcK X Ex st t' :=
  ⟨PSs.imp h fun E σv H ⟨hid, μ, σ, O, e1, c1, q⟩ => f hid μ σ O E σv H e1 c1 q⟩
theorem rd.goS {t : DE} {hid μ : List Addr} {σ : Sg} {O : Ow} {σv : St} {H : Hp} {Q1 : VK} {k : D -> Ow -> RS} {E : zds} (e1 : EnvOk X.K H hid μ σ σv) (c1 : Cells X.K H hid μ O)
    (q : postS Ex X.K H hid μ ((t σ O).bnS k) E)
    (f : ∀ d O1 v H1 μ1, EnvOk X.K H1 hid μ1 σ σv -> Ext H μ H1 μ1 -> Cells X.K H1 hid μ1 O1 -> Dat X.K H1 hid μ1 d v -> postS Ex X.K H1 hid μ1 (k d O1) E -> Q1 v H1) : rd Ex X.K t σv H Q1 :=
  ⟨hid, μ, σ, O, e1, c1, postS.bnS q fun d O1 v H1 μ1 x c r p => f d O1 v H1 μ1 (e1.ext x) x c r p⟩
theorem rdT.goS {t : DT} {hid μ : List Addr} {σ : Sg} {O : Ow} {σv : St} {H : Hp} {Q1 : Bool -> Hp -> Prop} {k : Bool -> Ow -> RS} {E : zds} (e1 : EnvOk X.K H hid μ σ σv) (c1 : Cells X.K H hid μ O)
    (q : postS Ex X.K H hid μ ((t σ O).bnS k) E)
    (f : ∀ v O1 H1 μ1, EnvOk X.K H1 hid μ1 σ σv -> Ext H μ H1 μ1 -> Cells X.K H1 hid μ1 O1 -> postS Ex X.K H1 hid μ1 (k v O1) E -> Q1 v H1) : rdT Ex X.K t σv H Q1 :=
  ⟨hid, μ, σ, O, e1, c1, postS.bnS q fun d O1 v H1 μ1 x c r p => by
    have r : d = v := r
    subst r
    exact f d O1 H1 μ1 (e1.ext x) x c p⟩
def z5z : DS := fun σ O => .nx σ O
def z4W (t u : DS) : DS := fun σ O => match t σ O with
  | .nx σ' O' => u σ' O'
  | r => r
theorem z53 : zcK X Ex [] z5z := zca zee fun hid μ σ O E σv H e1 c1 q => q σv H μ .refl e1 c1
theorem z4F {st : Stmt} {z6F : List Stmt} {t u : DS} (h1 : PDS X Ex st t) (h2 : zcK X Ex z6F u) : zcK X Ex (st :: z6F) (z4W t u) :=
  zca (zcq h1.out h2.out) fun hid μ σ O E σv H e1 c1 q => by
    refine ⟨hid, μ, σ, O, e1, c1, ?_⟩
    unfold z4W at q
    cases ht : t σ O with
    | nx σ' O' =>
      rw [ht] at q
      exact fun σv' H' μ' e2 a b => ⟨hid, μ', σ', O', a, b, q.ext e2⟩
    | rt d O' => rw [ht] at q; exact q
    | bk σ' O' => rw [ht] at q; exact q
    | ct σ' O' => rw [ht] at q; exact q
    | exc c O' => rw [ht] at q; exact q
    | bad => rw [ht] at q; exact q
theorem z4H {st : Stmt} {t : DS} (h1 : PDS X Ex st t) : zcK X Ex [st] t := ⟨zhA h1.out⟩
def z5c (t : DE) : DS := fun σ O => (t σ O).bnS fun d O1 => .rt d O1
theorem z4T (he : PD X Ex e te) : PDS X Ex (.Return (some e) pos) (z5c te) :=
  z8O (zjH he.out) fun hid μ σ O E σv H e1 c1 q => rd.goS e1 c1 q fun d O1 v H1 μ1 e2 x c r p => p v H1 μ1 .refl c r
def sIf (c : DT) (t u : DS) : DS := fun σ O => (c σ O).bnS fun b O1 => if b = true then t σ O1 else u σ O1
theorem z5B {c : Expr} {x y : List Stmt} {tc : DT} {t u : DS} (hc : PDT X Ex c tc) (ha : zcK X Ex x t) (hb : zcK X Ex y u) : PDS X Ex (.If c x y pos) (sIf tc t u) :=
  z8O (zkS hc.out ha.out hb.out) fun hid μ σ O E σv H e1 c1 q => rdT.goS e1 c1 q fun k O1 H1 μ1 e2 x c p => by
    cases k with
    | true => rw [if_pos rfl]; exact ⟨hid, μ1, σ, O1, e2, c, p⟩
    | false => rw [if_neg Bool.false_ne_true]; exact ⟨hid, μ1, σ, O1, e2, c, p⟩
def zlb : DS := fun _ _ => .bad
theorem zfI {st : List Stmt} : zcK X Ex st zlb := zca zdM fun hid μ σ O E σv H e1 c1 q => q
def z5K (t : DE) : DS := fun σ O => (t σ O).bnS fun _ O1 => .nx σ O1
theorem z6r (he : PD X Ex e te) (hs : swapsWith e none pos.line X.env = pure false := by rfl) : PDS X Ex (.Expr e pos) (z5K te) :=
  z8O (zhe he.out hs) fun hid μ σ O E σv H e1 c1 q => rd.goS e1 c1 q fun d O1 v H1 μ1 e2 x c r p => p σv H1 μ1 .refl e2 c
def z5n (i : Nat) (t : DE) : DS := fun σ O => (t σ O).bnS fun d O1 => .nx (σ.set i (some d)) O1
theorem z5d {i : Nat} {x : Str} {pos' : Pos} (hN : X.N.Nodup) (hi : X.N[i]? = some x) (hx : Loc X.env.scope x) (he : PD X Ex e te) (hs : swapsWith e (some (.Name x pos')) pos.line X.env = pure false := by rfl)
    (hf : X.fn x = true \/ X.env.scope.names.lookup x = some .local := by first | exact .inl rfl | exact .inr rfl) : PDS X Ex (.Assign [.Name x pos'] e pos) (z5n i te) :=
  z8O (zgy hN hi hx he.out hs hf) fun hid μ σ O E σv H e1 c1 q => rd.goS e1 c1 q fun d O1 v H1 μ1 e2 x c r p => p (σv.set i (some v)) H1 μ1 .refl (e2.set r i) c
inductive Tg where
  | one (i : Nat)
  | two (i j : Nat)
def Tg.put : Tg -> D -> Sg -> Option Sg
  | .one i, d, σ => some (σ.set i (some d))
  | .two i j, d, σ => match d with
    | .tup [x, y] => some ((σ.set i (some x)).set j (some y))
    | _ => none
def Tg.rd (K : PySem.W.Frag) : Tg -> TG
  | .one i => z8U i
  | .two i j => zk5 K 2 (z9Y (z8U i) (z9Y (z8U j) zk1))
def Tg.slots : Tg -> List Nat
  | .one i => [i]
  | .two i j => [i, j]
theorem Tg.ok2 {K : PySem.W.Frag} {H : Hp} {hid μ : List Addr} {σ σ' : Sg} {σv : St} {d : D} {v : V} {Q : St -> Hp -> Prop} (g : Tg) (e1 : EnvOk K H hid μ σ σv) (q : Dat K H hid μ d v) (h : g.put d σ = some σ')
    (k : ∀ σv', EnvOk K H hid μ σ' σv' -> (∀ i, i ∉ g.slots -> σv'[i]? = σv[i]?) -> Q σv' H) : g.rd K v σv H Q := by
  cases g with
  | one i =>
    cases h
    exact k _ (e1.set q i) fun j hj => List.getElem?_set_ne (fun e => hj (by simp [Tg.slots, e]))
  | two i j =>
    unfold Tg.put at h
    dsimp only at h
    split at h
    · rename_i x y
      cases h
      unfold Dat at q
      obtain ⟨a, vs, rfl, l, q⟩ := q
      obtain ⟨u, w, rfl, q1, q2⟩ := zd3 q
      refine ⟨a, [u, w], rfl, l.sq, rfl, u, [w], rfl, w, [], rfl, rfl, k _ ((e1.set q1 i).set q2 j) fun m hm => ?_⟩
      rw [List.getElem?_set_ne (fun e => hm (by simp [Tg.slots, e])), List.getElem?_set_ne (fun e => hm (by simp [Tg.slots, e]))]
    · cases h
theorem Tg.ok {K : PySem.W.Frag} {H : Hp} {hid μ : List Addr} {σ σ' : Sg} {σv : St} {d : D} {v : V} {Q : St -> Hp -> Prop} (g : Tg) (e1 : EnvOk K H hid μ σ σv) (q : Dat K H hid μ d v) (h : g.put d σ = some σ') (k : ∀ σv', EnvOk K H hid μ σ' σv' -> Q σv' H) : g.rd K v σv H Q := by
  cases g with
  | one i => cases h; exact k _ (e1.set q i)
  | two i j =>
    unfold Tg.put at h
    dsimp only at h
    split at h
    · rename_i x y
      cases h
      unfold Dat at q
      obtain ⟨a, vs, rfl, l, q⟩ := q
      obtain ⟨u, w, rfl, q1, q2⟩ := zd3 q
      exact ⟨a, [u, w], rfl, l.sq, rfl, u, [w], rfl, w, [], rfl, rfl, k _ ((e1.set q1 i).set q2 j)⟩
    · cases h
theorem z65 {i : Nat} {x : Str} (hN : X.N.Nodup) (hi : X.N[i]? = some x) (hx : Loc X.env.scope x) (hf : X.fn x = true \/ X.env.scope.names.lookup x = some .local := by first | exact .inl rfl | exact .inr rfl | assumption) : PG X (.Name x pos) ((Tg.one i).rd X.K) := z7o hN hi hx hf
def z7B (src : Src) (step : D -> Sg -> Ow -> RS) : Nat -> Nat -> Sg -> Ow -> RS
  | 0, i, σ, O => match src.get O i with
    | none => .nx σ O
    | some _ => .bad
  | f + 1, i, σ, O => match src.get O i with
    | none => .nx σ O
    | some d => match step d σ O with
      | .nx σ' O' => z7B src step f (i + 1) σ' O'
      | .ct σ' O' => z7B src step f (i + 1) σ' O'
      | .bk σ' O' => .nx σ' O'
      | r => r
def zdr (it : DI) (g : Tg) (body : DS) : DS := fun σ O => (it σ O).bnS fun src O1 => z7B src (fun d σ O => match g.put d σ with | some σ' => body σ' O | none => .bad) (src.size O1) 0 σ O1
theorem z84 {iter : Expr} {body : List Stmt} {it : DI} {g : Tg} {tb : DS} (hp : PassesOwn (model X.prog X.w) X.A X.env X.xe) (hc : X.calm = true) (hi : PDI X Ex tg iter it) (hg : PG X tg (g.rd X.K)) (hb : zcK X Ex body tb)
    (hs : ∀ x, foldedSetIterable iter X.env x = pure x := by intro _; rfl) : PDS X Ex (.For tg iter body [] pos) (zdr it g tb) :=
  z8O (zj9 hp hc hi.out hg hb.out hs) fun hid μ σ O E σv H e1 c1 q => by
    refine ⟨hid, μ, σ, O, e1, c1, postS.bnS q fun src O1 J H1 μ1 x1 c2 sa p => ?_⟩
    generalize hst : (fun (d : D) (σ : Sg) (O : Ow) => match g.put d σ with | some σ' => tb σ' O | none => RS.bad) = step at p
    refine ⟨fun i m σv' H' => ∃ μ' σ' O', Ext H1 μ1 H' μ' /\ EnvOk X.K H' hid μ' σ' σv' /\ Cells X.K H' hid μ' O' /\ postS Ex X.K H' hid μ' (z7B src step m i σ' O') E, ⟨_, μ1, σ, O1, .refl, e1.ext x1, c2, p⟩, ?_⟩
    rintro i m σv2 H2 ⟨μ2, σ2, O2, x2, e2, c3, p2⟩
    have sa2 := sa hid H2 μ2 O2 x2.mv c3 i
    cases hget : src.get O2 i with
    | none =>
      rw [hget] at sa2
      refine .inl ⟨sa2, ?_⟩
      cases m with
      | zero =>
        have p3 : postS Ex X.K H2 hid μ2 (match src.get O2 i with | none => .nx σ2 O2 | some _ => .bad) E := p2
        rw [hget] at p3
        exact p3 σv2 H2 μ2 .refl e2 c3
      | succ f =>
        unfold z7B at p2
        rw [hget] at p2
        exact p2 σv2 H2 μ2 .refl e2 c3
    | some d =>
      rw [hget] at sa2
      obtain ⟨go, yl⟩ := sa2
      cases m with
      | zero =>
        have p3 : postS Ex X.K H2 hid μ2 (match src.get O2 i with | none => .nx σ2 O2 | some _ => .bad) E := p2
        rw [hget] at p3
        exact False.elim p3
      | succ f =>
        refine .inr ⟨go, fun σv' H' => ∃ μ' σ' O', Ext H1 μ1 H' μ' /\ EnvOk X.K H' hid μ' σ' σv' /\ Cells X.K H' hid μ' O' /\ postS Ex X.K H' hid μ' (z7B src step f (i + 1) σ' O') E, fun σ' H' h => ⟨f, Nat.lt_succ_self f, h⟩, fun v H3 y => ?_⟩
        obtain ⟨x3, c4, r⟩ := yl v H3 y
        unfold z7B at p2
        rw [hget] at p2
        have p3 : postS Ex X.K H3 hid μ2 (match step d σ2 O2 with
          | .nx σ' O' => z7B src step f (i + 1) σ' O'
          | .ct σ' O' => z7B src step f (i + 1) σ' O'
          | .bk σ' O' => .nx σ' O'
          | r => r) E := postS.ext p2 x3
        cases hput : g.put d σ2 with
        | none =>
          rw [<- hst] at p3
          simp only [hput] at p3
          exact False.elim p3
        | some σ3 =>
          refine Tg.ok g (e2.ext x3) r hput fun σv3 e3 => ⟨hid, μ2, σ3, O2, e3, c4, ?_⟩
          have hs1 : step d σ2 O2 = tb σ3 O2 := by rw [<- hst]; simp only [hput]
          rw [hs1] at p3
          have x4 := x2.trans x3
          cases ht : tb σ3 O2 with
          | nx σ4 O4 => rw [ht] at p3; exact fun σv' H' μ' e5 a b => ⟨μ', σ4, O4, x4.trans e5, a, b, p3.ext e5⟩
          | ct σ4 O4 => rw [ht] at p3; exact fun σv' H' μ' e5 a b => ⟨μ', σ4, O4, x4.trans e5, a, b, p3.ext e5⟩
          | bk σ4 O4 => rw [ht] at p3; exact p3
          | rt d4 O4 => rw [ht] at p3; exact p3
          | exc c4 O4 => rw [ht] at p3; exact p3
          | bad => rw [ht] at p3; exact p3
end
end DL
namespace DL
open PySem L2
structure Cl where
  it : DI
  g : Tg
  ifs : List DT
def z52 : List Cl -> List Nat
  | [] => []
  | c :: cs => c.g.slots ++ z52 cs
def clr {α : Type} (σ : List (Option α)) : List Nat -> List (Option α)
  | [] => σ
  | i :: r => clr (σ.set i none) r
def zbg : List DT -> DT
  | [] => fun _ O => .ok true O
  | c :: cs => fun σ O => (c σ O).bnd fun b O1 => if b = true then zbg cs σ O1 else .ok false O1
def z5C (src : Src) (step : D -> Ow -> List D -> R (List D)) : Nat -> Nat -> Ow -> List D -> R (List D)
  | 0, i, O, acc => match src.get O i with
    | none => .ok acc O
    | some _ => .bad
  | f + 1, i, O, acc => match src.get O i with
    | none => .ok acc O
    | some d => (step d O acc).bnd fun acc' O' => z5C src step f (i + 1) O' acc'
def z6D : List Cl -> DE -> Sg -> Ow -> List D -> R (List D)
  | [], elt, σ, O, acc => (elt σ O).bnd fun v O1 => if acc.length < 100000 then .ok (acc ++ [v]) O1 else .bad
  | c :: cs, elt, σ, O, acc => (c.it σ O).bnd fun src O1 => z5C src (fun d O2 acc => match c.g.put d (clr σ (z52 (c :: cs))) with
      | some σ1 => (zbg c.ifs σ1 O2).bnd fun b O3 => if b = true then z6D cs elt σ1 O3 acc else .ok acc O3
      | none => .bad) (src.size O1) 0 O1 acc
def z6I (c : Cl) (cs : List Cl) (elt : DE) (σ : Sg) : D -> Ow -> List D -> R (List D) := fun d O2 acc => match c.g.put d (clr σ (z52 (c :: cs))) with
      | some σ1 => (zbg c.ifs σ1 O2).bnd fun b O3 => if b = true then z6D cs elt σ1 O3 acc else .ok acc O3
      | none => .bad
theorem z8W {α : Type} : ∀ (l : List Nat) (σ : List (Option α)), (clr σ l).length = σ.length
  | [], _ => rfl
  | i :: r, σ => by unfold clr; rw [z8W r]; simp
theorem zdF {α : Type} : ∀ (l : List Nat) (σ : List (Option α)) (i : Nat), i ∉ l -> (clr σ l)[i]? = σ[i]?
  | [], σ, i, h => rfl
  | j :: r, σ, i, h => by
    unfold clr
    rw [zdF r _ i fun z => h (List.mem_cons_of_mem _ z), List.getElem?_set_ne fun z => h (by simp [z])]
theorem za3 {α : Type} : ∀ (l : List Nat) (σ : List (Option α)) (i : Nat) (d : α), (clr σ l)[i]? = some (some d) -> σ[i]? = some (some d) /\ i ∉ l
  | [], σ, i, d, h => ⟨h, by simp⟩
  | j :: r, σ, i, d, h => by
    unfold clr at h
    obtain ⟨h1, h2⟩ := za3 r _ i d h
    by_cases e : j = i
    · subst e
      by_cases hl : j < σ.length
      · rw [List.getElem?_set_self hl] at h1; cases h1
      · rw [List.getElem?_eq_none_iff.mpr (by simp; omega)] at h1; cases h1
    · rw [List.getElem?_set_ne e] at h1
      exact ⟨h1, by simp [h2]; exact fun z => e z.symm⟩
structure Ea (A : Addr) (H : Hp) (μ : List Addr) (H' : Hp) (μ' : List Addr) : Prop where
  pre : ∃ ν, μ' = μ ++ ν
  kept : ∀ b o, H b = some o -> b ∉ μ -> b ≠ A -> zda o -> H' b = some o
  fresh : ∀ b ∈ μ', b ∈ μ \/ H b = none
  there : ∀ b, H b ≠ none -> H' b ≠ none
  tab : ∀ P, Tidy H P -> Tidy H' P
section
variable {K : PySem.W.Frag} {A : Addr} {H H' H1 H2 : Hp} {hid μ μ' μ1 μ2 : List Addr}
theorem Ext.ea (e : Ext H μ H' μ') : Ea A H μ H' μ' := ⟨e.pre, fun b o h n _ ht => e.kept b o h n ht, e.fresh, e.there, e.tab⟩
theorem Ea.refl : Ea A H μ H μ := Ext.refl.ea
theorem Ea.trans (a : Ea A H μ H1 μ1) (b : Ea A H1 μ1 H2 μ2) : Ea A H μ H2 μ2 := by
  have nn : ∀ c, H1 c = none -> H c = none := fun c h => by
    cases e : H c with
    | none => rfl
    | some o => exact absurd h (a.there c (by rw [e]; simp))
  refine ⟨?_, fun c o h n1 n2 ht => ?_, fun c h => ?_, fun c h => b.there c (a.there c h), fun P t => b.tab P (a.tab P t)⟩
  · obtain ⟨x, rfl⟩ := a.pre
    obtain ⟨y, rfl⟩ := b.pre
    exact ⟨x ++ y, by simp⟩
  · refine b.kept c o (a.kept c o h n1 n2 ht) (fun m => ?_) n2 ht
    rcases a.fresh c m with z | z
    · exact n1 z
    · rw [z] at h; cases h
  · rcases b.fresh c h with z | z
    · exact a.fresh c z
    · exact .inr (nn c z)
theorem Ea.mv (e : Ea A H μ H' μ') : Mv H (A :: hid) μ H' (A :: hid) μ' := ⟨e.pre, fun b o h n1 n2 ht => e.kept b o h n1 (fun z => n2 (by simp [z])) ht, e.fresh, fun _ m => .inl m, e.there, e.tab⟩
theorem Ea.put {o : HO} (hl : ∃ vs, H A = some (.lst vs)) : Ea A H μ (upd H A o) μ := ⟨⟨[], by simp⟩, fun b u h _ n _ => by rw [z4O n]; exact h, fun _ m => .inl m, z5J, fun _ t => t.upd (.inr hl)⟩
theorem Cells.putA {o : HO} {O : Ow} (c : Cells K H (A :: hid) μ O) (hl : ∃ vs, H A = some (.lst vs)) : Cells K (upd H A o) (A :: hid) μ O := by
  refine ⟨c.len, c.nd, c.nh, fun a m => z5J a (c.ht a m), fun k a e => ?_⟩
  obtain ⟨ds, vs, h1, h2, h3⟩ := c.at_ k a e
  have ne : a ≠ A := fun z => c.nh a (List.mem_of_getElem? e) (by simp [z])
  exact ⟨ds, vs, h1, by rw [z4O ne]; exact h2, h3.mv (Ea.put (A := A) hl).mv⟩
theorem Cells.unhide (c : Cells K H (A :: hid) μ O) : Cells K H hid μ O :=
  ⟨c.len, c.nd, fun a m z => c.nh a m (List.mem_cons_of_mem _ z), fun a m => c.ht a (List.mem_cons_of_mem _ m), fun k a e =>
    let ⟨ds, vs, h1, h2, h3⟩ := c.at_ k a e
    ⟨ds, vs, h1, h2, h3.mv .unhide⟩⟩
end
abbrev Ex0 : Nat -> Hp -> Prop := fun _ _ => False
inductive zb9 (X : Cx) : List Comprehension -> List Cl -> Prop where
  | nil : zb9 X [] []
  | cons {tg iter : Expr} {ifs : List Expr} {gs : List Comprehension} {c : Cl} {cs : List Cl} (hi : PDI X Ex0 tg iter c.it) (hs : ∀ x, foldedSetIterable iter X.env x = pure x) (hg : PG X tg (c.g.rd X.K))
      (hf : PySem.Paired (fun e t => PDT X Ex0 e t) ifs c.ifs) (r : zb9 X gs cs) : zb9 X (⟨tg, iter, ifs, 0⟩ :: gs) (c :: cs)
section
variable {X : Cx}
theorem z6t {α : Type} {M : Model} {A : Around} {t : Sem α} {Q Q' : α -> Shared -> Prop} {E : Value -> Shared -> Prop} {s : Shared} (hx : X.xe = fun _ _ => False) (h : wpAny M A t Q X.xe s) (k : ∀ a s', Q a s' -> Q' a s') : wpAny M A t Q' E s :=
  wpAny_mono h k fun e s' z => by rw [hx] at z; exact z.elim
theorem z8G {env : Env} {M : Model} {A : Around} {E : Value -> Shared -> Prop} {s : Shared} {Q : Bool -> Shared -> Prop} (h : Q false s) : ∀ (ifs : List Expr), wpAny M A (forIn ifs false fun c r => if r = true then do let ok <- isTrue c env (eval c env); pure (ForInStep.yield ok) else pure (ForInStep.yield r)) Q E s
  | [] => wpAny_pure h
  | c :: cs => by
    simp only [List.forIn_cons, Bool.false_eq_true, if_false]
    exact wpAny_bind (wpAny_pure (z8G h cs))
theorem zcI {E : Value -> Shared -> Prop} {hid : List Addr} (hx : X.xe = fun _ _ => False) : ∀ {ifs : List Expr} {ts : List DT}, PySem.Paired (fun e t => PDT X Ex0 e t) ifs ts -> ∀ (pins : List (Addr × Obj)) (s : Shared) (σv : St) (H : Hp) (μ : List Addr) (σ : Sg) (O : Ow) (Q : Bool -> Shared -> Prop),
    L2.Inv X pins σv H s -> EnvOk X.K H hid μ σ σv -> Cells X.K H hid μ O ->
    z8s Ex0 X.K H hid μ (zbg ts σ O) (fun b H' => ∀ s', L2.Inv X pins σv H' s' -> Q b s') ->
    wpAny (model X.prog X.w) X.A (forIn ifs true fun c r => if r = true then do let ok <- isTrue c X.env (eval c X.env); pure (ForInStep.yield ok) else pure (ForInStep.yield r)) Q E s
  | _, _, .nil, pins, s, σv, H, μ, σ, O, Q, I, e1, c1, q => wpAny_pure (post.here (v := true) q c1 rfl s I)
  | _ :: ifs, _ :: ts, .cons hc hr, pins, s, σv, H, μ, σ, O, Q, I, e1, c1, q => by
    simp only [List.forIn_cons, if_true]
    refine wpAny_bind (wpAny_bind (z6t hx (hc.out pins s σv H _ I (rdT.go e1 c1 q (Q1 := fun b H1 => ∃ μ1 O1, EnvOk X.K H1 hid μ1 σ σv /\ Cells X.K H1 hid μ1 O1 /\ z8s Ex0 X.K H1 hid μ1 (if b = true then zbg ts σ O1 else .ok false O1) (fun b H' => ∀ s', L2.Inv X pins σv H' s' -> Q b s'))
      fun b O1 H1 μ1 e2 x c p => ⟨μ1, O1, e2, c, p⟩)) fun b s1 ⟨H1, I1, μ1, O1, e2, c2, p⟩ => wpAny_pure ?_))
    show wpAny _ _ (forIn ifs b _) _ _ _
    cases b with
    | true => rw [if_pos rfl] at p; exact zcI hx hr pins s1 σv H1 μ1 σ O1 Q I1 e2 c2 p
    | false => rw [if_neg Bool.false_ne_true] at p; exact z8G (post.here (v := false) p c2 rfl s1 I1) ifs
structure Bs (X : Cx) (A : Addr) (hid : List Addr) (pins : List (Addr × Obj)) (s : Shared) (σv : St) (H : Hp) (μ : List Addr) (σ : Sg) (O : Ow) (acc : List D) : Prop where
  inv : L2.Inv X pins σv H s
  env : EnvOk X.K H (A :: hid) μ σ σv
  cells : Cells X.K H (A :: hid) μ O
  grown : ∃ vs, H A = some (.lst vs) /\ Dats X.K H (A :: hid) μ acc vs
def zjj (X : Cx) (A : Addr) (hid : List Addr) (pins : List (Addr × Obj)) (σv : St) (H : Hp) (μ : List Addr) (sl : List Nat) (acc : List D) (O : Ow) (Q : Shared -> Prop) : Prop :=
  ∀ s' σv' H' μ', L2.Inv X pins σv' H' s' -> Ea A H μ H' μ' -> Cells X.K H' (A :: hid) μ' O -> (∃ vs, H' A = some (.lst vs) /\ Dats X.K H' (A :: hid) μ' acc vs) -> σv'.length = σv.length -> (∀ i, i ∉ sl -> σv'[i]? = σv[i]?) -> Q s'
def z8f (X : Cx) (A : Addr) (hid : List Addr) (pins : List (Addr × Obj)) (σv : St) (H : Hp) (μ : List Addr) (sl : List Nat) (r : R (List D)) (Q : Shared -> Prop) : Prop := match r with
  | .ok acc O => zjj X A hid pins σv H μ sl acc O Q
  | _ => False
def zfy (elt : Expr) (acc : Value) (env : Env) : Sem Unit := do let _ <- call (.builtin "list.append") [acc, <- eval elt env]
def zdY (e : Expr) (elt : Expr) (gens : List Comprehension) (k : Nat) (acc : Value) (env : Env) : Sem Unit := match gens[k]? with
  | some g' => do
    let x <- eval g'.iter env
    standAt g'.iter.pos
    let x <- if g'.is_async != 0 then foldedIterable g'.iter x else foldedSetIterable g'.iter env x
    let _ <- runOwn (.compStart e k (<- holding [x] (if g'.is_async != 0 then asyncIter x else pyIter x)) acc env) env
  | none => zfy elt acc env
theorem zcf (elt : Expr) (gens : List Comprehension) (scope : Scope) (pos : Pos) (k : Nat) (it acc : Value) (env : Env) {tg iter : Expr} {ifs : List Expr} (hk : gens[k]? = some ⟨tg, iter, ifs, 0⟩)
    (hn : gens[k + 1]? = none \/ ∃ tg' iter' ifs', gens[k + 1]? = some ⟨tg', iter', ifs', 0⟩) :
    compTurn (.ListComp elt gens scope pos) k it acc env = (do
      standAt iter.pos
      match <- pyNext it with
      | none => pure (.done .next)
      | some v =>
        letOwnedTupleGo tg it v
        assign tg env v
        let mut ok := true
        for c in ifs do
          if ok then ok <- isTrue c env (eval c env)
        if ok then zdY (.ListComp elt gens scope pos) elt gens (k + 1) acc env
        again (.compLoop (.ListComp elt gens scope pos) k it acc env)) := by
  unfold compTurn zdY zfy
  rcases hn with hn | ⟨tg', iter', ifs', hn⟩
  · simp only [hk, hn]
    rfl
  · simp only [hk, hn, bne_self_eq_false, Bool.false_eq_true, if_false, bind_assoc, pure_bind]
    first | rfl | congr 1
section
variable {A : Addr} {hid : List Addr} {elt : Expr} {gens : List Comprehension} {scope : Scope} {pos : Pos} {te : DE}
def zf9 (X : Cx) (A : Addr) (hid : List Addr) (e elt : Expr) (gens : List Comprehension) (te : DE) (k : Nat) (cls : List Cl) : Prop := ∀ (pins : List (Addr × Obj)) (s : Shared) (σv : St) (H : Hp) (μ : List Addr) (σ : Sg) (O : Ow) (acc : List D) (Q : Shared -> Prop) (E : Value -> Shared -> Prop),
  Bs X A hid pins s σv H μ σ O acc -> z8f X A hid pins σv H μ (z52 cls) (z6D cls te σ O acc) Q -> wpAny (model X.prog X.w) X.A (zdY e elt gens k (.ref A) X.env) (fun _ s' => Q s') E s
theorem zgv {k : Nat} {e : Expr} (hx : X.xe = fun _ _ => False) (he : PD X Ex0 elt te) (hk : gens[k]? = none) : zf9 X A hid e elt gens te k [] := by
  intro pins s σv H μ σ O acc Q E B q
  unfold zdY
  rw [hk]
  show wpAny _ _ (zfy elt (.ref A) X.env) _ _ s
  unfold zfy
  obtain ⟨vs, hA, dA⟩ := B.grown
  cases hte : te σ O with
  | ok d O1 =>
    have q2 : z8f X A hid pins σv H μ (z52 []) (if acc.length < 100000 then .ok (acc ++ [d]) O1 else .bad) Q := by
      have := q
      unfold z6D at this
      rw [hte] at this
      exact this
    by_cases hl : acc.length < 100000
    · rw [if_pos hl] at q2
      refine wpAny_bind (z6t hx (he.out pins s σv H (fun v H1 => ∃ μ1, Ext H μ H1 μ1 /\ Cells X.K H1 (A :: hid) μ1 O1 /\ Dat X.K H1 (A :: hid) μ1 d v) B.inv ⟨A :: hid, μ, σ, O, B.env, B.cells, by rw [hte]; exact fun v H' μ' x c r => ⟨μ', x, c, r⟩⟩)
        fun u s1 ⟨v, H1, I1, ru, μ1, x, c, r⟩ => ?_)
      have nA : A ∉ μ := fun m => B.cells.nh A m (by simp)
      have hA1 : H1 A = some (.lst vs) := x.keep A _ hA nA
      have dA1 := dA.ext x
      refine wpAny_bind (z6t hx (zaK pins s1 σv H1 (.ref A) [v] (.ref A) [u] (fun _ H2 => H2 = upd H1 A (.lst (vs ++ [v]))) I1 rfl (.cons ru .nil)
        ⟨A, vs, v, rfl, rfl, hA1, Nat.lt_of_lt_of_le (by rw [<- dA1.length]; exact hl) (by decide), rfl⟩) fun u2 s2 ⟨v2, H2, I2, r2, e2⟩ => ?_)
      subst e2
      refine wpAny_pure (q2 s2 σv _ μ1 I2 (x.ea.trans (.put ⟨_, hA1⟩)) (c.putA ⟨_, hA1⟩) ⟨_, z54, ?_⟩ rfl fun _ _ => rfl)
      exact (dA1.append (.cons r .nil)).mv (Ea.put ⟨_, hA1⟩).mv
    · rw [if_neg hl] at q2; exact q2.elim
  | exc c O1 =>
    unfold z6D at q; rw [hte] at q; exact q.elim
  | bad =>
    unfold z6D at q; rw [hte] at q; exact q.elim
theorem zf8 {k : Nat} {tg iter : Expr} {ifs : List Expr} {c : Cl} {cs : List Cl} (hx : X.xe = fun _ _ => False) (hcalm : X.calm = true) (hk : gens[k]? = some ⟨tg, iter, ifs, 0⟩) (hg : PG X tg (c.g.rd X.K)) (hf : PySem.Paired (fun e t => PDT X Ex0 e t) ifs c.ifs)
    (hb : zf9 X A hid (.ListComp elt gens scope pos) elt gens te (k + 1) cs) (hn : gens[k + 1]? = none \/ ∃ tg' iter' ifs', gens[k + 1]? = some ⟨tg', iter', ifs', 0⟩) {it : Addr} {fp : List Addr} {tn : Nat -> Heap -> Prop} {J : It} {src : Src} (T : zeg X.prog X.w X.K tg J fp it tn)
    (pins : List (Addr × Obj)) (s : Shared) (σv : St) (H : Hp) (μ : List Addr) (σ : Sg) (O : Ow) (acc : List D) (n : Nat) (Q : Shared -> Prop) (st : tn 0 s.heap) (hfp : ∀ b ∈ fp, zbz X pins H b) (sa : SrcAt X.K J src H (A :: hid) μ)
    (B : Bs X A hid pins s σv H μ σ O acc) (q : z8f X A hid pins σv H μ (z52 (c :: cs)) (z5C src (z6I c cs te σ) n 0 O acc) Q) :
    codeAny (model X.prog X.w) X.A (.compLoop (.ListComp elt gens scope pos) k (.ref it) (.ref A) X.env) (fun r s' => ∃ f, r = .ok f /\ Q s') s := by
  have stat : ∀ {H' : Hp}, (∀ b ∈ fp, H' b = none) -> ∀ b ∈ fp, zbz X pins H' b := fun hn b hb => ⟨hn b hb, (hfp b hb).2⟩
  let P : Nat -> Shared -> Prop := fun m s' => ∃ i σv' H' μ' O' acc', L2.Inv X pins σv' H' s' /\ tn i s'.heap /\ (∀ b ∈ fp, H' b = none) /\ Ea A H μ H' μ' /\ Cells X.K H' (A :: hid) μ' O' /\ (∃ vs, H' A = some (.lst vs) /\ Dats X.K H' (A :: hid) μ' acc' vs) /\
    σv'.length = σv.length /\ (∀ i, i ∉ z52 (c :: cs) -> σv'[i]? = σv[i]?) /\ z8f X A hid pins σv H μ (z52 (c :: cs)) (z5C src (z6I c cs te σ) m i O' acc') Q
  refine codeAny_loop rfl P (fun m s1 hP => ?_) n ⟨0, σv, H, μ, O, acc, B.inv, st, fun b hb => (hfp b hb).1, .refl, B.cells, B.grown, rfl, fun _ _ => rfl, q⟩
  show wpAny _ X.A ((compTurn (.ListComp elt gens scope pos) k (.ref it) (.ref A) X.env).onRaise (fun x => do noteFrame x X.env; theTreesLotGoes x)) _ _ s1
  refine wpAny_noted ?_
  rw [zcf _ _ _ _ _ _ _ _ hk hn]
  obtain ⟨i, σv1, H1, μ1, O1, acc1, I1, st1, fr1, x1, c1, g1, l1, k1, q1⟩ := hP
  have sa1 := sa (A :: hid) H1 μ1 O1 x1.mv c1 i
  -- the names that stand
  have env1 : EnvOk X.K H1 (A :: hid) μ1 (clr σ (z52 (c :: cs))) σv1 := by
    refine ⟨by rw [z8W, B.env.len, l1], fun j d hj => ?_⟩
    obtain ⟨h1, h2⟩ := za3 _ _ _ _ hj
    obtain ⟨v, h3, h4⟩ := B.env.at_ j d h1
    exact ⟨v, by rw [k1 j h2]; exact h3, h4.mv x1.mv⟩
  cases hget : src.get O1 i with
  | none =>
    rw [hget] at sa1
    have q2 : zjj X A hid pins σv H μ (z52 (c :: cs)) acc1 O1 Q := by
      cases m with
      | zero => unfold z5C at q1; rw [hget] at q1; exact q1
      | succ f => unfold z5C at q1; rw [hget] at q1; exact q1
    refine wpAny_bind (wpAny_standAt (wpAny_bind (thn (T.done X rfl rfl rfl hcalm i pins s1 σv1 H1 _ I1 (stat fr1) st1 sa1) fun r s2 ⟨hr, I2⟩ => ?_)))
    subst hr
    exact wpAny_pure ⟨_, rfl, q2 s2 σv1 H1 μ1 I2 x1 c1 g1 l1 k1⟩
  | some d =>
    rw [hget] at sa1
    obtain ⟨go, yl⟩ := sa1
    cases m with
    | zero =>
      unfold z5C at q1; rw [hget] at q1; exact q1.elim
    | succ f =>
      have q2 : z8f X A hid pins σv H μ (z52 (c :: cs)) ((z6I c cs te σ d O1 acc1).bnd fun acc' O' => z5C src (z6I c cs te σ) f (i + 1) O' acc') Q := by
        have := q1
        unfold z5C at this
        rw [hget] at this
        exact this
      refine wpAny_bind (wpAny_standAt (wpAny_bind (thn (T.item X rfl rfl rfl hcalm i pins s1 σv1 H1 _ I1 (stat fr1) st1 go) fun r s2 ⟨u, hr, h2⟩ => ?_)))
      subst hr
      refine wpAny_bind (thn h2 fun _ s3 ⟨v, H3, I3, r3, y3, st3, fr3⟩ => ?_)
      obtain ⟨x3, c3, d3⟩ := yl v H3 y3
      have I3' := I3.pinned (stat fr3) (T.obj _ _ st3)
      cases hput : c.g.put d (clr σ (z52 (c :: cs))) with
      | none =>
        unfold z6I at q2; rw [hput] at q2; exact q2.elim
      | some σ3 =>
        have hstep : z6I c cs te σ d O1 acc1 = ((zbg c.ifs σ3 O1).bnd fun b O3 => if b = true then z6D cs te σ3 O3 acc1 else .ok acc1 O3) := by
          unfold z6I; rw [hput]
        rw [hstep] at q2
        refine wpAny_bind (z6t hx (hg _ s3 σv1 H3 v u (fun σv4 H4 => H4 = H3 /\ EnvOk X.K H3 (A :: hid) μ1 σ3 σv4 /\ ∀ j, j ∉ c.g.slots -> σv4[j]? = σv1[j]?) I3' r3 (Tg.ok2 c.g (env1.ext x3) d3 hput fun σv4 e4 k4 => ⟨rfl, e4, k4⟩)) fun _ s4 ⟨σv4, H4, I4, e4, env4, k4⟩ => ?_)
        subst e4
        have l4 : σv4.length = σv.length := by rw [I4.len, <- I3.len, l1]
        have k4' : ∀ j, j ∉ z52 (c :: cs) -> σv4[j]? = σv[j]? := fun j hj => by
          rw [k4 j fun z => hj (List.mem_append_left _ z)]; exact k1 j hj
        have nA : A ∉ μ1 := fun m => c1.nh A m (by simp)
        obtain ⟨vs, hA, dA⟩ := g1
        have x13 : Ea A H μ H4 μ1 := x1.trans x3.ea
        have hA3 : H4 A = some (.lst vs) := x3.keep A _ hA nA
        have dA3 := dA.ext x3
        -- behind the step: the next turn
        have again : ∀ {s' : Shared} {σv' : St} {H' : Hp} {μ' : List Addr} {O' : Ow} {acc' : List D}, L2.Inv X (pins ++ zaR fp s3.heap) σv' H' s' -> Ea A H μ H' μ' -> Cells X.K H' (A :: hid) μ' O' -> (∃ vs, H' A = some (.lst vs) /\ Dats X.K H' (A :: hid) μ' acc' vs) -> σv'.length = σv.length ->
            (∀ i, i ∉ z52 (c :: cs) -> σv'[i]? = σv[i]?) -> z8f X A hid pins σv H μ (z52 (c :: cs)) (z5C src (z6I c cs te σ) f (i + 1) O' acc') Q -> ∃ m, m < f + 1 /\ P m s' := by
          intro s' σv' H' μ' O' acc' I' x' c' g' l' k' p'
          refine ⟨f, Nat.lt_succ_self f, i + 1, σv', H', μ', O', acc', I'.unpinned, T.keep _ _ _ st3 fun b hb o e => (I'.pin (b, o) (List.mem_append_right _ (List.mem_append_right _ (z7h hb e)))).1, fun b hb => ?_, x', c', g', l', k', p'⟩
          obtain ⟨o, e, d⟩ := T.obj _ _ st3 b hb
          exact (I'.pin (b, o) (List.mem_append_right _ (List.mem_append_right _ (z7h hb e)))).2.1
        cases hall : zbg c.ifs σ3 O1 with
        | exc c' O' => rw [hall] at q2; exact q2.elim
        | bad => rw [hall] at q2; exact q2.elim
        | ok b O3 =>
          rw [hall] at q2
          have q3 : z8f X A hid pins σv H μ (z52 (c :: cs)) ((if b = true then z6D cs te σ3 O3 acc1 else .ok acc1 O3).bnd fun acc' O' => z5C src (z6I c cs te σ) f (i + 1) O' acc') Q := q2
          refine wpAny_bind (zcI (hid := A :: hid) hx hf _ s4 σv4 H4 μ1 σ3 O1 _ I4 env4 c3 ?_)
          rw [hall]
          intro b' H5 μ5 x5 c5 eb s5 I5
          have eb : b = b' := eb
          subst eb
          have hA5 : H5 A = some (.lst vs) := x5.keep A _ hA3 nA
          have x15 : Ea A H μ H5 μ5 := x13.trans x5.ea
          cases b with
          | false =>
            rw [if_neg Bool.false_ne_true] at q3
            exact wpAny_pure ⟨rfl, again I5 x15 c5 ⟨vs, hA5, dA3.ext x5⟩ l4 k4' q3⟩
          | true =>
            rw [if_pos rfl] at q3
            refine wpAny_bind (hb _ s5 σv4 H5 μ5 σ3 O3 acc1 _ _ ⟨I5, env4.ext x5, c5, vs, hA5, dA3.ext x5⟩ ?_)
            cases hcd : z6D cs te σ3 O3 acc1 with
            | exc c' O' => rw [hcd] at q3; exact q3.elim
            | bad => rw [hcd] at q3; exact q3.elim
            | ok acc6 O6 =>
              rw [hcd] at q3
              intro s6 σv6 H6 μ6 I6 x6 c6 g6 l6 k6
              refine wpAny_pure ⟨rfl, again I6 (x15.trans x6) c6 g6 (l6.trans l4) (fun j hj => ?_) q3⟩
              rw [k6 j fun z => hj (List.mem_append_right _ z)]
              exact k4' j hj
end
end
end DL
namespace DL
open PySem L2
section
variable {X : Cx} {A : Addr} {hid : List Addr} {elt : Expr} {gens : List Comprehension} {scope : Scope} {pos : Pos} {te : DE}
theorem zcQ {k : Nat} {tg iter : Expr} {ifs : List Expr} {it : Addr} {fp : List Addr} {tn : Nat -> Heap -> Prop} {J : It} {env : Env} {P : Result -> Shared -> Prop} {s : Shared} {acc : Value} (hk : gens[k]? = some ⟨tg, iter, ifs, 0⟩) (T : zeg X.prog X.w X.K tg J fp it tn) (i : Nat) (st : tn i s.heap)
    (h : codeAny (model X.prog X.w) X.A (.compLoop (.ListComp elt gens scope pos) k (.ref it) acc env) P s) :
    codeAny (model X.prog X.w) X.A (.compStart (.ListComp elt gens scope pos) k (.ref it) acc env) P s := by
  refine codeAny_of_tree ?_
  show wpAny _ _ ((compStart (.ListComp elt gens scope pos) k (.ref it) acc env).onRaise (fun x => do noteFrame x env; standAt theWindowsPlace)) _ _ s
  refine wpAny_notedAt ?_
  unfold compStart
  have hcl : clausesOf (.ListComp elt gens scope pos) = gens := rfl
  simp only [hcl, hk, Option.elim, bne_self_eq_false, Bool.false_eq_true, if_false]
  refine wpAny_bind (wpAny_askSetting (wpAny_ite ?_))
  split
  · exact wpAny_pure (And.intro rfl h)
  · refine wpAny_bind (wpAny_rule ?_)
    exact wpAny_bind (wpAny_standAt (wpAny_bind (T.self _ i s _ _ st (wpAny_pure (And.intro rfl h)))))
theorem zfm (hx : X.xe = fun _ _ => False) (hcalm : X.calm = true) (he : PD X Ex0 elt te) : ∀ {z6F : List Comprehension} {cls : List Cl}, zb9 X z6F cls -> ∀ k, gens.drop k = z6F -> zf9 X A hid (.ListComp elt gens scope pos) elt gens te k cls
  | _, _, .nil, k, hd => zgv hx he (by
      have := congrArg List.length hd
      simp at this
      exact List.getElem?_eq_none_iff.mpr (by omega))
  | ⟨tg, iter, ifs, _⟩ :: gs, c :: cs, .cons hi hs hg hf r, k, hd => by
    have hk : gens[k]? = some ⟨tg, iter, ifs, 0⟩ := by
      have : (gens.drop k)[0]? = some ⟨tg, iter, ifs, 0⟩ := by rw [hd]; rfl
      simpa using this
    have hd' : gens.drop (k + 1) = gs := by
      have := congrArg (List.drop 1) hd
      simpa [List.drop_drop, Nat.add_comm] using this
    have hb := zfm hx hcalm he r (k + 1) hd'
    have hn : gens[k + 1]? = none \/ ∃ tg' iter' ifs', gens[k + 1]? = some ⟨tg', iter', ifs', 0⟩ := by
      have e : gens[k + 1]? = gs[0]? := by rw [<- hd']; simp
      cases r with
      | nil => exact .inl (by rw [e]; rfl)
      | cons _ _ _ _ _ => exact .inr ⟨_, _, _, by rw [e]; rfl⟩
    intro pins s σv H μ σ O acc Q E B q
    unfold zdY
    rw [hk]
    simp only [bne_self_eq_false, Bool.false_eq_true, if_false]
    cases hit : c.it σ O with
    | exc c' O' => unfold z6D at q; rw [hit] at q; exact q.elim
    | bad => unfold z6D at q; rw [hit] at q; exact q.elim
    | ok src O1 =>
      have q1 : z8f X A hid pins σv H μ (z52 (c :: cs)) (z5C src (z6I c cs te σ) (src.size O1) 0 O1 acc) Q := by
        have := q
        unfold z6D at this
        rw [hit] at this
        exact this
      refine wpAny_bind (z6t hx (hi.out pins s σv H (fun J H1 => ∃ μ1, Ext H μ H1 μ1 /\ Cells X.K H1 (A :: hid) μ1 O1 /\ SrcAt X.K J src H1 (A :: hid) μ1) B.inv ⟨A :: hid, μ, σ, O, B.env, B.cells, by rw [hit]; exact fun J H1 μ1 x c sa => ⟨μ1, x, c, sa⟩⟩) fun v s1 h1 => ?_)
      refine wpAny_bind (wpAny_standAt ?_)
      refine wpAny_bind (wpAny_of_eq (hs v) ?_)
      refine wpAny_bind (wpAny_holding (z6t hx h1 fun itv s2 h2 => ?_))
      obtain ⟨it, fp, tn, J, H2, e, I2, T, st2, f2, μ2, x2, c2, sa⟩ := h2
      subst e
      refine wpAny_bind (wpAny_runOwn (h := none) ?_)
      show codeAny _ X.A _ _ _
      obtain ⟨vs, hA, dA⟩ := B.grown
      have nA : A ∉ μ := fun m => B.cells.nh A m (by simp)
      refine zcQ hk T 0 st2 ?_
      refine codeAny_mono (zf8 (A := A) (hid := hid) (te := te) (c := c) (cs := cs) hx hcalm hk hg hf hb hn T pins s2 σv H2 μ2 σ O1 acc (src.size O1) (fun s' => Q s') st2 f2 sa ⟨I2, B.env.ext x2, c2, vs, x2.keep A _ hA nA, dA.ext x2⟩ ?_) fun r s' hr => ?_
      · cases hw : z5C src (z6I c cs te σ) (src.size O1) 0 O1 acc with
        | exc c' O' => rw [hw] at q1; exact q1.elim
        | bad => rw [hw] at q1; exact q1.elim
        | ok acc' O' =>
          rw [hw] at q1
          exact fun s' σv' H' μ' I' x' c' g' l' k' => q1 s' σv' H' μ' I' (x2.ea.trans x') c' g' l' k'
      · obtain ⟨f, rfl, hq⟩ := hr
        exact wpAny_pure hq
end
end DL
namespace DL
open PySem L2
def cxB (X : Cx) (N' : List Str) (scope : Scope) (cells : List (Str × Addr)) (C : Addr) (s : Shared) (H : Hp) (fp : List Addr) : Cx :=
  { X with
    N := N', s₀ := s, H₀ := H
    env := { scope := relabel scope X.env, locals := C, globals := X.env.globals, cells := cells, qual := X.env.qual, func := none, code := X.env.code, frame := X.env.frame, builtins := X.env.builtins }
    outer := X.stack, ex := fp, fn := fun x => scope.names.lookup x == some .cell, pn := [], xe := fun _ _ => False }
structure BOk (sc scope : Scope) (N' : List Str) (sl : List Nat) : Prop where
  kind : scope.kind = .function
  nd : (scope.names.map (·.1)).Nodup
  frees : ∀ y ∈ scope.names, y.2 = .free -> sc.names.lookup y.1 = some .cell \/ sc.names.lookup y.1 = some .free
  own : ∀ (i : Nat) x, N'[i]? = some x -> (x, NameKind.local) ∈ scope.names \/ (x, NameKind.cell) ∈ scope.names -> i ∈ sl
theorem z5M {β : Type} : ∀ {l : List (Str × β)} {x : Str} {b : β}, (l.map (·.1)).Nodup -> (x, b) ∈ l -> l.lookup x = some b
  | [], _, _, _, h => by cases h
  | (y, c) :: r, x, b, nd, h => by
    obtain ⟨n1, n2⟩ := List.nodup_cons.mp nd
    rcases List.mem_cons.mp h with e | h
    · cases e; simp [List.lookup_cons]
    · have ne : x ≠ y := fun e => n1 (List.mem_map.mpr ⟨(x, b), h, e⟩)
      rw [List.lookup_cons]
      have : (x == y) = false := by simpa using ne
      rw [this]
      exact z5M n2 h
theorem z6P (env : Env) (x : Str) : ∀ (names : List (Str × NameKind)), (names.map fun (n, k) => if (k == NameKind.free && env.scope.kind == .function && env.kindOf n == some .cell) then (n, NameKind.cell) else (n, k)).lookup x =
    (names.lookup x).map fun k => if (k == NameKind.free && env.scope.kind == .function && env.kindOf x == some .cell) then NameKind.cell else k
  | [] => rfl
  | (n, k) :: r => by
    show List.lookup x ((if (k == NameKind.free && env.scope.kind == .function && env.kindOf n == some .cell) = true then (n, NameKind.cell) else (n, k)) :: _) = _
    cases hx : x == n with
    | true =>
      have e : x = n := by simpa using hx
      subst e
      simp only [List.lookup_cons, hx, Option.map_some]
      split
      · rename_i h; simp [List.lookup_cons, h]
      · rename_i h; simp [List.lookup_cons, h]
    | false =>
      have ih := z6P env x r
      simp only [List.lookup_cons, hx]
      rw [<- ih]
      split <;> simp only [List.lookup_cons, hx]
theorem z90 {scope : Scope} {env : Env} {x : Str} (h : Vis (relabel scope env) x) : (x, NameKind.local) ∈ scope.names \/ (x, NameKind.cell) ∈ scope.names \/ (x, NameKind.free) ∈ scope.names := by
  unfold Vis relabel at h
  simp only [z6P] at h
  cases e : scope.names.lookup x with
  | none => rw [e] at h; simp at h
  | some k =>
    have m := PySem.mem_of_lookup e
    cases k with
    | «local» => exact .inl m
    | cell => exact .inr (.inl m)
    | free => exact .inr (.inr m)
    | _ => rw [e] at h; simp at h
def z5t (cells : List (Str × Addr)) : List (Str × NameKind) -> List (Str × Addr) -> List (Str × Addr)
  | [], acc => acc
  | (n, k) :: r, acc => if k == .free then z5t cells r ((n, (cells.lookup n).getD 0) :: acc) else z5t cells r acc
theorem z7J {scope : Scope} {env : Env} (h : ∀ y ∈ scope.names, y.2 = .free -> ∃ c, env.cells.lookup y.1 = some c) : closureFor scope env = pure (z5t env.cells scope.names []) := by
  have key : ∀ (names : List (Str × NameKind)) (acc : List (Str × Addr)), (∀ y ∈ names, y.2 = .free -> ∃ c, env.cells.lookup y.1 = some c) ->
      (forIn names acc fun (x : Str × NameKind) (cs : List (Str × Addr)) => (if x.2 == .free then (do let a <- cellOf env x.1; pure (ForInStep.yield ((x.1, a) :: cs))) else pure (ForInStep.yield cs) : Sem _)) = pure (z5t env.cells names acc) := by
    intro names
    induction names with
    | nil => intro acc _; rfl
    | cons y r ih =>
      intro acc hn
      obtain ⟨n, k⟩ := y
      rw [List.forIn_cons]
      unfold z5t
      by_cases hk : (k == NameKind.free) = true
      · obtain ⟨c, hc⟩ := hn (n, k) List.mem_cons_self (by simpa using hk)
        have e1 : cellOf env n = pure c := by unfold cellOf; rw [hc]
        simp only [hk, if_true, e1, pure_bind, hc, Option.getD_some]
        exact ih _ fun y hy => hn y (List.mem_cons_of_mem _ hy)
      · simp only [hk, if_false, pure_bind, Bool.false_eq_true]
        exact ih _ fun y hy => hn y (List.mem_cons_of_mem _ hy)
  have := key scope.names [] h
  unfold closureFor
  refine Eq.trans ?_ (congrArg (fun m => m >>= fun cs => pure cs) this)
  congr 1
theorem z7f {cells : List (Str × Addr)} {x : Str} {c : Addr} : ∀ (names : List (Str × NameKind)) (acc : List (Str × Addr)), (x, c) ∈ z5t cells names acc -> (x, c) ∈ acc \/ ((x, NameKind.free) ∈ names /\ c = (cells.lookup x).getD 0)
  | [], acc, h => .inl h
  | (n, k) :: r, acc, h => by
    unfold z5t at h
    by_cases hk : (k == NameKind.free) = true
    · rw [if_pos hk] at h
      rcases z7f r _ h with m | ⟨m, e⟩
      · rcases List.mem_cons.mp m with m | m
        · cases m
          have : k = .free := by simpa using hk
          subst this
          exact .inr ⟨List.mem_cons_self, rfl⟩
        · exact .inl m
      · exact .inr ⟨List.mem_cons_of_mem _ m, e⟩
    · rw [if_neg hk] at h
      rcases z7f r _ h with m | ⟨m, e⟩
      · exact .inl m
      · exact .inr ⟨List.mem_cons_of_mem _ m, e⟩
theorem z8b {cells : List (Str × Addr)} {p : Str × Addr} : ∀ (names : List (Str × NameKind)) (acc : List (Str × Addr)), p ∈ acc -> p ∈ z5t cells names acc
  | [], acc, h => h
  | (n, k) :: r, acc, h => by
    unfold z5t
    split
    · exact z8b r _ (List.mem_cons_of_mem _ h)
    · exact z8b r _ h
theorem z7d {cells : List (Str × Addr)} {x : Str} : ∀ (names : List (Str × NameKind)) (acc : List (Str × Addr)), (x, NameKind.free) ∈ names -> (x, (cells.lookup x).getD 0) ∈ z5t cells names acc
  | (n, k) :: r, acc, h => by
    unfold z5t
    rcases List.mem_cons.mp h with e | h
    · cases e
      rw [if_pos (by decide)]
      exact z8b r _ List.mem_cons_self
    · split
      · exact z7d r _ h
      · exact z7d r _ h
theorem zeD {x : Str} {c : Addr} : ∀ (names : List (Str × NameKind)) (n : Nat) (acc : List (Str × Addr)), (x, c) ∈ cellsFrom n names acc -> (x, c) ∈ acc \/ ((x, NameKind.cell) ∈ names /\ n <= c)
  | [], n, acc, h => .inl h
  | (y, k) :: r, n, acc, h => by
    unfold cellsFrom at h
    by_cases hk : (k == NameKind.cell) = true
    · rw [if_pos hk] at h
      rcases zeD r _ _ h with m | ⟨m, e⟩
      · rcases List.mem_cons.mp m with m | m
        · cases m
          have : k = .cell := by simpa using hk
          subst this
          exact .inr ⟨List.mem_cons_self, Nat.le_refl _⟩
        · exact .inl m
      · exact .inr ⟨List.mem_cons_of_mem _ m, Nat.le_of_succ_le e⟩
    · rw [if_neg hk] at h
      rcases zeD r _ _ h with m | ⟨m, e⟩
      · exact .inl m
      · exact .inr ⟨List.mem_cons_of_mem _ m, e⟩
theorem zeL {p : Str × Addr} : ∀ (names : List (Str × NameKind)) (n : Nat) (acc : List (Str × Addr)), p ∈ acc -> p ∈ cellsFrom n names acc
  | [], _, _, h => h
  | (y, k) :: r, n, acc, h => by
    unfold cellsFrom
    split
    · exact zeL r _ _ (List.mem_cons_of_mem _ h)
    · exact zeL r _ _ h
theorem za5 : ∀ (names : List (Str × NameKind)) (n : Nat) (acc : List (Str × Addr)), (acc.Pairwise fun x y => x.2 ≠ y.2) -> (∀ p ∈ acc, p.2 < n) -> (cellsFrom n names acc).Pairwise fun x y => x.2 ≠ y.2
  | [], _, _, h, _ => h
  | (y, k) :: r, n, acc, h, hl => by
    unfold cellsFrom
    split
    · refine za5 r (n + 1) _ (List.pairwise_cons.mpr ⟨fun p hp => ?_, h⟩) fun p hp => ?_
      · exact fun e => absurd (hl p hp) (by show ¬ p.2 < n; rw [<- e]; exact Nat.lt_irrefl _)
      · rcases List.mem_cons.mp hp with rfl | hp
        · exact Nat.lt_succ_self _
        · exact Nat.lt_succ_of_lt (hl p hp)
    · exact za5 r n acc h hl
theorem za2 : ∀ (names : List (Str × NameKind)) (n : Nat) (acc : List (Str × Addr)), ((names.map (·.1)).Nodup) -> (acc.map (·.1)).Nodup -> (∀ p ∈ acc, ∀ k, (p.1, k) ∈ names -> k ≠ NameKind.cell) -> ((cellsFrom n names acc).map (·.1)).Nodup
  | [], _, _, _, h, _ => h
  | (y, k) :: r, n, acc, nd, h, hl => by
    obtain ⟨n1, n2⟩ := List.nodup_cons.mp nd
    unfold cellsFrom
    by_cases hk : (k == NameKind.cell) = true
    · rw [if_pos hk]
      have hk' : k = .cell := by simpa using hk
      refine za2 r (n + 1) _ n2 (List.nodup_cons.mpr ⟨fun m => ?_, h⟩) fun p hp k' hk2 => ?_
      · obtain ⟨p, hp, e⟩ := List.mem_map.mp m
        exact hl p hp k (by rw [e]; exact List.mem_cons_self) hk'
      · rcases List.mem_cons.mp hp with rfl | hp
        · exact absurd (List.mem_map.mpr ⟨(y, k'), hk2, rfl⟩) n1
        · exact hl p hp k' (List.mem_cons_of_mem _ hk2)
    · rw [if_neg hk]
      exact za2 r n acc n2 h fun p hp k' hk2 => hl p hp k' (List.mem_cons_of_mem _ hk2)
theorem z6L {cells : List (Str × Addr)} : ∀ (names : List (Str × NameKind)) (acc : List (Str × Addr)), ((names.map (·.1)).Nodup) -> (acc.map (·.1)).Nodup -> (∀ p ∈ acc, p.1 ∉ names.map (·.1)) -> ((z5t cells names acc).map (·.1)).Nodup
  | [], _, _, h, _ => h
  | (y, k) :: r, acc, nd, h, hl => by
    obtain ⟨n1, n2⟩ := List.nodup_cons.mp nd
    unfold z5t
    split
    · refine z6L r _ n2 (List.nodup_cons.mpr ⟨fun m => ?_, h⟩) fun p hp => ?_
      · obtain ⟨p, hp, e⟩ := List.mem_map.mp m
        exact hl p hp (by rw [e]; simp)
      · rcases List.mem_cons.mp hp with rfl | hp
        · exact n1
        · exact fun m => hl p hp (List.mem_cons_of_mem _ m)
    · exact z6L r acc n2 h fun p hp m => hl p hp (List.mem_cons_of_mem _ m)
end DL
namespace DL
open PySem L2
theorem zcg {x : Str} {c : Addr} : ∀ (names : List (Str × NameKind)) (h : Heap) (acc : List (Str × Addr)), (x, c) ∈ cellsFrom h.objs.size names acc -> (x, c) ∈ acc \/ (pushCells h names).IsCell c none
  | [], _, _, m => .inl m
  | (y, k) :: r, h, acc, m => by
    unfold cellsFrom at m
    unfold pushCells
    by_cases hk : (k == NameKind.cell) = true
    · rw [if_pos hk] at m ⊢
      have e : h.objs.size + 1 = (h.push { cls := .type "cell", data := .cell none }).objs.size := (Heap.size_push ..).symm
      rw [e] at m
      rcases zcg r _ _ m with m | m
      · rcases List.mem_cons.mp m with m | m
        · cases m
          exact .inr ⟨_, pushCells_keeps _ _ _ _ (Heap.get?_push_size _ rfl), rfl⟩
        · exact .inl m
      · exact .inr m
    · rw [if_neg hk] at m ⊢
      exact zcg r _ _ m
theorem zaX {l : List (Str × Addr)} (nd : (l.map (·.1)).Nodup) (inj : ∀ p ∈ l, ∀ q ∈ l, p.2 = q.2 -> p.1 = q.1) : l.Pairwise fun x y => x.2 ≠ y.2 := by
  induction l with
  | nil => exact .nil
  | cons p r ih =>
    obtain ⟨n1, n2⟩ := List.nodup_cons.mp nd
    refine List.pairwise_cons.mpr ⟨fun q hq e => n1 ?_, ih n2 fun a ha b hb => inj a (List.mem_cons_of_mem _ ha) b (List.mem_cons_of_mem _ hb)⟩
    exact List.mem_map.mpr ⟨q, hq, (inj p List.mem_cons_self q (List.mem_cons_of_mem _ hq) e).symm⟩
abbrev z7m : Obj := { cls := .type "list", dict := none, data := .seq ([] : List Value).toArray }
abbrev zbl : Obj := { cls := .type "dict", data := .dict #[] }
section
variable {X : Cx} {pins : List (Addr × Obj)} {σv : St} {H : Hp} {s : Shared}
abbrev zg9 (h : Heap) (names : List (Str × NameKind)) : Heap := pushCells ((h.push z7m).push zbl) names
theorem z8P (h : Heap) (names : List (Str × NameKind)) (b : Addr) (o : Obj) (e : h.get? b = some o) : (zg9 h names).get? b = some o := pushCells_keeps _ _ _ _ (Heap.get?_push_of_some _ (Heap.get?_push_of_some _ e))
theorem zka (h : Heap) : ((h.push z7m).push zbl).objs.size = h.objs.size + 2 := by rw [Heap.size_push, Heap.size_push]
theorem zdB {scope : Scope} {ext : List Str} {sl : List Nat} {fp : List Addr} (I : L2.Inv X pins σv H s) (hfp : ∀ b ∈ fp, zbz X pins H b) (hlt : ∀ b ∈ fp, b < s.heap.objs.size) (hb : BOk X.env.scope scope (X.N ++ ext) sl) :
    L2.Inv (cxB X (X.N ++ ext) scope (cellsFrom (s.heap.objs.size + 2) scope.names (z5t X.env.cells scope.names [])) (s.heap.objs.size + 1) s H fp) [] (clr (σv ++ List.replicate ext.length none) sl)
      (upd H s.heap.objs.size (.lst [])) { s with heap := zg9 s.heap scope.names } := by
  have hclt : ∀ x c, X.env.cells.lookup x = some c -> c < s.heap.objs.size := fun x c e => by
    obtain ⟨v, z⟩ := I.cell x c e
    exact z.lt
  -- a free name of the block has its cell around
  have hfree : ∀ x, (x, NameKind.free) ∈ scope.names -> ∃ c, X.env.cells.lookup x = some c := fun x hx => I.ok.has x (hb.frees _ hx rfl)
  have hcl : ∀ x c, (x, c) ∈ z5t X.env.cells scope.names [] -> (x, NameKind.free) ∈ scope.names /\ X.env.cells.lookup x = some c := fun x c hm => by
    rcases z7f _ _ hm with m | ⟨m, e⟩
    · cases m
    · obtain ⟨c', hc'⟩ := hfree x m
      rw [hc'] at e
      exact ⟨m, by rw [e]; exact hc'⟩
  have hlc : ∀ x, (x, NameKind.free) ∈ scope.names -> ∀ c, X.env.cells.lookup x = some c -> (x, c) ∈ z5t X.env.cells scope.names [] := fun x hx c e => by
    have := z7d (cells := X.env.cells) scope.names [] hx
    rw [e] at this
    exact this
  have ndcl : ((z5t X.env.cells scope.names []).map (·.1)).Nodup := z6L _ _ hb.nd (by simp) (by intro p hp; cases hp)
  have ndc : ((cellsFrom (s.heap.objs.size + 2) scope.names (z5t X.env.cells scope.names [])).map (·.1)).Nodup := za2 _ _ _ hb.nd ndcl fun p hp k hk e => by
    subst e
    have h1 := (hcl p.1 p.2 hp).1
    have := z5M hb.nd h1
    rw [z5M hb.nd hk] at this
    cases this
  have apart : (cellsFrom (s.heap.objs.size + 2) scope.names (z5t X.env.cells scope.names [])).Pairwise fun x y => x.2 ≠ y.2 := by
    refine za5 _ _ _ (zaX ndcl fun p hp q hq e => ?_) fun p hp => Nat.lt_of_lt_of_le (hclt _ _ (hcl p.1 p.2 hp).2) (Nat.le_add_right _ _)
    refine I.ok.inj p.1 q.1 p.2 (hcl p.1 p.2 hp).2 ?_
    rw [e]; exact (hcl q.1 q.2 hq).2
  have hsplit : ∀ x c, (cellsFrom (s.heap.objs.size + 2) scope.names (z5t X.env.cells scope.names [])).lookup x = some c -> ((x, NameKind.free) ∈ scope.names /\ X.env.cells.lookup x = some c) \/ ((x, NameKind.cell) ∈ scope.names /\ s.heap.objs.size + 2 <= c) := fun x c e => by
    rcases zeD _ _ _ (PySem.mem_of_lookup e) with m | m
    · exact .inl (hcl x c m)
    · exact .inr m
  have fresh : ∀ a, s.heap.objs.size <= a -> H a = none := fun a ha => I.hok.fresh ha
  have kp := z8P s.heap scope.names
  have oldc : ∀ x, (x, NameKind.free) ∈ scope.names -> ∀ c, X.env.cells.lookup x = some c -> (cellsFrom (s.heap.objs.size + 2) scope.names (z5t X.env.cells scope.names [])).lookup x = some c := fun x hx c e =>
    z5M ndc (zeL _ _ _ (hlc x hx c e))
  refine ⟨⟨I.ok.mod, hb.kind, I.ok.glob, I.ok.blt, Nat.le_succ _, fun x y c h1 h2 => name_of_addr apart (PySem.mem_of_lookup h1) (PySem.mem_of_lookup h2), fun x hx => ?_, fun x c hx h => ?_, I.ok.hd, I.ok.frames, .inl rfl, fun b hbm => ⟨?_, fun x c e => ?_⟩, I.bs, ?_, fun b o e hbm => ?_, fun b hbm z => ?_, I.stack, I.stkFree⟩,
    rfl, I.bare, Un.laid kp (Nat.le_refl _) (fresh _ (Nat.le_refl _)), ?_, fun x c e => ?_, ?_, fun x c e => ?_, fun p hp => absurd (show p ∈ ([] : List (Addr × Obj)) from hp) (by simp), I.hok.laid kp (Nat.le_refl _) ?_, ?_⟩
  · -- has
    have hx : Vis (relabel scope X.env) x := .inr hx
    rcases z90 hx with m | m | m
    · exfalso
      have e := z5M hb.nd m
      have e2 : (relabel scope X.env).names.lookup x = some .local := lookup_relabel_local e
      rcases (show (relabel scope X.env).names.lookup x = some .cell \/ (relabel scope X.env).names.lookup x = some .free by rename_i h0; exact h0) with q | q
      · rw [e2] at q; cases q
      · rw [e2] at q; cases q
    · exact Option.isSome_iff_exists.mp (PySem.W.cellsFrom_some scope.names _ _ (.inl (z5M hb.nd m)))
    · obtain ⟨c, hc⟩ := hfree x m
      exact ⟨c, oldc x m c hc⟩
  · -- cab
    have hx : (scope.names.lookup x == some .cell) = true := hx
    rcases hsplit x c h with ⟨m, _⟩ | ⟨_, m⟩
    · rw [z5M hb.nd m] at hx; cases hx
    · exact Nat.le_trans (Nat.le_add_right _ _) m
  · exact Nat.ne_of_lt (Nat.lt_succ_of_lt (hlt b hbm))
  · rcases hsplit x c e with ⟨_, m⟩ | ⟨_, m⟩
    · exact (hfp b hbm).2.2.2.2.1 x c m
    · have h0 : b < s.heap.objs.size := hlt b hbm
      exact fun z => by
        rw [z] at m
        exact absurd (Nat.lt_of_lt_of_le h0 (Nat.le_trans (Nat.le_add_right _ 2) m)) (Nat.lt_irrefl _)
  · exact Nat.le_trans I.ok.bsz I.sz
  · rcases (hfp b hbm).2.2.2.1 with z | z
    · exact I.ok.noex b o e z
    · exact absurd (Nat.lt_of_lt_of_le (Heap.lt_size e) (Nat.le_trans I.ok.bsz z)) (Nat.lt_irrefl _)
  · rcases List.mem_cons.mp (I.stkSub b z) with q | q
    · exact (hfp b hbm).2.1 q
    · exact (hfp b hbm).2.2.1 q
  · -- loc
    refine ⟨fun _ => none, ?_, fun i x v h1 h2 h3 => ?_⟩
    · have z := (Heap.Ns.new (s.heap.push z7m) (.type "dict")).keeps (pushCells_keeps scope.names _)
      rw [Heap.size_push] at z
      exact z
    · obtain ⟨g1, g2⟩ := za3 _ _ _ _ h2
      have hi : i < σv.length := by
        by_cases hi : i < σv.length
        · exact hi
        · rw [List.getElem?_append_right (by omega), List.getElem?_replicate] at g1
          split at g1 <;> cases g1
      rw [List.getElem?_append_left hi] at g1
      have hxN : X.N[i]? = some x := by
        have h1 : (X.N ++ ext)[i]? = some x := h1
        rw [List.getElem?_append_left (by rw [<- I.len]; exact hi)] at h1
        exact h1
      rcases z90 h3 with m | m | m
      · exact absurd (hb.own i x h1 (.inl m)) g2
      · exact absurd (hb.own i x h1 (.inr m)) g2
      · obtain ⟨m0, hn, hl⟩ := I.loc
        have kx := hb.frees _ m rfl
        obtain ⟨u, ru, lk⟩ := hl i x v hxN g1 (.inr kx)
        refine ⟨u, ru, ?_⟩
        rcases lk with ⟨q, _⟩ | ⟨q, c, hc, z⟩
        · exfalso
          have q : X.env.scope.names.lookup x = some .local := q
          rcases kx with k | k <;> (rw [q] at k; cases k)
        · refine .inr ⟨?_, c, oldc x m c hc, z.keeps kp⟩
          have e := z5M hb.nd m
          show (relabel scope X.env).names.lookup x = some .cell \/ (relabel scope X.env).names.lookup x = some .free
          unfold relabel
          simp only [z6P, e, Option.map_some]
          split
          · exact .inl rfl
          · exact .inr rfl
  · -- cell
    rcases zcg scope.names ((s.heap.push z7m).push zbl) (z5t X.env.cells scope.names []) (x := x) (c := c) (by rw [zka]; exact PySem.mem_of_lookup e) with m | m
    · obtain ⟨v, z⟩ := I.cell x c (hcl x c m).2
      exact ⟨v, z.keeps kp⟩
    · exact ⟨none, m⟩
  · show upd H s.heap.objs.size (HO.lst []) (s.heap.objs.size + 1) = none
    rw [z4O (Nat.ne_of_gt (Nat.lt_succ_self _))]
    exact fresh _ (Nat.le_succ _)
  · rcases hsplit x c e with ⟨_, m⟩ | ⟨_, m⟩
    · rw [z4O (Nat.ne_of_lt (hclt x c m))]
      exact I.freeC x c m
    · have ne : c ≠ s.heap.objs.size := fun z => by
        rw [z] at m
        exact absurd m (by omega)
      rw [z4O ne]
      exact fresh c (Nat.le_trans (Nat.le_add_right _ 2) m)
  · exact ⟨Nat.zero_le _, [], 0, .nil, pushCells_keeps _ _ _ _ (Heap.get?_push_of_some _ (Heap.get?_push_size _ rfl))⟩
  · show _ = (X.N ++ ext).length
    rw [z8W, List.length_append, List.length_replicate, List.length_append, I.len]
end
end DL
namespace DL
open PySem L2
def noX {α : Type} : R α -> R α
  | .ok a O => .ok a O
  | _ => .bad
def z7t (ext : Nat) (it0 : DI) (g : Tg) (ts : List DT) (cs : List Cl) (te : DE) : Sg -> Ow -> R (List D) := fun σ O => (it0 σ O).bnd fun src O1 =>
  noX (z5C src (z6I ⟨it0, g, ts⟩ cs te (clr (σ ++ List.replicate ext none) (z52 (⟨it0, g, ts⟩ :: cs)))) (src.size O1) 0 O1 [])
section
variable {X : Cx} {Ex : Nat -> Hp -> Prop} {M : Model} {A : Around} {E : Value -> Shared -> Prop} {s : Shared}
theorem zaH {scope : Scope} {globals : Addr} {cl : List (Str × Addr)} {qual : Str} {env : Env} {Q : Env -> Shared -> Prop}
    (h : Q { scope, locals := s.heap.objs.size, globals, cells := cellsFrom (s.heap.objs.size + 1) scope.names cl, qual, func := none, code := env.code, frame := env.frame, builtins := env.builtins } { s with heap := pushCells (s.heap.push zbl) scope.names }) :
    wpAny M A (newFunctionEnv scope globals cl [] qual none .none (some env)) Q E s := by
  simp only [newFunctionEnv, Option.isSome_some, if_true]
  refine wpAny_bind (wpAny_alloc ?_)
  refine wpAny_bind (wpAny_layCells _ (fun name kind cells => by cases hkc : kind == NameKind.cell <;> simp [hkc]) _ _ _ _ ?_)
  rw [show ({ s with heap := s.heap.push zbl } : Shared).heap.objs.size = s.heap.objs.size + 1 from Heap.size_push ..]
  simp only [List.forIn_nil, pure_bind]
  exact wpAny_pure h
structure zgD (X : Cx) (pins : List (Addr × Obj)) (σv : St) (H : Hp) (hid μ : List Addr) (L C : Addr) (acc : List D) (O : Ow) (s' : Shared) : Prop where
  inv : ∃ H' μ', L2.Inv X pins σv H' s' /\ Ext H μ H' μ' /\ Cells X.K H' (L :: hid) μ' O /\ H L = none /\ H' C = none /\ ∃ vs, H' L = some (.lst vs) /\ Dats X.K H' (L :: hid) μ' acc vs
  ns : ∃ m, s'.heap.Ns C m
  loc : C ≠ X.env.locals
  young : X.s₀.heap.objs.size <= C
  cel : ∀ x c, X.env.cells.lookup x = some c -> c ≠ C
  pns : ∀ p ∈ X.pn ++ pins, p.1 ≠ C
theorem Inv.bare {pins : List (Addr × Obj)} {σv : St} {H : Hp} {s' : Shared} {C : Addr} {h' : Heap} (I : L2.Inv X pins σv H s') (hs : Heap.SameBut C s'.heap h') (hn : H C = none) (loc : C ≠ X.env.locals) (young : X.s₀.heap.objs.size <= C) (cel : ∀ x c, X.env.cells.lookup x = some c -> c ≠ C)
    (pns : ∀ p ∈ X.pn ++ pins, p.1 ≠ C) : L2.Inv X pins σv H { s' with heap := h' } := I.turned (t' := s'.toks) (fun b o hb e => (hs.2 b hb).trans e) hn loc (.inr young) cel pns
theorem zdh {elt tg iter : Expr} {ifs : List Expr} {gs : List Comprehension} {scope : Scope} {pos : Pos} {ext : List Str} {it0 : DI} {g : Tg} {ts : List DT} {cs : List Cl} {te : DE} {pins : List (Addr × Obj)} {σv : St} {H : Hp} {hid μ : List Addr} {σ : Sg} {O : Ow} {src : Src} {acc : List D} {O2 : Ow}
    {it : Addr} {fp : List Addr} {tn : Nat -> Heap -> Prop} {J : It} {RR : Value -> Addr -> Result -> Shared -> Prop}
    (hcalm : X.calm = true) (hb : BOk X.env.scope scope (X.N ++ ext) (z52 (⟨it0, g, ts⟩ :: cs)))
    (blk : ∀ cells C s H fp, PG (cxB X (X.N ++ ext) scope cells C s H fp) tg (g.rd X.K) /\ PySem.Paired (fun e t => PDT (cxB X (X.N ++ ext) scope cells C s H fp) Ex0 e t) ifs ts /\ zb9 (cxB X (X.N ++ ext) scope cells C s H fp) gs cs /\ PD (cxB X (X.N ++ ext) scope cells C s H fp) Ex0 elt te)
    (I : L2.Inv X pins σv H s) (e1 : EnvOk X.K H hid μ σ σv) (c1 : Cells X.K H hid μ O) (T : zeg X.prog X.w X.K tg J fp it tn) (st : tn 0 s.heap) (hfp : ∀ b ∈ fp, zbz X pins H b) (sa : SrcAt X.K J src H hid μ)
    (hw : z5C src (z6I ⟨it0, g, ts⟩ cs te (clr (σ ++ List.replicate ext.length none) (z52 (⟨it0, g, ts⟩ :: cs)))) (src.size O) 0 O [] = .ok acc O2)
    (hRR : ∀ f s', zgD X pins σv H hid μ s.heap.objs.size (s.heap.objs.size + 1) acc O2 s' -> RR (.ref s.heap.objs.size) (s.heap.objs.size + 1) (.ok f) s') :
    wpAny (model X.prog X.w) X.A (newList []) (fun ac s₃ => wpAny (model X.prog X.w) X.A (newFunctionEnv scope X.env.globals (z5t X.env.cells scope.names []) [] X.env.qual none .none (some X.env)) (fun cenv s₄ =>
      codeAny (model X.prog X.w) X.A (.compStart (.ListComp elt (⟨tg, iter, ifs, 0⟩ :: gs) scope pos) 0 (.ref it) ac { cenv with scope := relabel scope X.env }) (RR ac cenv.locals) s₄) E s₃) E s := by
  refine wpAny_newObj_type ?_
  refine zaH ?_
  have hsz : (s.heap.push z7m).objs.size = s.heap.objs.size + 1 := Heap.size_push ..
  have hlt : ∀ b ∈ fp, b < s.heap.objs.size := fun b hb => by
    obtain ⟨o, ho, _⟩ := T.obj 0 _ st b hb
    exact Heap.lt_size ho
  have IB := zdB I hfp hlt hb
  have nL : H s.heap.objs.size = none := I.hok.fresh (Nat.le_refl _)
  have hne : ∀ b ∈ fp, b ≠ s.heap.objs.size := fun b hb => Nat.ne_of_lt (hlt b hb)
  obtain ⟨b1, b2, b3, b4⟩ := blk (cellsFrom (s.heap.objs.size + 2) scope.names (z5t X.env.cells scope.names [])) (s.heap.objs.size + 1) s H fp
  generalize hX' : cxB X (X.N ++ ext) scope (cellsFrom (s.heap.objs.size + 2) scope.names (z5t X.env.cells scope.names [])) (s.heap.objs.size + 1) s H fp = X' at IB b1 b2 b3 b4
  have eP : X'.prog = X.prog := by rw [<- hX']; rfl
  have eW : X'.w = X.w := by rw [<- hX']; rfl
  have eK : X'.K = X.K := by rw [<- hX']; rfl
  have eA : X'.A = X.A := by rw [<- hX']; rfl
  have ex : X'.xe = fun _ _ => False := by rw [<- hX']; rfl
  have ec : X'.calm = true := by rw [<- hX']; exact hcalm
  have eenv : X'.env = { scope := relabel scope X.env, locals := s.heap.objs.size + 1, globals := X.env.globals, cells := cellsFrom (s.heap.objs.size + 2) scope.names (z5t X.env.cells scope.names []), qual := X.env.qual, func := none, code := X.env.code, frame := X.env.frame, builtins := X.env.builtins } := by rw [<- hX']; rfl
  have eenv2 : ({ ({ scope, locals := (s.heap.push z7m).objs.size, globals := X.env.globals, cells := cellsFrom ((s.heap.push z7m).objs.size + 1) scope.names (z5t X.env.cells scope.names []), qual := X.env.qual, func := none, code := X.env.code, frame := X.env.frame, builtins := X.env.builtins } : Env) with scope := relabel scope X.env } : Env) = X'.env := by
    rw [eenv, hsz]
  show codeAny _ _ (.compStart _ 0 _ _ ({ ({ scope, locals := (s.heap.push z7m).objs.size, globals := X.env.globals, cells := cellsFrom ((s.heap.push z7m).objs.size + 1) scope.names (z5t X.env.cells scope.names []), qual := X.env.qual, func := none, code := X.env.code, frame := X.env.frame, builtins := X.env.builtins } : Env) with scope := relabel scope X.env } : Env)) (RR _ (s.heap.push z7m).objs.size) _
  rw [eenv2, hsz]
  have mv0 : Mv H hid μ (upd H s.heap.objs.size (.lst [])) (s.heap.objs.size :: hid) μ := (Mv.hide nL).trans ⟨⟨[], by simp⟩, fun b o h _ n2 _ => by rw [z4O (fun z => n2 (by simp [z]))]; exact h, fun _ m => .inl m, fun _ m => .inl m, z5J, fun _ t => t.upd (.inl nL)⟩
  have c2 : Cells X.K (upd H s.heap.objs.size (.lst [])) (s.heap.objs.size :: hid) μ O := by
    refine ⟨c1.len, c1.nd, fun a m z => ?_, fun a m => ?_, fun k a e => ?_⟩
    · rcases List.mem_cons.mp z with rfl | z
      · exact (c1.not_in nL).2 m
      · exact c1.nh a m z
    · rcases List.mem_cons.mp m with rfl | m
      · rw [z54]; simp
      · exact z5J a (c1.ht a m)
    · obtain ⟨ds, vs, h1, h2, h3⟩ := c1.at_ k a e
      exact ⟨ds, vs, h1, by rw [z4O (z4U h2 nL)]; exact h2, h3.mv mv0⟩
  have e2 : EnvOk X.K (upd H s.heap.objs.size (.lst [])) (s.heap.objs.size :: hid) μ (clr (σ ++ List.replicate ext.length none) (z52 (⟨it0, g, ts⟩ :: cs))) (clr (σv ++ List.replicate ext.length none) (z52 (⟨it0, g, ts⟩ :: cs))) := by
    refine ⟨by rw [z8W, z8W, List.length_append, List.length_append, e1.len]; simp, fun i d h => ?_⟩
    obtain ⟨g1, g2⟩ := za3 _ _ _ _ h
    have hi : i < σ.length := by
      by_cases hi : i < σ.length
      · exact hi
      · rw [List.getElem?_append_right (by omega), List.getElem?_replicate] at g1
        split at g1 <;> cases g1
    rw [List.getElem?_append_left hi] at g1
    obtain ⟨v, h1, h2⟩ := e1.at_ i d g1
    exact ⟨v, by rw [zdF _ _ _ g2, List.getElem?_append_left (by rw [<- e1.len]; exact hi)]; exact h1, h2.mv mv0⟩
  have hfp' : ∀ b ∈ fp, zbz X' [] (upd H s.heap.objs.size (.lst [])) b := fun b hbm => by
    obtain ⟨f0, f1, f2, f3, f4, f5⟩ := hfp b hbm
    have h1 := IB.ok.exf
    refine ⟨by rw [z4O (hne b hbm)]; exact f0, ?_, ?_, .inl ?_, ?_, ?_⟩
    · exact (h1 b (by rw [<- hX']; exact hbm)).1
    · rw [<- hX']
      exact fun z => IB.ok.exfs b (by rw [<- hX']; exact hbm) (by rw [<- hX']; exact z)
    · rw [<- hX']; exact hbm
    · exact (h1 b (by rw [<- hX']; exact hbm)).2
    · rw [<- hX']
      exact fun p hp => absurd (show p ∈ ([] : List (Addr × Obj)) from hp) (by simp)
  have st' : tn 0 (zg9 s.heap scope.names) := T.keep _ _ _ st fun b _ o e => z8P _ _ _ _ e
  have T' : zeg X'.prog X'.w X'.K tg J fp it tn := by rw [eP, eW, eK]; exact T
  have key := zf8 (X := X') (A := s.heap.objs.size) (hid := hid) (elt := elt) (gens := ⟨tg, iter, ifs, 0⟩ :: gs) (scope := scope) (pos := pos) (te := te) (k := 0) (c := ⟨it0, g, ts⟩) (cs := cs) ex ec rfl (by rw [eK]; exact b1) b2 (zfm ex ec b4 b3 1 rfl) (by
      cases b3 with
      | nil => exact .inl rfl
      | cons _ _ _ _ _ => exact .inr ⟨_, _, _, rfl⟩) T' [] { s with heap := zg9 s.heap scope.names } (clr (σv ++ List.replicate ext.length none) (z52 (⟨it0, g, ts⟩ :: cs))) (upd H s.heap.objs.size (.lst [])) μ (clr (σ ++ List.replicate ext.length none) (z52 (⟨it0, g, ts⟩ :: cs))) O [] (src.size O)
      (fun s' => zgD X pins σv H hid μ s.heap.objs.size (s.heap.objs.size + 1) acc O2 s') st' hfp' (by rw [eK]; exact sa.mv mv0) ⟨IB, by rw [eK]; exact e2, by rw [eK]; exact c2, [], z54, .nil⟩ ?_
  · have key2 := zcQ (X := X') (elt := elt) (gens := ⟨tg, iter, ifs, 0⟩ :: gs) (scope := scope) (pos := pos) (env := X'.env) rfl T' 0 st' key
    rw [eP, eW, eA] at key2
    exact codeAny_mono key2 fun r s' ⟨f, hr, q⟩ => by subst hr; exact hRR f s' q
  · rw [hw]
    intro s' σv' H' μ' I' x' c' g' l' k'
    rw [eK] at c'
    obtain ⟨vs, hv, dv⟩ := g'
    rw [eK] at dv
    have xe : Ext H μ H' μ' := ⟨x'.pre, fun b o h n ht => x'.kept b o (by rw [z4O (z4U h nL)]; exact h) n (z4U h nL) ht, fun b m => (x'.fresh b m).imp id fun z => by
      by_cases q : b = s.heap.objs.size
      · rw [q]; exact nL
      · rw [z4O q] at z; exact z, fun b h => x'.there b (z5J b h), fun P t => x'.tab P (t.upd (.inl nL))⟩
    have un : Un (frs X.stack) fp H H' s.heap s'.heap := by
      have := I'.base
      rw [<- hX'] at this
      exact this
    have os : s'.os = s.os := by
      have := I'.os
      rw [<- hX'] at this
      exact this
    have hok : HOk X.prog X.w H' s'.heap := by
      have := I'.hok
      rw [eP, eW] at this
      exact this
    have IX : L2.Inv X pins σv H' s' := I.call' os un hok I'.bare fun b hbm => by
      obtain ⟨f0, f1, f2, f3, f4, f5⟩ := hfp b hbm
      exact ⟨f3, f1, f4, f5⟩
    have big : ∀ b, b < s.heap.objs.size -> b ≠ s.heap.objs.size + 1 := fun b h => Nat.ne_of_lt (Nat.lt_succ_of_lt h)
    refine ⟨⟨H', μ', IX, xe, c', nL, ?_, vs, hv, dv⟩, ?_, ?_, ?_, fun x c e => ?_, fun p hp => ?_⟩
    · have := I'.free
      rw [eenv] at this
      exact this
    · obtain ⟨m, hn, _⟩ := I'.loc
      rw [eenv] at hn
      exact ⟨m, hn⟩
    · exact (big _ I.lt).symm
    · exact Nat.le_trans I.sz (Nat.le_succ _)
    · obtain ⟨v, z⟩ := I.cell x c e
      exact big _ z.lt
    · exact big _ (Heap.lt_size (I.pin p hp).1)
end
end DL
namespace DL
open PySem L2
section
variable {X : Cx} {Ex : Nat -> Hp -> Prop}
theorem zjF {α : Type} {r : R α} {a : α} {O : Ow} (h : noX r = .ok a O) : r = .ok a O := by
  cases r with
  | ok _ _ => exact h
  | exc _ _ => cases h
  | bad => cases h
theorem zhp {α : Type} {r : R α} {c : Nat} {O : Ow} (h : noX r = .exc c O) : False := by
  cases r <;> cases h
def zfZ (Ex : Nat -> Hp -> Prop) (K : PySem.W.Frag) (H : Hp) (hid μ : List Addr) (r : R (List D)) (Q : Addr -> Hp -> Prop) : Prop := match r with
  | .ok acc O' => ∀ L H' μ', H L = none -> Ext H μ H' μ' -> Cells K H' (L :: hid) μ' O' -> (∃ vs, H' L = some (.lst vs) /\ Dats K H' (L :: hid) μ' acc vs) -> Q L H'
  | .exc c O' => ∀ H' μ', Ext H μ H' μ' -> Cells K H' hid μ' O' -> Ex c H'
  | .bad => False
theorem Ext.none {H H' : Hp} {μ μ' : List Addr} (e : Ext H μ H' μ') {L : Addr} (h : H' L = Option.none) : H L = Option.none := by
  cases q : H L with
  | none => rfl
  | some o => exact absurd h (e.there L (by rw [q]; simp))
theorem zcD {elt tg iter : Expr} {ifs : List Expr} {gs : List Comprehension} {scope : Scope} {pos cpos : Pos} {ext : List Str} {it0 : DI} {g : Tg} {ts : List DT} {cs : List Cl} {te : DE} {pins : List (Addr × Obj)} {σv : St} {H : Hp} {s : Shared} {hid μ : List Addr} {σ : Sg} {O : Ow}
    {use : Option (Value -> Sem Unit)} {Q : Value -> Shared -> Prop} (hcalm : X.calm = true) (hi : PDI X Ex tg iter it0) (hb : BOk X.env.scope scope (X.N ++ ext) (z52 (⟨it0, g, ts⟩ :: cs)))
    (blk : ∀ cells C s H fp, PG (cxB X (X.N ++ ext) scope cells C s H fp) tg (g.rd X.K) /\ PySem.Paired (fun e t => PDT (cxB X (X.N ++ ext) scope cells C s H fp) Ex0 e t) ifs ts /\ zb9 (cxB X (X.N ++ ext) scope cells C s H fp) gs cs /\ PD (cxB X (X.N ++ ext) scope cells C s H fp) Ex0 elt te)
    (hs : ∀ x, foldedSetIterable iter X.env x = pure x) (I : L2.Inv X pins σv H s) (e1 : EnvOk X.K H hid μ σ σv) (c1 : Cells X.K H hid μ O)
    (q : zfZ Ex X.K H hid μ (z7t ext.length it0 g ts cs te σ O)
      (fun (L : Addr) H' => ∀ s' C, L2.Inv X pins σv H' s' -> (∃ m, s'.heap.Ns C m) -> H' C = none -> C ≠ X.env.locals -> X.s₀.heap.objs.size <= C -> (∀ x c, X.env.cells.lookup x = some c -> c ≠ C) -> (∀ p ∈ X.pn ++ pins, p.1 ≠ C) ->
        compPost (model X.prog X.w) X.A X.xe use Q (.ref L) C (.ok .next) s')) :
    wpAny (model X.prog X.w) X.A (comprehension (.ListComp elt (⟨tg, iter, ifs, 0⟩ :: gs) scope pos) scope X.env cpos (newList []) false (eval iter X.env) use) Q X.xe s := by
  have hfree : ∀ y ∈ scope.names, y.2 = .free -> ∃ c, X.env.cells.lookup y.1 = some c := fun y hy hf => by
    obtain ⟨n, k⟩ := y
    subst hf
    exact I.ok.has n (hb.frees _ hy rfl)
  refine wpAny_comprehension_free (g := ⟨tg, iter, ifs, 0⟩) (gs := gs) rfl hs (z7J hfree) hb.kind (fun x hx hl => ?_) ?_
  · obtain ⟨n, k⟩ := x
    subst hl
    exact z5M hb.nd hx
  unfold z7t at q
  cases hit : it0 σ O with
  | bad => rw [hit] at q; exact False.elim q
  | exc c' O' =>
    rw [hit] at q
    refine thn (hi.out pins s σv H (fun J H1 => False) I ⟨hid, μ, σ, O, e1, c1, by rw [hit]; exact q⟩) fun v s1 h1 => thn h1 fun itv s2 h2 => ?_
    obtain ⟨it, fp, tn, J, H2, e, I2, T, st2, f2, z⟩ := h2
    exact z.elim
  | ok src O2 =>
    rw [hit] at q
    refine thn (hi.out pins s σv H (fun J H1 => ∃ μ1, Ext H μ H1 μ1 /\ Cells X.K H1 hid μ1 O2 /\ SrcAt X.K J src H1 hid μ1) I ⟨hid, μ, σ, O, e1, c1, by rw [hit]; exact fun J H1 μ1 x c sa => ⟨μ1, x, c, sa⟩⟩) fun v s1 h1 => thn h1 fun itv s2 h2 => ?_
    obtain ⟨it, fp, tn, J, H2, e, I2, T, st2, f2, μ2, x2, c2, sa⟩ := h2
    subst e
    have p : zfZ Ex X.K H hid μ (noX (z5C src (z6I ⟨it0, g, ts⟩ cs te (clr (σ ++ List.replicate ext.length none) (z52 (⟨it0, g, ts⟩ :: cs)))) (src.size O2) 0 O2 [])) _ := q
    cases hw : noX (z5C src (z6I ⟨it0, g, ts⟩ cs te (clr (σ ++ List.replicate ext.length none) (z52 (⟨it0, g, ts⟩ :: cs)))) (src.size O2) 0 O2 []) with
    | bad => rw [hw] at p; exact False.elim p
    | exc c' O' => exact (zhp hw).elim
    | ok acc O3 =>
      rw [hw] at p
      refine zdh (RR := fun ac C => compPost (model X.prog X.w) X.A X.xe use Q ac C) hcalm hb blk I2 (e1.ext x2) c2 T st2 f2 sa (zjF hw) fun f s' Bh => ?_
      obtain ⟨H', μ', I', x', c', nL, nC, vs, hv, dv⟩ := Bh.inv
      have := p (s2.heap.objs.size) H' μ' (x2.none nL) (x2.trans x') c' ⟨vs, hv, dv⟩ s' (s2.heap.objs.size + 1) I' Bh.ns nC Bh.loc Bh.young Bh.cel Bh.pns
      unfold compPost at this ⊢
      cases use <;> exact this
theorem z9I {K : PySem.W.Frag} {H : Hp} {hid μ : List Addr} {O : Ow} {L : Addr} {vs : List V} {ds : List D} (c : Cells K H (L :: hid) μ O) (n1 : L ∉ hid) (h : H L = some (.lst vs)) (q : Dats K H (L :: hid) μ ds vs) : Dat K H hid μ (.lst ds) (.ref L) := by
  unfold Dat
  exact ⟨L, vs, rfl, .inl ⟨.inl h, n1, fun m => c.nh L m (by simp)⟩, q.mv .unhide⟩
mutual
theorem Dat.swap {K : PySem.W.Frag} {H : Hp} {hid μ : List Addr} {L : Addr} : ∀ {d : D} {v : V}, Dat K H (L :: hid) μ d v -> Dat K H hid (μ ++ [L]) d v
  | .non, _, h => h
  | .bl _, _, h => h
  | .int _, _, h => h
  | .str _, _, h => h
  | .lst ds, v, h => by
    unfold Dat at h ⊢
    obtain ⟨a, vs, r, l, q⟩ := h
    refine ⟨a, vs, r, l.imp (fun z => ⟨z.1, fun m => z.2.1 (List.mem_cons_of_mem _ m), fun m => ?_⟩) id, Dats.swap q⟩
    rcases List.mem_append.mp m with m | m
    · exact z.2.2 m
    · exact z.2.1 (by simp at m; simp [m])
  | .tup ds, v, h => by
    unfold Dat at h ⊢
    obtain ⟨a, vs, r, l, q⟩ := h
    refine ⟨a, vs, r, l.imp (fun z => ⟨z.1, fun m => z.2.1 (List.mem_cons_of_mem _ m), fun m => ?_⟩) id, Dats.swap q⟩
    rcases List.mem_append.mp m with m | m
    · exact z.2.2 m
    · exact z.2.1 (by simp at m; simp [m])
  | .own k, v, h => by
    unfold Dat at h ⊢
    obtain ⟨a, r, q⟩ := h
    exact ⟨a, r, by rw [List.getElem?_append_left (List.getElem?_eq_some_iff.mp q).1]; exact q⟩
  | .dct, v, h => by
    unfold Dat at h ⊢
    obtain ⟨a, r, q, n1, n2⟩ := h
    refine ⟨a, r, q, fun m => n1 (List.mem_cons_of_mem _ m), fun m => ?_⟩
    rcases List.mem_append.mp m with m | m
    · exact n2 m
    · exact n1 (by simp at m; simp [m])
  | .exn C, v, h => by
    unfold Dat at h ⊢
    obtain ⟨a, φ, r, g, q, n1, n2⟩ := h
    refine ⟨a, φ, r, g, q, fun m => n1 (List.mem_cons_of_mem _ m), fun m => ?_⟩
    rcases List.mem_append.mp m with m | m
    · exact n2 m
    · exact n1 (by simp at m; simp [m])
  | .tab P, v, h => by
    unfold Dat at h ⊢
    exact h
theorem Dats.swap {K : PySem.W.Frag} {H : Hp} {hid μ : List Addr} {L : Addr} : ∀ {ds : List D} {vs : List V}, Dats K H (L :: hid) μ ds vs -> Dats K H hid (μ ++ [L]) ds vs
  | [], _, h => h
  | d :: ds, vs, h => by
    unfold Dats at h ⊢
    obtain ⟨v, r, e1, h1, h2⟩ := h
    exact ⟨v, r, e1, Dat.swap h1, Dats.swap h2⟩
end
theorem Cells.swap {K : PySem.W.Frag} {H : Hp} {hid μ : List Addr} {O : Ow} {L : Addr} {vs : List V} {ds : List D} (c : Cells K H (L :: hid) μ O) (n1 : L ∉ hid) (h : H L = some (.lst vs)) (q : Dats K H (L :: hid) μ ds vs) : Cells K H hid (μ ++ [L]) (O ++ [ds]) := by
  have nm : L ∉ μ := fun m => c.nh L m (by simp)
  refine ⟨by simp [c.len], ?_, fun a m => ?_, fun a m => c.ht a (List.mem_cons_of_mem _ m), fun k a e => ?_⟩
  · rw [List.nodup_append]
    refine ⟨c.nd, by simp, fun a ha b hb => ?_⟩
    have : b = L := by simpa using hb
    subst this
    rintro rfl
    exact nm ha
  · rcases List.mem_append.mp m with m | m
    · exact fun z => c.nh a m (List.mem_cons_of_mem _ z)
    · have : a = L := by simpa using m
      subst this; exact n1
  · by_cases hk : k < μ.length
    · rw [List.getElem?_append_left hk] at e
      obtain ⟨ds', vs', h1, h2, h3⟩ := c.at_ k a e
      exact ⟨ds', vs', by rw [List.getElem?_append_left (by rw [<- c.len]; exact hk)]; exact h1, h2, h3.swap⟩
    · rw [List.getElem?_append_right (by omega)] at e
      have e0 : k - μ.length = 0 := by
        have := (List.getElem?_eq_some_iff.mp e).1
        simp at this; omega
      rw [e0] at e
      simp at e; subst e
      refine ⟨ds, vs, ?_, h, q.swap⟩
      have : k = O.length := by have := c.len; omega
      subst this; simp
theorem Ext.grow {H H' : Hp} {μ μ' : List Addr} (e : Ext H μ H' μ') {L : Addr} (h : H L = Option.none) : Ext H μ H' (μ' ++ [L]) := by
  obtain ⟨ν, rfl⟩ := e.pre
  refine ⟨⟨ν ++ [L], by simp⟩, e.kept, fun b m => ?_, e.there, e.tab⟩
  rcases List.mem_append.mp m with m | m
  · exact e.fresh b m
  · have : b = L := by simpa using m
    subst this; exact .inr h
def zdu (o : Bool) (r : R (List D)) : R D := r.bnd fun acc O1 => if o = true then .ok (.own O1.length) (O1 ++ [acc]) else .ok (.lst acc) O1
theorem zfS {K : PySem.W.Frag} {H : Hp} {hid μ : List Addr} {O : Ow} (c1 : Cells K H hid μ O) {r : R (List D)} {o : Bool} {Q : VK} (q : z5L Ex K H hid μ (zdu o r) Q) {Q1 : Addr -> Hp -> Prop} (h : ∀ L H', Q (.ref L) H' -> Q1 L H') : zfZ Ex K H hid μ r Q1 := by
  cases r with
  | bad => exact q
  | exc c' O' => exact q
  | ok acc O' =>
    intro L H' μ' nL x c ⟨vs, hv, dv⟩
    have n1 : L ∉ hid := fun m => c1.ht L m nL
    cases o with
    | false => exact h L H' (post.ok (show z5L Ex K H hid μ (.ok (.lst acc) O') Q from q) x c.unhide (z9I c n1 hv dv))
    | true => exact h L H' (post.ok (show z5L Ex K H hid μ (.ok (.own O'.length) (O' ++ [acc])) Q from q) (x.grow nL) (c.swap n1 hv dv) (z6K c.len))
theorem zeq {K : PySem.W.Frag} {H : Hp} {hid μ : List Addr} {O : Ow} (c1 : Cells K H hid μ O) {σ : Sg} {σv : St} (e1 : EnvOk K H hid μ σ σv) {r : R (List D)} {o : Bool} {i : Nat} {E : zds} (q : postS Ex K H hid μ ((zdu o r).bnS fun d O1 => .nx (σ.set i (some d)) O1) E) {Q1 : Addr -> Hp -> Prop} (h : ∀ L H', E.nx (σv.set i (some (.ref L))) H' -> Q1 L H') :
    zfZ Ex K H hid μ r Q1 := by
  cases r with
  | bad => exact q
  | exc c' O' => exact q
  | ok acc O' =>
    intro L H' μ' nL x c ⟨vs, hv, dv⟩
    have n1 : L ∉ hid := fun m => c1.ht L m nL
    cases o with
    | false =>
      have q : postS Ex K H hid μ (.nx (σ.set i (some (.lst acc))) O') E := q
      exact h L H' (q _ H' μ' x ((e1.ext x).set (z9I c n1 hv dv) i) c.unhide)
    | true =>
      have q : postS Ex K H hid μ (.nx (σ.set i (some (.own O'.length))) (O' ++ [acc])) E := q
      exact h L H' (q _ H' (μ' ++ [L]) (x.grow nL) ((e1.ext (x.grow nL)).set (z6K c.len) i) (c.swap n1 hv dv))
def z5I (o : Bool) (ext : Nat) (it0 : DI) (g : Tg) (ts : List DT) (cs : List Cl) (te : DE) : DE := fun σ O => zdu o (z7t ext it0 g ts cs te σ O)
theorem z6v {elt tg iter : Expr} {ifs : List Expr} {gs : List Comprehension} {scope : Scope} {pos : Pos} (o : Bool) (ext : List Str) {it0 : DI} {g : Tg} {ts : List DT} {cs : List Cl} {te : DE} (hcalm : X.calm = true) (hi : PDI X Ex tg iter it0) (hb : BOk X.env.scope scope (X.N ++ ext) (z52 (⟨it0, g, ts⟩ :: cs)))
    (blk : ∀ cells C s H fp, PG (cxB X (X.N ++ ext) scope cells C s H fp) tg (g.rd X.K) /\ PySem.Paired (fun e t => PDT (cxB X (X.N ++ ext) scope cells C s H fp) Ex0 e t) ifs ts /\ zb9 (cxB X (X.N ++ ext) scope cells C s H fp) gs cs /\ PD (cxB X (X.N ++ ext) scope cells C s H fp) Ex0 elt te)
    (hs : ∀ x, foldedSetIterable iter X.env x = pure x := by intro _; rfl) : PD X Ex (.ListComp elt (⟨tg, iter, ifs, 0⟩ :: gs) scope pos) (z5I o ext.length it0 g ts cs te) := by
  refine ⟨?_⟩
  rintro pins s σv H Q I ⟨hid, μ, σ, O, e1, c1, q⟩
  rw [eval_ListComp]
  refine zcD (use := none) hcalm hi hb blk hs I e1 c1 (zfS c1 q fun L H' hQ s' C I' ns nC l1 y1 ce pn => ?_)
  obtain ⟨m, hn⟩ := ns
  exact ⟨m, hn, fun h' hs' => ⟨.ref L, H', Inv.bare I' hs' nC l1 y1 ce pn, rfl, hQ⟩⟩
theorem z6w {elt tg iter : Expr} {ifs : List Expr} {gs : List Comprehension} {scope : Scope} {pos spos py : Pos} {y : Str} {i : Nat} (o : Bool) (ext : List Str) {it0 : DI} {g : Tg} {ts : List DT} {cs : List Cl} {te : DE} (hcalm : X.calm = true) (hN : X.N.Nodup) (hiy : X.N[i]? = some y) (hy : X.env.scope.names.lookup y = some .local)
    (hi : PDI X Ex tg iter it0) (hb : BOk X.env.scope scope (X.N ++ ext) (z52 (⟨it0, g, ts⟩ :: cs)))
    (blk : ∀ cells C s H fp, PG (cxB X (X.N ++ ext) scope cells C s H fp) tg (g.rd X.K) /\ PySem.Paired (fun e t => PDT (cxB X (X.N ++ ext) scope cells C s H fp) Ex0 e t) ifs ts /\ zb9 (cxB X (X.N ++ ext) scope cells C s H fp) gs cs /\ PD (cxB X (X.N ++ ext) scope cells C s H fp) Ex0 elt te)
    (hsw : swapsWith (.ListComp elt (⟨tg, iter, ifs, 0⟩ :: gs) scope pos) (some (.Name y py)) spos.line X.env = pure true)
    (hs : ∀ x, foldedSetIterable iter X.env x = pure x := by intro _; rfl) : PDS X Ex (.Assign [.Name y py] (.ListComp elt (⟨tg, iter, ifs, 0⟩ :: gs) scope pos) spos) (z5n i (z5I o ext.length it0 g ts cs te)) := by
  refine ⟨?_⟩
  rintro pins s σv H E I ⟨hid, μ, σ, O, e1, c1, q⟩
  rw [exec_Assign_Name_used _ _ _ _ hsw]
  refine wpAny_bind (wpAny_standAt (wpAny_bind ?_))
  show wpAny _ X.A (do let _ <- comprehension (.ListComp elt (⟨tg, iter, ifs, 0⟩ :: gs) scope pos) scope X.env _ (newList []) false (eval iter X.env) (some (assign (.Name y py) X.env))) _ _ s
  refine wpAny_bind (wpAny_mono (zcD (use := some (assign (.Name y py) X.env)) (Q := fun _ s' => SP X pins E .next s') hcalm hi hb blk hs I e1 c1 (zeq c1 e1 q fun L H' hQ s' C I' ns nC l1 y1 ce pn => ?_)) (fun _ s' hq => wpAny_pure (wpAny_pure hq)) fun _ _ e => e)
  obtain ⟨m, hn⟩ := ns
  show wpAny _ _ (assign (.Name y py) X.env (.ref L)) _ _ s'
  refine wpAny_assign_Name (zbm (v := .ref L) I' hN hiy (.inl hy) rfl (fun s'' I'' hsame => ?_) (.inr hy))
  obtain ⟨a, hsb, ha⟩ := hsame
  have hCa : C ≠ a := by
    rcases ha with z | z
    · rw [z]; exact l1
    · exact fun e => ce y a z e.symm
  refine ⟨m, hn.sameBut hsb hCa, fun h' hs' => ?_⟩
  exact ⟨_, H', Inv.bare I'' hs' nC l1 y1 ce pn, hQ⟩
end
end DL
namespace DL
open PySem L2
def z6Q {α β : Type} (f : α -> Option β) : List α -> Option (List β)
  | [] => some []
  | x :: xs => match f x, z6Q f xs with
    | some p, some ps => some (p :: ps)
    | _, _ => none
def zio (cs : List Nat) : Option PyData := if cs.all (· < 1114112) = true then some (.str ⟨cs.toArray⟩) else none
def z8C (O : Ow) : Nat -> D -> Option PyData
  | 0, d => match d with
    | .non => some .none
    | .bl b => some (.bool b)
    | .int i => some (.int i)
    | .str cs => zio cs
    | _ => none
  | n + 1, d => match d with
    | .non => some .none
    | .bl b => some (.bool b)
    | .int i => some (.int i)
    | .str cs => zio cs
    | .lst ds => (z6Q (z8C O n) ds).map .list
    | .tup ds => (z6Q (z8C O n) ds).map .tuple
    | .own k => match O[k]? with
      | some ds => (z6Q (z8C O n) ds).map .list
      | none => none
    | .dct => none
    | .exn _ => none
    | .tab _ => none
section
variable {X : Cx} {pins : List (Addr × Obj)} {σv : St} {H : Hp} {s : Shared} {hid μ : List Addr} {O : Ow}
theorem z71 {n : Nat} (I : L2.Inv X pins σv H s) (ih : ∀ (d : D) (v : V) (u : Value) (p : PyData), Dat X.K H hid μ d v -> RelV v u -> z8C O n d = some p -> ∃ as, Reads s.heap u p as /\ p.canLay0 = true /\ p.depth <= n) :
    ∀ (ds : List D) (vs : List V) (us : List Value) (ps : List PyData), Dats X.K H hid μ ds vs -> Vals vs us -> z6Q (z8C O n) ds = some ps -> ∃ as, ReadsAll s.heap us ps as /\ PyData.canLayAll0 ps = true /\ PyData.depthAll ps <= n
  | [], vs, us, ps, h, r, e => by
    unfold Dats at h; subst h
    cases r
    cases e
    exact ⟨[], .nil, rfl, Nat.zero_le _⟩
  | d :: ds, vs, us, ps, h, r, e => by
    unfold Dats at h
    obtain ⟨v, t, rfl, h1, h2⟩ := h
    cases r with
    | cons r1 r2 =>
      unfold z6Q at e
      split at e
      · rename_i p ps' e1 e2
        cases e
        obtain ⟨as, q1, q2, q3⟩ := ih d v _ p h1 r1 e1
        obtain ⟨bs, z1, z2, z3⟩ := z71 I ih ds t _ ps' h2 r2 e2
        refine ⟨as ++ bs, .cons q1 z1, ?_, ?_⟩
        · unfold PyData.canLayAll0; rw [q2, z2]; rfl
        · unfold PyData.depthAll; exact Nat.max_le.mpr ⟨q3, z3⟩
      · cases e
theorem z9F {n : Nat} {cs : List Nat} {t : Tok} {p : PyData} (e : zio cs = some p) : ∃ as, Reads s.heap (.str ⟨cs.toArray⟩ t) p as /\ p.canLay0 = true /\ p.depth <= n := by
  unfold zio at e
  split at e
  · rename_i hc
    cases e
    exact ⟨[], .str _ _, by unfold PyData.canLay0 PyData.strOk; simpa using hc, Nat.zero_le _⟩
  · cases e
theorem z68 (I : L2.Inv X pins σv H s) (c : Cells X.K H hid μ O) : ∀ (n : Nat) (d : D) (v : V) (u : Value) (p : PyData), Dat X.K H hid μ d v -> RelV v u -> z8C O n d = some p -> ∃ as, Reads s.heap u p as /\ p.canLay0 = true /\ p.depth <= n := by
  intro n
  induction n with
  | zero =>
    intro d v u p h r e
    cases d with
    | non => unfold Dat at h; subst h; cases r; cases e; exact ⟨[], .none, rfl, Nat.zero_le _⟩
    | bl b => unfold Dat at h; subst h; cases r; cases e; exact ⟨[], .bool _, rfl, Nat.zero_le _⟩
    | int b => unfold Dat at h; subst h; obtain ⟨t, rfl⟩ := r; cases e; exact ⟨[], .int _ _, rfl, Nat.zero_le _⟩
    | str cs =>
      unfold Dat at h; subst h; obtain ⟨t, rfl⟩ := r
      exact z9F (show zio cs = some p from e)
    | _ => cases e
  | succ n ih =>
    intro d v u p h r e
    cases d with
    | non => unfold Dat at h; subst h; cases r; cases e; exact ⟨[], .none, rfl, Nat.zero_le _⟩
    | bl b => unfold Dat at h; subst h; cases r; cases e; exact ⟨[], .bool _, rfl, Nat.zero_le _⟩
    | int b => unfold Dat at h; subst h; obtain ⟨t, rfl⟩ := r; cases e; exact ⟨[], .int _ _, rfl, Nat.zero_le _⟩
    | str cs =>
      unfold Dat at h; subst h; obtain ⟨t, rfl⟩ := r
      exact z9F (show zio cs = some p from e)
    | lst ds =>
      unfold Dat at h
      obtain ⟨a, vs, rfl, l, q⟩ := h
      cases r
      have e : (z6Q (z8C O n) ds).map PyData.list = some p := e
      cases e1 : z6Q (z8C O n) ds with
      | none => rw [e1] at e; cases e
      | some ps =>
        rw [e1] at e; cases e
        obtain ⟨its, rv, ⟨o, k, ho, hc, hd, hdt⟩, hz⟩ := I.list l.sq
        obtain ⟨as, z1, z2, z3⟩ := z71 I ih ds vs its ps q rv e1
        exact ⟨_, .list ho hc hdt (by simpa using z1), by unfold PyData.canLay0; exact z2, by unfold PyData.depth; omega⟩
    | tup ds =>
      unfold Dat at h
      obtain ⟨a, vs, rfl, l, q⟩ := h
      cases r
      have e : (z6Q (z8C O n) ds).map PyData.tuple = some p := e
      cases e1 : z6Q (z8C O n) ds with
      | none => rw [e1] at e; cases e
      | some ps =>
        rw [e1] at e; cases e
        obtain ⟨its, rv, ⟨o, ho, hc, k, hdt⟩, hz⟩ := I.tuple l.sq
        obtain ⟨as, z1, z2, z3⟩ := z71 I ih ds vs its ps q rv e1
        exact ⟨_, .tuple ho hc hdt (by simpa using z1), by unfold PyData.canLay0; exact z2, by unfold PyData.depth; omega⟩
    | own k =>
      unfold Dat at h
      obtain ⟨a, rfl, hk⟩ := h
      cases r
      obtain ⟨ds, vs, h1, h2, h3⟩ := c.at_ k a hk
      have e : (match O[k]? with | some ds => (z6Q (z8C O n) ds).map PyData.list | none => none) = some p := e
      rw [h1] at e
      cases e1 : z6Q (z8C O n) ds with
      | none => simp only [e1] at e; cases e
      | some ps =>
        simp only [e1] at e; cases e
        obtain ⟨its, rv, ⟨o, k', ho, hc, hd, hdt⟩, hz⟩ := I.list (.of h2)
        obtain ⟨as, z1, z2, z3⟩ := z71 I ih ds vs its ps h3 rv e1
        exact ⟨_, .list ho hc hdt (by simpa using z1), by unfold PyData.canLay0; exact z2, by unfold PyData.depth; omega⟩
    | dct => cases e
    | exn _ => cases e
    | tab _ => cases e
end
def py (O : Ow) (d : D) : Option PyData := z8C O 8 d
def rPy (K : PySem.W.Frag) (f : PyData -> PyData -> Option Bool) : R2 := fun v w H Q => ∃ hid μ O x y a b k, Cells K H hid μ O /\ Dat K H hid μ x v /\ Dat K H hid μ y w /\ py O x = some a /\ py O y = some b /\ f a b = some k /\ Q (.bl k) H
def fPy (f : PyData -> PyData -> Option Bool) : Ow -> D -> D -> R D := fun O x y => match py O x, py O y with
  | some a, some b => match f a b with
    | some k => .ok (.bl k) O
    | none => .bad
  | _, _ => .bad
section
variable {X : Cx} {Ex : Nat -> Hp -> Prop}
theorem z69 {f : PyData -> PyData -> Option Bool} : OpD X Ex (rPy X.K f) (fPy f) := by
  intro H hid μ O x y v w Q c dx dy q
  unfold fPy at q
  split at q
  · rename_i a b e1 e2
    split at q
    · rename_i k e3
      exact ⟨hid, μ, O, x, y, a, b, k, c, dx, dy, e1, e2, e3, post.here q c z6c⟩
    · exact False.elim q
  · exact False.elim q
def eqF : PyData -> PyData -> Option Bool := fun a b => some (PyData.eqv a b)
def neF : PyData -> PyData -> Option Bool := fun a b => some (!PyData.eqv a b)
def inF : PyData -> PyData -> Option Bool := fun a b => match b with
  | .list xs => some (xs.any fun y => PyData.eqv y a)
  | .tuple xs => some (xs.any fun y => PyData.eqv y a)
  | _ => none
def zjV : PyData -> PyData -> Option Bool := fun a b => match b with
  | .list xs => some (!xs.any fun y => PyData.eqv y a)
  | .tuple xs => some (!xs.any fun y => PyData.eqv y a)
  | _ => none
theorem zad {p : PyData} (h1 : p.canLay0 = true) (h2 : p.depth <= 8) : SeqAt.shaped p = true := by
  unfold SeqAt.shaped
  rw [h1, decide_eq_true (show p.depth <= 64 by omega)]; rfl
theorem z6S (hu : X.A.units + 64 < cLine) : OpR X (compareOp .Eq) (rPy X.K eqF) := by
  intro pins s σ H x y v u Q I rx ry h
  obtain ⟨hid, μ, O, dx, dy, a, b, k, c, h1, h2, e1, e2, e3, q⟩ := h
  obtain ⟨as, z1, z2, z3⟩ := z68 I c 8 dx x v a h1 rx e1
  obtain ⟨bs, y1, y2, y3⟩ := z68 I c 8 dy y u b h2 ry e2
  cases e3
  exact PyProof.Rows.eq_dataH z1 y1 (zad z2 z3) (zad y2 y3) hu ⟨.bl _, H, I, rfl, q⟩
theorem z7b (hu : X.A.units + 64 < cLine) : OpR X (compareOp .NotEq) (rPy X.K neF) := by
  intro pins s σ H x y v u Q I rx ry h
  obtain ⟨hid, μ, O, dx, dy, a, b, k, c, h1, h2, e1, e2, e3, q⟩ := h
  obtain ⟨as, z1, z2, z3⟩ := z68 I c 8 dx x v a h1 rx e1
  obtain ⟨bs, y1, y2, y3⟩ := z68 I c 8 dy y u b h2 ry e2
  cases e3
  exact PyProof.Rows.ne_dataH z1 y1 (zad z2 z3) (zad y2 y3) hu ⟨.bl _, H, I, rfl, q⟩
theorem zfV {A : Around} {n m : Nat} (h : m <= 8) (hu : A.units + 64 < cLine) : A.units + 1 + min n m < cLine := by
  have := Nat.min_le_right n m
  omega
theorem zhk (hu : X.A.units + 64 < cLine) : OpR X (compareOp .In) (rPy X.K inF) := by
  intro pins s σ H x y v u Q I rx ry h
  obtain ⟨hid, μ, O, dx, dy, a, b, k, c, h1, h2, e1, e2, e3, q⟩ := h
  obtain ⟨as, z1, z2, z3⟩ := z68 I c 8 dx x v a h1 rx e1
  obtain ⟨bs, y1, y2, y3⟩ := z68 I c 8 dy y u b h2 ry e2
  cases b with
  | list xs => cases e3; exact SeqAt.in_list_reads y1 z1 y2 z2 (zfV z3 hu) ⟨.bl _, H, I, rfl, q⟩
  | tuple xs => cases e3; exact SeqAt.in_tuple_reads y1 z1 y2 z2 (zfV z3 hu) ⟨.bl _, H, I, rfl, q⟩
  | _ => cases e3
theorem zfY (hu : X.A.units + 64 < cLine) : OpR X (compareOp .NotIn) (rPy X.K zjV) := by
  intro pins s σ H x y v u Q I rx ry h
  obtain ⟨hid, μ, O, dx, dy, a, b, k, c, h1, h2, e1, e2, e3, q⟩ := h
  obtain ⟨as, z1, z2, z3⟩ := z68 I c 8 dx x v a h1 rx e1
  obtain ⟨bs, y1, y2, y3⟩ := z68 I c 8 dy y u b h2 ry e2
  cases b with
  | list xs => cases e3; exact SeqAt.notIn_list_reads y1 z1 y2 z2 (zfV z3 hu) ⟨.bl _, H, I, rfl, q⟩
  | tuple xs => cases e3; exact SeqAt.notIn_tuple_reads y1 z1 y2 z2 (zfV z3 hu) ⟨.bl _, H, I, rfl, q⟩
  | _ => cases e3
end
end DL
namespace DL
open PySem L2
section
variable {X : Cx} {Ex : Nat -> Hp -> Prop} {pos : Pos} {a b c e : Expr} {ta tb tc te : DE}
def lsV (O : Ow) : D -> Option (List D)
  | .lst ds => some ds
  | .own k => O[k]?
  | _ => none
def tpV : D -> Option (List D)
  | .tup ds => some ds
  | _ => none
theorem z6V {K : PySem.W.Frag} {H : Hp} {hid μ : List Addr} {O : Ow} {d : D} {v : V} {ds : List D} (cl : Cells K H hid μ O) (h : Dat K H hid μ d v) (e : lsV O d = some ds) : ∃ p vs, v = .ref p /\ SqL K H p vs /\ Dats K H hid μ ds vs := by
  cases d with
  | lst xs =>
    unfold Dat at h
    obtain ⟨p, vs, rfl, l, q⟩ := h
    cases e
    exact ⟨p, vs, rfl, l.sq, q⟩
  | own k =>
    unfold Dat at h
    obtain ⟨p, rfl, hk⟩ := h
    obtain ⟨ds', vs, h1, h2, h3⟩ := cl.at_ k p hk
    have e : O[k]? = some ds := e
    rw [h1] at e; cases e
    exact ⟨p, vs, rfl, .of h2, h3⟩
  | _ => cases e
theorem zaE {K : PySem.W.Frag} {H : Hp} {hid μ : List Addr} {d : D} {v : V} {ds : List D} (h : Dat K H hid μ d v) (e : tpV d = some ds) : ∃ p vs, v = .ref p /\ SqT K H p vs /\ Dats K H hid μ ds vs := by
  cases d with
  | tup xs =>
    unfold Dat at h
    obtain ⟨p, vs, rfl, l, q⟩ := h
    cases e
    exact ⟨p, vs, rfl, l.sq, q⟩
  | _ => cases e
def zlz : Ow -> D -> D -> R D := fun O x y => match x, y with
  | .str s, .str t => if s.length + t.length <= 100000 then .ok (.str (s ++ t)) O else .bad
  | _, _ => .bad
end
theorem zcR {K : PySem.W.Frag} {H : Hp} {hid μ : List Addr} {ds : List D} {vs : List V} (h : Dats K H hid μ ds vs) {i : Int} {d : D} (e : atI ds i = some d) : ∃ v, atI vs i = some v /\ Dat K H hid μ d v := by
  unfold atI at e ⊢
  rw [<- h.length]
  cases q : ixN ds.length i with
  | none => rw [q] at e; cases e
  | some j => rw [q] at e; exact h.get e
def fIx : Ow -> D -> D -> R D := fun O x y => match y with
  | .int i => match lsV O x with
    | some ds => match atI ds i with
      | some d => .ok d O
      | none => .bad
    | none => match tpV x with
      | some ds => match atI ds i with
        | some d => .ok d O
        | none => .bad
      | none => match x with
        | .str cs => if cs.length <= 100000 then match atI cs i with
            | some ch => .ok (.str [ch]) O
            | none => .bad
          else .bad
        | _ => .bad
  | _ => .bad
section
variable {X : Cx} {Ex : Nat -> Hp -> Prop} {pos : Pos} {a b c e : Expr} {ta tb tc te : DE}
theorem ziB : OpD X Ex (rIx X.K) fIx := by
  intro H hid μ O x y v w Q c dx dy q
  unfold fIx at q
  split at q
  · rename_i i
    unfold Dat at dy; subst dy
    split at q
    · rename_i ds e
      obtain ⟨p, vs, rfl, sq, dd⟩ := z6V c dx e
      split at q
      · rename_i d ed
        obtain ⟨z, h1, h2⟩ := zcR dd ed
        exact .inl ⟨p, vs, i, z, rfl, rfl, sq, h1, post.here q c h2⟩
      · exact False.elim q
    · split at q
      · rename_i ds e
        obtain ⟨p, vs, rfl, sq, dd⟩ := zaE dx e
        split at q
        · rename_i d ed
          obtain ⟨z, h1, h2⟩ := zcR dd ed
          exact .inr (.inl ⟨p, vs, i, z, rfl, rfl, sq, h1, post.here q c h2⟩)
        · exact False.elim q
      · split at q
        · rename_i cs _ _
          unfold Dat at dx; subst dx
          obtain ⟨hl, q⟩ := post.ite q
          split at q
          · rename_i ch ed
            refine .inr (.inr ⟨_, i, ch, rfl, rfl, ?_, ?_, post.here q c zeo⟩)
            · show cs.toArray.size <= _
              rw [List.size_toArray]; exact z5w hl
            · simpa using ed
          · exact False.elim q
        · exact False.elim q
  · exact False.elim q
theorem z6z (ha : PD X Ex a ta) (hb : PD X Ex b tb) (hs : zdC b) : PD X Ex (.Subscript a b pos) (dOp fIx ta tb) := z5Y (zkh ziS ha.out hb.out hs) (zcT ziB)
def z4N (f : Ow -> List D -> R D) (t : DA) : DE := fun σ O => (t σ O).bnd fun xs O1 => f O1 xs
def z87 (X : Cx) (Ex : Nat -> Hp -> Prop) (r : List V -> Hp -> VK -> Prop) (f : Ow -> List D -> R D) : Prop := ∀ (H : Hp) (hid μ : List Addr) (O : Ow) (xs : List D) (vs : List V) (Q : VK), Cells X.K H hid μ O -> Dats X.K H hid μ xs vs -> z5L Ex X.K H hid μ (f O xs) Q -> r vs H Q
theorem zgM {r : List V -> Hp -> VK -> Prop} {f : Ow -> List D -> R D} {t : DA} (h : z87 X Ex r f) (hid μ : List Addr) (σ : Sg) (O : Ow) (σv : St) (H : Hp) (Q : VK) (e1 : EnvOk X.K H hid μ σ σv) (c1 : Cells X.K H hid μ O) (q : z5L Ex X.K H hid μ (z4N f t σ O) Q) : tCB r (rdA Ex X.K t) σv H Q :=
  rdA.go e1 c1 q fun xs O1 vs H1 μ1 e2 x c d p => h H1 hid μ1 O1 xs vs Q c d p
theorem z5a {x : Str} {id : String} {p : Pos} {es : List Expr} {r : List V -> Hp -> VK -> Prop} {f : Ow -> List D -> R D} {t : DA} (hc : CallR X (.builtin id) r) (h : z87 X Ex r f) (hg : Gl X x) (hm : X.mg x = none) (hv : bootBuiltins x = some (.builtin id)) (ha : PDA X Ex (e :: es) t)
    (hn : x ≠ "__name__" := by decide) (hdb : (x == ("__debug__" : Str)) = false := by decide) (he : starEach (e :: es) X.env = (false, eval e X.env) :: starEach es X.env := by rfl) (hpl : (backTo pos (starEach es X.env)).any (·.1) = false := by rfl) :
    PD X Ex (.Call (.Name x p) (e :: es) [] pos) (z4N f t) := z5Y (z7g hc hg hm hv ha.out hn hdb he hpl) (zgM h)
theorem z6A {x : Str} {T : String} {p : Pos} {es : List Expr} {r : List V -> Hp -> VK -> Prop} {f : Ow -> List D -> R D} {t : DA} (hc : CallR X (.type T) r) (h : z87 X Ex r f) (hg : Gl X x) (hm : X.mg x = none) (hv : bootBuiltins x = some (.type T)) (ha : PDA X Ex (e :: es) t)
    (hn : x ≠ "__name__" := by decide) (hdb : (x == ("__debug__" : Str)) = false := by decide) (he : starEach (e :: es) X.env = (false, eval e X.env) :: starEach es X.env := by rfl) (hpl : (backTo pos (starEach es X.env)).any (·.1) = false := by rfl) :
    PD X Ex (.Call (.Name x p) (e :: es) [] pos) (z4N f t) := z5Y (zb3 hc hg hm hv ha.out hn hdb he hpl) (zgM h)
def z5T : Ow -> List D -> R D := fun O xs => match xs with
  | [x] => match lsV O x with
    | some ds => .ok (.int ds.length) O
    | none => match tpV x with
      | some ds => .ok (.int ds.length) O
      | none => match x with
        | .str cs => if cs.length <= 100000 then .ok (.int cs.length) O else .bad
        | _ => .bad
  | _ => .bad
theorem z6h : z87 X Ex (fun xs H Q => ∃ x n, xs = [x] /\ zl4 X.K x H n /\ Q (.int n) H) z5T := by
  intro H hid μ O xs vs Q c d q
  unfold z5T at q
  split at q
  · rename_i x
    obtain ⟨v, rfl, dx⟩ := z7Q d
    split at q
    · rename_i ds e
      obtain ⟨p, ws, rfl, sq, dd⟩ := z6V c dx e
      exact ⟨_, ds.length, rfl, .inl ⟨ws, sq, dd.length⟩, post.here q c z5v⟩
    · split at q
      · rename_i ds e
        obtain ⟨p, ws, rfl, sq, dd⟩ := zaE dx e
        exact ⟨_, ds.length, rfl, .inr ⟨ws, sq, dd.length⟩, post.here q c z5v⟩
      · split at q
        · rename_i cs _ _
          unfold Dat at dx; subst dx
          obtain ⟨hl, q⟩ := post.ite q
          refine ⟨_, cs.length, rfl, ⟨?_, ?_⟩, post.here q c z5v⟩
          · show cs.toArray.size <= _
            rw [List.size_toArray]; exact z5w hl
          · show cs.length = cs.toArray.size
            rw [List.size_toArray]
        · exact False.elim q
  · exact False.elim q
def zkl : Ow -> List D -> R D := fun O xs => match xs with
  | [.int i] => .ok (.int i) O
  | [.bl k] => .ok (.int (if k then 1 else 0)) O
  | _ => .bad
theorem ziI : z87 X Ex (fun xs H Q => (∃ i, xs = [.int i] /\ Q (.int i) H) \/ ∃ k, xs = [.bl k] /\ Q (.int (if k then 1 else 0)) H) zkl := by
  intro H hid μ O xs vs Q c d q
  unfold zkl at q
  split at q
  · obtain ⟨v, rfl, dx⟩ := z7Q d
    unfold Dat at dx; subst dx
    exact .inl ⟨_, rfl, post.here q c z5v⟩
  · obtain ⟨v, rfl, dx⟩ := z7Q d
    unfold Dat at dx; subst dx
    exact .inr ⟨_, rfl, post.here q c z5v⟩
  · exact False.elim q
def z8h : Ow -> List D -> R D := fun O xs => match xs with
  | [x] => match lsV O x with
    | some ds => .ok (.tup ds) O
    | none => match tpV x with
      | some ds => .ok (.tup ds) O
      | none => .bad
  | _ => .bad
theorem za6 : z87 X Ex (fun xs H Q => ∃ p ys, xs = [.ref p] /\ ((SqL X.K H p ys /\ ∀ l, H l = none -> Q (.ref l) (upd H l (.tup ys))) \/ (SqT X.K H p ys /\ Q (.ref p) H))) z8h := by
  intro H hid μ O xs vs Q c d q
  unfold z8h at q
  split at q
  · rename_i x
    obtain ⟨v, rfl, dx⟩ := z7Q d
    split at q
    · rename_i ds e
      obtain ⟨p, ws, rfl, sq, dd⟩ := z6V c dx e
      exact ⟨p, ws, rfl, .inl ⟨sq, fun l hl => post.ok q (.laid hl) (c.laid hl) (Dat.newT c hl dd)⟩⟩
    · split at q
      · rename_i ds e
        obtain ⟨p, ws, rfl, sq, dd⟩ := zaE dx e
        refine ⟨p, ws, rfl, .inr ⟨sq, post.here q c ?_⟩⟩
        cases x with
        | tup ys => cases e; exact dx
        | _ => cases e
      · exact False.elim q
  · exact False.elim q
def zaQ (o : Bool) : Ow -> List D -> R D := fun O xs => match xs with
  | [x] => match (match lsV O x with | some ds => some ds | none => tpV x) with
    | some ds => if o = true then .ok (.own O.length) (O ++ [ds]) else .ok (.lst ds) O
    | none => .bad
  | _ => .bad
theorem zdL (o : Bool) : z87 X Ex (fun xs H Q => ∃ p ys, xs = [.ref p] /\ (SqL X.K H p ys \/ SqT X.K H p ys) /\ ∀ l, H l = none -> Q (.ref l) (upd H l (.lst ys))) (zaQ o) := by
  intro H hid μ O xs vs Q c d q
  unfold zaQ at q
  split at q
  · rename_i x
    obtain ⟨v, rfl, dx⟩ := z7Q d
    split at q
    · rename_i ds e
      have h : ∃ p ws, v = .ref p /\ (SqL X.K H p ws \/ SqT X.K H p ws) /\ Dats X.K H hid μ ds ws := by
        cases e1 : lsV O x with
        | some es =>
          rw [e1] at e; cases e
          obtain ⟨p, ws, h1, sq, dd⟩ := z6V c dx e1
          exact ⟨p, ws, h1, .inl sq, dd⟩
        | none =>
          rw [e1] at e
          obtain ⟨p, ws, h1, sq, dd⟩ := zaE dx e
          exact ⟨p, ws, h1, .inr sq, dd⟩
      obtain ⟨p, ws, rfl, sq, dd⟩ := h
      refine ⟨p, ws, rfl, sq, fun l hl => ?_⟩
      cases o with
      | true => exact post.ok (show z5L Ex X.K H hid μ (.ok (.own O.length) (O ++ [ds])) Q from q) (.cell hl) (c.cell hl dd) (z6K c.len)
      | false => exact post.ok (show z5L Ex X.K H hid μ (.ok (.lst ds) O) Q from q) (.laid hl) (c.laid hl) (Dat.newL c hl dd)
    · exact False.elim q
  · exact False.elim q
def zdj : Ow -> List D -> R D := fun O xs => match xs with
  | [.int i, .int j] => .ok (.int (if j > i then j else i)) O
  | _ => .bad
def zd8 : Ow -> List D -> R D := fun O xs => match xs with
  | [.int i, .int j] => .ok (.int (if j < i then j else i)) O
  | _ => .bad
theorem zhw : z87 X Ex (fun xs H Q => ∃ i j, xs = [.int i, .int j] /\ Q (.int (if j > i then j else i)) H) zdj := by
  intro H hid μ O xs vs Q c d q
  unfold zdj at q
  split at q
  · obtain ⟨v, w, rfl, d1, d2⟩ := zd3 d
    unfold Dat at d1 d2; subst d1; subst d2
    exact ⟨_, _, rfl, post.here q c z5v⟩
  · exact False.elim q
theorem zi5 : z87 X Ex (fun xs H Q => ∃ i j, xs = [.int i, .int j] /\ Q (.int (if j < i then j else i)) H) zd8 := by
  intro H hid μ O xs vs Q c d q
  unfold zd8 at q
  split at q
  · obtain ⟨v, w, rfl, d1, d2⟩ := zd3 d
    unfold Dat at d1 d2; subst d1; subst d2
    exact ⟨_, _, rfl, post.here q c z5v⟩
  · exact False.elim q
end
def DSp (K : PySem.W.Frag) (Ec : XK -> Nat -> Hp -> Prop) (n : Nat) (F : List D -> Ow -> R D) : Sp := fun vs H Q E => vs.length = n /\ ∃ hid μ ds O, Dats K H hid μ ds vs /\ Cells K H hid μ O /\ z5L (Ec E) K H hid μ (F ds O) Q
abbrev Ec0 : XK -> Nat -> Hp -> Prop := fun _ _ _ => False
section
variable {X : Cx} {CX : CXT} {k : Nat} {f : Addr} {fd : FuncData} {ps : List Str} {E : XK} {Ec : XK -> Nat -> Hp -> Prop} {x : Str} {p pos : Pos} {e : Expr} {es : List Expr} {t : DA} {F : List D -> Ow -> R D} {n : Nat}
def dFn (n : Nat) (F : List D -> Ow -> R D) (t : DA) : DE := fun σ O => (t σ O).bnd fun ds O1 => if ds.length = n then F ds O1 else .bad
theorem zkj (G : FnOk X.prog X.w X.K X.mg X.base CX k f fd ps (DSp X.K Ec n F)) (hr : Room k X.A) (hg : Gl X x) (hm : X.mg x = some (.ref f)) (hk : PySem.W.keepIn X.K (.ref f) = true) (hb : Binds X.K fd ps []) (hx : z9x CX X E) (ha : PDA X (Ec E) (e :: es) t)
    (hdb : (x == ("__debug__" : Str)) = false := by decide) (he : starEach (e :: es) X.env = (false, eval e X.env) :: starEach es X.env := by rfl) (hpl : (backTo pos (starEach es X.env)).any (·.1) = false := by rfl) :
    PD X (Ec E) (.Call (.Name x p) (e :: es) [] pos) (dFn n F t) :=
  z5Y (zi6 (dvs := []) (ds := []) G hr hg hm hk hb .nil hx ha.out hdb he hpl) fun hid μ σ O σv H Q e1 c1 q => rdA.go e1 c1 q fun ds O1 vs H1 μ1 e2 x2 c2 d2 q2 => by
    obtain ⟨hl, q2⟩ := post.ite q2
    refine ⟨by rw [List.append_nil, <- d2.length]; exact hl, hid, μ1, ds, O1, ?_, c2, q2⟩
    rw [List.append_nil]; exact d2
end
def fin (r : RS) : R D := match r with
  | .nx _ O => .ok .non O
  | .rt d O => .ok d O
  | .exc c O => .exc c O
  | _ => .bad
def z7l (n : Nat) (t : DS) : List D -> Ow -> R D := fun ds O => fin (t (ds.map some ++ List.replicate (n - ds.length) none) O)
theorem z8M {K : PySem.W.Frag} {H : Hp} {hid μ : List Addr} {ds : List D} {vs : List V} (h : Dats K H hid μ ds vs) (N : List Str) : EnvOk K H hid μ (ds.map some ++ List.replicate (N.length - ds.length) none) (L2.start N vs) := by
  unfold L2.start
  have hl := h.length
  refine ⟨by simp [hl], fun i d e => ?_⟩
  have hi : i < ds.length := by
    by_cases hi : i < ds.length
    · exact hi
    · rw [List.getElem?_append_right (by simpa using hi), List.getElem?_replicate] at e
      split at e <;> cases e
  rw [List.getElem?_append_left (by simpa using hi), List.getElem?_map] at e
  cases q : ds[i]? with
  | none => rw [q] at e; cases e
  | some d' =>
    rw [q] at e; cases e
    obtain ⟨v, h1, h2⟩ := h.get q
    exact ⟨v, by rw [List.getElem?_append_left (by simp; omega), List.getElem?_map, h1]; rfl, h2⟩
end DL
namespace DL
open PySem L2
def z7j : D -> String
  | .non => "NoneType"
  | .bl _ => "bool"
  | .int _ => "int"
  | .str _ => "str"
  | .lst _ => "list"
  | .own _ => "list"
  | .tup _ => "tuple"
  | .dct => "dict"
  | .exn _ => "exception"
  | .tab _ => "bool"
def zby (t c : String) : Bool := t == c || (t == "bool" && c == "int")
section
variable {X : Cx} {Ex : Nat -> Hp -> Prop} {pos : Pos} {a b c e : Expr} {ta tb tc te : DE} {pins : List (Addr × Obj)} {σv : St} {H : Hp} {s : Shared} {hid μ : List Addr} {O : Ow}
def z8F : List String := ["NoneType", "bool", "int", "str", "list", "tuple", "dict"]
theorem z73 (K : PySem.W.Frag) {t c : String} (ht : t ∈ z8F) (hc : c ∈ ["int", "bool", "str", "list", "tuple", "dict"]) : PySem.W.kitOne K (.type t) (.type c) = some (zby t c) := by
  simp only [z8F, List.mem_cons, List.not_mem_nil, or_false] at ht hc
  rcases ht with rfl | rfl | rfl | rfl | rfl | rfl | rfl <;> rcases hc with rfl | rfl | rfl | rfl | rfl | rfl <;> first | rfl | decide
theorem z8N {v : V} {u : Value} {d : D} (I : L2.Inv X pins σv H s) (cl : Cells X.K H hid μ O) (h : Dat X.K H hid μ d v) (r : RelV v u) : ∃ (T : Value) (Hh : Heap -> Prop), PySem.W.KitX X.K u T Hh /\ Hh s.heap /\ u ≠ .builtin "__main__.__loader__#opaque" /\ ∀ c ∈ (["int", "bool", "str", "list", "tuple", "dict"] : List String), PySem.W.kitOne X.K T (.type c) = some (zby (z7j d) c) := by
  cases d with
  | non => unfold Dat at h; subst h; cases r; exact ⟨.type "NoneType", _, PySem.W.kitx_none, True.intro, (fun z => nomatch z), fun c hc => z73 X.K (t := "NoneType") (by simp [z8F]) hc⟩
  | bl _ => unfold Dat at h; subst h; cases r; exact ⟨.type "bool", _, PySem.W.kitx_bool, True.intro, (fun z => nomatch z), fun c hc => z73 X.K (t := "bool") (by simp [z8F]) hc⟩
  | int _ => unfold Dat at h; subst h; obtain ⟨t, rfl⟩ := r; exact ⟨.type "int", _, PySem.W.kitx_int, True.intro, (fun z => nomatch z), fun c hc => z73 X.K (t := "int") (by simp [z8F]) hc⟩
  | str _ => unfold Dat at h; subst h; obtain ⟨t, rfl⟩ := r; exact ⟨.type "str", _, PySem.W.kitx_str, True.intro, (fun z => nomatch z), fun c hc => z73 X.K (t := "str") (by simp [z8F]) hc⟩
  | lst ds =>
    unfold Dat at h
    obtain ⟨p, vs, rfl, l, q⟩ := h
    cases r
    obtain ⟨its, rv, ⟨o, n, h1, h2, _⟩, _⟩ := I.list l.sq
    exact ⟨.type "list", _, PySem.W.kitx_list, ⟨o, h1, h2⟩, (fun z => nomatch z), fun c hc => z73 X.K (t := "list") (by simp [z8F]) hc⟩
  | own k =>
    unfold Dat at h
    obtain ⟨p, rfl, hk⟩ := h
    cases r
    obtain ⟨ds, vs, _, h2, _⟩ := cl.at_ k p hk
    obtain ⟨its, rv, ⟨o, n, h1, h2, _⟩, _⟩ := I.list (.of h2)
    exact ⟨.type "list", _, PySem.W.kitx_list, ⟨o, h1, h2⟩, (fun z => nomatch z), fun c hc => z73 X.K (t := "list") (by simp [z8F]) hc⟩
  | tup ds =>
    unfold Dat at h
    obtain ⟨p, vs, rfl, l, q⟩ := h
    cases r
    obtain ⟨its, rv, ⟨o, h1, h2, _⟩, _⟩ := I.tuple l.sq
    exact ⟨.type "tuple", _, PySem.W.kitx_tuple, ⟨o, h1, h2⟩, (fun z => nomatch z), fun c hc => z73 X.K (t := "tuple") (by simp [z8F]) hc⟩
  | dct =>
    unfold Dat at h
    obtain ⟨p, rfl, hr, _⟩ := h
    cases r
    obtain ⟨_, _, vs, _, o, es, ep, h1, h2, _⟩ := Rd.ok hr I.hok
    exact ⟨.type "dict", _, PySem.W.kitx_dict, ⟨o, h1, h2.1⟩, (fun z => nomatch z), fun c hc => z73 X.K (t := "dict") (by simp [z8F]) hc⟩
  | tab _ => unfold Dat at h; obtain ⟨rfl, _⟩ := h; cases r; exact ⟨.type "bool", _, PySem.W.kitx_bool, True.intro, (fun z => nomatch z), fun c hc => z73 X.K (t := "bool") (by simp [z8F]) hc⟩
  | exn C =>
    unfold Dat at h
    obtain ⟨p, φ, rfl, ⟨k, g⟩, hr, _⟩ := h
    cases r
    obtain ⟨y, _⟩ := Rd.ok hr I.hok
    refine ⟨_, _, zgF k, g _ y, (fun z => nomatch z), fun c hc => ?_⟩
    rw [k.kit c hc]
    simp only [List.mem_cons, List.not_mem_nil, or_false] at hc
    rcases hc with rfl | rfl | rfl | rfl | rfl | rfl <;> rfl
def kOk : List String := ["int", "bool", "str", "list", "tuple", "dict"]
theorem zfj : CallR X (.builtin "isinstance") (fun xs H Q => ∃ x C hid μ O d, xs = [x, .ty C] /\ C ∈ kOk /\ Cells X.K H hid μ O /\ Dat X.K H hid μ d x /\ Q (.bl (zby (z7j d) C)) H) := by
  intro pins s σ H xs us Q I r h
  obtain ⟨x, C, hid, μ, O, d, rfl, hC, cl, dx, q⟩ := h
  obtain ⟨u, w', rfl, rx, rc⟩ := zbM r
  cases rc
  obtain ⟨T, Hh, Z, p, hx, hk⟩ := z8N I cl dx rx
  exact PySem.W.kia_one Z I.kIn p (hk _ hC) hx fun tk => ⟨.bl _, H, I.tok tk, rfl, q⟩
def z6R (C : String) (t : DE) : DE := fun σ O => (t σ O).bnd fun d O1 => .ok (.bl (zby (z7j d) C)) O1
theorem z6Y {C : Str} {n : String} {p p' : Pos} (ha : PD X Ex a ta) (hn : n ∈ kOk) (hg : Gl X "isinstance") (hm : X.mg "isinstance" = none) (hv : bootBuiltins "isinstance" = some (.builtin "isinstance")) (hgC : Gl X C) (hmC : X.mg C = none) (hvC : bootBuiltins C = some (.type n)) (hCn : C ≠ "__name__" := by decide)
    (hCd : (C == ("__debug__" : Str)) = false := by decide) (he : starEach [a, .Name C p'] X.env = (false, eval a X.env) :: starEach [.Name C p'] X.env := by rfl) (he2 : starEach [.Name C p'] X.env = [(false, eval (.Name C p') X.env)] := by rfl) (hpl : (backTo pos (starEach [.Name C p'] X.env)).any (·.1) = false := by rfl) :
    PD X Ex (.Call (.Name "isinstance" p) [a, .Name C p'] [] pos) (z6R n ta) :=
  z5Y (z7g (zfj (X := X)) hg hm hv (z6o ha.out (z6o (zah (v := .ty n) hgC hmC hvC rfl hCn hCd) z97 he2) he) (by decide) (by decide) he hpl) fun hid μ σ O σv H Q e1 c1 q => rd.go e1 c1 q fun d O1 v H1 μ1 e2 x cl r p2 =>
    ⟨v, n, hid, μ1, O1, d, rfl, hn, cl, r, post.here p2 cl z6c⟩
def zfq (to : DE) (t : DA) : DE := fun σ O => (to σ O).bnd fun x O1 => match x with
  | .own k => (t σ O1).bnd fun ys O2 => match ys, O2[k]? with
    | [y], some ds => if ds.length < 100000 then .ok .non (O2.set k (ds ++ [y])) else .bad
    | _, _ => .bad
  | _ => .bad
theorem zbh {o : Expr} {to : DE} {t : DA} {es : List Expr} {apos cpos : Pos} (ho : PD X Ex o to) (ha : PDA X Ex (e :: es) t) (hbase : attributeBase o "append" X.env (eval o X.env) = eval o X.env := by rfl)
    (hfew : ((backTo cpos (starEach (e :: es) X.env)).all (fun x => !x.1) && (backToKw cpos (keywordEach [] X.env)).all (fun x => x.1.isSome) && decide ((e :: es).length + ([] : List Keyword).length + (if ([] : List Keyword).isEmpty then 0 else 1) < 30)) = true := by rfl)
    (hline : (apos.endLine == cpos.line) = true := by rfl) (hs : starEach (e :: es) X.env = (false, eval e X.env) :: starEach es X.env := by rfl) (hplain : (backTo cpos (starEach es X.env)).any (·.1) = false := by rfl) :
    PD X Ex (.Call (.Attribute o "append" apos) (e :: es) [] cpos) (zfq to t) :=
  z5Y (zj6 PySem.F.plainAttrs_list PySem.F.slot_list_append PySem.F.type_list_append zaK ho.out ha.out hbase hfew hline hs hplain) fun hid μ σ O σv H Q e1 c1 q => rd.go e1 c1 q fun d O1 v H1 μ1 e2 x cl r p => by
    cases d with
    | own k =>
      have hr := r
      unfold Dat at r
      obtain ⟨A, rfl, hk⟩ := r
      obtain ⟨ds, vs, h1, h2, h3⟩ := cl.at_ k A hk
      refine ⟨.inl ⟨rfl, vs, .of h2⟩, rdA.go e2 cl p fun ys O2 ws H2 μ2 e3 x3 c3 d3 p3 => ?_⟩
      split at p3
      · rename_i y es' hds
        obtain ⟨hl, p3⟩ := post.ite p3
        obtain ⟨w, rfl, dw⟩ := z7Q d3
        have hk2 : μ2[k]? = some A := by
          have := hr.ext x3
          unfold Dat at this
          obtain ⟨A', e', hk'⟩ := this
          cases e'; exact hk'
        obtain ⟨ds2, vs2, g1, g2, g3⟩ := c3.at_ k A hk2
        rw [hds] at g1; cases g1
        refine ⟨A, vs2, w, rfl, rfl, g2, Nat.lt_of_lt_of_le (by rw [<- g3.length]; exact hl) (by decide), ?_⟩
        exact post.ok p3 (.put (List.mem_of_getElem? hk2) ⟨_, g2⟩) (c3.put hk2 (g3.append (.cons dw .nil))) z8Y
      · exact False.elim p3
    | _ => exact False.elim p
def zfp (te to ti : DE) : DS := fun σ O => (te σ O).bnS fun y O1 => (to σ O1).bnS fun x O2 => (ti σ O2).bnS fun i O3 => match x, i with
  | .own k, .int i => match O3[k]? with
    | some ds => match ixN ds.length i with
      | some j => .nx σ (O3.set k (ds.set j y))
      | none => .bad
    | none => .bad
  | _, _ => .bad
theorem zc8 {o i : Expr} {to ti : DE} {spos : Pos} (he : PD X Ex e te) (ho : PD X Ex o to) (hi : PD X Ex i ti) (ha : ∀ v, assign (.Subscript o i pos) X.env v = (do
      let ov <- holding [v] (eval o X.env)
      let iv <- holding [v, ov] (eval i X.env)
      standAt pos
      holding [v, ov, iv] (setItem ov iv v)
      release [v, ov, iv] []) := by intro _; rfl) (hs : swapsWithSole [.Subscript o i pos] e spos.line X.env = pure false := by rfl) (hw : swappedStores [.Subscript o i pos] e X.env = pure none := by rfl)
    (h1 : (assignEach [.Subscript o i pos] X.env).map (·.2) = [assign (.Subscript o i pos) X.env] := by rfl) : PDS X Ex (.Assign [.Subscript o i pos] e spos) (zfp te to ti) :=
  z8O (zeM he.out (ziM ho.out hi.out zfU ha) hs hw h1) fun hid μ σ O E σv H e1 c1 q => rd.goS e1 c1 q fun y O1 v H1 μ1 e2 x1 c2 d2 q2 => rd.goS e2 c2 q2 fun x O2 u H2 μ2 e3 x2 c3 d3 q3 => rd.goS e3 c3 q3 fun ii O3 w H3 μ3 e4 x3 c4 d4 q4 => by
    split at q4
    · rename_i k j
      split at q4
      · rename_i ds hds
        split at q4
        · rename_i m hm
          have d3' := d3.ext x3
          unfold Dat at d3' d4
          obtain ⟨A, rfl, hk⟩ := d3'
          subst d4
          obtain ⟨ds2, vs2, g1, g2, g3⟩ := c4.at_ k A hk
          rw [hds] at g1; cases g1
          refine ⟨A, vs2, j, m, rfl, rfl, g2, by rw [<- g3.length]; exact hm, ?_⟩
          exact q4 σv _ μ3 (.put (List.mem_of_getElem? hk) ⟨_, g2⟩) (e4.ext (.put (List.mem_of_getElem? hk) ⟨_, g2⟩)) (c4.put hk (g3.set ((d2.ext x2).ext x3) m))
        · exact False.elim q4
      · exact False.elim q4
    · exact False.elim q4
def bls : List D -> Option (List Bool)
  | [] => some []
  | .bl b :: r => (bls r).map (b :: ·)
  | _ => none
theorem zf0 {K : PySem.W.Frag} : ∀ {ds : List D} {vs : List V} {bs : List Bool}, Dats K H hid μ ds vs -> bls ds = some bs -> vs = bs.map V.bl
  | [], vs, bs, h, e => by unfold Dats at h; subst h; cases e; rfl
  | d :: ds, vs, bs, h, e => by
    unfold Dats at h
    obtain ⟨v, r, rfl, h1, h2⟩ := h
    cases d with
    | bl b =>
      unfold bls at e
      cases q : bls ds with
      | none => rw [q] at e; cases e
      | some cs =>
        rw [q] at e; cases e
        unfold Dat at h1; subst h1
        rw [zf0 h2 q]; rfl
    | _ => cases e
def zgW : Ow -> List D -> R D := fun O xs => match xs with
  | [x] => match lsV O x with
    | some ds => match bls ds with
      | some bs => .ok (.bl (bs.all id)) O
      | none => .bad
    | none => .bad
  | _ => .bad
def zjt : Ow -> List D -> R D := fun O xs => match xs with
  | [x] => match lsV O x with
    | some ds => match bls ds with
      | some bs => .ok (.bl (bs.any id)) O
      | none => .bad
    | none => .bad
  | _ => .bad
theorem zey : z87 X Ex (fun xs H Q => ∃ (p : Addr) (bs : List Bool), xs = [.ref p] /\ SqL X.K H p (bs.map V.bl) /\ Q (.bl (bs.all id)) H) zgW := by
  intro H hid μ O xs vs Q c d q
  unfold zgW at q
  split at q
  · rename_i x
    obtain ⟨v, rfl, dx⟩ := z7Q d
    split at q
    · rename_i ds e
      obtain ⟨p, ws, rfl, sq, dd⟩ := z6V c dx e
      split at q
      · rename_i bs eb
        refine ⟨p, bs, rfl, ?_, post.here q c z6c⟩
        rw [<- zf0 dd eb]; exact sq
      · exact False.elim q
    · exact False.elim q
  · exact False.elim q
theorem zjw : z87 X Ex (fun xs H Q => ∃ (p : Addr) (bs : List Bool), xs = [.ref p] /\ SqL X.K H p (bs.map V.bl) /\ Q (.bl (bs.any id)) H) zjt := by
  intro H hid μ O xs vs Q c d q
  unfold zjt at q
  split at q
  · rename_i x
    obtain ⟨v, rfl, dx⟩ := z7Q d
    split at q
    · rename_i ds e
      obtain ⟨p, ws, rfl, sq, dd⟩ := z6V c dx e
      split at q
      · rename_i bs eb
        refine ⟨p, bs, rfl, ?_, post.here q c z6c⟩
        rw [<- zf0 dd eb]; exact sq
      · exact False.elim q
    · exact False.elim q
  · exact False.elim q
theorem zek (bs : List Bool) : (List.range bs.length).all (fun i => bs.getD i true) = bs.all id := by
  rw [Bool.eq_iff_iff, List.all_eq_true, List.all_eq_true]
  constructor
  · intro h b hb
    obtain ⟨i, hi, e⟩ := List.mem_iff_getElem.mp hb
    have := h i (by simpa using hi)
    rw [List.getD_eq_getElem?_getD, List.getElem?_eq_getElem hi, e] at this
    exact this
  · intro h i hi
    have hi : i < bs.length := by simpa using hi
    rw [List.getD_eq_getElem?_getD, List.getElem?_eq_getElem hi]
    exact h _ (List.getElem_mem hi)
theorem ze8 (bs : List Bool) : (List.range bs.length).any (fun i => bs.getD i true) = bs.any id := by
  rw [Bool.eq_iff_iff, List.any_eq_true, List.any_eq_true]
  constructor
  · rintro ⟨i, hi, h⟩
    have hi : i < bs.length := by simpa using hi
    rw [List.getD_eq_getElem?_getD, List.getElem?_eq_getElem hi] at h
    exact ⟨_, List.getElem_mem hi, h⟩
  · rintro ⟨b, hb, h⟩
    obtain ⟨i, hi, e⟩ := List.mem_iff_getElem.mp hb
    exact ⟨i, by simpa using hi, by rw [List.getD_eq_getElem?_getD, List.getElem?_eq_getElem hi, e]; exact h⟩
theorem zdT {bs : List Bool} {its : List Value} (r : Vals (bs.map V.bl) its) {i : Nat} {v : Value} (h : its.toArray[i]? = some v) : v = .bool (bs.getD i true) := by
  have h : its[i]? = some v := by simpa using h
  have hi : i < bs.length := by
    have := r.length
    have := (List.getElem?_eq_some_iff.mp h).1
    simp at *; omega
  obtain ⟨u, h1, h2⟩ := r.get (i := i) (x := .bl bs[i]) (by rw [List.getElem?_map, List.getElem?_eq_getElem hi]; rfl)
  rw [h] at h1; cases h1
  cases h2
  rw [List.getD_eq_getElem?_getD, List.getElem?_eq_getElem hi]; rfl
theorem z8J (hc : X.calm = true) : CallR X (.builtin "all") (fun xs H Q => ∃ (p : Addr) (bs : List Bool), xs = [.ref p] /\ SqL X.K H p (bs.map V.bl) /\ Q (.bl (bs.all id)) H) := by
  intro pins s σ H xs us Q I r h
  obtain ⟨p, bs, rfl, sq, q⟩ := h
  obtain ⟨u, rfl, ru⟩ := z82 r
  cases ru
  obtain ⟨its, rv, pl, hz⟩ := I.list sq
  have hl : its.toArray.size = bs.length := by have := rv.length; simp at *; omega
  have hne : p ≠ s.heap.objs.size := by obtain ⟨o, n, e, _⟩ := pl; exact Nat.ne_of_lt (Heap.lt_size e)
  refine call_all_walk (wpAny_pyIter_list pl.isList ?_)
  refine ⟨s.heap.objs.size, _, _, its.toArray.size, _, _, fun i => bs.getD i true, rfl, Walks.list (show X.A.in1.handled = none from I.ok.hd hc) _ p hne its.toArray, ⟨⟨_, Heap.get?_push_size _ rfl, rfl, rfl⟩, pl.isList.push _⟩, fun i v s' Q' E' hP hQ => ?_, fun h' tk hk => ?_⟩
  · rw [zdT rv hP]; exact wpAny_truthy_bool hQ
  · rw [hl, zek]
    exact ⟨.bl _, H, I.kept (t' := tk) fun b o e => hk b o (by simpa using Nat.ne_of_lt (Heap.lt_size e)) (Heap.get?_push_of_some _ e), rfl, q⟩
theorem zej (hc : X.calm = true) : CallR X (.builtin "any") (fun xs H Q => ∃ (p : Addr) (bs : List Bool), xs = [.ref p] /\ SqL X.K H p (bs.map V.bl) /\ Q (.bl (bs.any id)) H) := by
  intro pins s σ H xs us Q I r h
  obtain ⟨p, bs, rfl, sq, q⟩ := h
  obtain ⟨u, rfl, ru⟩ := z82 r
  cases ru
  obtain ⟨its, rv, pl, hz⟩ := I.list sq
  have hl : its.toArray.size = bs.length := by have := rv.length; simp at *; omega
  have hne : p ≠ s.heap.objs.size := by obtain ⟨o, n, e, _⟩ := pl; exact Nat.ne_of_lt (Heap.lt_size e)
  refine call_any_walk (wpAny_pyIter_list pl.isList ?_)
  refine ⟨s.heap.objs.size, _, _, its.toArray.size, _, _, fun i => bs.getD i true, rfl, Walks.list (show X.A.in1.handled = none from I.ok.hd hc) _ p hne its.toArray, ⟨⟨_, Heap.get?_push_size _ rfl, rfl, rfl⟩, pl.isList.push _⟩, fun i v s' Q' E' hP hQ => ?_, fun h' tk hk => ?_⟩
  · rw [zdT rv hP]; exact wpAny_truthy_bool hQ
  · rw [hl, ze8]
    exact ⟨.bl _, H, I.kept (t' := tk) fun b o e => hk b o (by simpa using Nat.ne_of_lt (Heap.lt_size e)) (Heap.get?_push_of_some _ e), rfl, q⟩
end
end DL
namespace DL
open PySem L2
section
variable {X : Cx} {Ex : Nat -> Hp -> Prop} {pos : Pos} {a b c e o : Expr} {ta tb tc te to : DE} {pins : List (Addr × Obj)} {σv : St} {H : Hp} {s : Shared} {hid μ : List Addr} {O : Ow}
def zjK (K : PySem.W.Frag) : R2 := fun x y H Q => ∃ l b xs zs, x = .ref l /\ y = .ref b /\ SqL K H l xs /\ SqL K H b zs /\ xs.length + zs.length <= sizeLine /\ ∀ p, H p = none -> Q (.ref p) (upd H p (.lst (xs ++ zs)))
theorem zhf : OpR X (binaryOp .Add) (zjK X.K) := by
  intro pins s σ H x y v u Q I rx ry h
  obtain ⟨l, b, xs, zs, rfl, rfl, h1, h2, hz, q⟩ := h
  cases rx
  cases ry
  obtain ⟨its, r1, p1, z1⟩ := I.list h1
  obtain ⟨its2, r2, p2, z2⟩ := I.list h2
  obtain ⟨⟨c1, d1, t1, s1⟩, n1, g1, k1, m1, w1⟩ := p1
  obtain ⟨⟨c2, d2, t2, s2⟩, n2, g2, k2, m2, w2⟩ := p2
  simp only at k1 m1 w1 k2 m2 w2
  subst k1 m1 w1 k2 m2 w2
  have ea : its.toArray ++ its2.toArray = (its ++ its2).toArray := by simp
  have l1 := r1.length
  have l2 := r2.length
  refine PySem.concat_meets ⟨_, g1, rfl⟩ ⟨_, g2, rfl⟩ PySem.noFill_list_add PySem.seq_list_add PySem.F.slot_list_add PySem.F.entry_list_add (PySem.F.args_list_add_2 _ _)
    (PyProof.Rows.list_addW l b its.toArray its2.toArray n1 n2 none none s1 s2 (by simp only [List.size_toArray]; omega)) ⟨g1, g2, ?_⟩
  rw [ea]
  exact ⟨.ref _, _, I.lnew (t' := s.toks) (r1.append r2) (by rw [List.length_append]; omega), rfl, q _ I.fresh⟩
def z9t : Ow -> D -> D -> R D := fun O x y => match x, y with
  | .int i, .int j => .ok (.int (i + j)) O
  | .str p, .str q => if p.length + q.length <= 100000 then .ok (.str (p ++ q)) O else .bad
  | .tup xs, .tup ys => if xs ≠ [] /\ xs.length + ys.length <= 100000 then .ok (.tup (xs ++ ys)) O else .bad
  | x, y => match lsV O x, lsV O y with
    | some xs, some ys => if xs.length + ys.length <= 100000 then .ok (.lst (xs ++ ys)) O else .bad
    | _, _ => .bad
def zhP (K : PySem.W.Frag) : R2 := fun x y H Q => (∃ i j, x = .int i /\ y = .int j /\ Q (.int (i + j)) H) \/ (∃ i j, x = .str i /\ y = .str j /\ i.length + j.length <= sizeLine /\ Q (.str (i ++ j)) H) \/ zjd K x y H Q \/ zjK K x y H Q
theorem zen : OpR X (binaryOp .Add) (zhP X.K) := OpR.or zjN (OpR.or zd2 (OpR.or zhH zhf))
theorem zfb : OpD X Ex (zhP X.K) z9t := by
  intro H hid μ O x y v w Q c dx dy q
  unfold z9t at q
  split at q
  · unfold Dat at dx dy; subst dx; subst dy
    exact .inl ⟨_, _, rfl, rfl, post.here q c z5v⟩
  · rename_i p q'
    unfold Dat at dx dy; subst dx; subst dy
    obtain ⟨hl, q⟩ := post.ite q
    refine .inr (.inl ⟨_, _, rfl, rfl, ?_, ?_⟩)
    · show p.toArray.size + q'.toArray.size <= _
      simp only [List.size_toArray]; exact z5w hl
    · have e : ((⟨p.toArray⟩ : Str) ++ (⟨q'.toArray⟩ : Str)) = ⟨(p ++ q').toArray⟩ := by
        show (⟨p.toArray ++ q'.toArray⟩ : Str) = _
        simp
      rw [e]
      exact post.here q c zeo
  · rename_i xs ys
    have dx0 := dx
    unfold Dat at dx dy
    obtain ⟨p, vs, rfl, l1, q1⟩ := dx
    obtain ⟨p', vs', rfl, l2, q2⟩ := dy
    obtain ⟨⟨hn, hl⟩, q⟩ := post.ite q
    have e1 := q1.length
    have e2 := q2.length
    refine .inr (.inr (.inl ⟨p, p', vs, vs', rfl, rfl, l1.sq, l2.sq, ?_, z5w (by omega), ?_, ?_⟩))
    · rintro rfl
      exact hn (List.length_eq_zero_iff.mp e1)
    · rintro rfl
      have : ys = [] := List.length_eq_zero_iff.mp e2
      subst this
      rw [List.append_nil] at q
      exact post.here q c dx0
    · intro _ l hl0
      exact post.ok q (.laid hl0) (c.laid hl0) (Dat.newT c hl0 (q1.append q2))
  · split at q
    · rename_i xs ys e1 e2
      obtain ⟨p, vs, rfl, s1, q1⟩ := z6V c dx e1
      obtain ⟨p', vs', rfl, s2, q2⟩ := z6V c dy e2
      obtain ⟨hl, q⟩ := post.ite q
      have l1 := q1.length
      have l2 := q2.length
      exact .inr (.inr (.inr ⟨p, p', vs, vs', rfl, rfl, s1, s2, z5w (by omega), fun l hl0 => post.ok q (.laid hl0) (c.laid hl0) (Dat.newL c hl0 (q1.append q2))⟩))
    · exact False.elim q
theorem z7K (ha : PD X Ex a ta) (hb : PD X Ex b tb) : PD X Ex (.BinOp a .Add b pos) (dOp z9t ta tb) := z6g zen zfb ha hb
def zhB (i : Int) : List Nat := ((toString i : Str)).cps.toList
def zhI : Ow -> List D -> R D := fun O xs => match xs with
  | [.int i] => if i.natAbs < 2 ^ 64 then .ok (.str (zhB i)) O else .bad
  | _ => .bad
theorem z9H {n : Nat} (h : n < 2 ^ 64) : n.log2 < 1920 := by
  by_cases hn : n = 0
  · subst hn; decide
  · have := (Nat.log2_lt hn (k := 64)).mpr h
    omega
theorem z9O (x : Str) : (⟨x.cps.toList.toArray⟩ : Str) = x := by
  cases x; simp
theorem zhV : z87 X Ex (fun xs H Q => ∃ i, xs = [.int i] /\ i.natAbs.log2 < 1920 /\ Q (.str (toString i)) H) zhI := by
  intro H hid μ O xs vs Q c d q
  unfold zhI at q
  split at q
  · rename_i i
    obtain ⟨v, rfl, dx⟩ := z7Q d
    unfold Dat at dx; subst dx
    obtain ⟨hl, q⟩ := post.ite q
    refine ⟨i, rfl, z9H hl, post.here q c ?_⟩
    unfold Dat zhB
    rw [z9O]
  · exact False.elim q
def dS1 (g : List Nat -> List Nat -> Option D) (to : DE) (t : DA) : DE := fun σ O => (to σ O).bnd fun x O1 => match x with
  | .str i => (t σ O1).bnd fun ys O2 => match ys with
    | [.str j] => match g i j with
      | some d => .ok d O2
      | none => .bad
    | _ => .bad
  | _ => .bad
def zdP : List D -> Option (List Str)
  | [] => some []
  | .str cs :: r => (zdP r).map (⟨cs.toArray⟩ :: ·)
  | _ => none
theorem zeA {K : PySem.W.Frag} : ∀ {ds : List D} {vs : List V} {ys : List Str}, Dats K H hid μ ds vs -> zdP ds = some ys -> vs = ys.map V.str
  | [], vs, ys, h, e => by unfold Dats at h; subst h; cases e; rfl
  | d :: ds, vs, ys, h, e => by
    unfold Dats at h
    obtain ⟨v, r, rfl, h1, h2⟩ := h
    cases d with
    | str cs =>
      unfold zdP at e
      cases q : zdP ds with
      | none => rw [q] at e; cases e
      | some zs =>
        rw [q] at e; cases e
        unfold Dat at h1; subst h1
        rw [zeA h2 q]; rfl
    | _ => cases e
theorem z9y : ∀ {ys : List Str} {us : List Value}, Vals (ys.map V.str) us -> PyProof.Rows.StrsAre us ys := by
  intro ys
  induction ys with
  | nil => intro us r; rw [List.map_nil] at r; cases r; exact .nil
  | cons y ys ih =>
    intro us r
    rw [List.map_cons] at r
    cases r with
    | cons r1 r2 =>
      obtain ⟨t, e⟩ := r1
      subst e
      exact .cons y t (ih r2)
def zkd (K : PySem.W.Frag) : V -> List V -> Hp -> VK -> Prop := fun x xs H Q => ∃ i p ys, x = .str i /\ xs = [.ref p] /\ (SqL K H p (ys.map V.str) \/ SqT K H p (ys.map V.str)) /\ i.length <= 16 /\ (ys.map (·.length)).sum + ys.length <= 1048576 /\ Q (.str (Txt.join i ys)) H
theorem zhl : MtR X "str.join" (zkd X.K) := by
  intro pins s σ H x xs v us Q I rx rs h
  obtain ⟨i, p, ys, rfl, rfl, sq, hi, hw, q⟩ := h
  obtain ⟨t, rfl⟩ := rx
  obtain ⟨u, rfl, ru⟩ := z82 rs
  cases ru
  rcases sq with sq | sq
  · obtain ⟨its, r1, p1, z1⟩ := I.list sq
    exact PyProof.Rows.join_listW p1.isList (z9y r1) hi hw fun t' k => ⟨.str _, H, I.tok k, ⟨_, rfl⟩, q⟩
  · obtain ⟨its, r1, p1, z1⟩ := I.tuple sq
    exact PyProof.Rows.join_tupleW p1 (z9y r1) hi hw fun t' k => ⟨.str _, H, I.tok k, ⟨_, rfl⟩, q⟩
def zh7 (to : DE) (t : DA) : DE := fun σ O => (to σ O).bnd fun x O1 => match x with
  | .str i => (t σ O1).bnd fun ys O2 => match ys with
    | [z] => match (match lsV O2 z with | some ds => some ds | none => tpV z) with
      | some ds => match zdP ds with
        | some zs => if i.length <= 16 /\ (zs.map (·.length)).sum + zs.length <= 1048576 then .ok (.str (Txt.join ⟨i.toArray⟩ zs).cps.toList) O2 else .bad
        | none => .bad
      | none => .bad
    | _ => .bad
  | _ => .bad
theorem zhs {t : DA} {es : List Expr} {apos cpos : Pos} (ho : PD X Ex o to) (ha : PDA X Ex (e :: es) t) (hbase : attributeBase o "join" X.env (eval o X.env) = eval o X.env := by rfl)
    (hfew : ((backTo cpos (starEach (e :: es) X.env)).all (fun x => !x.1) && (backToKw cpos (keywordEach [] X.env)).all (fun x => x.1.isSome) && decide ((e :: es).length + ([] : List Keyword).length + (if ([] : List Keyword).isEmpty then 0 else 1) < 30)) = true := by rfl)
    (hline : (apos.endLine == cpos.line) = true := by rfl) (hs : starEach (e :: es) X.env = (false, eval e X.env) :: starEach es X.env := by rfl) (hplain : (backTo cpos (starEach es X.env)).any (·.1) = false := by rfl) :
    PD X Ex (.Call (.Attribute o "join" apos) (e :: es) [] cpos) (zh7 to t) :=
  z5Y (zj6 PySem.F.plainAttrs_str PySem.F.slot_str_join PySem.F.type_str_join zhl ho.out ha.out hbase hfew hline hs hplain) fun hid μ σ O σv H Q e1 c1 q => rd.go e1 c1 q fun d O1 v H1 μ1 e2 x cl r p => by
    cases d with
    | str i =>
      unfold Dat at r
      subst r
      refine ⟨rfl, rdA.go e2 cl p fun ys O2 ws H2 μ2 e3 x3 c3 d3 p3 => ?_⟩
      split at p3
      · rename_i z
        obtain ⟨w, rfl, dw⟩ := z7Q d3
        split at p3
        · rename_i ds hds
          split at p3
          · rename_i zs hzs
            obtain ⟨⟨h1, h2⟩, p3⟩ := post.ite p3
            have h : ∃ p ws, w = .ref p /\ (SqL X.K H2 p ws \/ SqT X.K H2 p ws) /\ Dats X.K H2 hid μ2 ds ws := by
              cases e1 : lsV O2 z with
              | some es =>
                rw [e1] at hds; cases hds
                obtain ⟨p, ws, h1, sq, dd⟩ := z6V c3 dw e1
                exact ⟨p, ws, h1, .inl sq, dd⟩
              | none =>
                rw [e1] at hds
                obtain ⟨p, ws, h1, sq, dd⟩ := zaE dw hds
                exact ⟨p, ws, h1, .inr sq, dd⟩
            obtain ⟨pp, ws, rfl, sq, dd⟩ := h
            have ev := zeA dd hzs
            subst ev
            refine ⟨_, pp, zs, rfl, rfl, sq, ?_, h2, post.here p3 c3 ?_⟩
            · show i.toArray.size <= 16
              simpa using h1
            · unfold Dat; rw [z9O]
          · exact False.elim p3
        · exact False.elim p3
      · exact False.elim p3
    | _ => exact False.elim p
abbrev DO := Sg -> Ow -> R (Option Int)
def rdO (Ex : Nat -> Hp -> Prop) (K : PySem.W.Frag) (t : DO) : TO := fun σv H Q => ∃ hid μ σ O, EnvOk K H hid μ σ σv /\ Cells K H hid μ O /\ post Ex K (fun _ _ (d v : Option Int) => d = v) H hid μ (t σ O) Q
structure PDO (X : Cx) (Ex : Nat -> Hp -> Prop) (e : Option Expr) (t : DO) : Prop where
  out : PO X e (rdO Ex X.K t)
def z6H : DO := fun _ O => .ok none O
def z6f (t : DE) : DO := fun σ O => (t σ O).bnd fun d O1 => match d with
  | .int i => .ok (some i) O1
  | _ => .bad
theorem PO.imp {e : Option Expr} {t t' : TO} (h : PO X e t) (f : ∀ σ H Q, t' σ H Q -> t σ H Q) : PO X e t' := fun pins s σ H Q I q => h pins s σ H Q I (f σ H Q q)
theorem z7e : PDO X Ex none z6H := PDO.mk <| PO.imp zhG fun σv H Q ⟨hid, μ, σ, O, e1, c1, q⟩ => post.here (v := none) q c1 rfl
theorem z70 (h : PD X Ex e te) : PDO X Ex (some e) (z6f te) := PDO.mk <| PO.imp (zik h.out) fun σv H Q ⟨hid, μ, σ, O, e1, c1, q⟩ => rd.go e1 c1 q fun d O1 v H1 μ1 e2 x cl r p => by
  cases d with
  | int i => unfold Dat at r; subst r; exact ⟨i, rfl, post.here (v := some i) p cl rfl⟩
  | _ => exact False.elim p
theorem rdO.go {α' β' : Type} {rel' : Hp -> List Addr -> α' -> β' -> Prop} {t : DO} {hid μ : List Addr} {σ : Sg} {O : Ow} {σv : St} {H : Hp} {Q1 : Option Int -> Hp -> Prop} {k : Option Int -> Ow -> R α'} {Q : β' -> Hp -> Prop} (e1 : EnvOk X.K H hid μ σ σv) (c1 : Cells X.K H hid μ O)
    (q : post Ex X.K rel' H hid μ ((t σ O).bnd k) Q)
    (f : ∀ v O1 H1 μ1, EnvOk X.K H1 hid μ1 σ σv -> Ext H μ H1 μ1 -> Cells X.K H1 hid μ1 O1 -> post Ex X.K rel' H1 hid μ1 (k v O1) Q -> Q1 v H1) : rdO Ex X.K t σv H Q1 :=
  ⟨hid, μ, σ, O, e1, c1, post.bnd q fun d O1 v H1 μ1 x c r p => by
    have r : d = v := r
    subst r
    exact f d O1 H1 μ1 (e1.ext x) x c p⟩
def zlh : V -> Option Int -> Option Int -> Hp -> VK -> Prop := fun x lo hi H Q => ∃ i, x = .str i /\ i.length <= sizeLine /\ Q (.str (Txt.slice i lo hi)) H
theorem zdc {h : Heap} {sl : Addr} {vl vu : Value} {lo hi : Option Int} (hs : h.IsSliceOf sl vl vu .none) (pl : IsPart vl lo) (pu : IsPart vu hi) : ∃ l u : Option (Int × Tok), h.IsSlice sl l u none /\ l.map (·.1) = lo /\ u.map (·.1) = hi := by
  obtain ⟨ob, g, k1, k2⟩ := hs
  cases pl with
  | none =>
    cases pu with
    | none => exact ⟨none, none, ⟨ob, g, k1, k2⟩, rfl, rfl⟩
    | int j t => exact ⟨none, some (j, t), ⟨ob, g, k1, k2⟩, rfl, rfl⟩
  | int i t =>
    cases pu with
    | none => exact ⟨some (i, t), none, ⟨ob, g, k1, k2⟩, rfl, rfl⟩
    | int j t' => exact ⟨some (i, t), some (j, t'), ⟨ob, g, k1, k2⟩, rfl, rfl⟩
theorem zjL : SlR X zlh := by
  intro pins s σ H x v vl vu lo hi sl Q I rx hs pl pu h
  obtain ⟨i, rfl, hz, q⟩ := h
  obtain ⟨t, rfl⟩ := rx
  obtain ⟨l, u, hs2, rfl, rfl⟩ := zdc hs pl pu
  refine ⟨"str", _, PySem.F.slot_str_getitem.lookup, typeIs_str s i t, ?_⟩
  exact wpAny_getItem_str_slice (l := l) (u := u) (st := none) hs2 rfl (post_val_or_str ⟨Nat.le_trans (Txt.slice_le i _ _) hz, fun t' k => ⟨.str _, H, I.tok k, ⟨_, rfl⟩, q⟩⟩)
def zdt (xs : List D) (lo hi : Option Int) : List D := (xs.drop (HT.sIx xs.length 0 lo)).take (HT.sIx xs.length xs.length hi - HT.sIx xs.length 0 lo)
def fSl (O : Ow) (x : D) (lo hi : Option Int) : R D := match x with
  | .str i => if i.length <= 100000 then .ok (.str (Txt.slice ⟨i.toArray⟩ lo hi).cps.toList) O else .bad
  | .tup ds => if HT.sIx ds.length 0 lo = 0 /\ HT.sIx ds.length ds.length hi = ds.length then .bad else .ok (.tup (zdt ds lo hi)) O
  | x => match lsV O x with
    | some ds => .ok (.lst (zdt ds lo hi)) O
    | none => .bad
def zlo (K : PySem.W.Frag) : V -> Option Int -> Option Int -> Hp -> VK -> Prop := fun x lo hi H Q => zlh x lo hi H Q \/ zl8 K x lo hi H Q \/ zl6 K x lo hi H Q
theorem z9Q {K : PySem.W.Frag} {ds : List D} {vs : List V} (h : Dats K H hid μ ds vs) (lo hi : Option Int) : Dats K H hid μ (zdt ds lo hi) (zgS vs lo hi) := by
  unfold zdt zgS
  rw [h.length]
  exact Dats.take _ (Dats.drop _ h)
def zk4 : Ow -> D -> D -> R D := fun O x y => match x, y with
  | .str i, .str j => .ok (.bl (!(PySem.Builtin.Str.occurrences ⟨j.toArray⟩ ⟨i.toArray⟩ 0 j.length 1).isEmpty)) O
  | _, _ => .bad
theorem zhF : OpD X Ex (fun x y H Q => ∃ i j, x = .str i /\ y = .str j /\ Q (.bl (!(Builtin.Str.occurrences j i 0 j.length 1).isEmpty)) H) zk4 := by
  intro H hid μ O x y v w Q c dx dy q
  unfold zk4 at q
  split at q
  · rename_i i j
    unfold Dat at dx dy; subst dx; subst dy
    refine ⟨_, _, rfl, rfl, post.here q c ?_⟩
    have e : (⟨j.toArray⟩ : Str).length = j.length := by show j.toArray.size = _; simp
    rw [e]; exact z6c
  · exact False.elim q
end
end DL
namespace DL
open PySem L2
def z61 (K : PySem.W.Frag) (mg : Str -> Option Value) (x : Str) (st : Stmt) : Prop := ∃ f fd, mg x = some (.ref f) /\ L2.Fun K x x st f fd
structure Callee (P : Program) (w : World) (K : PySem.W.Frag) (mg : Str -> Option Value) (base : Heap) (x : Str) (k n : Nat) (F : List D -> Ow -> R D) : Prop where
  ex : ∃ f fd ps, mg x = some (.ref f) /\ PySem.W.keepIn K (.ref f) = true /\ Binds K fd ps [] /\ FnOk P w K mg base CX0 k f fd ps (DSp K Ec0 n F)
theorem Callee.imp {P : Program} {w : World} {K : PySem.W.Frag} {mg : Str -> Option Value} {base : Heap} {k n : Nat} {x : Str} {F G : List D -> Ow -> R D} (c : Callee P w K mg base x k n F)
    (h : ∀ ds O H hid μ Q, Cells K H hid μ O -> z5L Ex0 K H hid μ (G ds O) Q -> z5L Ex0 K H hid μ (F ds O) Q) : Callee P w K mg base x k n G := by
  obtain ⟨f, fd, ps, hm, hkp, hb, Fo⟩ := c.ex
  refine ⟨f, fd, ps, hm, hkp, hb, Fo.imp fun vs H Q E ⟨hl, hid, μ, ds, O, d, cl, q⟩ => ⟨hl, hid, μ, ds, O, d, cl, h ds O H hid μ Q cl q⟩⟩
def frz (O : Ow) (n : Nat) : Nat -> D -> Option D
  | 0, d => match d with
    | .own k => if k < n then some (.own k) else none
    | .lst _ => none
    | .tup _ => none
    | d => some d
  | f + 1, d => match d with
    | .own k => if k < n then some (.own k) else match O[k]? with
      | some ds => (z6Q (frz O n f) ds).map .lst
      | none => none
    | .lst ds => (z6Q (frz O n f) ds).map .lst
    | .tup ds => (z6Q (frz O n f) ds).map .tup
    | d => some d
def zeb (n : Nat) (r : R D) : R D := match r with
  | .ok d O => match frz O n 8 d, z6Q (z6Q (frz O n 8)) (O.take n) with
    | some d', some O' => .ok d' O'
    | _, _ => .bad
  | r => r
section
variable {K : PySem.W.Frag} {H : Hp} {hid μ ν : List Addr} {O : Ow} {n : Nat}
theorem z78 {f : D -> Option D} {μ' : List Addr} (ih : ∀ d d' v, f d = some d' -> Dat K H hid μ d v -> Dat K H hid μ' d' v) : ∀ (ds ds' : List D) (vs : List V), z6Q f ds = some ds' -> Dats K H hid μ ds vs -> Dats K H hid μ' ds' vs
  | [], ds', vs, e, h => by cases e; unfold Dats at h ⊢; exact h
  | d :: ds, ds', vs, e, h => by
    unfold z6Q at e
    split at e
    · rename_i p ps e1 e2
      cases e
      unfold Dats at h
      obtain ⟨v, r, rfl, h1, h2⟩ := h
      exact .cons (ih d p v e1 h1) (z78 ih ds ps r e2 h2)
    · cases e
theorem zgX (c : Cells K H hid (μ ++ ν) O) (hn : μ.length = n) : ∀ (f : Nat) (d d' : D) (v : V), frz O n f d = some d' -> Dat K H hid (μ ++ ν) d v -> Dat K H hid μ d' v := by
  have sub : ∀ {a : Addr}, a ∉ μ ++ ν -> a ∉ μ := fun h m => h (List.mem_append_left _ m)
  have low : ∀ {k : Nat} {v : V}, k < n -> Dat K H hid (μ ++ ν) (.own k) v -> Dat K H hid μ (.own k) v := fun {k v} hk h => by
    unfold Dat at h ⊢
    obtain ⟨a, rfl, e⟩ := h
    rw [List.getElem?_append_left (by omega)] at e
    exact ⟨a, rfl, e⟩
  have dc : ∀ {v : V}, Dat K H hid (μ ++ ν) .dct v -> Dat K H hid μ .dct v := fun {v} h => by
    unfold Dat at h ⊢
    obtain ⟨a, rfl, r, n1, n2⟩ := h
    exact ⟨a, rfl, r, n1, sub n2⟩
  have xc : ∀ {C : Nat} {v : V}, Dat K H hid (μ ++ ν) (.exn C) v -> Dat K H hid μ (.exn C) v := fun {C v} h => by
    unfold Dat at h ⊢
    obtain ⟨a, φ, rfl, g, r, n1, n2⟩ := h
    exact ⟨a, φ, rfl, g, r, n1, sub n2⟩
  intro f
  induction f with
  | zero =>
    intro d d' v e h
    cases d with
    | own k =>
      unfold frz at e; dsimp only at e
      split at e
      · rename_i hk; cases e; exact low hk h
      · cases e
    | lst ds => cases e
    | tup ds => cases e
    | dct => cases e; exact dc h
    | exn C => cases e; exact xc h
    | tab P => cases e; unfold Dat at h ⊢; exact h
    | non => cases e; unfold Dat at h ⊢; exact h
    | bl b => cases e; unfold Dat at h ⊢; exact h
    | int i => cases e; unfold Dat at h ⊢; exact h
    | str i => cases e; unfold Dat at h ⊢; exact h
  | succ f ih =>
    intro d d' v e h
    cases d with
    | own k =>
      unfold frz at e; dsimp only at e
      split at e
      · rename_i hk; cases e; exact low hk h
      · rename_i hk
        unfold Dat at h
        obtain ⟨a, rfl, hk2⟩ := h
        obtain ⟨ds, vs, h1, h2, h3⟩ := c.at_ k a hk2
        rw [h1] at e
        dsimp only at e
        cases e1 : z6Q (frz O n f) ds with
        | none => rw [e1] at e; cases e
        | some ps =>
          rw [e1] at e; cases e
          unfold Dat
          refine ⟨a, vs, rfl, .inl ⟨.inl h2, c.nh a (List.mem_of_getElem? hk2), fun m => ?_⟩, z78 ih ds ps vs e1 h3⟩
          obtain ⟨j, hj, ej⟩ := List.mem_iff_getElem.mp m
          have q1 : (μ ++ ν)[j]? = some a := by rw [List.getElem?_append_left hj, List.getElem?_eq_getElem hj, ej]
          obtain ⟨w1, z1⟩ := List.getElem?_eq_some_iff.mp q1
          obtain ⟨w2, z2⟩ := List.getElem?_eq_some_iff.mp hk2
          have := (List.getElem_inj c.nd).mp (z1.trans z2.symm)
          omega
    | lst ds =>
      unfold frz at e; dsimp only at e
      unfold Dat at h
      obtain ⟨a, vs, rfl, l, q⟩ := h
      cases e1 : z6Q (frz O n f) ds with
      | none => rw [e1] at e; cases e
      | some ps =>
        rw [e1] at e; cases e
        unfold Dat
        exact ⟨a, vs, rfl, l.imp (fun z => ⟨z.1, z.2.1, sub z.2.2⟩) id, z78 ih ds ps vs e1 q⟩
    | tup ds =>
      unfold frz at e; dsimp only at e
      unfold Dat at h
      obtain ⟨a, vs, rfl, l, q⟩ := h
      cases e1 : z6Q (frz O n f) ds with
      | none => rw [e1] at e; cases e
      | some ps =>
        rw [e1] at e; cases e
        unfold Dat
        exact ⟨a, vs, rfl, l.imp (fun z => ⟨z.1, z.2.1, sub z.2.2⟩) id, z78 ih ds ps vs e1 q⟩
    | dct => cases e; exact dc h
    | exn C => cases e; exact xc h
    | tab P => cases e; unfold Dat at h ⊢; exact h
    | non => cases e; unfold Dat at h ⊢; exact h
    | bl b => cases e; unfold Dat at h ⊢; exact h
    | int i => cases e; unfold Dat at h ⊢; exact h
    | str i => cases e; unfold Dat at h ⊢; exact h
theorem zam {α β : Type} {f : α -> Option β} : ∀ {l : List α} {r : List β}, z6Q f l = some r -> r.length = l.length
  | [], r, e => by cases e; rfl
  | x :: l, r, e => by
    unfold z6Q at e
    split at e
    · rename_i p ps e1 e2; cases e; simp [zam e2]
    · cases e
theorem zcL {α β : Type} {f : α -> Option β} : ∀ {l : List α} {r : List β} {k : Nat} {y : β}, z6Q f l = some r -> r[k]? = some y -> ∃ x, l[k]? = some x /\ f x = some y
  | [], r, k, y, e, h => by cases e; simp at h
  | x :: l, r, k, y, e, h => by
    unfold z6Q at e
    split at e
    · rename_i p ps e1 e2
      cases e
      cases k with
      | zero => simp at h; subst h; exact ⟨x, by simp, e1⟩
      | succ k => obtain ⟨z, h1, h2⟩ := zcL (k := k) e2 (by simpa using h); exact ⟨z, by simpa using h1, h2⟩
    · cases e
theorem zcn {Ex : Nat -> Hp -> Prop} {r : R D} {Q : VK} (hn : μ.length = n) (q : z5L Ex K H hid μ (zeb n r) Q) : z5L Ex K H hid μ r Q := by
  cases r with
  | bad => exact q
  | exc c O' => exact q
  | ok d O' =>
    intro v H' μ' x c h
    obtain ⟨ν, rfl⟩ := x.pre
    have q1 : z5L Ex K H hid μ (match frz O' n 8 d, z6Q (z6Q (frz O' n 8)) (O'.take n) with | some d', some O2 => .ok d' O2 | _, _ => .bad) Q := q
    cases e1 : frz O' n 8 d with
    | none => rw [e1] at q1; exact False.elim q1
    | some d' =>
      cases e2 : z6Q (z6Q (frz O' n 8)) (O'.take n) with
      | none => rw [e1, e2] at q1; exact False.elim q1
      | some O2 =>
        rw [e1, e2] at q1
        have xe : Ext H μ H' μ := ⟨⟨[], by simp⟩, x.kept, fun _ m => .inl m, x.there, x.tab⟩
        have hl : O'.length = (μ ++ ν).length := c.len.symm
        have c2 : Cells K H' hid μ O2 := by
          refine ⟨?_, (List.nodup_append.mp c.nd).1, fun a m => c.nh a (List.mem_append_left _ m), c.ht, fun k a e => ?_⟩
          · rw [zam e2, List.length_take, hl, List.length_append, hn]; omega
          · have hk : k < μ.length := (List.getElem?_eq_some_iff.mp e).1
            obtain ⟨ds, vs, h1, h2, h3⟩ := c.at_ k a (by rw [List.getElem?_append_left hk]; exact e)
            have hk2 : k < O2.length := by rw [zam e2, List.length_take, hl, List.length_append, hn]; omega
            obtain ⟨ds', g1, g2⟩ := zcL e2 (List.getElem?_eq_getElem hk2)
            have : ds' = ds := by
              rw [List.getElem?_take, if_pos (by omega), h1] at g1
              cases g1; rfl
            subst this
            exact ⟨_, vs, List.getElem?_eq_getElem hk2, h2, z78 (zgX c hn 8) _ _ vs g2 h3⟩
        exact q1 v H' μ xe c2 (zgX c hn 8 d d' v e1 h)
end
def zjp (F : List D -> Ow -> R D) : List D -> Ow -> R D := fun ds O => zeb O.length (F ds O)
theorem Callee.frz {P : Program} {w : World} {K : PySem.W.Frag} {mg : Str -> Option Value} {base : Heap} {k n : Nat} {x : Str} {F : List D -> Ow -> R D} (c : Callee P w K mg base x k n F) : Callee P w K mg base x k n (zjp F) :=
  c.imp fun ds O H hid μ Q cl q => zcn cl.len q
def zlk (sc scope : Scope) (N' : List Str) (sl : List Nat) : Bool :=
  (match scope.kind with | .function => true | _ => false) && decide ((scope.names.map (·.1)).Nodup) && (scope.names.all fun y => !(y.2 == .free) || sc.names.lookup y.1 == some .cell || sc.names.lookup y.1 == some .free) &&
  (N'.zipIdx.all fun p => !((scope.names.any fun y => y.1 == p.1 && y.2 == .local) || (scope.names.any fun y => y.1 == p.1 && y.2 == .cell)) || sl.contains p.2)
theorem z6p {sc scope : Scope} {N' : List Str} {sl : List Nat} (h : zlk sc scope N' sl = true) : BOk sc scope N' sl := by
  unfold zlk at h
  simp only [Bool.and_eq_true, decide_eq_true_eq, List.all_eq_true] at h
  obtain ⟨⟨⟨h1, h2⟩, h3⟩, h4⟩ := h
  refine ⟨?_, h2, fun y hy hf => ?_, fun i x hx hm => ?_⟩
  · cases e : scope.kind <;> rw [e] at h1 <;> first | rfl | cases h1
  · have := h3 y hy
    rw [hf] at this
    simpa using this
  · have hp : (x, i) ∈ N'.zipIdx := by
      rw [List.mem_zipIdx_iff_getElem?]; exact hx
    have h := h4 _ hp
    have hany : ((scope.names.any fun y => y.1 == x && y.2 == .local) || (scope.names.any fun y => y.1 == x && y.2 == .cell)) = true := by
      rw [Bool.or_eq_true]
      exact hm.imp (fun m => List.any_eq_true.mpr ⟨_, m, by simp⟩) fun m => List.any_eq_true.mpr ⟨_, m, by simp⟩
    have h : (!((scope.names.any fun y => y.1 == x && y.2 == .local) || (scope.names.any fun y => y.1 == x && y.2 == .cell)) || sl.contains i) = true := h
    rw [hany] at h
    simpa using h
structure zlW (mg : Str -> Option Value) (x : Str) (cs : List Nat) : Prop where
  ex : ∃ t, mg x = some (.str ⟨cs.toArray⟩ t)
section
variable {X : Cx} {Ex : Nat -> Hp -> Prop} {pos : Pos} {a b c e o : Expr} {ta tb tc te to : DE} {pins : List (Addr × Obj)} {σv : St} {H : Hp} {s : Shared} {hid μ : List Addr} {O : Ow}
def zf6 (C C' : String) (t : DE) : DE := fun σ O => (t σ O).bnd fun d O1 => .ok (.bl (zby (z7j d) C || zby (z7j d) C')) O1
theorem zdN : CallR X (.builtin "isinstance") (fun xs H Q => ∃ x p C C' hid μ O d, xs = [x, .ref p] /\ SqT X.K H p [.ty C, .ty C'] /\ C ∈ kOk /\ C' ∈ kOk /\ Cells X.K H hid μ O /\ Dat X.K H hid μ d x /\ Q (.bl (zby (z7j d) C || zby (z7j d) C')) H) := by
  intro pins s σ H xs us Q I r h
  obtain ⟨x, tp, C, C', hid, μ, O, d, rfl, sq, hC, hC', cl, dx, q⟩ := h
  obtain ⟨u, w', rfl, rx, rc⟩ := zbM r
  cases rc
  obtain ⟨T, Hh, Z, p, hx, hk⟩ := z8N I cl dx rx
  obtain ⟨its, rv, ⟨⟨c1, d1, t1, s1⟩, h1, h2, n, h3⟩, hz⟩ := I.tuple sq
  simp only at h2 h3
  subst h2 h3
  obtain ⟨v1, v2, rfl, r1, r2⟩ := zbM rv
  cases r1; cases r2
  refine PySem.W.kia_tup (b := zby (z7j d) C || zby (z7j d) C') Z I.kIn p h1 ?_ hx fun tk => ⟨.bl _, H, I.tok tk, rfl, q⟩
  unfold PySem.W.kitAny
  rw [hk _ hC]
  cases zby (z7j d) C with
  | true => rfl
  | false =>
    dsimp only
    unfold PySem.W.kitAny
    rw [hk _ hC']
    cases zby (z7j d) C' <;> rfl
theorem zhm {C C' : Str} {n n' : String} {p p' p'' pt : Pos} {kt} (ha : PD X Ex a ta) (hn : n ∈ kOk) (hn' : n' ∈ kOk) (hg : Gl X "isinstance") (hm : X.mg "isinstance" = none) (hv : bootBuiltins "isinstance" = some (.builtin "isinstance")) (hgC : Gl X C) (hmC : X.mg C = none) (hvC : bootBuiltins C = some (.type n))
    (hgC' : Gl X C') (hmC' : X.mg C' = none) (hvC' : bootBuiltins C' = some (.type n')) (hCn : C ≠ "__name__" := by decide) (hCd : (C == ("__debug__" : Str)) = false := by decide) (hCn' : C' ≠ "__name__" := by decide) (hCd' : (C' == ("__debug__" : Str)) = false := by decide)
    (he : starEach [a, .Tuple [.Name C p', .Name C' p''] kt pt] X.env = (false, eval a X.env) :: starEach [.Tuple [.Name C p', .Name C' p''] kt pt] X.env := by rfl) (he2 : starEach [.Tuple [.Name C p', .Name C' p''] kt pt] X.env = [(false, eval (.Tuple [.Name C p', .Name C' p''] kt pt) X.env)] := by rfl)
    (hpl : (backTo pos (starEach [.Tuple [.Name C p', .Name C' p''] kt pt] X.env)).any (·.1) = false := by rfl) (h3 : starEach [.Name C p', .Name C' p''] X.env = (false, eval (.Name C p') X.env) :: starEach [.Name C' p''] X.env := by rfl) (h4 : starEach [.Name C' p''] X.env = [(false, eval (.Name C' p'') X.env)] := by rfl) :
    PD X Ex (.Call (.Name "isinstance" p) [a, .Tuple [.Name C p', .Name C' p''] kt pt] [] pos) (zf6 n n' ta) :=
  z5Y (z7g (zdN (X := X)) hg hm hv (z6o ha.out (z6o (zgO (z6o (zah (v := .ty n) hgC hmC hvC rfl hCn hCd) (z6o (zah (v := .ty n') hgC' hmC' hvC' rfl hCn' hCd') z97 h4) h3)) z97 he2) he) (by decide) (by decide) he hpl) fun hid μ σ O σv H Q e1 c1 q => rd.go e1 c1 q fun d O1 v H1 μ1 e2 x cl r p2 =>
    ⟨by show 2 <= sizeLine; decide, fun l hl => ⟨v, l, n, n', hid, μ1, O1, d, rfl, .of z54, hn, hn', cl.laid hl, r.ext (.laid hl), post.ok p2 (.laid hl) (cl.laid hl) z6c⟩⟩
def zlM (O : Ow) : D -> R D
  | .int i => .ok (.int (-i)) O
  | _ => .bad
def zd5 (t : DE) : DE := fun σ O => (t σ O).bnd fun x O1 => zlM O1 x
theorem zcC (ha : PD X Ex a ta) : PD X Ex (.UnaryOp .USub a pos) (zd5 ta) :=
  z5Y (zkb zjq ha.out) fun hid μ σ O σv H Q e1 c1 q => rd.go e1 c1 q fun d O1 v H1 μ1 e2 x cl r p => by
    cases d with
    | int i => unfold Dat at r; subst r; exact ⟨i, rfl, post.here p cl z5v⟩
    | _ => exact False.elim p
def fIn : Ow -> D -> D -> R D := fun O x y => match y with
  | .str _ => zk4 O x y
  | _ => fPy inF O x y
def z9h : Ow -> D -> D -> R D := fun O x y => match y with
  | .str _ => match zk4 O x y with
    | .ok (.bl b) O1 => .ok (.bl (!b)) O1
    | _ => .bad
  | _ => fPy zjV O x y
theorem zcH (hu : X.A.units + 64 < cLine) : OpR X (compareOp .In) (fun x y H Q => rPy X.K inF x y H Q \/ ∃ i j, x = .str i /\ y = .str j /\ Q (.bl (!(Builtin.Str.occurrences j i 0 j.length 1).isEmpty)) H) := OpR.or (zhk hu) zfl
theorem zcW : OpD X Ex (fun x y H Q => rPy X.K inF x y H Q \/ ∃ i j, x = .str i /\ y = .str j /\ Q (.bl (!(Builtin.Str.occurrences j i 0 j.length 1).isEmpty)) H) fIn := by
  intro H hid μ O x y v w Q c dx dy q
  unfold fIn at q
  split at q
  · exact .inr (zhF H hid μ O _ _ v w Q c dx dy q)
  · exact .inl (z69 H hid μ O x y v w Q c dx dy q)
theorem zcc (hu : X.A.units + 64 < cLine) : OpR X (compareOp .NotIn) (fun x y H Q => rPy X.K zjV x y H Q \/ ∃ i j, x = .str i /\ y = .str j /\ Q (.bl (!(!(Builtin.Str.occurrences j i 0 j.length 1).isEmpty))) H) := OpR.or (zfY hu) zaG
theorem zbI : OpD X Ex (fun x y H Q => rPy X.K zjV x y H Q \/ ∃ i j, x = .str i /\ y = .str j /\ Q (.bl (!(!(Builtin.Str.occurrences j i 0 j.length 1).isEmpty))) H) z9h := by
  intro H hid μ O x y v w Q c dx dy q
  unfold z9h at q
  split at q
  · rename_i cs
    cases x with
    | str i =>
      unfold Dat at dx dy; subst dx; subst dy
      refine .inr ⟨_, _, rfl, rfl, post.here (d := D.bl (!(!(PySem.Builtin.Str.occurrences ⟨cs.toArray⟩ ⟨i.toArray⟩ 0 cs.length 1).isEmpty))) q c ?_⟩
      have e : (⟨cs.toArray⟩ : Str).length = cs.length := by show cs.toArray.size = _; simp
      rw [e]; exact z6c
    | _ => exact False.elim q
  · exact .inl (z69 H hid μ O x y v w Q c dx dy q)
end
end DL
namespace DL
open PySem L2
section
variable {X : Cx} {pins : List (Addr × Obj)} {σv : St} {H : Hp} {s : Shared}
theorem Inv.turns {h' : Heap} {t' : Nat} (ch : List Addr) (I : L2.Inv X pins σv H s) (k : ∀ b o, b ∉ ch -> s.heap.get? b = some o -> h'.get? b = some o) (hf : ∀ b ∈ ch, zbz X pins H b) : L2.Inv X pins σv H { s with heap := h', toks := t' } := by
  have nit : ∀ b u, H b = some u -> b ∉ ch := fun b u e z => by rw [(hf b z).1] at e; cases e
  have un : Un (frs X.stack) ch H H s.heap h' := ⟨fun b o e _ _ n => k b o n e, fun b o e _ _ n => ⟨o.slots, k b o n e⟩, fun _ _ _ n _ => n, fun b o e n => ⟨o, k b o n e⟩, fun _ _ e => e, fun _ _ _ e => e, fun b ps e => ⟨#[], by rw [e]; simp⟩⟩
  have hok : HOk X.prog X.w H h' := fun b u e => (I.hok b u e).stay (fun c v hc q => k c v (by
    rcases hc with z | z
    · rw [z]; exact nit b u e
    · exact nit c _ z) q) (fun _ q => q) fun _ _ q => q
  exact I.call (t' := t') (d' := s.drawn) un hok I.bare fun b hb => let ⟨_, f1, _, f3, f4, f5⟩ := hf b hb; ⟨f3, f1, f4, f5⟩
end
section
variable {K : PySem.W.Frag} {H : Hp} {hid μ : List Addr}
end
def zh9 : D -> Option Src
  | .lst ds => some (.val ds)
  | .own k => some (.own k)
  | _ => none
def zlV (t : DA) : DI := fun σ O => (t σ O).bnd fun xs O1 => match xs with
  | [x, y] => match zh9 x, zh9 y with
    | some p, some q => .ok (.zip p q) O1
    | _, _ => .bad
  | _ => .bad
section
variable {X : Cx} {Ex : Nat -> Hp -> Prop} {pos : Pos} {a b c e o : Expr} {ta tb tc te to : DE} {pins : List (Addr × Obj)} {σv : St} {H : Hp} {s : Shared} {hid μ : List Addr} {O : Ow}
theorem zgw : bootBuiltins "zip" = some (.type "zip") := by boot_by_name
theorem zgP {i j : Nat} {x y : Str} {px py pt : Pos} {kt : Nat} (hc : X.calm = true) (hN : X.N.Nodup) (hi : X.N[i]? = some x) (hj : X.N[j]? = some y) (hx : Loc X.env.scope x) (hy : Loc X.env.scope y)
    (hf : X.fn x = true \/ X.env.scope.names.lookup x = some .local) (hf2 : X.fn y = true \/ X.env.scope.names.lookup y = some .local) : PG X (.Tuple [.Name x px, .Name y py] kt pt) ((Tg.two i j).rd X.K) :=
  zgU hc (z7R (z7o hN hi hx hf) (z7R (z7o hN hj hy hf2) zdQ))
def zax : List D -> Option (List Int)
  | [] => some []
  | .int i :: r => (zax r).map (i :: ·)
  | _ => none
theorem zez {K : PySem.W.Frag} : ∀ {ds : List D} {vs : List V} {ns : List Int}, Dats K H hid μ ds vs -> zax ds = some ns -> vs = ns.map V.int
  | [], vs, ys, h, e => by unfold Dats at h; subst h; cases e; rfl
  | d :: ds, vs, ys, h, e => by
    unfold Dats at h
    obtain ⟨v, r, rfl, h1, h2⟩ := h
    cases d with
    | int i =>
      unfold zax at e
      cases q : zax ds with
      | none => rw [q] at e; cases e
      | some zs =>
        rw [q] at e; cases e
        unfold Dat at h1; subst h1
        rw [zez h2 q]; rfl
    | _ => cases e
def zdH : Ow -> List D -> R D := fun O xs => match xs with
  | [.str cs] => match PySem.intText? ⟨cs.toArray⟩ with
    | some n => if cs.length <= 640 then .ok (.int n) O else .bad
    | none => .bad
  | xs => zkl O xs
theorem zem : CallR X (.type "int") (fun xs H Q => ∃ x n, xs = [.str x] /\ PySem.intText? x = some n /\ x.length <= 640 /\ Q (.int n) H) := by
  intro pins s σ H xs us Q I r h
  obtain ⟨x, n, rfl, hn, hl, q⟩ := h
  obtain ⟨u, rfl, t, rfl⟩ := z82 r
  exact PySem.W.KIN.call_text hn hl ⟨.int _, H, I.tok _, ⟨_, rfl⟩, q⟩
def zjr : List V -> Hp -> VK -> Prop := fun xs H Q => ((∃ i, xs = [.int i] /\ Q (.int i) H) \/ ∃ k, xs = [.bl k] /\ Q (.int (if k then 1 else 0)) H) \/ ∃ x n, xs = [.str x] /\ PySem.intText? x = some n /\ x.length <= 640 /\ Q (.int n) H
theorem zel : CallR X (.type "int") zjr := CallR.or zev zem
theorem zhU : z87 X Ex zjr zdH := by
  intro H hid μ O xs vs Q c d q
  unfold zdH at q
  split at q
  · rename_i cs
    obtain ⟨v, rfl, dx⟩ := z7Q d
    unfold Dat at dx; subst dx
    split at q
    · rename_i n hn
      obtain ⟨hl, q⟩ := post.ite q
      refine .inr ⟨_, n, rfl, hn, ?_, post.here q c z5v⟩
      show cs.toArray.size <= 640
      simpa using hl
    · exact False.elim q
  · exact .inl (ziI H hid μ O _ vs Q c d q)
end
end DL
namespace DL
open PySem L2
section
variable {X : Cx} {Ex : Nat -> Hp -> Prop} {pos dpos : Pos} {a b c e o i : Expr} {ta tb tc te to ti : DE} {pins : List (Addr × Obj)} {σv : St} {H : Hp} {s : Shared} {hid μ : List Addr} {O : Ow}
def zhS : DE := fun _ O => .ok .dct O
theorem zgG : PD X Ex (.Dict [] [] pos) zhS :=
  z5Y zfw fun hid μ σ O σv H Q e1 c1 q => fun p hp => post.ok q (.laid hp) (c1.laid hp) (by
    unfold Dat
    exact ⟨p, rfl, .inl z54, c1.not_in hp⟩)
def zhR (tab : List (Int × Int)) : List (Key × V) := tab.map fun kv => (Sum.inl kv.1, V.int kv.2)
def z6U (tab : List (Int × Int)) (i : Int) : Option Int := (tab.find? fun kv => kv.1 == i).map (·.2)
def zjg (tab : List (Int × Int)) (i : Int) : Option Int := match zfh (z7V [] (zhR tab)) (Sum.inl i) with
  | some (.int v) => some v
  | _ => none
def zjR (at_ : List (Int × Int) -> Int -> Option Int) (tab : List (Int × Int)) (t : DE) : DE := fun σ O => (t σ O).bnd fun x O1 => match x with
  | .int i => match at_ tab i with
    | some v => .ok (.int v) O1
    | none => .bad
  | _ => .bad
def zjZ : List (Int × Int) -> DE -> DE := zjR zjg
def ziq : List (Int × Int) -> DE -> DE := zjR z6U
theorem z8g {σ : St} {H : Hp} {Q : List (V × V) -> Hp -> Prop} : ∀ {tab : List (Int × Int)}, Q (tab.map fun kv => (V.int kv.1, V.int kv.2)) H -> zaJ (tab.map fun kv => (tC (.int kv.1), tC (.int kv.2))) σ H Q
  | [], h => h
  | kv :: r, h => by
    show zaJ (r.map fun kv => (tC (.int kv.1), tC (.int kv.2))) σ H fun ps H3 => Q ((V.int kv.1, V.int kv.2) :: ps) H3
    exact z8g (tab := r) h
theorem zjz {keys : List (Option Expr)} {values : List Expr} {trs : List (TE × TE)} (tab : List (Int × Int)) (h : PPs X dpos keys values trs) (htr : trs = tab.map fun kv => (tC (.int kv.1), tC (.int kv.2))) (hall : keys.all (·.isSome) = true) (hl : keys.length = values.length) (h0 : keys ≠ []) (h15 : keys.length <= 15) (h15' : tab.length <= 15)
    (hu : X.A.units + 1 < cLine) (hi : PD X Ex i ti) (hs : zjX i) : PD X Ex (.Subscript (.Dict keys values dpos) i pos) (zjZ tab ti) :=
  z5Y (zhc hu (zhX h hall hl h0 h15) hi.out hs) fun hid μ σ O σv H Q e1 c1 q => fun p hp => by
    subst htr
    refine z8g ⟨z54, zhR tab, by simp [zhR, kV], by simpa [zhR] using h15', ?_⟩
    rw [zhd]
    have x0 : Ext H μ (upd H p (.dK (z7V [] (zhR tab)))) μ := .laid hp
    refine rd.go (e1.ext x0) (c1.laid hp) (post.ext q x0) fun d O1 v H1 μ1 e2 x1 c2 r p2 => ?_
    cases d with
    | int j =>
      unfold Dat at r; subst r
      have p2 : z5L Ex X.K H1 hid μ1 (match zjg tab j with | some v => .ok (.int v) O1 | none => .bad) Q := p2
      cases et : zjg tab j with
      | none => rw [et] at p2; exact False.elim p2
      | some v =>
        rw [et] at p2
        have hv : zfh (z7V [] (zhR tab)) (Sum.inl j) = some (.int v) := by
          unfold zjg at et
          split at et
          · rename_i w hw; cases et; exact hw
          · cases et
        refine ⟨p, .int v, rfl, .inl ⟨z7V [] (zhR tab), Sum.inl j, .inl (x1.keep p _ z54 (c1.not_in hp).2), rfl, hv.symm⟩, post.here p2 c2 z5v⟩
    | _ => exact False.elim p2
def zjW : List DictEntry -> List (Int × Int) -> Bool
  | [], [] => true
  | e :: es, (k, v) :: r => (match e.key with | .int i _ => i == k | _ => false) && (e.hash == hashInt k) && (match e.val with | .int i _ => i == v | _ => false) && zjW es r
  | _, _ => false
def ziP (o : Obj) (tab : List (Int × Int)) : Bool := (match o.cls with | .type n => n == "dict" | _ => false) && o.dict.isNone && o.slots.isEmpty && decide ((tab.map (·.1)).Nodup) && (match o.data with | .dict es _ => zjW es.toList tab | _ => false)
structure zir (K : PySem.W.Frag) (mg : Str -> Option Value) (x : Str) (tab : List (Int × Int)) : Prop where
  ex : ∃ e o, mg x = some (.ref e) /\ K.lookup e = some o /\ ziP o tab = true /\ (e == sysModules) = false
theorem z9s {P : Program} {w : World} : ∀ {es : List DictEntry} {tab : List (Int × Int)}, zjW es tab = true -> ∃ kvs : List (Int × Value), Pairs (intKind P w) es kvs /\ (∀ e ∈ es, ∃ k, (intKind P w).is k e.key = true /\ e.hash = (intKind P w).hash k) /\ kvs.map (·.1) = tab.map (·.1) /\
    ∀ i, (valueAt kvs i).isSome = (z6U tab i).isSome /\ ∀ v, z6U tab i = some v -> ∃ t, valueAt kvs i = some (.int v t)
  | [], [], _ => ⟨[], .nil, by simp, rfl, fun i => ⟨rfl, fun v h => by cases h⟩⟩
  | [], _ :: _, h => by cases h
  | _ :: _, [], h => by cases h
  | e :: es, (k, v) :: r, h => by
    obtain ⟨hash, key, val⟩ := e
    unfold zjW at h
    simp only [Bool.and_eq_true] at h
    obtain ⟨⟨⟨h1, h2⟩, h3⟩, h4⟩ := h
    split at h1
    · rename_i i t
      split at h3
      · rename_i j u
        have h1 : i = k := by simpa using h1
        have h2 : hash = hashInt k := by simpa using h2
        have h3 : j = v := by simpa using h3
        subst h1 h3
        obtain ⟨kvs, p, ks, em, at_⟩ := z9s (P := P) (w := w) h4
        have isk : (intKind P w).is i (.int i t) = true := by show Value.isInt i (.int i t) = true; simp [Value.isInt]
        refine ⟨(i, .int j u) :: kvs, .cons isk rfl p, fun e he => ?_, by simp [em], fun q => ?_⟩
        · rcases List.mem_cons.mp he with rfl | he
          · exact ⟨i, isk, h2⟩
          · exact ks e he
        · unfold valueAt z6U
          by_cases hq : i = q
          · subst hq
            simp
          · have f1 : (decide ((i, Value.int j u).1 = q)) = false := by simpa using hq
            have f2 : ((i, j).1 == q) = false := by simpa using hq
            rw [List.find?_cons, List.find?_cons, f1, f2]
            exact at_ q
      · cases h3
    · cases h1
theorem zgr {P : Program} {w : World} {o : Obj} {tab : List (Int × Int)} (h : ziP o tab = true) : ∃ f : Int -> Option Value, (∀ (hp : Heap) (e : Addr), hp.get? e = some o -> hp.MapOf (intKind P w) e f) /\ ∀ i, (f i).isSome = (z6U tab i).isSome /\ ∀ v, z6U tab i = some v -> ∃ t, f i = some (.int v t) := by
  obtain ⟨cls, dict, data, slots⟩ := o
  unfold ziP at h
  simp only [Bool.and_eq_true, decide_eq_true_eq] at h
  obtain ⟨⟨⟨⟨h1, h2⟩, h3⟩, h4⟩, h5⟩ := h
  split at h1
  · rename_i n
    have h1 : n = "dict" := by simpa using h1
    split at h5
    · rename_i es ep
      obtain ⟨kvs, p, ks, em, at_⟩ := z9s (P := P) (w := w) h5
      refine ⟨valueAt kvs, fun hp e he => ?_, at_⟩
      refine Heap.DictOf.mapOf (knd := intKind P w) ⟨_, es, ep, he, ⟨?_, ?_, ?_⟩, rfl, ?_, p, by rw [em]; exact h4⟩
      · show Value.type n = _; rw [h1]
      · simpa using h2
      · simpa using h3
      · intro e he
        exact ks e (by simpa using he)
    · cases h5
  · cases h1
theorem zdv {x : Str} {tab : List (Int × Int)} (h : zir X.K X.mg x tab) : ∃ e, X.mg x = some (.ref e) /\ (e == sysModules) = false /\ ∃ f : Int -> Option Value, (∀ (pins : List (Addr × Obj)) (σv : St) (H : Hp) (s : Shared), L2.Inv X pins σv H s -> s.heap.MapOf (intKind X.prog X.w) e f) /\
    ∀ i, (f i).isSome = (z6U tab i).isSome /\ ∀ v, z6U tab i = some v -> ∃ t, f i = some (.int v t) := by
  obtain ⟨e, o, h1, h2, h3, h4⟩ := h.ex
  obtain ⟨f, m, at_⟩ := zgr (P := X.prog) (w := X.w) h3
  exact ⟨e, h1, h4, f, fun pins σv H s I => m _ e (I.kIn e o h2), at_⟩
theorem z88 (i : Int) (t : Tok) {P : Program} {w : World} : (intKind P w).is i (.int i t) = true := by show Value.isInt i (.int i t) = true; simp [Value.isInt]
theorem zeh {x : Str} {tab : List (Int × Int)} {p : Pos} (h : zir X.K X.mg x tab) (hg : Gl X x) (hi : PD X Ex i ti) (hs : zjX i) (hd : (x == ("__debug__" : Str)) = false := by decide) : PD X Ex (.Subscript (.Name x p) i pos) (ziq tab ti) := by
  obtain ⟨e, h1, h4, f, mp, at_⟩ := zdv h
  refine ⟨?_⟩
  rintro pins s σv H Q I ⟨hid, μ, σ, O, e1, c1, q⟩
  refine zew (T := "dict") PySem.F.slot_dict_getitem.lookup hs (z9N (v := .ref e) hg h1 rfl hd pins s σv H (fun v H1 => v = .ref e /\ H1 = H) I ⟨rfl, rfl⟩ |> fun z => thn z fun u s1 ⟨v, H1, I1, ru, ev, eh⟩ => ?_)
  subst ev eh
  cases ru
  refine thn (hi.out pins s1 σv H1 _ I1 (rd.go e1 c1 q (Q1 := fun y H2 => ∃ hid μ2 O2 d, Cells X.K H2 hid μ2 O2 /\ Dat X.K H2 hid μ2 d y /\ z5L Ex X.K H2 hid μ2 (match d with | .int i => (match z6U tab i with | some v => .ok (.int v) O2 | none => .bad) | _ => .bad) Q)
    fun d O2 y H2 μ2 e2 x2 c2 r p2 => ⟨hid, μ2, O2, d, c2, r, p2⟩)) fun u s2 ⟨y, H2, I2, ru, hid, μ2, O2, d, c2, r, p2⟩ => ?_
  have M := mp pins σv H2 s2 I2
  cases d with
  | int j =>
    unfold Dat at r; subst r
    obtain ⟨t, rfl⟩ := ru
    have p2 : z5L Ex X.K H2 hid μ2 (match z6U tab j with | some v => .ok (.int v) O2 | none => .bad) Q := p2
    cases et : z6U tab j with
    | none => rw [et] at p2; exact False.elim p2
    | some v =>
      rw [et] at p2
      obtain ⟨t', ht⟩ := (at_ j).2 v et
      exact ⟨M.typeIs, wpAny_getItem_of (z88 j t) M ht ⟨.int v, H2, I2.tok _, ⟨_, rfl⟩, post.here p2 c2 z5v⟩⟩
  | _ => exact False.elim p2
def z7n (neg : Bool) (tab : List (Int × Int)) (t : DE) : DE := fun σ O => (t σ O).bnd fun x O1 => match x with
  | .int i => .ok (.bl (if neg = true then !(z6U tab i).isSome else (z6U tab i).isSome)) O1
  | _ => .bad
theorem zfN {x : Str} {tab : List (Int × Int)} {p : Pos} (neg : Bool) (h : zir X.K X.mg x tab) (hg : Gl X x) (hi : PD X Ex i ti) (hd : (x == ("__debug__" : Str)) = false := by decide) : PC X (if neg = true then .NotIn else .In) i (.Name x p) (rd Ex X.K (z7n neg tab ti)) := by
  obtain ⟨e, h1, h4, f, mp, at_⟩ := zdv h
  rintro pins s σv H Q I ⟨hid, μ, σ, O, e1, c1, q⟩
  refine thn (hi.out pins s σv H _ I (rd.go e1 c1 q (Q1 := fun y H2 => ∃ hid μ2 O2 d, Cells X.K H2 hid μ2 O2 /\ Dat X.K H2 hid μ2 d y /\ z5L Ex X.K H2 hid μ2 (match d with | .int i => .ok (.bl (if neg = true then !(z6U tab i).isSome else (z6U tab i).isSome)) O2 | _ => .bad) Q)
    fun d O2 y H2 μ2 e2 x2 c2 r p2 => ⟨hid, μ2, O2, d, c2, r, p2⟩)) fun u s2 ⟨y, H2, I2, ru, hid, μ2, O2, d, c2, r, p2⟩ => ?_
  refine thn (z9N (v := .ref e) hg h1 rfl hd pins s2 σv H2 (fun v H1 => v = .ref e /\ H1 = H2) I2 ⟨rfl, rfl⟩) fun w s3 ⟨v, H3, I3, rw', ev, eh⟩ => ?_
  subst ev eh
  cases rw'
  have M := mp pins σv H3 s3 I3
  cases d with
  | int j =>
    unfold Dat at r; subst r
    obtain ⟨t, rfl⟩ := ru
    have p2 : z5L Ex X.K H3 hid μ2 (.ok (.bl (if neg = true then !(z6U tab j).isSome else (z6U tab j).isSome)) O2) Q := p2
    rw [<- (at_ j).1] at p2
    cases neg with
    | false => exact wpAny_in_of (z88 j t) h4 M ⟨.bl _, H3, I3.tok _, rfl, post.here p2 c2 z6c⟩
    | true => exact wpAny_notIn_of (z88 j t) h4 M ⟨.bl _, H3, I3.tok _, rfl, post.here p2 c2 z6c⟩
  | _ => exact False.elim p2
theorem zkW {td : DE} {hid μ : List Addr} {σ : Sg} {O : Ow} {σv : St} {H : Hp} {Q : Bool -> Hp -> Prop} (e1 : EnvOk X.K H hid μ σ σv) (c1 : Cells X.K H hid μ O) (q : z8s Ex X.K H hid μ (z5h td σ O) Q) : tB (rd Ex X.K td) σv H Q :=
  zco (X := X) (t := rd Ex X.K td) (td := td) (fun hid μ σ O σv H Q e1 c1 q => ⟨hid, μ, σ, O, e1, c1, q⟩) hid μ σ O σv H Q e1 c1 q
theorem zdm {x : Str} {tab : List (Int × Int)} {p : Pos} (h : zir X.K X.mg x tab) (hg : Gl X x) (hi : PD X Ex i ti) (hd : (x == ("__debug__" : Str)) = false := by decide) (hm : behindInMarks .NotIn (.Name x p) = false := by rfl) : PDT X Ex (.Compare i [.NotIn] [.Name x p] pos) (z5h (z7n true tab ti)) :=
  zcu (zjB (zfN true h hg hi hd) hm) fun hid μ σ O σv H Q e1 c1 q => zkW e1 c1 q
end
end DL
namespace DL
open PySem L2 PyProof.Rows
section
variable {prog : Program} {w : World} {A : Around} {E : Value -> Shared -> Prop} {s : Shared} {a₀ : Array Keyed} {κ : PyProof.Rows.KeyKind}
end
section
variable {X : Cx} {Ex : Nat -> Hp -> Prop} {H : Hp} {hid μ : List Addr}
theorem z6d : bootBuiltins "len" = some (.builtin "len") := by boot_by_name
theorem zdO : bootBuiltins "all" = some (.builtin "all") := by boot_by_name
theorem zj7 : bootBuiltins "any" = some (.builtin "any") := by boot_by_name
theorem zeT : bootBuiltins "int" = some (.type "int") := by boot_by_name
theorem zjv : bootBuiltins "str" = some (.type "str") := by boot_by_name
theorem z6M : bootBuiltins "tuple" = some (.type "tuple") := by boot_by_name
theorem z85 : bootBuiltins "list" = some (.type "list") := by boot_by_name
theorem ziJ : bootBuiltins "max" = some (.builtin "max") := by boot_by_name
theorem zjn : bootBuiltins "min" = some (.builtin "min") := by boot_by_name
theorem z4K : bootBuiltins "isinstance" = some (.builtin "isinstance") := by boot_by_name
theorem z9V : bootBuiltins "bool" = some (.type "bool") := by boot_by_name
end
theorem z64 {es r : List Expr} {pos : Pos} {env : Env} : starEach (.List es pos :: r) env = (false, eval (.List es pos) env) :: starEach r env := rfl
theorem z8z {es r : List Expr} {k} {pos : Pos} {env : Env} : starEach (.Tuple es k pos :: r) env = (false, eval (.Tuple es k pos) env) :: starEach r env := rfl
theorem z7w {e : Expr} {gs} {sc : Scope} {r : List Expr} {pos : Pos} {env : Env} : starEach (.ListComp e gs sc pos :: r) env = (false, eval (.ListComp e gs sc pos) env) :: starEach r env := rfl
theorem z59 {f : Expr} {as kws} {r : List Expr} {pos : Pos} {env : Env} : starEach (.Call f as kws pos :: r) env = (false, eval (.Call f as kws pos) env) :: starEach r env := rfl
theorem zb1 {f g : Expr} {r : List Expr} {pos : Pos} {env : Env} : starEach (.Subscript f g pos :: r) env = (false, eval (.Subscript f g pos) env) :: starEach r env := rfl
theorem z6X {f g : Expr} {o : Operator} {r : List Expr} {pos : Pos} {env : Env} : starEach (.BinOp f o g pos :: r) env = (false, eval (.BinOp f o g pos) env) :: starEach r env := rfl
theorem zhu {f : Expr} {o : UnaryOp} {r : List Expr} {pos : Pos} {env : Env} : starEach (.UnaryOp o f pos :: r) env = (false, eval (.UnaryOp o f pos) env) :: starEach r env := rfl
theorem z4B {f : Str} {r : List Expr} {pos : Pos} {env : Env} : starEach (.Name f pos :: r) env = (false, eval (.Name f pos) env) :: starEach r env := rfl
theorem z4D {f} {k} {r : List Expr} {pos : Pos} {env : Env} : starEach (.Constant f k pos :: r) env = (false, eval (.Constant f k pos) env) :: starEach r env := rfl
theorem ziv {f : Expr} {os fs} {r : List Expr} {pos : Pos} {env : Env} : starEach (.Compare f os fs pos :: r) env = (false, eval (.Compare f os fs pos) env) :: starEach r env := rfl
theorem zdX {a b} {r : List Expr} {pos : Pos} {env : Env} : starEach (.Dict a b pos :: r) env = (false, eval (.Dict a b pos) env) :: starEach r env := rfl
end DL
namespace DL
theorem zie {α : Type} (pre ds : List α) (d : α) : (pre ++ d :: ds)[pre.length]? = some d := by simp
theorem zb2 {step : D -> Ow -> List D -> R (List D)} {O : Ow} {g : D -> List D} : ∀ (ds pre acc : List D) (f : Nat), ds.length <= f -> (∀ d ∈ ds, ∀ acc : List D, acc.length < 100000 -> step d O acc = .ok (acc ++ g d) O) -> acc.length + (ds.flatMap g).length + ds.length < 100000 ->
    z5C (.val (pre ++ ds)) step f pre.length O acc = .ok (acc ++ ds.flatMap g) O
  | [], pre, acc, f, _, _, _ => by
    cases f <;> (unfold z5C; simp [Src.get])
  | d :: ds, pre, acc, 0, h, _, _ => by simp at h
  | d :: ds, pre, acc, f + 1, h, hs, hl => by
    unfold z5C
    have e : Src.get (.val (pre ++ d :: ds)) O pre.length = some d := zie pre ds d
    rw [e]
    simp only [List.flatMap_cons, List.length_append, List.length_cons] at hl
    show ((step d O acc).bnd fun acc' O' => z5C (.val (pre ++ d :: ds)) step f (pre.length + 1) O' acc') = _
    rw [hs d List.mem_cons_self acc (by omega)]
    show z5C (.val (pre ++ d :: ds)) step f (pre.length + 1) O (acc ++ g d) = _
    have := zb2 ds (pre ++ [d]) (acc ++ g d) f (by simpa using h) (fun d' h' => hs d' (List.mem_cons_of_mem _ h')) (by rw [List.length_append]; omega)
    rw [List.append_assoc, List.singleton_append, List.length_append, List.length_singleton] at this
    rw [this]; simp
theorem z8Z {ext : Nat} {it0 : DI} {i : Nat} {ts : List DT} {te : DE} {σ : Sg} {O : Ow} {ds : List D} {p : D -> Bool} {e : D -> D} (hi : it0 σ O = .ok (.val ds) O) (hl : ds.length < 50000)
    (hp : ∀ d ∈ ds, zbg ts ((clr (clr (σ ++ List.replicate ext none) [i]) [i]).set i (some d)) O = .ok (p d) O) (he : ∀ d ∈ ds, p d = true -> te ((clr (clr (σ ++ List.replicate ext none) [i]) [i]).set i (some d)) O = .ok (e d) O) (o : Bool) :
    z5I o ext it0 (.one i) ts [] te σ O = zdu o (.ok ((ds.filter p).map e) O) := by
  unfold z5I z7t
  rw [hi]
  show zdu o (noX (z5C (.val ds) _ ds.length 0 O [])) = _
  have step : ∀ d ∈ ds, ∀ acc : List D, acc.length < 100000 -> z6I ⟨it0, .one i, ts⟩ [] te (clr (σ ++ List.replicate ext none) (z52 [⟨it0, .one i, ts⟩])) d O acc = .ok (acc ++ (if p d = true then [e d] else [])) O := by
    intro d hd acc ha
    show (match Tg.put (.one i) d (clr (clr (σ ++ List.replicate ext none) [i]) [i]) with | some σ1 => (zbg ts σ1 O).bnd fun b O3 => if b = true then z6D [] te σ1 O3 acc else .ok acc O3 | none => .bad) = _
    show (zbg ts ((clr (clr (σ ++ List.replicate ext none) [i]) [i]).set i (some d)) O).bnd _ = _
    rw [hp d hd]
    show (if p d = true then z6D [] te _ O acc else .ok acc O) = _
    by_cases hpd : p d = true
    · rw [if_pos hpd, if_pos hpd]
      unfold z6D
      rw [he d hd hpd]
      show (if acc.length < 100000 then _ else _) = _
      rw [if_pos ha]
    · rw [if_neg hpd, if_neg hpd]; simp
  have hb : ∀ l : List D, (l.flatMap fun d => if p d = true then [e d] else []) = (l.filter p).map e := by
    intro l
    induction l with
    | nil => rfl
    | cons x l ih =>
      rw [List.flatMap_cons, ih, List.filter_cons]
      by_cases hx : p x = true
      · rw [if_pos hx, if_pos hx]; rfl
      · rw [if_neg hx, if_neg hx]; rfl
  have hlen : ((ds.filter p).map e).length <= ds.length := by rw [List.length_map]; exact List.length_filter_le _ _
  have w := zb2 (O := O) (g := fun d => if p d = true then [e d] else []) ds [] [] ds.length (Nat.le_refl _) step (by rw [hb]; simp at hlen ⊢; omega)
  rw [List.nil_append, hb, List.nil_append] at w
  have w' : z5C (.val ds) (z6I ⟨it0, .one i, ts⟩ [] te (clr (σ ++ List.replicate ext none) (z52 [⟨it0, .one i, ts⟩]))) ds.length 0 O [] = .ok ((ds.filter p).map e) O := w
  rw [w']; rfl
theorem z7G {ds : List D} {step : D -> Sg -> Ow -> RS} (I : Nat -> Sg -> Ow -> Prop) (h : ∀ i σ O d, I i σ O -> ds[i]? = some d -> ∃ σ' O', step d σ O = .nx σ' O' /\ I (i + 1) σ' O') :
    ∀ (f i : Nat) (σ : Sg) (O : Ow), I i σ O -> ds.length <= i + f -> i <= ds.length -> ∃ σ' O', z7B (.val ds) step f i σ O = .nx σ' O' /\ I ds.length σ' O'
  | 0, i, σ, O, hI, h1, h2 => by
    have : i = ds.length := by omega
    subst this
    refine ⟨σ, O, ?_, hI⟩
    unfold z7B
    have e : Src.get (.val ds) O ds.length = none := by simp [Src.get]
    rw [e]
  | f + 1, i, σ, O, hI, h1, h2 => by
    unfold z7B
    have eg : Src.get (.val ds) O i = ds[i]? := rfl
    rw [eg]
    cases e : ds[i]? with
    | none =>
      have : i = ds.length := by have := List.getElem?_eq_none_iff.mp e; omega
      subst this
      exact ⟨σ, O, rfl, hI⟩
    | some d =>
      obtain ⟨σ', O', e1, e2⟩ := h i σ O d hI e
      dsimp only
      rw [e1]
      exact z7G I h f (i + 1) σ' O' e2 (by omega) (by have := (List.getElem?_eq_some_iff.mp e).1; omega)
theorem zaw {ds : List D} {step : D -> Ow -> List D -> R (List D)} (I : Nat -> Ow -> List D -> Prop) (h : ∀ i O acc d, I i O acc -> ds[i]? = some d -> ∃ acc' O', step d O acc = .ok acc' O' /\ I (i + 1) O' acc') :
    ∀ (f i : Nat) (O : Ow) (acc : List D), I i O acc -> ds.length <= i + f -> i <= ds.length -> ∃ acc' O', z5C (.val ds) step f i O acc = .ok acc' O' /\ I ds.length O' acc'
  | 0, i, O, acc, hI, h1, h2 => by
    have : i = ds.length := by omega
    subst this
    refine ⟨acc, O, ?_, hI⟩
    unfold z5C
    have e : Src.get (.val ds) O ds.length = none := by simp [Src.get]
    rw [e]
  | f + 1, i, O, acc, hI, h1, h2 => by
    unfold z5C
    have eg : Src.get (.val ds) O i = ds[i]? := rfl
    rw [eg]
    cases e : ds[i]? with
    | none =>
      have : i = ds.length := by have := List.getElem?_eq_none_iff.mp e; omega
      subst this
      exact ⟨acc, O, rfl, hI⟩
    | some d =>
      obtain ⟨acc', O', e1, e2⟩ := h i O acc d hI e
      dsimp only
      rw [e1]
      exact zaw I h f (i + 1) O' acc' e2 (by omega) (by have := (List.getElem?_eq_some_iff.mp e).1; omega)
def z7A (n : Nat) : D -> Bool
  | .own k => decide (k < n)
  | .lst _ => false
  | .tup _ => false
  | _ => true
def zbv (O : Ow) : Prop := ∀ c ∈ O, ∀ d ∈ c, z7A O.length d = true
theorem z8w {O : Ow} {n f : Nat} {d : D} (h : z7A n d = true) : frz O n f d = some d := by
  cases d with
  | own k =>
    have h : k < n := by simpa [z7A] using h
    cases f <;> (unfold frz; dsimp only; rw [if_pos h])
  | lst ds => cases h
  | tup ds => cases h
  | _ => cases f <;> rfl
theorem z7y {α : Type} {f : α -> Option α} : ∀ {l : List α}, (∀ x ∈ l, f x = some x) -> z6Q f l = some l
  | [], _ => rfl
  | x :: l, h => by
    unfold z6Q
    rw [h x List.mem_cons_self, z7y fun y hy => h y (List.mem_cons_of_mem _ hy)]
theorem zeN {O' : Ow} {d : D} {cs : List D} (hO : ∀ c ∈ O', ∀ d ∈ c, z7A O'.length d = true) (X : Ow) (h : frz (O' ++ X) O'.length 8 d = some (.lst cs)) : zeb O'.length (.ok d (O' ++ X)) = .ok (.lst cs) O' := by
  unfold zeb
  dsimp only
  rw [h]
  have : (O' ++ X).take O'.length = O' := by simp
  rw [this, z7y fun c hc => z7y fun d hd => z8w (hO c hc d hd)]
section
variable {σ σ' : Sg} {O O1 O2 O3 : Ow} {t u ta tb : DE} {tA : DA} {x y : D} {b : Bool} {ds : List D}
theorem z55 (h : t σ O = .ok x O1) : z4w t z4C σ O = .ok [x] O1 := by show ((t σ O).bnd _) = _; rw [h]; rfl
theorem z5A (h1 : t σ O = .ok x O1) (h2 : u σ O1 = .ok y O2) : z4w t (z4w u z4C) σ O = .ok [x, y] O2 := by
  show ((t σ O).bnd _) = _
  rw [h1]
  show ((z4w u z4C σ O1).bnd _) = _
  rw [z55 h2]; rfl
theorem z6q (h1 : t σ O = .ok x O1) (h2 : tA σ O1 = .ok ds O2) : z4w t tA σ O = .ok (x :: ds) O2 := by
  show ((t σ O).bnd _) = _
  rw [h1]
  show ((tA σ O1).bnd _) = _
  rw [h2]; rfl
theorem z5o {n : Nat} {F : List D -> Ow -> R D} (h : tA σ O = .ok ds O1) (hn : ds.length = n) : dFn n F tA σ O = F ds O1 := by show ((tA σ O).bnd _) = _; rw [h]; show (if ds.length = n then _ else _) = _; rw [if_pos hn]
theorem z58 {f : Ow -> List D -> R D} (h : tA σ O = .ok ds O1) : z4N f tA σ O = f O1 ds := by show ((tA σ O).bnd _) = _; rw [h]; rfl
theorem z4P {f : Ow -> D -> D -> R D} (h1 : ta σ O = .ok x O1) (h2 : tb σ O1 = .ok y O2) : dOp f ta tb σ O = f O2 x y := by
  show ((ta σ O).bnd _) = _
  rw [h1]
  show ((tb σ O1).bnd _) = _
  rw [h2]; rfl
theorem z5P (h : t σ O = .ok (.bl b) O1) : z5h t σ O = .ok b O1 := by show ((t σ O).bnd _) = _; rw [h]; rfl
theorem z7v (h : t σ O = .ok (.bl b) O1) : z5V t σ O = .ok b O1 := by show ((t σ O).bnd _) = _; rw [h]; rfl
theorem z8x {c : DT} (h : c σ O = .ok b O1) : z5g c σ O = .ok (!b) O1 := by show ((c σ O).bnd _) = _; rw [h]; rfl
theorem zhL (h : t σ O = .ok (.lst ds) O1) : dIt t σ O = .ok (.val ds) O1 := by show ((t σ O).bnd _) = _; rw [h]; rfl
theorem z5j {i : Nat} (h : t σ O = .ok x O1) : z5n i t σ O = .nx (σ.set i (some x)) O1 := by show ((t σ O).bnS _) = _; rw [h]; rfl
theorem z5R (h : t σ O = .ok x O1) : z5c t σ O = .rt x O1 := by show ((t σ O).bnS _) = _; rw [h]; rfl
theorem z5F {c : DT} {a d : DS} (h : c σ O = .ok b O1) : sIf c a d σ O = if b = true then a σ O1 else d σ O1 := by show ((c σ O).bnS _) = _; rw [h]; rfl
theorem z4L {a d : DS} (h : a σ O = .nx σ' O1) : z4W a d σ O = d σ' O1 := by show (match a σ O with | .nx σ' O' => _ | r => r) = _; rw [h]
theorem z7a {a d : DS} (h : a σ O = .rt x O1) : z4W a d σ O = .rt x O1 := by show (match a σ O with | .nx σ' O' => _ | r => r) = _; rw [h]
theorem zc7 {it : DI} {g : Tg} {body : DS} {src : Src} (h : it σ O = .ok src O1) : zdr it g body σ O = z7B src (fun d σ O => match g.put d σ with | some σ' => body σ' O | none => .bad) (src.size O1) 0 σ O1 := by show ((it σ O).bnS _) = _; rw [h]; rfl
theorem z6m {n : Nat} (h : tA σ O = .ok [.int (n : Nat)] O1) (hn : n < 100000) : z5S tA σ O = .ok (.val ((List.range n).map fun (i : Nat) => D.int (i : Int))) O1 := by
  have hc : -1000000 <= ((n : Nat) : Int) /\ ((n : Nat) : Int) <= 1000000 := by constructor <;> omega
  unfold z5S
  rw [h]
  dsimp only [R.bnd]
  rw [if_pos hc]
  unfold zgZ
  have e2 : (((n : Nat) : Int) - 0).toNat = n := by omega
  rw [e2]
  congr 2
  refine List.map_congr_left fun i _ => ?_
  rw [Int.zero_add]
theorem zac {cs : List Nat} (h : cs.length <= 100000) : z5T O [.str cs] = .ok (.int cs.length) O := by
  show (if cs.length <= 100000 then R.ok (D.int cs.length) O else R.bad) = _
  rw [if_pos h]
theorem zbW {cs : List Nat} {i : Nat} (h : cs.length <= 100000) (hi : i < cs.length) : fIx O (.str cs) (.int (i : Int)) = .ok (.str [cs[i]]) O := by
  show (if cs.length <= 100000 then (match L2.atI cs (i : Int) with | some ch => R.ok (D.str [ch]) O | none => R.bad) else R.bad) = _
  rw [if_pos h, L2.atI_nat (List.getElem?_eq_getElem hi)]
theorem zif {i : Nat} (hi : i < ds.length) : fIx O (.tup ds) (.int (i : Int)) = .ok ds[i] O := by
  show (match L2.atI ds (i : Int) with | some d => R.ok d O | none => R.bad) = _
  rw [L2.atI_nat (List.getElem?_eq_getElem hi)]
theorem zeE {i : Nat} (hi : i < ds.length) : fIx O (.lst ds) (.int (i : Int)) = .ok ds[i] O := by
  show (match L2.atI ds (i : Int) with | some d => R.ok d O | none => R.bad) = _
  rw [L2.atI_nat (List.getElem?_eq_getElem hi)]
end
theorem zal (O : Ow) (n : Nat) : ∀ l : List Int, z6Q (z8C O n) (l.map D.int) = some (l.map PySem.PyData.int)
  | [] => rfl
  | x :: l => by
    have e : z8C O n (.int x) = some (.int x) := by cases n <;> rfl
    show z6Q (z8C O n) (D.int x :: l.map D.int) = _
    unfold z6Q
    rw [e, zal O n l]; rfl
theorem ziZ (O : Ow) (l : List Int) : fPy eqF O (.lst (l.map D.int)) (.lst []) = .ok (.bl l.isEmpty) O := by
  unfold fPy py
  have e : z8C O 8 (.lst (l.map D.int)) = some (.list (l.map PySem.PyData.int)) := by
    show (z6Q (z8C O 7) (l.map D.int)).map PySem.PyData.list = _
    rw [zal]; rfl
  rw [e]
  cases l <;> rfl
end DL
namespace DL
theorem zck {α : Type} {src : Src} {step : D -> Ow -> List D -> R (List D)} {O : Ow} {inj : α -> D} {g : α -> List D} {all : List α} (hg : ∀ i, src.get O i = (all.map inj)[i]?) : ∀ (ds pre : List α) (acc : List D) (f : Nat), all = pre ++ ds -> ds.length <= f ->
    (∀ a ∈ ds, ∀ acc : List D, acc.length < 100000 -> step (inj a) O acc = .ok (acc ++ g a) O) -> acc.length + (ds.flatMap g).length + ds.length < 100000 -> z5C src step f pre.length O acc = .ok (acc ++ ds.flatMap g) O
  | [], pre, acc, f, ha, _, _, _ => by
    have e : src.get O pre.length = none := by rw [hg, ha]; simp
    cases f <;> (unfold z5C; rw [e]; simp)
  | d :: ds, pre, acc, 0, _, h, _, _ => by simp at h
  | d :: ds, pre, acc, f + 1, ha, h, hs, hl => by
    unfold z5C
    have e : src.get O pre.length = some (inj d) := by rw [hg, ha]; simp
    rw [e]
    simp only [List.flatMap_cons, List.length_append, List.length_cons] at hl
    show ((step (inj d) O acc).bnd fun acc' O' => z5C src step f (pre.length + 1) O' acc') = _
    rw [hs d List.mem_cons_self acc (by omega)]
    show z5C src step f (pre.length + 1) O (acc ++ g d) = _
    have := zck hg ds (pre ++ [d]) (acc ++ g d) f (by rw [ha]; simp) (by simpa using h) (fun d' h' => hs d' (List.mem_cons_of_mem _ h')) (by rw [List.length_append]; omega)
    rw [List.length_append, List.length_singleton] at this
    rw [this]; simp
theorem z7p {α β : Type} (p : α -> Bool) (e : α -> β) : ∀ l : List α, (l.flatMap fun d => if p d = true then [e d] else []) = (l.filter p).map e
  | [] => rfl
  | x :: l => by
    rw [List.flatMap_cons, z7p p e l, List.filter_cons]
    by_cases hx : p x = true
    · rw [if_pos hx, if_pos hx]; rfl
    · rw [if_neg hx, if_neg hx]; rfl
theorem za7 {α : Type} {ext : Nat} {it0 : DI} {g : Tg} {ts : List DT} {te : DE} {σ : Sg} {O O0 : Ow} {src : Src} {l : List α} {inj : α -> D} {p : α -> Bool} {e : α -> D} {τ : α -> Sg} {o : Bool} (hi : it0 σ O0 = .ok src O) (hg : ∀ i, src.get O i = (l.map inj)[i]?) (hsz : src.size O = l.length) (hl : l.length < 50000)
    (hτ : ∀ a ∈ l, g.put (inj a) (clr (clr (σ ++ List.replicate ext none) (g.slots ++ [])) (g.slots ++ [])) = some (τ a)) (hp : ∀ a ∈ l, zbg ts (τ a) O = .ok (p a) O) (he : ∀ a ∈ l, p a = true -> te (τ a) O = .ok (e a) O) :
    z5I o ext it0 g ts [] te σ O0 = zdu o (.ok ((l.filter p).map e) O) := by
  unfold z5I z7t
  rw [hi]
  show zdu o (noX (z5C src _ (src.size O) 0 O [])) = _
  have step : ∀ a ∈ l, ∀ acc : List D, acc.length < 100000 -> z6I ⟨it0, g, ts⟩ [] te (clr (σ ++ List.replicate ext none) (z52 [⟨it0, g, ts⟩])) (inj a) O acc = .ok (acc ++ (if p a = true then [e a] else [])) O := by
    intro a ha acc hacc
    show (match g.put (inj a) (clr (clr (σ ++ List.replicate ext none) (g.slots ++ [])) (g.slots ++ [])) with | some σ1 => (zbg ts σ1 O).bnd fun b O3 => if b = true then z6D [] te σ1 O3 acc else .ok acc O3 | none => .bad) = _
    rw [hτ a ha]
    show (zbg ts (τ a) O).bnd _ = _
    rw [hp a ha]
    show (if p a = true then z6D [] te _ O acc else .ok acc O) = _
    by_cases hpd : p a = true
    · rw [if_pos hpd, if_pos hpd]
      unfold z6D
      rw [he a ha hpd]
      show (if acc.length < 100000 then _ else _) = _
      rw [if_pos hacc]
    · rw [if_neg hpd, if_neg hpd]; simp
  have hlen : ((l.filter p).map e).length <= l.length := by rw [List.length_map]; exact List.length_filter_le _ _
  have w := zck (O := O) (inj := inj) (g := fun d => if p d = true then [e d] else []) hg l [] [] l.length rfl (Nat.le_refl _) step (by rw [z7p]; simp at hlen ⊢; omega)
  rw [z7p, List.nil_append] at w
  have w' : z5C src (z6I ⟨it0, g, ts⟩ [] te (clr (σ ++ List.replicate ext none) (z52 [⟨it0, g, ts⟩]))) (src.size O) 0 O [] = .ok ((l.filter p).map e) O := by rw [hsz]; exact w
  rw [w']; rfl
section
variable {α : Type} {ext : Nat} {it0 : DI} {i : Nat} {t : DT} {te : DE} {σ : Sg} {O O0 : Ow} {l : List α} {inj : α -> D} {p : α -> Bool} {e : α -> D} {τ : α -> Sg} {o : Bool}
theorem zcs {σ : Sg} {O : Ow} {b : Bool} (h : t σ O = .ok b O) : zbg [t] σ O = .ok b O := by
  show ((t σ O).bnd _) = _
  rw [h]; cases b <;> rfl
theorem zhj (hi : it0 σ O0 = .ok (.val (l.map inj)) O) (hl : l.length < 50000) (hτ : ∀ a, (clr (clr (σ ++ List.replicate ext none) [i]) [i]).set i (some (inj a)) = τ a) (hp : ∀ a ∈ l, t (τ a) O = .ok (p a) O) (he : ∀ a ∈ l, p a = true -> te (τ a) O = .ok (e a) O) :
    z5I o ext it0 (.one i) [t] [] te σ O0 = zdu o (.ok ((l.filter p).map e) O) :=
  za7 (g := .one i) hi (fun _ => rfl) (by show (l.map inj).length = _; simp) hl (fun a _ => congrArg some (hτ a)) (fun a ha => zcs (hp a ha)) he
theorem zfC (hi : it0 σ O0 = .ok (.val (l.map inj)) O) (hl : l.length < 50000) (hτ : ∀ a, (clr (clr (σ ++ List.replicate ext none) [i]) [i]).set i (some (inj a)) = τ a) (he : ∀ a ∈ l, te (τ a) O = .ok (e a) O) :
    z5I o ext it0 (.one i) [] [] te σ O0 = zdu o (.ok (l.map e) O) := by
  have := za7 (o := o) (g := .one i) (ts := []) (p := fun _ => true) (te := te) hi (fun _ => rfl) (by show (l.map inj).length = _; simp) hl (fun a _ => congrArg some (hτ a)) (fun a ha => rfl) fun a ha _ => he a ha
  rw [this, List.filter_eq_self.mpr (fun _ _ => rfl)]
end
theorem zex {α : Type} {it : DI} {i : Nat} {body : DS} {σ : Sg} {O0 O : Ow} {l : List α} {inj : α -> D} (hi : it σ O0 = .ok (.val (l.map inj)) O) (I : Nat -> Sg -> Ow -> Prop) (h : ∀ (k : Nat) a σ O, l[k]? = some a -> I k σ O -> ∃ σ' O', body (σ.set i (some (inj a))) O = .nx σ' O' /\ I (k + 1) σ' O') (h0 : I 0 σ O) :
    ∃ σ' O', zdr it (.one i) body σ O0 = .nx σ' O' /\ I l.length σ' O' := by
  obtain ⟨σ', O', l1, l2⟩ := z7G (ds := l.map inj) (step := fun d σ O => match Tg.put (.one i) d σ with | some σ' => body σ' O | none => .bad) I (fun j σ O d hI hd => by
    rw [List.getElem?_map] at hd
    cases e : l[j]? with
    | none => rw [e] at hd; cases hd
    | some a =>
      rw [e] at hd; cases hd
      exact h j a σ O e hI) (l.map inj).length 0 σ O h0 (by simp) (Nat.zero_le _)
  rw [List.length_map] at l2
  exact ⟨σ', O', (zc7 hi).trans l1, l2⟩
theorem zak : ∀ l : List Bool, bls (l.map D.bl) = some l
  | [] => rfl
  | x :: l => by
    show (bls (l.map D.bl)).map (x :: ·) = _
    rw [zak l]; rfl
theorem zgg {α : Type} (O : Ow) (l : List α) (p : α -> Bool) : zjt O [.lst (l.map fun a => D.bl (p a))] = .ok (.bl (l.any p)) O := by
  show (match bls (l.map fun a => D.bl (p a)) with | some bs => R.ok (D.bl (bs.any id)) O | none => R.bad) = _
  have : (l.map fun a => D.bl (p a)) = (l.map p).map D.bl := by rw [List.map_map]; rfl
  rw [this, zak]
  show R.ok (D.bl _) O = _
  rw [List.any_map]; rfl
theorem zbt {α : Type} (O : Ow) (l : List α) (p : α -> Bool) : zgW O [.lst (l.map fun a => D.bl (p a))] = .ok (.bl (l.all p)) O := by
  show (match bls (l.map fun a => D.bl (p a)) with | some bs => R.ok (D.bl (bs.all id)) O | none => R.bad) = _
  have : (l.map fun a => D.bl (p a)) = (l.map p).map D.bl := by rw [List.map_map]; rfl
  rw [this, zak]
  show R.ok (D.bl _) O = _
  rw [List.all_map]; rfl
end DL
namespace DL
open PySem L2
structure XAt (h0 : Heap) (H : Hp) (h : Heap) (a : Addr) (C : Value) : Prop where
  ex : ∃ oe vs, h.get? a = some oe /\ (oe.cls = C /\ oe.dict = none) /\ oe.data = .fields vs /\ 1 < vs.size /\ (vs[1]? = some .none \/ ∃ T oT ts, vs[1]? = some (.ref T) /\ T ≠ a /\ h0.get? T = none /\ H T = none /\ h.get? T = some oT /\ oT.data = .fields ts /\ ts[3]? = some .none)
  new : h0.get? a = none
  free : H a = none
theorem zec (o : Obj) (f) : (o.mapFields f).dict = o.dict := by
  obtain ⟨c, d, dt, sl⟩ := o; cases dt <;> rfl
structure Kp (h0 : Heap) (H : Hp) (fs : List Addr) (h h' : Heap) : Prop where
  keep : ∀ b o, h.get? b = some o -> b ∉ fs -> (H b ≠ none \/ h0.get? b ≠ none) -> h'.get? b = some o
  slot : ∀ b o, h.get? b = some o -> b ∈ fs -> ∃ sl, h'.get? b = some { o with slots := sl }
  there : ∀ b o, h.get? b = some o -> ∃ o', h'.get? b = some o'
  size : h.objs.size <= h'.objs.size
section
variable {M : Model} {A : Around} {E : Value -> Shared -> Prop} {s : Shared} {base h0 : Heap} {H : Hp} {env : Env} {outer : List Env} {L a : Addr} {C : Value} {Q : Unit -> Shared -> Prop}
theorem ze3 {oe : Obj} {vs : Array Value} {head : Value} {hn : Bool} (hfr : A.frames = some (env :: outer)) (hl : s.heap.FunFrames base (env :: outer)) (hf : env.frame = some L) (he : s.heap.get? a = some oe) (hC : oe.cls = C /\ oe.dict = none) (hd : oe.data = .fields vs) (hsz : 1 < vs.size) (new : h0.get? a = none) (free : H a = none)
    (hH : ∀ b, s.heap.objs.size <= b -> H b = none) (h0s : ∀ b, s.heap.objs.size <= b -> h0.get? b = none) (h : ∀ h', Kp h0 H (frs (env :: outer)) s.heap h' -> XAt h0 H h' a C -> Q () { s with heap := h' }) :
    wpAny M A (do let f <- frameOf env; let pl <- entryPlaceOf L hn; let b <- EntryCells.newEntry head f .none (rawInt L) .none pl; setField (.ref a) 1 b) (fun _ s' => wpAny M A (setFlight (.ref a) none) Q E s') E s := by
  have nin : a ∉ frs (env :: outer) := fun hm => by
    obtain ⟨_, o, ho, hnf⟩ := hl.mem hm
    rw [he] at ho; cases ho
    exact hnf vs hd
  refine wpAny_bind (wpAny_frameOf_fun hfr hl hf fun h1 ⟨z1, k1, sl1⟩ => wpAny_bind (wpAny_entryPlaceOf fun pl hpl => ?_))
  unfold EntryCells.newEntry newFields
  refine wpAny_bind (wpAny_newObj_type ?_ (hpl.sizeOk5 _ _ _ _ _))
  have e1 : h1.get? a = some oe := (k1 a nin).trans he
  generalize hob : ({ cls := .type "traceback", dict := none, data := .fields ([head, .ref L, .none, rawInt L, .none] ++ (if pl.isEmpty then List.replicate 6 Value.none else pl)).toArray } : Obj) = ob
  have hobd : ob.data = .fields ([head, .ref L, .none, rawInt L, .none] ++ (if pl.isEmpty then List.replicate 6 Value.none else pl)).toArray := by rw [<- hob]
  have e2 := Heap.get?_push_of_some (h := h1) ob e1
  refine wpAny_setField e2 hd hsz ?_
  have nT : h1.objs.size ≠ a := Nat.ne_of_gt (Heap.lt_size e1)
  have d3 := Obj.data_mapFields hd (·.setIfInBounds 1 (Value.ref h1.objs.size))
  have e3 := Heap.get?_update_self (Obj.mapFields (·.setIfInBounds 1 (Value.ref h1.objs.size))) e2 (Obj.isFreed_of_fields d3)
  have t3 : ((h1.push ob).update a (Obj.mapFields (·.setIfInBounds 1 (Value.ref h1.objs.size)))).get? h1.objs.size = some ob := (Heap.get?_update_other _ _ (Ne.symm nT)).trans (Heap.get?_push_size h1 (Obj.isFreed_of_fields hobd))
  unfold setFlight
  refine wpAny_bind (wpAny_field e3 d3 (x := .ref h1.objs.size) (by simp [hsz]) ?_)
  rw [if_pos (show (Value.ref h1.objs.size != Value.none) = true by simp)]
  have tsz : 3 < ([head, .ref L, .none, rawInt L, .none] ++ (if pl.isEmpty then List.replicate 6 Value.none else pl)).toArray.size := by simp only [List.size_toArray, List.length_append, List.length_cons, List.length_nil]; omega
  refine wpAny_setField t3 hobd tsz (h _ ?_ ?_)
  · have old : ∀ b o, b ≠ a -> h1.get? b = some o -> (((h1.push ob).update a (Obj.mapFields (·.setIfInBounds 1 (Value.ref h1.objs.size)))).update h1.objs.size (Obj.mapFields (·.setIfInBounds 3 ((none : Option Addr).elim Value.none fun f => rawInt f)))).get? b = some o := fun b o hb e => by
      rw [Heap.get?_update_other _ _ (Nat.ne_of_gt (Heap.lt_size e)), Heap.get?_update_other _ _ (Ne.symm hb)]
      exact Heap.get?_push_of_some _ e
    refine ⟨fun b o e hb hk => old b o (fun z => ?_) ((k1 b hb).trans e), fun b o e hb => ?_, fun b o e => ?_, ?_⟩
    · subst z
      rcases hk with q | q
      · exact q free
      · exact q new
    · obtain ⟨sl, q⟩ := sl1 b o e
      exact ⟨sl, old b _ (fun z => nin (z ▸ hb)) q⟩
    · by_cases hb : b = a
      · subst hb
        exact ⟨_, (Heap.get?_update_other _ _ nT).trans e3⟩
      · obtain ⟨sl, q⟩ := sl1 b o e
        exact ⟨_, old b _ hb q⟩
    · rw [Heap.size_update, Heap.size_update, Heap.size_push, z1]; exact Nat.le_succ _
  · refine ⟨⟨_, _, (Heap.get?_update_other _ _ nT).trans e3, ⟨(Obj.cls_mapFields _ _).trans hC.1, (zec _ _).trans hC.2⟩, d3, by simpa using hsz, .inr ⟨h1.objs.size, _, _, by simp [hsz], nT, ?_, hH _ (by rw [z1]; exact Nat.le_refl _), Heap.get?_update_self _ t3 (Obj.isFreed_of_fields (Obj.data_mapFields hobd _)), Obj.data_mapFields hobd _, ?_⟩⟩, new, free⟩
    · exact h0s _ (by rw [z1]; exact Nat.le_refl _)
    · rw [Array.getElem?_setIfInBounds_self]
      rw [if_pos tsz]; rfl
theorem zeW (hfr : A.frames = some (env :: outer)) (hl : s.heap.FunFrames base (env :: outer)) (hf : env.frame = some L) (x : XAt h0 H s.heap a C) (hH : ∀ b, s.heap.objs.size <= b -> H b = none) (h0s : ∀ b, s.heap.objs.size <= b -> h0.get? b = none)
    (h : ∀ h', Kp h0 H (frs (env :: outer)) s.heap h' -> XAt h0 H h' a C -> Q () { s with heap := h' }) : wpAny M A (noteFrame (.ref a) env) (fun _ s' => wpAny M A (setFlight (.ref a) none) Q E s') E s := by
  obtain ⟨⟨oe, vs, he, hC, hd, hsz, ht⟩, new, free⟩ := x
  unfold noteFrame
  simp only [hf]
  rcases ht with h1 | ⟨T, oT, ts, h1, nT, newT, freeT, hT, hdT, h3⟩
  · refine wpAny_bind (wpAny_field he hd h1 ?_)
    rw [if_neg (by decide)]
    exact ze3 hfr hl hf he hC hd hsz new free hH h0s h
  · refine wpAny_bind (wpAny_field he hd h1 ?_)
    rw [if_pos (show (Value.ref T != Value.none) = true by simp)]
    refine wpAny_bind (wpAny_field hT hdT h3 ?_)
    rw [if_neg (show ¬ ((Value.none == rawInt L) = true) by simp [rawInt])]
    refine wpAny_bind (wpAny_setField hT hdT (Array.getElem?_eq_some_iff.mp h3).1 ?_)
    have oth : ∀ b, b ≠ T -> (s.heap.update T (Obj.mapFields (·.setIfInBounds 3 Value.none))).get? b = s.heap.get? b := fun b hb => Heap.get?_update_other _ _ (Ne.symm hb)
    have rec_ : ∀ b o, s.heap.get? b = some o -> (∀ vs, o.data ≠ .fields vs) -> b ≠ T := fun b o hb hnf z => by
      subst z; rw [hT] at hb; cases hb; exact hnf ts hdT
    have sz : (s.heap.update T (Obj.mapFields (·.setIfInBounds 3 Value.none))).objs.size = s.heap.objs.size := Heap.size_update ..
    refine ze3 (s := { s with heap := s.heap.update T (Obj.mapFields (·.setIfInBounds 3 Value.none)) }) hfr (hl.of_keeps fun b o hb hnf => ⟨o, (oth b (rec_ b o hb hnf)).trans hb, rfl⟩) hf ((oth a (Ne.symm nT)).trans he) hC hd hsz new free (fun b hb => hH b (by rw [<- sz]; exact hb)) (fun b hb => h0s b (by rw [<- sz]; exact hb)) fun h' kp xa => h h' ⟨fun b o e hb hk => ?_, fun b o e hb => ?_, fun b o e => ?_, by rw [<- sz]; exact kp.size⟩ xa
    · refine kp.keep b o ((oth b fun z => ?_).trans e) hb hk
      subst z
      rcases hk with q | q
      · exact q freeT
      · exact q newT
    · refine kp.slot b o ((oth b fun z => ?_).trans e) hb
      subst z
      obtain ⟨_, o', ho', hnf⟩ := hl.mem hb
      rw [hT] at ho'; cases ho'
      exact hnf ts hdT
    · by_cases hb : b = T
      · subst hb
        exact kp.there b _ (Heap.get?_update_self _ hT (Obj.isFreed_of_fields (Obj.data_mapFields hdT _)))
      · exact kp.there b o ((oth b hb).trans e)
end
end DL
namespace DL
open PySem L2
open PyProof.Rows (AllBare)
def CXr (P : Program) (w : World) (Cl : Nat -> Value) : CXT := fun outer H s E e s' => ∃ a c H', e = .ref a /\ s'.os = s.os /\ AllBare s'.gens /\ Un (frs outer) [] H H' s.heap s'.heap /\ HOk P w H' s'.heap /\ XAt s.heap H' s'.heap a (Cl c) /\ E (Cl c) none H'
abbrev Xk (Cl : Nat -> Value) (E : XK) : Nat -> Hp -> Prop := fun c H => E (Cl c) none H
def XOk (X : Cx) (Ex : Nat -> Hp -> Prop) (Cl : Nat -> Value) : Prop := ∀ (pins : List (Addr × Obj)) (σ : St) (H : Hp) (s : Shared) (a : Addr) (c : Nat), Inv X pins σ H s -> XAt X.s₀.heap H s.heap a (Cl c) -> Ex c H -> X.xe (.ref a) s
theorem HOk.here {P : Program} {w : World} {H : Hp} {h : Heap} {a : Addr} (x : L2.HOk P w H h) (e : h.get? a = none) : H a = none := by
  cases q : H a with
  | none => rfl
  | some o =>
    exfalso
    have y := x a o q
    have no : ∀ u, h.get? a = some u -> False := fun u z => by rw [e] at z; cases z
    cases o with
    | lst xs => obtain ⟨_, _, _, _, e⟩ := y; exact no _ e
    | tup xs => obtain ⟨_, _, _, _, e, _⟩ := y; exact no _ e
    | dK kvs => obtain ⟨_, _, _, _, o, _, _, e, _⟩ := y; exact no _ e
    | dT kvs => obtain ⟨_, _, _, _, o, _, _, e, _⟩ := y; exact no _ e
    | set S n => obtain ⟨o, _, _, _, e, _⟩ := y; exact no _ e
    | ins C dx fs => obtain ⟨_, _, _, e, _⟩ := y; exact no _ e
    | own y' => obtain ⟨_, e⟩ := y; exact no _ e
    | xd fs => obtain ⟨_, ⟨_, _, _, e, _⟩, _⟩ := y; exact no _ e
    | rng lo hi => obtain ⟨_, _, _, e⟩ := y; exact no _ e
    | frz ob u => obtain ⟨e, _⟩ := y; exact no _ e
    | tbl ps => exact no _ (show h.get? a = some _ from y)
    | met f y' => exact no _ (show h.get? a = some _ from y)
    | ext φ => obtain ⟨_, ⟨_, e⟩, _⟩ := y; exact no _ e
theorem Kp.hok {P : Program} {w : World} {H : Hp} {h0 h h' : Heap} {fs : List Addr} (k : Kp h0 H fs h h') (x : L2.HOk P w H h) (hf : ∀ b ∈ fs, H b = none) : L2.HOk P w H h' := fun a o e =>
  (x a o e).stay (fun b u hb q => k.keep b u q (fun z => by
    rcases hb with rfl | hb
    · rw [hf _ z] at e; cases e
    · rw [hf _ z] at hb; cases hb) (.inl (by
    rcases hb with rfl | hb
    · rw [e]; exact fun z => nomatch z
    · rw [hb]; exact fun z => nomatch z))) (fun _ q => q) fun _ _ q => q
theorem XAt.older {h0 h1 : Heap} {H : Hp} {h : Heap} {a : Addr} {C : Value} (x : XAt h1 H h a C) (k : ∀ b o, h0.get? b = some o -> ∃ o', h1.get? b = some o') : XAt h0 H h a C := by
  have old : ∀ b, h1.get? b = none -> h0.get? b = none := fun b e => by
    cases q : h0.get? b with
    | none => rfl
    | some o => obtain ⟨o', z⟩ := k b o q; rw [e] at z; cases z
  obtain ⟨⟨oe, vs, he, hC, hd, hsz, ht⟩, new, free⟩ := x
  refine ⟨⟨oe, vs, he, hC, hd, hsz, ht.imp id fun ⟨T, oT, ts, h1, nT, newT, r⟩ => ⟨T, oT, ts, h1, nT, old T newT, r⟩⟩, old a new, free⟩
section
variable {P : Program} {w : World} {K : PySem.W.Frag} {mg : Str -> Option Value} {base : Heap} {N : List Str} {qual : Str} {scope : Scope} {f : Addr} {cd : Value} {A : Around} {outer : List Env} {s : Shared} {H : Hp} {E : XK} {Cl : Nat -> Value}
theorem z51 : XOk (zg3 (CXr P w Cl) P w K mg base N qual scope f cd A outer s H E) (Xk Cl E) Cl := by
  intro pins σ H1 s1 a c I x q
  generalize hX : zg3 (CXr P w Cl) P w K mg base N qual scope f cd A outer s H E = X at I x ⊢
  have hfr : (A.deeper (PyProof.Rows.envOfC qual scope s.heap.objs.size f cd)).frames = some (PyProof.Rows.envOfC qual scope s.heap.objs.size f cd :: outer) := by have := I.ok.frames; rw [<- hX] at this; exact this
  have hst : s1.heap.FunFrames base (PyProof.Rows.envOfC qual scope s.heap.objs.size f cd :: outer) := by have := I.stack; rw [<- hX] at this; exact this
  have hfree : ∀ b ∈ frs (PyProof.Rows.envOfC qual scope s.heap.objs.size f cd :: outer), H1 b = none := by have := I.stkFree; rw [<- hX] at this; exact this
  have hok : HOk P w H1 s1.heap := by have := I.hok; rw [<- hX] at this; exact this
  have hbase : Un (frs outer) [] H H1 s.heap s1.heap := by have := I.base; rw [<- hX] at this; exact this
  have hos : s1.os = s.os := by have := I.os; rw [<- hX] at this; exact this
  have hsz : s.heap.objs.size <= s1.heap.objs.size := by have := I.sz; rw [<- hX] at this; exact this
  have hL : H1 s.heap.objs.size = none := by have := I.free; rw [<- hX] at this; exact this
  have hx : XAt s.heap H1 s1.heap a (Cl c) := by rw [<- hX] at x; exact x
  have hbare := I.bare
  rw [<- hX]
  show wpAny (model P w) (A.deeper (PyProof.Rows.envOfC qual scope s.heap.objs.size f cd)) (leaving (PyProof.Rows.envOfC qual scope s.heap.objs.size f cd) (.ref a)) (fun _ s'' => CXr P w Cl outer H s E (.ref a) s'') (fun e' s'' => CXr P w Cl outer H s E e' s'') s1
  unfold leaving
  refine wpAny_bind (zeW hfr hst rfl hx (fun b hb => hok.fresh hb) (fun b hb => Heap.get?_none_of_le (Nat.le_trans hsz hb)) fun h' kp xa => ?_)
  refine ⟨a, c, H1, rfl, hos, hbare, ?_, kp.hok hok hfree, xa, q⟩
  refine ⟨fun b o e n hb hx => ?_, fun b o e n hb hx => ?_, fun b o e n hx => hbase.free b o e n hx, fun b o e hx => ?_, hbase.tups, hbase.frzs, hbase.tbls⟩
  · refine kp.keep b o (hbase.keep b o e n hb hx) (fun z => ?_) (.inr (by rw [e]; exact fun z => nomatch z))
    have z' : b ∈ s.heap.objs.size :: frs outer := z
    rcases List.mem_cons.mp z' with z2 | z2
    · exact absurd (Heap.lt_size e) (by rw [z2]; exact Nat.lt_irrefl _)
    · exact hb z2
  · obtain ⟨sl, e1⟩ := hbase.slot b o e n hb hx
    obtain ⟨sl', e2⟩ := kp.slot b _ e1 (show b ∈ s.heap.objs.size :: frs outer from List.mem_cons_of_mem _ hb)
    exact ⟨sl', e2⟩
  · obtain ⟨o', e1⟩ := hbase.there b o e hx
    exact kp.there b o' e1
end
section
variable {X : Cx} {Cl : Nat -> Value} {E : XK}
theorem z4J (hex : X.ex = []) (h : XOk X (Xk Cl E) Cl) : z9x (CXr X.prog X.w Cl) X E := by
  rintro pins σ H s e s' I ⟨a, c, H', rfl, os, bare, un, hok, x, q⟩
  have I' : Inv X pins σ H' s' := I.call' (ch := []) os un hok bare (fun b z => absurd z (by simp))
  exact h pins σ H' s' a c I' (x.older fun b o e => I.base.there b o e (by rw [hex]; simp)) q
theorem zcx : z9x (CXr X.prog X.w Cl) X E0 := by
  rintro pins σ H s e s' I ⟨a, c, H', rfl, os, bare, un, hok, x, q⟩
  exact False.elim q
end
end DL
namespace DL
open PySem L2
open PyProof.Rows (AllBare)
abbrev zis : List Value := [.type "ValueError", .type "Exception", .type "BaseException", .type "object"]
abbrev zja (mg : Str -> Option Value) (base : Heap) (x : Str) (C : Addr) : Prop := PyProof.Rows.OwnCls x C zis "ValueError.__new__" mg base
section
variable {X : Cx} {Ex : Nat -> Hp -> Prop} {Cl : Nat -> Value}
def z9v (c : Nat) (t : DA) : DS := fun σ O => (t σ O).bnS fun xs O1 => if xs.length <= 1000 then .exc c O1 else .bad
theorem zfA {pins : List (Addr × Obj)} {σ : St} {H : Hp} {s : Shared} {h' : Heap} {a : Addr} {C : Value} {vs : List Value} (I : Inv X pins σ H s) (hex : X.ex = []) (m : Heap.MadeExcOf s.heap h' a C vs) : XAt X.s₀.heap H h' a C := by
  obtain ⟨t, h1, h2, h3⟩ := m.there
  refine ⟨⟨_, _, h1, ⟨rfl, rfl⟩, rfl, by simp, .inl rfl⟩, ?_, HOk.here I.hok m.new⟩
  cases q : X.s₀.heap.get? a with
  | none => rfl
  | some o =>
    obtain ⟨o', z⟩ := I.base.there a o q (by rw [hex]; simp)
    rw [m.new] at z; cases z
theorem z7P {x : Str} {C : Addr} {c : Nat} {np cpos pos : Pos} {e : Expr} {es : List Expr} {t : DA} (hX : XOk X Ex Cl) (hex : X.ex = []) (hcl : Cl c = .ref C) (own : zja X.mg X.base x C) (hc : X.calm = true) (hg : Gl X x) (ha : PDA X Ex (e :: es) t)
    (hdb : (x == ("__debug__" : Str)) = false := by decide) (he : starEach (e :: es) X.env = (false, eval e X.env) :: starEach es X.env := by rfl) (hpl : (backTo cpos (starEach (e :: es) X.env)).any (·.1) = false := by rfl) (hbk : ∃ y z6F, backTo cpos (starEach (e :: es) X.env) = (false, y) :: z6F := by exact ⟨_, _, rfl⟩) :
    PDS X Ex (.Raise (some (.Call (.Name x np) (e :: es) [] cpos)) none pos) (z9v c t) := by
  refine ⟨?_⟩
  rintro pins s σv H D I ⟨hid, μ, σ, O, e1, c1, q⟩
  obtain ⟨bm, N, nm, qn, bs, hdct, sn, sub, ab, col, dd, k0, k1, k2, k3, k5, mN, hC, hN, hni, TL⟩ := own.obj
  refine wpAny_Raise_call_subU (nm := nm) (q := qn) (N := N) (bs := bs) (hdct := hdct) (sn := sn) (sub := sub) (ab := ab) (col := col) (dd := dd) (k0 := k0) (k1 := k1) (k2 := k2) (k3 := k3) (k5 := k5) PySem.F.excBase_ValueError (bmB := zis) (by rfl) PySem.F.excBase_ValueError (TL.hasType (by rfl)) (I.ok.hd hc) hpl hni (z91 I hg own.bound ⟨rfl, ?_⟩ hdb)
  have go := ha.out cpos pins s σv H (fun vs H1 => vs.length <= 1000 /\ Ex c H1) I ⟨hid, μ, σ, O, e1, c1, postS.bnS (q : postS Ex X.K H hid μ (z9v c t σ O) D) fun ds O1 vs H1 μ1 x2 c2 d2 q2 => by
    by_cases hl : ds.length <= 1000
    · rw [if_pos hl] at q2
      exact ⟨by rw [<- d2.length]; exact hl, q2 H1 μ1 .refl c2⟩
    · rw [if_neg hl] at q2; exact False.elim q2⟩
  obtain ⟨y, z6F, hb⟩ := hbk
  rw [hb] at go ⊢
  refine PySem.Calls.evalArgs_plain (thn go fun us s1 ⟨vs, H1, I1, r, hl, hx⟩ => ⟨rfl, Nat.le_trans (by rw [<- r.length]; exact hl) (by decide), I1.bk _ _ hC, hN.keeps I1.bk, TL.keeps I1.bk, fun h' a m => ?_⟩)
  exact hX pins σv H1 { s1 with heap := h' } a c (I1.kept (t' := s1.toks) m.keeps) (by rw [hcl]; exact zfA I1 hex m) hx
end
end DL
namespace DL
open PySem L2
open PyProof.Rows (AllBare)
abbrev cxX (Cl : Nat -> Value) (P : Program) (w : World) (K : PySem.W.Frag) (mg : Str -> Option Value) (base : Heap) (N : List Str) (qual : Str) (scope : Scope) (f : Addr) (cdv : Value) (A : Around) (outer : List Env) (s : Shared) (H : Hp) (E : XK) : Cx :=
  zg3 (CXr P w Cl) P w K mg base N qual scope f cdv A outer s H E
theorem z81 {Cl : Nat -> Value} {P : Program} {w : World} {K : PySem.W.Frag} {mg : Str -> Option Value} {base : Heap} {N : List Str} {qual : Str} {scope : Scope} {f : Addr} {cdv : Value} {A : Around} {outer : List Env} {s : Shared} {H : Hp} {E : XK} :
    PassesOwn (model P w) (cxX Cl P w K mg base N qual scope f cdv A outer s H E).A (cxX Cl P w K mg base N qual scope f cdv A outer s H E).env (cxX Cl P w K mg base N qual scope f cdv A outer s H E).xe :=
  PassesOwn.leaving (Q₁ := fun e s'' => CXr P w Cl outer H s E e s'') (E₁ := fun e' s'' => CXr P w Cl outer H s E e' s'')
theorem ziw {Cl : Nat -> Value} {P : Program} {w : World} {K : PySem.W.Frag} {mg : Str -> Option Value} {base : Heap} {k : Nat} {f : Addr} {name qual : Str} {params : Arguments} {body : List Stmt} {scope : Scope} {dV kV doc pm cdv ct oc : Value} {an od : Option Addr} {osl : Array (Option Value)} {N ps : List Str} {t : DS}
    (lk : K.lookup f = some ⟨oc, od, .func (PySem.W.fnOf name qual params body scope dV kV doc pm an cdv ct), osl⟩) (hcd : PySem.W.codeIn K cdv qual = true) (S : z4X N ps scope)
    (hbody : ∀ (A : Around) (outer : List Env) (s : Shared) (H : Hp) (E : XK), Room k (A.deeper (PyProof.Rows.envOfC qual scope s.heap.objs.size f cdv)) -> zcK (cxX Cl P w K mg base N qual scope f cdv A outer s H E) (Xk Cl E) body t) :
    FnOk P w K mg base (CXr P w Cl) (k + 1) f (PySem.W.fnOf name qual params body scope dV kV doc pm an cdv ct) ps (DSp K (Xk Cl) ps.length (z7l N.length t)) := by
  refine zfT lk hcd S (fun vs H Q E h => h.1) fun A outer s H vs Q E hr h => ?_
  obtain ⟨hl, hid, μ, ds, O, d, c, q⟩ := h
  refine ⟨_, (hbody A outer s H E hr).out, hid, μ, _, O, z8M d N, c, ?_⟩
  unfold z7l at q
  generalize t (ds.map some ++ List.replicate (N.length - ds.length) none) O = r at q
  cases r with
  | nx σ O' => exact fun σv H' μ' x e c' => q .non H' μ' x c' z8Y
  | rt d' O' => exact fun v H' μ' x c' r => q v H' μ' x c' r
  | bk σ O' => exact False.elim q
  | ct σ O' => exact False.elim q
  | exc c' O' => exact fun H' μ' x c2 => q H' μ' x c2
  | bad => exact False.elim q
structure CalleeX (Cl : Nat -> Value) (P : Program) (w : World) (K : PySem.W.Frag) (mg : Str -> Option Value) (base : Heap) (x : Str) (k n : Nat) (F : List D -> Ow -> R D) : Prop where
  ex : ∃ f fd ps, mg x = some (.ref f) /\ PySem.W.keepIn K (.ref f) = true /\ Binds K fd ps [] /\ FnOk P w K mg base (CXr P w Cl) k f fd ps (DSp K (Xk Cl) n F)
theorem z4Y {Cl : Nat -> Value} {X : Cx} {E : XK} {x : Str} {k j n : Nat} {F : List D -> Ow -> R D} {p pos : Pos} {e : Expr} {es : List Expr} {t : DA} (c : CalleeX Cl X.prog X.w X.K X.mg X.base x k n F) (hx : z9x (CXr X.prog X.w Cl) X E) (hr : Room j X.A) (hk : k <= j) (hg : Gl X x) (ha : PDA X (Xk Cl E) (e :: es) t)
    (hdb : (x == ("__debug__" : Str)) = false := by decide) (he : starEach (e :: es) X.env = (false, eval e X.env) :: starEach es X.env := by rfl) (hpl : (backTo pos (starEach es X.env)).any (·.1) = false := by rfl) :
    PD X (Xk Cl E) (.Call (.Name x p) (e :: es) [] pos) (dFn n F t) := by
  obtain ⟨f, fd, ps, hm, hkp, hb, G⟩ := c.ex
  exact zkj (Ec := Xk Cl) (E := E) (G.mono hk) hr hg hm hkp hb hx ha hdb he hpl
theorem z83 {Cl : Nat -> Value} {X : Cx} {x : Str} {k j n : Nat} {F : List D -> Ow -> R D} {p pos : Pos} {e : Expr} {es : List Expr} {t : DA} (c : CalleeX Cl X.prog X.w X.K X.mg X.base x k n F) (hr : Room j X.A) (hk : k <= j) (hg : Gl X x) (ha : PDA X Ex0 (e :: es) t)
    (hdb : (x == ("__debug__" : Str)) = false := by decide) (he : starEach (e :: es) X.env = (false, eval e X.env) :: starEach es X.env := by rfl) (hpl : (backTo pos (starEach es X.env)).any (·.1) = false := by rfl) :
    PD X Ex0 (.Call (.Name x p) (e :: es) [] pos) (dFn n F t) := z4Y (E := E0) c zcx hr hk hg ha hdb he hpl
theorem fnX {Cl : Nat -> Value} {P : Program} {w : World} {K : PySem.W.Frag} {mg : Str -> Option Value} {base : Heap} {k : Nat} {x : Str} {st : Stmt} {N ps : List Str} {t : DS} (h : z61 K mg x st) (S : z4X N ps (z4E st))
    (hb : ∀ (kV doc pm : Value) (an : Option Addr) (cdv ct : Value) (us : List Value), us.length = ps.length -> bindArgs (PySem.W.fnOf x x (z50 st) (z4V st) (z4E st) .none kV doc pm an cdv ct) ⟨us, []⟩ = pure (ps.zip us))
    (hbody : ∀ (f : Addr) (cdv : Value) (A : Around) (outer : List Env) (s : Shared) (H : Hp) (E : XK), Room k (A.deeper (PyProof.Rows.envOfC x (z4E st) s.heap.objs.size f cdv)) -> zcK (cxX Cl P w K mg base N x (z4E st) f cdv A outer s H E) (Xk Cl E) (z4V st) t) :
    CalleeX Cl P w K mg base x (k + 1) ps.length (z7l N.length t) := by
  obtain ⟨f, fd, hm, F⟩ := h
  refine ⟨f, fd, ps, hm, F.kp, F.binds hb, ?_⟩
  obtain ⟨oc, od, kV, doc, pm, an, cdv, ct, osl, rfl, lk, hcd⟩ := F.ex
  exact ziw lk hcd S fun A outer s H E hr => hbody f cdv A outer s H E hr
section
variable {Cl : Nat -> Value} {P : Program} {w : World} {K : PySem.W.Frag} {mg : Str -> Option Value} {base : Heap} {k n : Nat} {x : Str} {F G : List D -> Ow -> R D}
theorem CalleeX.imp (c : CalleeX Cl P w K mg base x k n F) (h : ∀ ds O H hid μ Ex Q, Cells K H hid μ O -> z5L Ex K H hid μ (G ds O) Q -> z5L Ex K H hid μ (F ds O) Q) : CalleeX Cl P w K mg base x k n G := by
  obtain ⟨f, fd, ps, hm, hkp, hb, Fo⟩ := c.ex
  refine ⟨f, fd, ps, hm, hkp, hb, Fo.imp fun vs H Q E ⟨hl, hid, μ, ds, O, d, cl, q⟩ => ⟨hl, hid, μ, ds, O, d, cl, h ds O H hid μ _ Q cl q⟩⟩
theorem CalleeX.bad (c : CalleeX Cl P w K mg base x k n F) : CalleeX Cl P w K mg base x k n (fun _ _ => .bad) := c.imp fun _ _ _ _ _ _ _ _ q => False.elim q
theorem CalleeX.self (c : CalleeX Cl P w K mg base x k n F) : CalleeX Cl P w K mg base x k n F := c
end
end DL
namespace DL
open PySem L2
open PyProof.Rows (AllBare)
def zk0 (f : Nat -> Option Bool) : D -> Option Bool
  | .exn C => f C
  | .non => some false
  | _ => none
def zdb (f : Nat -> Option Bool) (t : DE) : DE := fun σ O => (t σ O).bnd fun d O1 => match zk0 f d with
  | some b => .ok (.bl b) O1
  | none => .bad
section
variable {X : Cx} {Ex : Nat -> Hp -> Prop} {pos : Pos} {a : Expr} {ta : DE}
theorem zcv {cv : V} {cval : Value} (f : Nat -> Option Bool) (hc : ∀ u, RelV cv u -> u = cval) (hn : PySem.W.kitOne X.K (.type "NoneType") cval = some false) (hf : ∀ C b, f C = some b -> PySem.W.kitOne X.K (.ref C) cval = some b) :
    CallR X (.builtin "isinstance") (fun xs H Q => ∃ x hid μ O d b, xs = [x, cv] /\ Cells X.K H hid μ O /\ Dat X.K H hid μ d x /\ zk0 f d = some b /\ Q (.bl b) H) := by
  intro pins s σ H xs us Q I r h
  obtain ⟨x, hid, μ, O, d, b, rfl, cl, dx, hb, q⟩ := h
  obtain ⟨u, w', rfl, rx, rc⟩ := zbM r
  obtain rfl := hc _ rc
  cases d with
  | non =>
    unfold Dat at dx; subst dx; cases rx
    cases hb
    exact PySem.W.kia_one PySem.W.kitx_none I.kIn True.intro hn (fun z => nomatch z) fun tk => ⟨.bl _, H, I.tok tk, rfl, q⟩
  | exn C =>
    unfold Dat at dx
    obtain ⟨p, φ, rfl, ⟨k, g⟩, hr, _⟩ := dx
    cases rx
    obtain ⟨y, _⟩ := Rd.ok hr I.hok
    exact PySem.W.kia_one (zgF k) I.kIn (g _ y) (hf C b hb) (fun z => nomatch z) fun tk => ⟨.bl _, H, I.tok tk, rfl, q⟩
  | _ => cases hb
theorem zea {f : Nat -> Option Bool} {cv : V} : ∀ hid μ σ O σv H Q, EnvOk X.K H hid μ σ σv -> Cells X.K H hid μ O -> z5L Ex X.K H hid μ (zdb f ta σ O) Q -> rd Ex X.K ta σv H fun v H1 => ∃ x hid μ O d b, [v, cv] = [x, cv] /\ Cells X.K H1 hid μ O /\ Dat X.K H1 hid μ d x /\ zk0 f d = some b /\ Q (.bl b) H1 :=
  fun hid μ σ O σv H Q e1 c1 q => rd.go e1 c1 q fun d O1 v H1 μ1 e2 x cl r p2 => by
    cases hb : zk0 f d with
    | none => rw [hb] at p2; exact False.elim p2
    | some b => rw [hb] at p2; exact ⟨v, hid, μ1, O1, d, b, rfl, cl, r, hb, post.here p2 cl z6c⟩
theorem z74 {x : Str} {C0 : Addr} {f : Nat -> Option Bool} {p p' : Pos} (ha : PD X Ex a ta) (hg : Gl X "isinstance") (hm : X.mg "isinstance" = none) (hv : bootBuiltins "isinstance" = some (.builtin "isinstance")) (hgC : Gl X x) (hmC : X.mg x = some (.ref C0))
    (hn : PySem.W.kitOne X.K (.type "NoneType") (.ref C0) = some false) (hf : ∀ C b, f C = some b -> PySem.W.kitOne X.K (.ref C) (.ref C0) = some b)
    (hCd : (x == ("__debug__" : Str)) = false := by decide) (he : starEach [a, .Name x p'] X.env = (false, eval a X.env) :: starEach [.Name x p'] X.env := by rfl) (he2 : starEach [.Name x p'] X.env = [(false, eval (.Name x p') X.env)] := by rfl) (hpl : (backTo pos (starEach [.Name x p'] X.env)).any (·.1) = false := by rfl) :
    PD X Ex (.Call (.Name "isinstance" p) [a, .Name x p'] [] pos) (zdb f ta) :=
  z5Y (z7g (zcv (X := X) (cv := .ref C0) (cval := .ref C0) f (fun u r => by cases r; rfl) hn hf) hg hm hv (z6o ha.out (z6o (z9N (v := .ref C0) hgC hmC rfl hCd) z97 he2) he) (by decide) (by decide) he hpl) zea
theorem zi0 {x : Str} {n : String} {f : Nat -> Option Bool} {p p' : Pos} (ha : PD X Ex a ta) (hg : Gl X "isinstance") (hm : X.mg "isinstance" = none) (hv : bootBuiltins "isinstance" = some (.builtin "isinstance")) (hgC : Gl X x) (hmC : X.mg x = none) (hvC : bootBuiltins x = some (.type n))
    (hn : PySem.W.kitOne X.K (.type "NoneType") (.type n) = some false) (hf : ∀ C b, f C = some b -> PySem.W.kitOne X.K (.ref C) (.type n) = some b) (hCn : x ≠ "__name__" := by decide)
    (hCd : (x == ("__debug__" : Str)) = false := by decide) (he : starEach [a, .Name x p'] X.env = (false, eval a X.env) :: starEach [.Name x p'] X.env := by rfl) (he2 : starEach [.Name x p'] X.env = [(false, eval (.Name x p') X.env)] := by rfl) (hpl : (backTo pos (starEach [.Name x p'] X.env)).any (·.1) = false := by rfl) :
    PD X Ex (.Call (.Name "isinstance" p) [a, .Name x p'] [] pos) (zdb f ta) :=
  z5Y (z7g (zcv (X := X) (cv := .ty n) (cval := .type n) f (fun u r => by cases r; rfl) hn hf) hg hm hv (z6o ha.out (z6o (zah (v := .ty n) hgC hmC hvC rfl hCn hCd) z97 he2) he) (by decide) (by decide) he hpl) zea
end
end DL
namespace DL
open PySem L2
open PyProof.Rows (AllBare IntsAre)
section
variable {X : Cx} {pins : List (Addr × Obj)} {σ : St} {H : Hp} {s : Shared}
theorem Inv.fake {i : Nat} {x : Str} {v : V} (I : L2.Inv X pins σ H s) (hi : X.N[i]? = some x) (hx : ¬ Vis X.env.scope x) : L2.Inv X pins (σ.set i (some v)) H s := by
  obtain ⟨m, hn, hl⟩ := I.loc
  refine ⟨I.ok, I.os, I.bare, I.base, ⟨m, hn, fun j y w e1 e2 e3 => ?_⟩, I.cell, I.free, I.freeC, I.pin, I.hok, by rw [List.length_set]; exact I.len⟩
  by_cases hj : j = i
  · subst hj
    rw [hi] at e1; cases e1
    exact absurd e3 hx
  · rw [List.getElem?_set_ne (Ne.symm hj)] at e2
    exact hl j y w e1 e2 e3
theorem PSs.fake {i : Nat} {x : Str} {v : V} {body : List Stmt} {t : TS} (hi : X.N[i]? = some x) (hx : ¬ Vis X.env.scope x) (h : PSs X body t) : PSs X body fun D σ H => t D (σ.set i (some v)) H :=
  fun pins s σ H D I q => h pins s _ H D (Inv.fake I hi hx) q
end
theorem Tidy.empty {H : Hp} {P : Addr} (h : H P = some (.tbl #[])) : Tidy H P := ⟨#[], h, trivial, fun pos cv e => by cases e⟩
def zhN (K : PySem.W.Frag) (Ec : XK -> Nat -> Hp -> Prop) (n : Nat) (P : Addr) (F : List D -> Ow -> R D) : Sp := fun vs H Q E => vs.length = n /\ ∃ hid μ ds O, Dats K H hid μ ds vs /\ Cells K H hid μ O /\ Tidy H P /\ z5L (Ec E) K H hid μ (F ds O) Q
def zk2 (n i : Nat) (P : Nat) (t : DS) : List D -> Ow -> R D := fun ds O => fin (t ((ds.map some ++ List.replicate (n - ds.length) none).set i (some (.tab P))) O)
theorem ziz {Cl : Nat -> Value} {P : Program} {w : World} {K : PySem.W.Frag} {mg : Str -> Option Value} {base : Heap} {k i : Nat} {f Pt : Addr} {x : Str} {name qual : Str} {params : Arguments} {body : List Stmt} {scope : Scope} {dV kV doc pm cdv ct oc : Value} {an od : Option Addr} {osl : Array (Option Value)} {N ps : List Str} {t : DS}
    (lk : K.lookup f = some ⟨oc, od, .func (PySem.W.fnOf name qual params body scope dV kV doc pm an cdv ct), osl⟩) (hcd : PySem.W.codeIn K cdv qual = true) (S : z4X N ps scope) (hi : N[i]? = some x) (hx : ¬ Vis scope x)
    (hbody : ∀ (A : Around) (outer : List Env) (s : Shared) (H : Hp) (E : XK), Room k (A.deeper (PyProof.Rows.envOfC qual scope s.heap.objs.size f cdv)) -> zcK (cxX Cl P w K mg base N qual scope f cdv A outer s H E) (Xk Cl E) body t) :
    FnOk P w K mg base (CXr P w Cl) (k + 1) f (PySem.W.fnOf name qual params body scope dV kV doc pm an cdv ct) ps (zhN K (Xk Cl) ps.length Pt (zk2 N.length i Pt t)) := by
  refine zfT lk hcd S (fun vs H Q E h => h.1) fun A outer s H vs Q E hr h => ?_
  obtain ⟨hl, hid, μ, ds, O, d, c, ti, qq⟩ := h
  refine ⟨_, PSs.fake (v := .bl false) hi hx (hbody A outer s H E hr).out, hid, μ, _, O, (z8M d N).set (d := .tab Pt) (v := .bl false) (by unfold Dat; exact ⟨rfl, ti⟩) i, c, ?_⟩
  unfold zk2 at qq
  generalize t ((ds.map some ++ List.replicate (N.length - ds.length) none).set i (some (.tab Pt))) O = r at qq
  cases r with
  | nx σ O' => exact fun σv H' μ' x e c' => qq .non H' μ' x c' z8Y
  | rt d' O' => exact fun v H' μ' x c' r => qq v H' μ' x c' r
  | bk σ O' => exact False.elim qq
  | ct σ O' => exact False.elim qq
  | exc c' O' => exact fun H' μ' x c2 => qq H' μ' x c2
  | bad => exact False.elim qq
structure z9U (mg : Str -> Option Value) (base : Heap) (c Pt : Addr) : Prop where
  hd : PySem.W.CodeHd base c Pt
  bl : base.BuiltinsAt mg Pt
theorem zeP {P : Program} {w : World} {K : PySem.W.Frag} {mg mb : Str -> Option Value} {CX : CXT} {k : Nat} {fa a c Pt : Addr} {fd : FuncData} {x : Str} {sp : Sp} {s₁ : Shared} {vs : List Value} {ns : List Int}
    (KX : K.In s₁.heap) (hns : s₁.heap.Ns mainGlobals mg) (hb : s₁.heap.Ns builtinsNs mb) (hbb : ∀ x : Str, x ≠ "__name__" -> mb x = bootBuiltins x) (hlim : s₁.heap.NoLimit) (hg : s₁.gens = #[])
    (ha : s₁.heap.get? a = some { cls := .type "list", data := .seq vs.toArray }) (hi : IntsAre vs ns) (hl : ns.length <= sizeLine) (hr : Room k callerA)
    (hC : PySem.W.CodeHd s₁.heap c Pt) (hP : s₁.heap.get? Pt = some (PySem.W.tabObj #[])) (hK : PySem.W.noTabs K = true) (hB : s₁.heap.BuiltinsAt mg Pt)
    (F : ∀ base : Heap, K.In base -> base.Ns mainGlobals mg -> z9U mg base c Pt -> FnOk P w K mg base CX k fa fd [x] sp) (hbind : ∀ (s : Shared) (u : Value), BindsTo s fd ⟨[u], []⟩ [(x, u)])
    (hsp : ∀ H : Hp, H Pt = some (.tbl #[]) -> SqL K H a (ns.map V.int) -> sp [.ref a] H (fun v _ => v = .bl true) fun _ _ _ => False)
    (hCX : ∀ H e s', CX [] H s₁ (fun _ _ _ => False) e s' -> False) :
    codeAny (model P w) callerA (.call (.ref fa) ⟨[.ref a], []⟩) (fun r s' => r = .ok (.ret (.bool true)) /\ OldK s₁.heap s'.heap /\ s'.os = s₁.os /\ AllBare s'.gens) s₁ := by
  have rv := z8D hi
  have lenV := hi.length
  have naP : a ≠ Pt := by rintro rfl; rw [ha] at hP; cases hP
  have nKP : K.lookup Pt = none := by
    cases q : K.lookup Pt with
    | none => rfl
    | some o =>
      have e := KX Pt o q
      rw [hP] at e; cases e
      have h2 := List.all_eq_true.mp hK (Pt, _) (PySem.W.mem_of_lookupK q)
      exact absurd (show false = true from h2) Bool.false_ne_true
  -- H: the table, and the script where it is none of the module's objects
  have core : ∀ H : Hp, H Pt = some (.tbl #[]) -> SqL K H a (ns.map V.int) -> HOk P w H s₁.heap -> (∀ b, H b ≠ none -> b = a \/ b = Pt) -> (H a = none \/ (K.lookup a = none /\ ∃ o xs, H a = some (.frz o (.lst xs)))) ->
      codeAny (model P w) callerA (.call (.ref fa) ⟨[.ref a], []⟩) (fun r s' => r = .ok (.ret (.bool true)) /\ OldK s₁.heap s'.heap /\ s'.os = s₁.os /\ AllBare s'.gens) s₁ := by
    intro H hT hS hok hA hKa
    have base_of : ∀ {b : Addr} {o : Obj}, s₁.heap.get? b = some o -> H b = none -> (zci s₁.heap H).get? b = some o := fun e n => zcB e n
    have noA : ∀ {b : Addr} {o : Obj} {es : Array DictEntry} {ep : Nat}, s₁.heap.get? b = some o -> o.data = .dict es ep -> H b = none := fun {b o es ep} e d => by
      cases q : H b with
      | none => rfl
      | some u =>
        rcases hA b (by rw [q]; simp) with e' | e'
        · subst e'
          rw [ha] at e; cases e
          have d' : Data.seq vs.toArray _ = Data.dict es ep := d
          cases d'
        · subst e'
          rw [hP] at e; cases e
          have d' : Data.fields #[] = Data.dict es ep := d
          cases d'
    have nsK : ∀ {b : Addr} {m : Str -> Option Value}, s₁.heap.Ns b m -> (zci s₁.heap H).Ns b m := fun {b m} ⟨o, es, ep, e, d, r⟩ => ⟨o, es, ep, base_of e (noA e d), d, r⟩
    have hKb : K.In (zci s₁.heap H) := fun b o e => base_of (KX b o e) (by
      cases q : H b with
      | none => rfl
      | some u =>
        rcases hA b (by rw [q]; simp) with e' | e'
        · subst e'
          rcases hKa with z | ⟨z, _⟩
          · rw [z] at q; cases q
          · rw [z] at e; cases e
        · subst e'
          rw [nKP] at e; cases e)
    have hM : Mod K mg (zci s₁.heap H) := ⟨hKb, nsK hns, ⟨mb, nsK hb, hbb⟩, let ⟨mc, h1, h2⟩ := hlim; ⟨mc, nsK h1, h2⟩⟩
    have e0 : zh2 P w K mg (zci s₁.heap H) callerA [] s₁ H := ⟨rfl, hM, fun b o e => zdZ e, Nat.le_of_eq (zbn _ _), trivial, fun b hb => absurd (show b ∈ ([] : List Addr) from hb) (by simp), hok, .of_eq hg⟩
    have noC : ∀ {b : Addr} {o : Obj}, s₁.heap.get? b = some o -> o.cls ≠ .none -> (o.cls ≠ .type "list") -> H b = none := fun {b o} e d1 d2 => by
      cases q : H b with
      | none => rfl
      | some u =>
        rcases hA b (by rw [q]; simp) with e' | e'
        · subst e'; rw [ha] at e; cases e; exact absurd rfl d2
        · subst e'; rw [hP] at e; cases e; exact absurd rfl d1
    have hL : z9U mg (zci s₁.heap H) c Pt := by
      obtain ⟨o, vs, file, tf, flags, tg, inF, text, tt, e1, r1, r⟩ := hC
      obtain ⟨bm, ob, b1, b2, b3, b4, b5, b6, b7, b8⟩ := hB
      exact ⟨⟨o, vs, file, tf, flags, tg, inF, text, tt, base_of e1 (noC e1 (by rw [r1]; exact fun z => nomatch z) (by rw [r1]; decide)), r1, r⟩, ⟨bm, ob, b1, b2, b3, b4, base_of b5 (noC b5 (by rw [b6]; exact fun z => nomatch z) (by rw [b6]; decide)), b6, b7, b8⟩⟩
    refine codeAny_mono ((F _ hKb (nsK hns) hL).run callerA [] s₁ H ⟨[.ref a], []⟩ [.ref a] [.ref a] _ _ hr e0 (hbind s₁ (.ref a)) (.cons rfl .nil) (hsp H hT hS)) fun r s' h => ?_
    cases r with
    | error e => exact (hCX H e s' h).elim
    | ok fl =>
      cases fl with
      | next => exact False.elim h
      | brk => exact False.elim h
      | cont => exact False.elim h
      | ret u =>
        obtain ⟨v, H', os, bare, un, hok', r', q⟩ := h
        have q' : v = .bl true := q
        subst q'
        obtain rfl : u = Value.bool true := r'
        obtain ⟨more, hT'⟩ := un.tbls Pt #[] hT
        have hP' : s'.heap.get? Pt = some { cls := .none, data := .fields (#[] ++ more) } := hok' Pt _ hT'
        refine ⟨rfl, ⟨fun b o e => ?_, fun b o e => ?_⟩, os, bare⟩
        · by_cases hbP : b = Pt
          · subst hbP
            rw [hP] at e; cases e
            exact .inr (.inl ⟨(hC.tab hP).isCodeTable, rfl, #[], more, rfl, hP'⟩)
          · cases q : H b with
            | none => exact .inl (un.keep b o e q (by intro z; exact absurd (show b ∈ ([] : List Addr) from z) (by simp)) (by simp))
            | some u =>
              rcases hA b (by rw [q]; simp) with e' | e'
              · subst e'
                rcases hKa with z | ⟨_, ob, xs, z⟩
                · rw [q] at z; cases z
                · have z2 := un.frzs b ob _ z
                  obtain ⟨e1, _⟩ := hok b _ z
                  obtain ⟨e2, _⟩ := hok' b _ z2
                  rw [e] at e1; cases e1
                  exact .inl e2
              · exact absurd e' hbP
        · exact un.there b o e (by simp)
  cases hk : K.lookup a with
  | some o =>
    have e := KX a o hk
    rw [ha] at e
    cases e
    refine core (fun b => if b = Pt then some (.tbl #[]) else none) (if_pos rfl) (.inr ⟨_, vs.toArray, _, hk, rfl, rfl, rfl, by rw [List.size_toArray, lenV]; exact hl, by simpa using rv⟩) (fun b u z => ?_) (fun b z => ?_) (.inl (if_neg naP))
    · by_cases hb : b = Pt
      · have z' := (if_pos hb).symm.trans z
        cases z'; subst hb; exact hP
      · have z' := (if_neg hb).symm.trans z
        cases z'
    · by_cases hb : b = Pt
      · exact .inr hb
      · exact absurd (if_neg hb) z
  | none =>
    refine core (fun b => if b = Pt then some (.tbl #[]) else if b = a then some (.frz { cls := .type "list", data := .seq vs.toArray } (.lst (ns.map V.int))) else none) (if_pos rfl) (.inl (.inr ⟨{ cls := .type "list", data := .seq vs.toArray }, (if_neg naP).trans (if_pos rfl)⟩)) (fun b u z => ?_) (fun b z => ?_) (.inr ⟨hk, _, _, (if_neg naP).trans (if_pos rfl)⟩)
    · by_cases hb : b = Pt
      · have z' := (if_pos hb).symm.trans z
        cases z'; subst hb; exact hP
      · by_cases hb2 : b = a
        · have z' := ((if_neg hb).trans (if_pos hb2)).symm.trans z
          cases z'
          subst hb2
          exact ⟨ha, by rw [List.length_map]; exact hl, vs, _, rv, ha⟩
        · have z' := ((if_neg hb).trans (if_neg hb2)).symm.trans z
          cases z'
    · by_cases hb : b = Pt
      · exact .inr hb
      · by_cases hb2 : b = a
        · exact .inl hb2
        · exact absurd ((if_neg hb).trans (if_neg hb2)) z
end DL
namespace DL
open PySem L2
open PyProof.Rows (AllBare)
theorem zaj {pos pos' : Pos} {c cv : Value} (l : List Value) (h : TriplesOk l) (e : codeAmong pos' (l ++ [rawInt pos.line, rawInt pos.col, c]) = some cv) : codeAmong pos' l = some cv \/ cv = c := by
  fun_induction TriplesOk l with
  | case1 =>
    simp only [List.nil_append, codeAmong, rawInt] at e
    split at e
    · cases e; exact .inr rfl
    · cases e
  | case2 a t b u x z6F ih =>
    simp only [List.cons_append, codeAmong] at e ⊢
    split at e
    · rename_i hc; rw [if_pos hc]; exact .inl e
    · rename_i hc; rw [if_neg hc]; exact ih h e
  | case3 l h1 h2 => exact h.elim
theorem zf1 {q : Str} {H : Hp} {P c : Addr} {pos : Pos} {ps : Array Value} (h1 : H P = some (.tbl ps)) (hc : H c = none) (P2 : Addr) (t2 : Tidy H P2) :
    Tidy (upd (upd H P (.tbl (ps ++ #[rawInt pos.line, rawInt pos.col, .ref c]))) c (.ext fun h => h.CodeRec (.ref c) q)) P2 := by
  have nc : ∀ {b : Addr} {o : HO}, H b = some o -> b ≠ c := fun e => z4U e hc
  obtain ⟨ps2, g1, g2, g3⟩ := t2
  have codes : ∀ {b : Addr} {φ : Heap -> Prop}, H b = some (.ext φ) -> upd (upd H P (.tbl (ps ++ #[rawInt pos.line, rawInt pos.col, .ref c]))) c (.ext fun h => h.CodeRec (.ref c) q) b = some (.ext φ) := fun {b φ} e => by
    rw [z4O (nc e), z4O (zko e h1 (fun z => nomatch z))]; exact e
  by_cases hP : P2 = P
  · subst hP
    rw [h1] at g1; cases g1
    refine ⟨_, by rw [z4O (nc h1), z54], ?_, fun p cv e => ?_⟩
    · rw [Array.toList_append]; exact TriplesOk_snoc _ _ _ _ g2
    · rw [Array.toList_append] at e
      rcases zaj _ g2 e with e | e
      · obtain ⟨c2, φ, rfl, k1, k2⟩ := g3 p cv e
        exact ⟨c2, φ, rfl, codes k1, k2⟩
      · exact ⟨c, _, e, z54, fun h z => ⟨q, z⟩⟩
  · refine ⟨ps2, by rw [z4O (nc g1), z4O hP]; exact g1, g2, fun p cv e => ?_⟩
    obtain ⟨c2, φ, rfl, k1, k2⟩ := g3 p cv e
    exact ⟨c2, φ, rfl, codes k1, k2⟩
section
variable {X : Cx} {pins : List (Addr × Obj)} {σv : St} {H : Hp} {s : Shared} {E : Value -> Shared -> Prop}
abbrev zbQ (H : Hp) (P c : Addr) (ps : Array Value) (pos : Pos) (q : Str) : Hp := upd (upd H P (.tbl (ps ++ #[rawInt pos.line, rawInt pos.col, .ref c]))) c (.ext fun h => h.CodeRec (.ref c) q)
theorem z6W {P c : Addr} {ps : Array Value} {pos : Pos} {q : Str} (h1 : H P = some (.tbl ps)) (hc : H c = none) {b : Addr} {o : HO} (e : H b = some o) (ht : zda o) : zbQ H P c ps pos q b = some o := by
  have n1 : b ≠ P := by rintro rfl; rw [h1] at e; cases e; exact ht _ rfl
  show upd (upd H P _) c _ b = some o
  rw [z4O (z4U e hc), z4O n1]; exact e
theorem zba {P c : Addr} {ps : Array Value} {pos : Pos} {q : Str} (h1 : H P = some (.tbl ps)) (hc : H c = none) (μ : List Addr) : Ext H μ (zbQ H P c ps pos q) μ :=
  ⟨⟨[], by simp⟩, fun b o e _ ht => z6W h1 hc e ht, fun _ m => .inl m, fun b h => z5J b (z5J b h), fun P2 t2 => zf1 h1 hc P2 t2⟩
theorem zbS {K : PySem.W.Frag} {P c : Addr} {ps : Array Value} {pos : Pos} {q : Str} (h1 : H P = some (.tbl ps)) (hc : H c = none) {hid μ : List Addr} {O : Ow} (cl : Cells K H hid μ O) : Cells K (zbQ H P c ps pos q) hid μ O := by
  refine ⟨cl.len, cl.nd, cl.nh, fun a m => z5J a (z5J a (cl.ht a m)), fun k a e => ?_⟩
  obtain ⟨ds, vs, g1, g2, g3⟩ := cl.at_ k a e
  exact ⟨ds, vs, g1, z6W h1 hc g2 (by intro ps z; cases z), g3.ext (zba h1 hc μ)⟩
theorem z7W {h h' : Heap} {c : Addr} {q : Str} (x : h.CodeRec (.ref c) q) (k : ∀ o, h.get? c = some o -> h'.get? c = some o) : h'.CodeRec (.ref c) q := by
  obtain ⟨c2, o, vs, t, e, ho, r⟩ := x
  cases e
  exact ⟨c, o, vs, t, rfl, k o ho, r⟩
theorem zjI {c P : Addr} {params : Arguments} {body : Expr} {scope : Scope} {pos : Pos} {clos : List (Str × Addr)} {Q : Value -> Shared -> Prop} (I : L2.Inv X pins σv H s) (L : z9U X.mg X.base c P) (hcode : X.env.code = .ref c) (ti : Tidy H P)
    (hcl : closureFor scope X.env = pure clos) (hdef : defaultsOf params X.env = ([], []))
    (h : ∀ (lam : Addr) (cd ctv : Value) (h' : Heap) (tk : Tok) (H' : Hp), L2.Inv X pins σv H' { s with heap := h', toks := tk } -> (∀ μ, Ext H μ H' μ) -> (∀ hid μ O, Cells X.K H hid μ O -> Cells X.K H' hid μ O) -> H' lam = none -> s.heap.objs.size <= lam ->
      h'.get? lam = some { cls := .type "function", data := .func (PySem.W.kla_fn "<lambda>" (X.env.qual ++ "<lambda>") params body scope clos ((X.mg "__name__").getD .none) cd ctv) } -> (∃ c φ, cd = .ref c /\ H' c = some (.ext φ) /\ ∀ h : Heap, φ h -> ∃ q, h.CodeRec (.ref c) q) -> Q (.ref lam) { s with heap := h', toks := tk }) :
    wpAny (model X.prog X.w) X.A (eval (.Lambda params body scope pos) X.env) Q E s := by
  obtain ⟨ps, h1, h2, h3⟩ := id ti
  have hP : s.heap.get? P = some (PySem.W.tabObj ps) := I.hok P _ h1
  have hg : s.heap.Ns mainGlobals X.mg := I.mod.glob.keeps I.bk
  have hgP : mainGlobals ≠ P := fun z => by
    obtain ⟨o, es, ep, e, hd, _⟩ := hg
    rw [z, hP] at e; cases e; cases hd
  have hb : s.heap.BuiltinsAt X.mg P := by
    obtain ⟨bm, ob, b1, b2, b3, b4, b5, r⟩ := L.bl
    exact ⟨bm, ob, b1, b2, b3, b4, I.bk _ _ b5, r⟩
  have hd := L.hd.keeps I.bk
  refine PySem.W.kla_eval hdef ?_
  cases hca : codeAmong pos ps.toList with
  | some cv =>
    obtain ⟨c', φ, rfl, k1, k2⟩ := h3 pos cv hca
    obtain ⟨q, k3⟩ := k2 _ (I.hok c' _ k1).1
    refine PySem.W.kla_makeFunctionHit (mg := X.mg) hcl I.ok.glob hg hcode hd hP h2 hca hb fun ctv h' tk hk hsz => ?_
    have kp : ∀ b u, s.heap.get? b = some u -> (h'.push { cls := .type "function", data := .func (PySem.W.kla_fn "<lambda>" (X.env.qual ++ "<lambda>") params body scope clos ((X.mg "__name__").getD .none) (.ref c') ctv) }).get? b = some u := fun b u e => Heap.get?_push_of_some _ (hk b u e)
    exact h h'.objs.size (.ref c') ctv _ tk H (I.kept (t' := tk) kp) (fun μ => .refl) (fun _ _ _ z => z) (I.hok.fresh hsz) hsz (Heap.get?_push_size _ rfl) ⟨c', φ, rfl, k1, k2⟩
  | none =>
    refine PySem.W.kla_makeFunction (mg := X.mg) hcl I.ok.glob hg hcode hd hP h2 hca hgP hb fun c' ctv h' tk hx hge hlt hrec htb => ?_
    have hc : H c' = none := I.hok.fresh hge
    have nP : ∀ {b : Addr}, H b = none -> b ≠ P := fun e => Ne.symm (z4U h1 e)
    have kp : ∀ b u, b ≠ P -> s.heap.get? b = some u -> (h'.push (PySem.W.kla_obj "<lambda>" (X.env.qual ++ "<lambda>") params body scope clos ((X.mg "__name__").getD .none) c' ctv)).get? b = some u := fun b u n e => Heap.get?_push_of_some _ (hx b u n e)
    have hP' : (h'.push (PySem.W.kla_obj "<lambda>" (X.env.qual ++ "<lambda>") params body scope clos ((X.mg "__name__").getD .none) c' ctv)).get? P = some (PySem.W.tabObj (ps ++ #[rawInt pos.line, rawInt pos.col, .ref c'])) := Heap.get?_push_of_some _ htb
    have hrec' : (h'.push (PySem.W.kla_obj "<lambda>" (X.env.qual ++ "<lambda>") params body scope clos ((X.mg "__name__").getD .none) c' ctv)).CodeRec (.ref c') (X.env.qual ++ "<lambda>") := z7W hrec fun o e => Heap.get?_push_of_some _ e
    have hnew : ∀ {b : Addr}, s.heap.objs.size <= b -> b ≠ c' -> zbQ H P c' ps pos (X.env.qual ++ "<lambda>") b = none := fun {b} hb n => by
      have e := I.hok.fresh hb
      show upd (upd H P _) c' _ b = none
      rw [z4O n, z4O (nP e)]; exact e
    refine h h'.objs.size (.ref c') ctv _ tk (zbQ H P c' ps pos (X.env.qual ++ "<lambda>")) ?_ (zba h1 hc) (fun _ _ _ z => zbS h1 hc z) (hnew (Nat.le_of_lt (Nat.lt_of_le_of_lt hge hlt)) (Nat.ne_of_gt hlt)) (Nat.le_of_lt (Nat.lt_of_le_of_lt hge hlt)) (Heap.get?_push_size _ rfl) ⟨c', _, rfl, z54, fun h z => ⟨_, z⟩⟩
    have hfree : ∀ b o, s.heap.get? b = some o -> H b = none -> zbQ H P c' ps pos (X.env.qual ++ "<lambda>") b = none := fun b o e n => by
      show upd (upd H P _) c' _ b = none
      rw [z4O (Nat.ne_of_lt (Nat.lt_of_lt_of_le (Heap.lt_size e) hge)), z4O (nP n)]; exact n
    refine I.step (g' := s.gens) (d' := s.drawn) (ch := []) (fun _ z => nomatch z) (fun b o _ _ _ e n => kp b o (nP n) e) (fun b o _ _ _ e n => ⟨o.slots, kp b o (nP n) e⟩) (fun b o _ e n => hfree b o e n) (fun b o _ e => ?_)
      (fun b xs e => z6W h1 hc e (by intro ps z; cases z)) (fun b o u e => z6W h1 hc e (by intro ps z; cases z)) (fun b ps2 e => ?_) (fun m hm => ?_) ?_ I.bare
    · by_cases hbP : b = P
      · subst hbP; exact ⟨_, hP'⟩
      · exact ⟨o, kp b o hbP e⟩
    · by_cases hbP : b = P
      · subst hbP
        rw [h1] at e; cases e
        exact ⟨_, by show upd (upd H b _) c' _ b = _; rw [z4O (z4U h1 hc), z54]⟩
      · exact ⟨#[], by show upd (upd H P _) c' _ b = _; rw [z4O (z4U e hc), z4O hbP, e]; simp⟩
    · obtain ⟨o, es, ep, e, r⟩ := hm
      exact ⟨o, es, ep, kp _ o (nP I.free) e, r⟩
    · intro b u e
      by_cases hbc : b = c'
      · subst hbc
        have e' : zbQ H P b ps pos (X.env.qual ++ "<lambda>") b = _ := z54
        rw [e'] at e; cases e
        refine ⟨hrec', ?_, fun ha hb' za zk => z7W za zk⟩
        obtain ⟨c2, o, vs, t, z, ho, _⟩ := hrec'
        cases z
        exact ⟨o, ho⟩
      · have e1 : upd H P (.tbl (ps ++ #[rawInt pos.line, rawInt pos.col, .ref c'])) b = some u := (z4O hbc).symm.trans e
        by_cases hbP : b = P
        · subst hbP
          rw [z54] at e1; cases e1
          exact hP'
        · have e2 : H b = some u := (z4O hbP).symm.trans e1
          refine (I.hok b u e2).stay (fun b2 u2 hb2 z => kp b2 u2 (fun zz => ?_) z) (fun b2 z => z6W h1 hc z (by intro ps z; cases z)) fun b2 xs z => z6W h1 hc z (by intro ps z; cases z)
          rcases hb2 with rfl | hb2
          · exact hbP zz
          · rw [zz, h1] at hb2; cases hb2
end
end DL
namespace DL
open PySem L2
open PyProof.Rows (AllBare)
abbrev zdq (q : Str) (scope : Scope) (L f : Addr) (cd : Value) (cl : List (Str × Addr)) : Env := { scope, locals := L, globals := mainGlobals, cells := cl, qual := q ++ ".<locals>.", func := some f, code := cd, frame := some L, builtins := builtinsNs }
section
variable {prog : Program} {w : World} {A : Around} {s : Shared} {R : Result -> Shared -> Prop}
theorem zhz {lam : Addr} {q name qual : Str} {params : Arguments} {body : Expr} {scope : Scope} {cl : List (Str × Addr)} {pm cd ct : Value} (hroom : A.depth < recursionLimit)
    (ho : s.heap.get? lam = some { cls := .type "function", data := .func (PySem.W.kla_fn name qual params body scope cl pm cd ct) }) (hcd : s.heap.CodeRec cd q) (hco : scope.isCoroutine = false) (hgen : scope.isGenerator = false) (hk : scope.kind = .function) (hcell : ∀ x ∈ scope.names, x.2 ≠ .cell)
    (hbind : bindArgs (PySem.W.kla_fn name qual params body scope cl pm cd ct) ⟨[], []⟩ = pure []) (hlim : s.heap.NoLimit)
    (h : ∀ h', h'.Ns s.heap.objs.size (fun _ => none) -> (∀ b o, s.heap.get? b = some o -> h'.get? b = some o) ->
      wpAny (model prog w) (A.deeper (zdq q scope s.heap.objs.size lam cd cl)) (eval body (zdq q scope s.heap.objs.size lam cd cl)) (fun v s' => R (.ok (.ret v)) s')
        (fun e s' => wpAny (model prog w) (A.deeper (zdq q scope s.heap.objs.size lam cd cl)) (leaving (zdq q scope s.heap.objs.size lam cd cl) e) (fun _ s'' => R (.error e) s'') (fun e' s'' => R (.error e') s'') s') { s with heap := h' }) :
    codeAny (model prog w) A (.call (.ref lam) ⟨[], []⟩) R s := by
  refine codeAny_of_tree ?_
  show wpAny _ A.in1 (callAny (.ref lam) ⟨[], []⟩) _ _ s
  simp only [callAny]
  refine wpAny_bind (wpAny_load ho ?_)
  obtain ⟨c, oc, vs, tq, hc, hoc, hdc, hq⟩ := hcd
  subst hc
  simp only [callFunction, hco, hgen]
  refine wpAny_bind (m := field (.ref c) 1) (wpAny_field hoc hdc hq (wpAny_bind (wpAny_pure ?_)))
  rw [hbind]
  refine wpAny_bind (wpAny_pure (wpAny_bind ?_))
  refine wpAny_newFunctionEnv hcell (fun x hx => nomatch hx) (fun h₁ hns hsb => ?_) hk
  have kp : ∀ b o, s.heap.get? b = some o -> h₁.get? b = some o := fun b o e => hsb.extBut b o (Nat.ne_of_lt (Heap.lt_size e)) (Heap.get?_push_of_some _ e)
  refine wpAny_bind (wpAny_enterFrame (hlim.keeps kp) hroom (wpAny_pure ⟨rfl, ?_⟩))
  exact PySem.W.kla_codeExpr (h h₁ hns kp)
end
end DL
namespace DL
open PySem L2
open PyProof.Rows (AllBare)
theorem zic {X : Cx} {E : XK} {Cl : Nat -> Value} (hxe : X.xe = fun e s' => wpAny (model X.prog X.w) X.A (leaving X.env e) (fun _ s'' => CXr X.prog X.w Cl X.outer X.H₀ X.s₀ E e s'') (fun e' s'' => CXr X.prog X.w Cl X.outer X.H₀ X.s₀ E e' s'') s')
    (hst : X.stack = X.env :: X.outer) (hf : X.env.frame = some X.env.locals) (hex : X.ex = []) : XOk X (Xk Cl E) Cl := by
  intro pins σ H1 s1 a c I x q
  have hfr : X.A.frames = some (X.env :: X.outer) := by rw [<- hst]; exact I.ok.frames
  have hstk : s1.heap.FunFrames X.base (X.env :: X.outer) := by rw [<- hst]; exact I.stack
  have hfree : ∀ b ∈ frs (X.env :: X.outer), H1 b = none := by rw [<- hst]; exact I.stkFree
  have hbase : Un X.fs [] X.H₀ H1 X.s₀.heap s1.heap := by have := I.base; rw [hex] at this; exact this
  have hfs : frs (X.env :: X.outer) = X.env.locals :: X.fs := by unfold frs; rw [List.filterMap_cons, hf]; rfl
  rw [hxe]
  show wpAny (model X.prog X.w) X.A (leaving X.env (.ref a)) (fun _ s'' => CXr X.prog X.w Cl X.outer X.H₀ X.s₀ E (.ref a) s'') (fun e' s'' => CXr X.prog X.w Cl X.outer X.H₀ X.s₀ E e' s'') s1
  unfold leaving
  refine wpAny_bind (zeW hfr hstk hf x (fun b hb => I.hok.fresh hb) (fun b hb => Heap.get?_none_of_le (Nat.le_trans I.sz hb)) fun h' kp xa => ?_)
  refine ⟨a, c, H1, rfl, I.os, I.bare, ?_, kp.hok I.hok hfree, xa, q⟩
  refine ⟨fun b o e n hb hx => ?_, fun b o e n hb hx => ?_, fun b o e n hx => hbase.free b o e n hx, fun b o e hx => ?_, hbase.tups, hbase.frzs, hbase.tbls⟩
  · refine kp.keep b o (hbase.keep b o e n hb hx) (fun z => ?_) (.inr (by rw [e]; exact fun z => nomatch z))
    rw [hfs] at z
    rcases List.mem_cons.mp z with z2 | z2
    · exact absurd (Nat.lt_of_lt_of_le (Heap.lt_size e) I.ok.above) (by rw [z2]; exact Nat.lt_irrefl _)
    · exact hb z2
  · obtain ⟨sl, e1⟩ := hbase.slot b o e n hb hx
    obtain ⟨sl', e2⟩ := kp.slot b _ e1 (by rw [hfs]; exact List.mem_cons_of_mem _ hb)
    exact ⟨sl', e2⟩
  · obtain ⟨o', e1⟩ := hbase.there b o e hx
    exact kp.there b o' e1
def cxL (CX : CXT) (P : Program) (w : World) (K : PySem.W.Frag) (mg : Str -> Option Value) (base : Heap) (N : List Str) (env : Env) (A : Around) (outer : List Env) (s : Shared) (H : Hp) (E : XK) : Cx where
  prog := P
  w := w
  K := K
  mg := mg
  base := base
  A := A.deeper env
  N := N
  s₀ := s
  H₀ := H
  env := env
  outer := outer
  stack := env :: outer
  ex := []
  calm := true
  fn := fun _ => false
  pn := []
  xe := fun e s' => wpAny (model P w) (A.deeper env) (leaving env e) (fun _ s'' => CX outer H s E e s'') (fun e' s'' => CX outer H s E e' s'') s'
section
variable {CX : CXT} {P : Program} {w : World} {K : PySem.W.Frag} {mg : Str -> Option Value} {base : Heap} {N : List Str} {A : Around} {outer : List Env} {s : Shared} {H : Hp} {E : XK} {Cl : Nat -> Value} {q : Str} {scope : Scope} {lam : Addr} {cd : Value} {cl : List (Str × Addr)} {σ : St} {h' : Heap}
theorem z9b : XOk (cxL (CXr P w Cl) P w K mg base N (zdq q scope s.heap.objs.size lam cd cl) A outer s H E) (Xk Cl E) Cl := zic rfl rfl rfl rfl
theorem zih (e0 : zh2 P w K mg base A outer s H) (hd : A.handled = none) (hk : scope.kind = .function) (hvis : ∀ x, Vis scope x -> scope.names.lookup x = some .free)
    (cells : ∀ x c, cl.lookup x = some c -> (∃ v, s.heap.IsCell c v) /\ H c = none) (inj : ∀ x y c, cl.lookup x = some c -> cl.lookup y = some c -> x = y) (has : ∀ x, scope.names.lookup x = some .free -> ∃ c, cl.lookup x = some c)
    (vals : ∀ (i : Nat) x v, N[i]? = some x -> σ[i]? = some (some v) -> scope.names.lookup x = some .free -> ∃ u c, RelV v u /\ cl.lookup x = some c /\ s.heap.IsCell c (some u)) (len : σ.length = N.length)
    (hns : h'.Ns s.heap.objs.size (fun _ => none)) (kp : ∀ b o, s.heap.get? b = some o -> h'.get? b = some o) :
    L2.Inv (cxL CX P w K mg base N (zdq q scope s.heap.objs.size lam cd cl) A outer s H E) [] σ H { s with heap := h' } := by
  have cellK : ∀ {c : Addr} {v : Option Value}, s.heap.IsCell c v -> h'.IsCell c v := fun {c v} ⟨o, ho, r⟩ => ⟨o, kp c o ho, r⟩
  have noA : ∀ b : Addr, b ∉ (cxL CX P w K mg base N (zdq q scope s.heap.objs.size lam cd cl) A outer s H E).ex := fun b z => absurd (show b ∈ ([] : List Addr) from z) (by simp)
  refine ⟨⟨e0.mod, hk, rfl, rfl, Nat.le_refl _, inj, fun y hy => ?_, fun y c z _ => absurd (show false = true from z) (by decide), fun _ => hd, Around.frames_deeper e0.frames, .inr ⟨rfl, rfl⟩, fun b z => absurd z (noA b), e0.bs, e0.bsz, fun b _ _ => noA b, fun b z => absurd z (noA b), e0.funs, e0.frf⟩,
    rfl, e0.bare, Un.kept kp, ⟨_, hns, fun i y v g1 g2 g3 => ?_⟩, fun y c g => ?_, e0.hok.fresh (Nat.le_refl _), fun y c g => (cells y c g).2, fun p hp => absurd (show p ∈ ([] : List (Addr × Obj)) from hp) (by simp), e0.hok.kept kp, len⟩
  · have hy' : scope.names.lookup y = some .cell \/ scope.names.lookup y = some .free := hy
    exact has y (hvis y (hy'.elim (fun z => .inr (.inl z)) fun z => .inr (.inr z)))
  · obtain ⟨u, c, r, g4, g5⟩ := vals i y v g1 g2 (hvis y g3)
    exact ⟨u, r, .inr ⟨.inr (hvis y g3), c, g4, cellK g5⟩⟩
  · obtain ⟨⟨v, z⟩, _⟩ := cells y c g
    exact ⟨v, cellK z⟩
theorem zky {k : Nat} {name qual : Str} {params : Arguments} {body : Expr} {pm ct : Value} {t : DE} {hid μ : List Addr} {σd : Sg} {O : Ow} {Q : VK} (hr : Room (k + 1) A) (e0 : zh2 P w K mg base A outer s H)
    (ho : s.heap.get? lam = some { cls := .type "function", data := .func (PySem.W.kla_fn name qual params body scope cl pm cd ct) }) (hcd : s.heap.CodeRec cd q) (hco : scope.isCoroutine = false) (hgen : scope.isGenerator = false) (hk : scope.kind = .function) (hcell : ∀ x ∈ scope.names, x.2 ≠ .cell)
    (hbind : bindArgs (PySem.W.kla_fn name qual params body scope cl pm cd ct) ⟨[], []⟩ = pure []) (hvis : ∀ x, Vis scope x -> scope.names.lookup x = some .free)
    (cells : ∀ x c, cl.lookup x = some c -> (∃ v, s.heap.IsCell c v) /\ H c = none) (inj : ∀ x y c, cl.lookup x = some c -> cl.lookup y = some c -> x = y) (has : ∀ x, scope.names.lookup x = some .free -> ∃ c, cl.lookup x = some c)
    (vals : ∀ (i : Nat) x v, N[i]? = some x -> σ[i]? = some (some v) -> scope.names.lookup x = some .free -> ∃ u c, RelV v u /\ cl.lookup x = some c /\ s.heap.IsCell c (some u)) (len : σ.length = N.length)
    (hbody : Room k (A.deeper (zdq q scope s.heap.objs.size lam cd cl)) -> PD (cxL (CXr P w Cl) P w K mg base N (zdq q scope s.heap.objs.size lam cd cl) A outer s H E) (Xk Cl E) body t)
    (e1 : EnvOk K H hid μ σd σ) (c1 : Cells K H hid μ O) (qq : z5L (Xk Cl E) K H hid μ (t σd O) Q) : codeAny (model P w) A (.call (.ref lam) ⟨[], []⟩) (CR (CXr P w Cl) outer P w H s Q E) s := by
  refine zhz hr.depth ho hcd hco hgen hk hcell hbind (e0.mod.nolimit.keeps fun b o e => (e0.bs b o e).1) fun h' hns kp => ?_
  refine wpAny_mono ((hbody (hr.deeper _)).out [] _ σ H Q (zih e0 hr.hd hk hvis cells inj has vals len hns kp) ⟨hid, μ, σd, O, e1, c1, qq⟩) (fun v s' ⟨v', H', J, rv, z⟩ => ?_) fun e s' z => z
  exact ⟨v', H', J.os, J.bare, J.base, J.hok, rv, z⟩
end
end DL
namespace DL
open PySem L2
open PyProof.Rows (AllBare)
section
variable {M : Model} {A : Around} {E : Value -> Shared -> Prop} {s : Shared} {base h0 : Heap} {H : Hp} {frames : List Env} {a : Addr} {C : Value} {Q : Unit -> Shared -> Prop}
theorem Kp.refl {h : Heap} {fs : List Addr} : Kp h0 H fs h h := ⟨fun _ _ e _ _ => e, fun b o e _ => ⟨o.slots, e⟩, fun _ o e => ⟨o, e⟩, Nat.le_refl _⟩
theorem Kp.trans {h h1 h2 : Heap} {fs : List Addr} (x : Kp h0 H fs h h1) (y : Kp h0 H fs h1 h2) : Kp h0 H fs h h2 :=
  ⟨fun b o e n k => y.keep b o (x.keep b o e n k) n k, fun b o e n => by
    obtain ⟨sl, e1⟩ := x.slot b o e n
    obtain ⟨sl', e2⟩ := y.slot b _ e1 n
    exact ⟨sl', e2⟩, fun b o e => by
    obtain ⟨o1, e1⟩ := x.there b o e
    exact y.there b o1 e1, Nat.le_trans x.size y.size⟩
theorem zg4 (hl : s.heap.FunFrames base frames) (x : XAt h0 H s.heap a C) (h : ∀ h', Kp h0 H (frs frames) s.heap h' -> XAt h0 H h' a C -> Q () { s with heap := h' }) : wpAny M A (setFlight (.ref a) none) Q E s := by
  obtain ⟨⟨oe, vs, he, hC, hd, hsz, ht⟩, new, free⟩ := id x
  unfold setFlight
  rcases ht with h1 | ⟨T, oT, ts, h1, nT, newT, freeT, hT, hdT, h3⟩
  · refine wpAny_bind (wpAny_field he hd h1 ?_)
    rw [if_neg (by decide)]
    exact wpAny_pure (h s.heap .refl x)
  · refine wpAny_bind (wpAny_field he hd h1 ?_)
    rw [if_pos (show (Value.ref T != Value.none) = true by simp)]
    refine wpAny_setField hT hdT (Array.getElem?_eq_some_iff.mp h3).1 (h _ ?_ ?_)
    · have oth : ∀ b, b ≠ T -> (s.heap.update T (Obj.mapFields (·.setIfInBounds 3 ((none : Option Addr).elim Value.none fun f => rawInt f)))).get? b = s.heap.get? b := fun b hb => Heap.get?_update_other _ _ (Ne.symm hb)
      refine ⟨fun b o e hb hk => (oth b fun z => ?_).trans e, fun b o e hb => ⟨o.slots, (oth b fun z => ?_).trans e⟩, fun b o e => ?_, by rw [Heap.size_update]; exact Nat.le_refl _⟩
      · subst z
        rcases hk with q | q
        · exact q freeT
        · exact q newT
      · subst z
        obtain ⟨_, o', ho', hnf⟩ := hl.mem hb
        rw [hT] at ho'; cases ho'
        exact hnf ts hdT
      · by_cases hb : b = T
        · subst hb; exact ⟨_, Heap.get?_update_self _ hT (Obj.isFreed_of_fields (Obj.data_mapFields hdT _))⟩
        · exact ⟨o, (oth b hb).trans e⟩
    · refine ⟨⟨oe, vs, (Heap.get?_update_other _ _ nT).trans he, hC, hd, hsz, .inr ⟨T, _, _, h1, nT, newT, freeT, Heap.get?_update_self _ hT (Obj.isFreed_of_fields (Obj.data_mapFields hdT _)), Obj.data_mapFields hdT _, ?_⟩⟩, new, free⟩
      rw [Array.getElem?_setIfInBounds_self, if_pos (Array.getElem?_eq_some_iff.mp h3).1]; rfl
end
section
variable {X : Cx} {pins : List (Addr × Obj)} {σ : St} {H H1 : Hp} {s s1 : Shared}
abbrev Cx.mk' (X : Cx) (a : Addr) : Cx := { X with A := X.A.mark (some (.ref a)), calm := false, xe := fun _ _ => False }
theorem Inv.mk' (I : L2.Inv X pins σ H s) (a : Addr) : L2.Inv (Cx.mk' X a) pins σ H s :=
  ⟨⟨I.ok.mod, I.ok.kind, I.ok.glob, I.ok.blt, I.ok.above, I.ok.inj, I.ok.has, I.ok.cab, fun z => absurd (show false = true from z) (by decide), I.ok.frames, I.ok.stk, I.ok.exf, I.ok.bs, I.ok.bsz, I.ok.noex, I.ok.exfs, I.ok.funs, I.ok.frf⟩, I.os, I.bare, I.base, I.loc, I.cell, I.free, I.freeC, I.pin, I.hok, I.len⟩
theorem Inv.unmk' {a : Addr} (ok : X.Ok) (I : L2.Inv (Cx.mk' X a) pins σ H s) : L2.Inv X pins σ H s :=
  ⟨ok, I.os, I.bare, I.base, I.loc, I.cell, I.free, I.freeC, I.pin, I.hok, I.len⟩
theorem Inv.raised {h' : Heap} (I : L2.Inv X pins σ H s) (os : s1.os = s.os) (bare : AllBare s1.gens) (un : Un (frs X.stack) [] H H1 s.heap s1.heap) (hok : HOk X.prog X.w H1 s1.heap) (kp : Kp s.heap H1 (frs X.stack) s1.heap h') : L2.Inv X pins σ H1 { s1 with heap := h' } := by
  have I1 : L2.Inv X pins σ H1 s1 := I.call' (ch := []) os un hok bare (fun b z => absurd z (by simp))
  refine I.call' (s' := { s1 with heap := h' }) (ch := []) os ?_ (kp.hok hok I1.stkFree) bare (fun b z => absurd z (by simp))
  refine ⟨fun b o e n hb hx => kp.keep b o (un.keep b o e n hb hx) hb (.inr (by rw [e]; exact fun z => nomatch z)), fun b o e n hb hx => ?_, un.free, fun b o e hx => ?_, un.tups, un.frzs, un.tbls⟩
  · obtain ⟨sl, e1⟩ := un.slot b o e n hb hx
    obtain ⟨sl', e2⟩ := kp.slot b _ e1 hb
    exact ⟨sl', e2⟩
  · obtain ⟨o', e1⟩ := un.there b o e hx
    exact kp.there b o' e1
theorem Inv.track {a C : Addr} (I : L2.Inv X pins σ H1 s1) (x : XAt s.heap H1 s1.heap a (.ref C)) (I0 : L2.Inv X pins σ H s) : L2.Inv X pins σ (upd H1 a (.ext fun h => ∃ ox, PySem.W.InstAt h a ox C none)) s1 := by
  obtain ⟨⟨oe, vs, he, hC, hd, hsz, _⟩, new, free⟩ := x
  have neA : ∀ b o, s.heap.get? b = some o -> b ≠ a := fun b o e z => by rw [z, new] at e; cases e
  have hinst : PySem.W.InstAt s1.heap a oe C none := ⟨he, hC.1, by unfold PySem.W.notCls; rw [hd], by rw [hC.2]; trivial⟩
  have old : ∀ {b : Addr} {u : HO}, H1 b = some u -> upd H1 a (.ext fun h => ∃ ox, PySem.W.InstAt h a ox C none) b = some u := fun {b u} e => by rw [z4O (z4U e free)]; exact e
  have fr : ∀ {b : Addr}, H1 b = none -> b ≠ a -> upd H1 a (.ext fun h => ∃ ox, PySem.W.InstAt h a ox C none) b = none := fun {b} e n => by rw [z4O n]; exact e
  have there : ∀ b, b ∉ X.ex -> (∃ o, X.s₀.heap.get? b = some o) -> b ≠ a := fun b hx ⟨o, e⟩ => by
    obtain ⟨o', e'⟩ := I0.base.there b o e hx
    exact neA b o' e'
  refine ⟨I.ok, I.os, I.bare, ⟨I.base.keep, I.base.slot, fun b o e n hx => fr (I.base.free b o e n hx) (there b hx ⟨o, e⟩), I.base.there, fun b xs e => old (I.base.tups b xs e), fun b o u e => old (I.base.frzs b o u e), fun b ps e => ?_⟩, I.loc, I.cell, ?_, fun x c e => ?_, fun p hp => ?_, fun b u e => ?_, I.len⟩
  · obtain ⟨m, e1⟩ := I.base.tbls b ps e
    exact ⟨m, old e1⟩
  · obtain ⟨m, ⟨o, _, _, ho, _⟩, _⟩ := I0.loc
    exact fr I.free (neA _ o ho)
  · obtain ⟨v, o, ho, _⟩ := I0.cell x c e
    exact fr (I.freeC x c e) (neA c o ho)
  · obtain ⟨e1, n1, r⟩ := I.pin p hp
    exact ⟨e1, fr n1 (neA _ _ (I0.pin p hp).1), r⟩
  · by_cases hb : b = a
    · subst hb
      rw [z54] at e; cases e
      exact ⟨⟨oe, hinst⟩, ⟨oe, he⟩, fun h1 h2 ⟨ox, z⟩ kk => ⟨ox, kk ox z.at_, z.cls, z.no, by
        have := z.dict
        revert this
        cases ox.dict with
        | none => exact fun _ => trivial
        | some _ => exact fun z => z.elim⟩⟩
    · rw [z4O hb] at e
      exact (I.hok b u e).stay (fun _ _ _ z => z) (fun _ z => old z) fun _ _ z => old z
end
end DL
namespace DL
open PySem L2
open PyProof.Rows (AllBare)
section
variable {X : Cx} {pins : List (Addr × Obj)} {σ : St} {H : Hp} {s : Shared} {M : Model} {A : Around} {E : Value -> Shared -> Prop}
theorem zeV {i : Nat} {x : Str} {v : V} {Q : Unit -> Shared -> Prop} (I : L2.Inv X pins σ H s) (hN : X.N.Nodup) (hi : X.N[i]? = some x) (hx : X.env.scope.names.lookup x = some .local) (hv : σ[i]? = some (some v))
    (h : ∀ s', L2.Inv X pins (σ.set i none) H s' -> Q () s') : wpAny M A (unbindName X.env x) Q E s := by
  obtain ⟨m, hn, hl⟩ := id I.loc
  obtain ⟨u, _, lk⟩ := hl i x v hi hv (.inl hx)
  have hm : m x = some u := by
    rcases lk with ⟨_, z⟩ | ⟨z, _⟩
    · exact z
    · have z' : X.env.scope.names.lookup x = some .cell \/ X.env.scope.names.lookup x = some .free := z
      rw [hx] at z'
      rcases z' with z' | z' <;> cases z'
  refine wpAny_unbindName_local hx hn hm (by rw [I.ok.kind]; rfl) fun h' u' hn' hs => h _ ?_
  have kp : ∀ b o, b ≠ X.env.locals -> s.heap.get? b = some o -> h'.get? b = some o := fun b o n e => (hs.2 b n).trans e
  have neL : ∀ b o, X.s₀.heap.get? b = some o -> b ≠ X.env.locals := fun b o e => Nat.ne_of_lt (Nat.lt_of_lt_of_le (Heap.lt_size e) I.ok.above)
  have neH : ∀ b o, H b = some o -> b ≠ X.env.locals := fun b o e => z4U e I.free
  have cellK : ∀ y c, X.env.cells.lookup y = some c -> ∀ w, s.heap.IsCell c w -> h'.IsCell c w := fun y c e w ⟨o, ho, hd⟩ => ⟨o, kp c o (I.cne y c e) ho, hd⟩
  refine ⟨I.ok, I.os, I.bare, ⟨fun b o e n hb hx => kp b o (neL b o e) (I.base.keep b o e n hb hx), fun b o e n hb hx => ?_, I.base.free, fun b o e hx => ?_, I.base.tups, I.base.frzs, I.base.tbls⟩, ⟨_, hn', fun j y w e1 e2 e3 => ?_⟩, fun y c e => ?_, I.free, I.freeC, fun p hp => ?_, fun b o e => ?_, by rw [List.length_set]; exact I.len⟩
  · obtain ⟨sl, e1⟩ := I.base.slot b o e n hb hx
    exact ⟨sl, kp b _ (neL b o e) e1⟩
  · obtain ⟨o', e1⟩ := I.base.there b o e hx
    exact ⟨o', kp b o' (neL b o e) e1⟩
  · have hj : j ≠ i := by
      rintro rfl
      have hlt : j < σ.length := (List.getElem?_eq_some_iff.mp hv).1
      rw [List.getElem?_set_self hlt] at e2; cases e2
    rw [List.getElem?_set_ne (Ne.symm hj)] at e2
    have hy : y ≠ x := by rintro rfl; exact hj (zaf hN e1 hi)
    obtain ⟨u2, r2, l2⟩ := hl j y w e1 e2 e3
    refine ⟨u2, r2, ?_⟩
    rcases l2 with ⟨k1, k2⟩ | ⟨k1, c, k2, k3⟩
    · exact .inl ⟨k1, by show (if y = x then u' else m y) = some u2; rw [if_neg hy]; exact k2⟩
    · exact .inr ⟨k1, c, k2, cellK y c k2 _ k3⟩
  · obtain ⟨w, z⟩ := I.cell y c e
    exact ⟨w, cellK y c e w z⟩
  · obtain ⟨e1, n1, n2, r⟩ := I.pin p hp
    exact ⟨kp _ _ n2 e1, n1, n2, r⟩
  · refine (I.hok b o e).stay (fun b2 u2 hb2 z => kp b2 u2 ?_ z) (fun _ z => z) fun _ _ z => z
    rcases hb2 with rfl | hb2
    · exact neH _ _ e
    · exact neH _ _ hb2
end
end DL
namespace DL
open PySem L2
open PyProof.Rows (AllBare)
section
variable {X : Cx} {pins : List (Addr × Obj)} {σ : St} {H H1 : Hp} {s s1 : Shared}
theorem zdG {a C T : Addr} {h2 : Heap} {xT n y : Str} {i j : Nat} {p4 p5 p6 p7 p8 : Pos} {Qf : Flow -> Shared -> Prop} (I : L2.Inv X pins σ H s) (os : s1.os = s.os) (bare : AllBare s1.gens) (un : Un (frs X.stack) [] H H1 s.heap s1.heap) (hok : HOk X.prog X.w H1 s1.heap)
    (kp : Kp s.heap H1 (frs X.stack) s1.heap h2) (x2 : XAt s.heap H1 h2 a (.ref C)) (hm : PySem.W.exmOne X.K (.ref C) (.ref T) = some true) (hgT : Gl X xT) (hmT : X.mg xT = some (.ref T))
    (hN : X.N.Nodup) (hi : X.N[i]? = some n) (hj : X.N[j]? = some y) (hij : i ≠ j) (hn : X.env.scope.names.lookup n = some .local) (hy : X.env.scope.names.lookup y = some .local)
    (h : ∀ s', L2.Inv X pins ((σ.set j (some (.ref a))).set i none) (upd H1 a (.ext fun h => ∃ ox, PySem.W.InstAt h a ox C none)) s' -> Qf .next s')
    (hnd : (n == ("__debug__" : Str)) = false := by decide) (hncd : (n == ("__classdict__" : Str)) = false := by decide) (hTd : (xT == ("__debug__" : Str)) = false := by decide)
    (hs : swapsWithSole [.Name y p5] (.Name n p6) p7.line X.env = pure false := by rfl) (hw : swappedStores [.Name y p5] (.Name n p6) X.env = pure none := by rfl) :
    wpAny (model X.prog X.w) X.A (handleBy (.ref a) X.env [.ExceptHandler (some (.Name xT p4)) (some n) [.Assign [.Name y p5] (.Name n p6) p7] p8]) Qf X.xe { s1 with heap := h2 } := by
  have I2 : L2.Inv X pins σ H1 { s1 with heap := h2 } := Inv.raised I os bare un hok kp
  refine wpAny_handleBy_cons (codeAny_handlers_test (z91 (X := Cx.mk' X a) (Inv.mk' I2 a) hgT hmT ?_ hTd)) (by intro z; cases z)
  have LT : PySem.W.Looks (model X.prog X.w) h2 (typeOf (.ref a)) (.ref C) := by
    obtain ⟨⟨oe, vs, he, hC, _⟩, _⟩ := x2
    exact hC.1 ▸ (PySem.W.Looks.ld he).andThen .now
  refine (PySem.W.exm_one I2.kIn LT hm).at ?_
  show codeAny _ _ (.handlers (.ref a) [.ExceptHandler none (some n) [.Assign [.Name y p5] (.Name n p6) p7] p8] X.env) _ _
  refine codeAny_handlers_suite_as (zg4 (frames := X.stack) I2.stack x2 fun h3 kp3 x3 => ?_)
  have I3 : L2.Inv X pins σ H1 { s1 with heap := h3 } := Inv.raised I os bare un hok (kp.trans kp3)
  have I4 := Inv.track (s1 := { s1 with heap := h3 }) I3 x3 I
  refine z8y (X := Cx.mk' X a) (v := .ref a) (Inv.mk' I4 a) hN hi (.inl hn) rfl (fun s5 I5 => ?_) (.inr hn)
  have ps : PSs (Cx.mk' X a) [.Assign [.Name y p5] (.Name n p6) p7] _ := zcq (zeM (zgB (X := Cx.mk' X a) (pos := p6) hi (.inl hn) hnd hncd) (z7o (X := Cx.mk' X a) (pos := p5) hN hj (.inl hy) (.inr hy)) hs hw) zee
  refine wpAny_mono (ps pins s5 _ _ { nx := fun σ' H' => σ' = (σ.set i (some (.ref a))).set j (some (.ref a)) /\ H' = upd H1 a (.ext fun h => ∃ ox, PySem.W.InstAt h a ox C none), rt := fun _ _ => False } I5 ?_) (fun fl s6 h6 => ?_) fun _ _ z => z.elim
  · refine ⟨.ref a, ?_, ?_⟩
    · rw [List.getElem?_set_self (by rw [I.len]; exact (List.getElem?_eq_some_iff.mp hi).1)]
    · exact ⟨rfl, rfl⟩
  cases fl with
  | ret u => obtain ⟨_, _, _, _, _, z⟩ := h6; exact z.elim
  | brk => obtain ⟨_, _, _, z⟩ := h6; exact z.elim
  | cont => obtain ⟨_, _, _, z⟩ := h6; exact z.elim
  | next =>
    obtain ⟨σ6, H6, I6, rfl, rfl⟩ := h6
    have I7 := Inv.unmk' I.ok I6
    show wpAny _ X.A (do bindName X.env n .none; unbindBehindTheSuite X.env n p8) _ _ s6
    unfold bindName unbindBehindTheSuite
    refine wpAny_bind (wpAny_bind (wpAny_holding (wpAny_point (wpAny_bind (z8y (v := .non) I7 hN hi (.inl hn) rfl (fun s8 I8 => wpAny_point ?_) (.inr hn))))))
    refine wpAny_onRaise (zeV (v := .non) I8 hN hi hn (List.getElem?_set_self (by rw [I7.len]; exact (List.getElem?_eq_some_iff.mp hi).1)) fun s9 I9 => h s9 ?_)
    refine I9.weak (by simp) fun k v e => ?_
    by_cases hk : k = i
    · subst hk
      have hlt : k < (σ.set j (some (.ref a))).length := by rw [List.length_set, I.len]; exact (List.getElem?_eq_some_iff.mp hi).1
      rw [List.getElem?_set_self hlt] at e; cases e
    · rw [List.getElem?_set_ne (Ne.symm hk)] at e ⊢
      rw [List.getElem?_set_ne (Ne.symm hk)]
      by_cases hkj : k = j
      · subst hkj
        have hlt : k < σ.length := by rw [I.len]; exact (List.getElem?_eq_some_iff.mp hj).1
        rw [List.getElem?_set_self hlt] at e
        rw [List.getElem?_set_self (by rw [List.length_set]; exact hlt)]
        exact e
      · rw [List.getElem?_set_ne (Ne.symm hkj)] at e ⊢
        rw [List.getElem?_set_ne (Ne.symm hk)]
        exact e
end
end DL
namespace DL
open PySem L2
open PyProof.Rows (AllBare)
section
variable {X : Cx} {pins : List (Addr × Obj)} {σ : St} {H H1 : Hp} {s s1 : Shared}
theorem zj8 {T lam : Addr} {Cl : Nat -> Value} {nf xT n y : Str} {i j kf : Nat} {p1 p2 p3 p4 p5 p6 p7 p8 pos : Pos} {D : zds} (I : L2.Inv X pins σ H s) (hex : X.ex = [])
    (hcall : codeAny (model X.prog X.w) X.A (.call (.ref lam) ⟨[], []⟩) (CR (CXr X.prog X.w Cl) X.stack X.prog X.w H s (fun _ H' => D.nx σ H')
      (fun Cv _ H1 => ∃ C, Cv = .ref C /\ PySem.W.exmOne X.K (.ref C) (.ref T) = some true /\ ∀ a, H1 a = none -> D.nx ((σ.set j (some (.ref a))).set i none) (upd H1 a (.ext fun h => ∃ ox, PySem.W.InstAt h a ox C none)))) s)
    (hlam : PySem.W.FnAt lam s.heap) (hkf : X.N[kf]? = some nf) (hvf : σ[kf]? = some (some (.ref lam))) (hvis : Vis X.env.scope nf) (hgT : Gl X xT) (hmT : X.mg xT = some (.ref T)) (hstk : X.stack = X.env :: X.outer) (hfr : X.env.frame = some X.env.locals)
    (hN : X.N.Nodup) (hi : X.N[i]? = some n) (hj : X.N[j]? = some y) (hij : i ≠ j) (hn : X.env.scope.names.lookup n = some .local) (hy : X.env.scope.names.lookup y = some .local)
    (hfd : (nf == ("__debug__" : Str)) = false := by decide) (hfcd : (nf == ("__classdict__" : Str)) = false := by decide)
    (hnd : (n == ("__debug__" : Str)) = false := by decide) (hncd : (n == ("__classdict__" : Str)) = false := by decide) (hTd : (xT == ("__debug__" : Str)) = false := by decide)
    (hs0 : swapsWith (.Call (.Name nf p1) [] [] p2) none p3.line X.env = pure false := by rfl)
    (hs : swapsWithSole [.Name y p5] (.Name n p6) p7.line X.env = pure false := by rfl) (hw : swappedStores [.Name y p5] (.Name n p6) X.env = pure none := by rfl) :
    wpAny (model X.prog X.w) X.A (exec (.Try [.Expr (.Call (.Name nf p1) [] [] p2) p3] [.ExceptHandler (some (.Name xT p4)) (some n) [.Assign [.Name y p5] (.Name n p6) p7] p8] [] [] pos) X.env) (SP X pins D) X.xe s := by
  have load : ∀ (Q : Value -> Shared -> Prop) (E : Value -> Shared -> Prop), Q (.ref lam) s -> wpAny (model X.prog X.w) X.A (eval (.Name nf p1) X.env) Q E s := fun Q E fin => by
    obtain ⟨m, hn', hl⟩ := I.loc
    obtain ⟨u, r, l⟩ := hl kf nf _ hkf hvf hvis
    cases r
    rcases l with ⟨hk, hm⟩ | ⟨hk, c, hc, hcell⟩
    · exact wpAny_Name (wpAny_loadName_local I.ok.kind hk hn' hm fin) hfd
    · rcases hk with hk | hk
      · exact wpAny_Name (wpAny_loadName_cell I.ok.kind hk hc hcell fin) hfd
      · exact wpAny_Name (wpAny_loadName_free I.ok.kind hk hc hcell fin hfcd) hfd
  refine wpAny_Try_except (wpAny_execs_cons (wpAny_Expr_any ?_ I.quiet hs0))
  refine wpAny_Call_Name_kw (load _ _ (PySem.W.callWith_F0 hlam (wpAny_call (codeAny_mono hcall fun r s1 hq => ?_))))
  cases r with
  | ok fl =>
    cases fl with
    | next => exact False.elim hq
    | brk => exact False.elim hq
    | cont => exact False.elim hq
    | ret u =>
      obtain ⟨v, H', J, _, q⟩ := I.after hq
      exact wpAny_execs_nil (wpAny_execs_nil ⟨σ, H', J, q⟩)
  | error e =>
    obtain ⟨a, c, H1, rfl, os, bare, un, hok, x, C, hC, hm, q⟩ := hq
    have I1 : L2.Inv X pins σ H1 s1 := I.call' (ch := []) os un hok bare (fun b z => absurd z (by simp))
    rw [hC] at x
    refine zeW (h0 := s.heap) (by rw [<- hstk]; exact I.ok.frames) (by rw [<- hstk]; exact I1.stack) hfr x (fun b hb => hok.fresh hb) ?_ fun h2 kp x2 => ?_
    · intro b hb
      cases z : s.heap.get? b with
      | none => rfl
      | some o =>
        obtain ⟨o', e'⟩ := un.there b o z (by simp)
        exact absurd (Heap.lt_size e') (Nat.not_lt.mpr hb)
    · rw [<- hstk] at kp
      exact zdG I os bare un hok kp x2 hm hgT hmT hN hi hj hij hn hy (fun s' J => ⟨_, _, J, q a x.free⟩) hnd hncd hTd hs hw
end
end DL
namespace DL
open PySem L2
open PyProof.Rows (AllBare)
section
variable {X : Cx} {pins : List (Addr × Obj)} {σ : St} {H : Hp} {s : Shared}
theorem zbb {Y : Cx} {σ1 : St} {H : Hp} {s1 : Shared} {Cl : Nat -> Value} {lam T : Addr} {nf n y xT : Str} {z6F : List Stmt} {i j : Nat} {Q : VK} {W : St -> Hp -> Prop} {t : TS} {p0 p1 p2 p3 p4 p5 p6 p7 p8 pq pc pos : Pos} {kc : _}
    (I1 : L2.Inv Y [] σ1 H s1) (hex : Y.ex = []) (hstk : Y.stack = Y.env :: Y.outer) (hfr : Y.env.frame = some Y.env.locals) (hlam : PySem.W.FnAt lam Y.s₀.heap) (hfree : Y.H₀ lam = none) (hnf : lam ∉ Y.fs) (hk0 : Y.N[0]? = some nf) (hv0 : σ1[0]? = some (some (.ref lam)))
    (hN : Y.N.Nodup) (hi : Y.N[i]? = some n) (hj : Y.N[j]? = some y) (hij : i ≠ j) (hj0 : j ≠ 0) (hn : Y.env.scope.names.lookup n = some .local) (hy : Y.env.scope.names.lookup y = some .local) (hvf : Vis Y.env.scope nf) (hgT : Gl Y xT) (hmT : Y.mg xT = some (.ref T))
    (hcall : ∀ s2 : Shared, L2.Inv Y [] (σ1.set j (some .non)) H s2 -> codeAny (model Y.prog Y.w) Y.A (.call (.ref lam) ⟨[], []⟩) (CR (CXr Y.prog Y.w Cl) Y.stack Y.prog Y.w H s2 (fun _ H' => W (σ1.set j (some .non)) H')
        (fun Cv _ H1 => ∃ C, Cv = .ref C /\ PySem.W.exmOne Y.K (.ref C) (.ref T) = some true /\ ∀ a, H1 a = none -> W (((σ1.set j (some .non)).set j (some (.ref a))).set i none) (upd H1 a (.ext fun h => ∃ ox, PySem.W.InstAt h a ox C none)))) s2)
    (hrest : PSs Y z6F t) (hW : ∀ σ' H', W σ' H' -> t { nx := fun _ H' => Q .non H', rt := Q } σ' H')
    (hfd : (nf == ("__debug__" : Str)) = false := by decide) (hfcd : (nf == ("__classdict__" : Str)) = false := by decide)
    (hnd : (n == ("__debug__" : Str)) = false := by decide) (hncd : (n == ("__classdict__" : Str)) = false := by decide) (hTd : (xT == ("__debug__" : Str)) = false := by decide)
    (hs0 : swapsWith (.Call (.Name nf p1) [] [] p2) none p3.line Y.env = pure false := by rfl)
    (hsA : swapsWith (.Constant .none kc pc) (some (.Name y pq)) p0.line Y.env = pure false := by rfl)
    (hs : swapsWithSole [.Name y p5] (.Name n p6) p7.line Y.env = pure false := by rfl) (hw : swappedStores [.Name y p5] (.Name n p6) Y.env = pure none := by rfl) :
    wpAny (model Y.prog Y.w) Y.A (execs (.Assign [.Name y pq] (.Constant .none kc pc) p0 :: .Try [.Expr (.Call (.Name nf p1) [] [] p2) p3] [.ExceptHandler (some (.Name xT p4)) (some n) [.Assign [.Name y p5] (.Name n p6) p7] p8] [] [] pos :: z6F) Y.env) (SP Y [] { nx := fun _ H' => Q .non H', rt := Q }) Y.xe s1 := by
  refine wpAny_execs_cons ?_
  refine thn (zgy (X := Y) (pos' := pq) (pos := p0) hN hj (.inl hy) (zgQ (j := kc) (pos := pc)) hsA (.inr hy) [] s1 σ1 H { nx := fun σ' H' => σ' = σ1.set j (some .non) /\ H' = H, rt := fun _ _ => False } I1 ⟨rfl, rfl⟩) fun fl s2 h2 => ?_
  cases fl with
  | ret u => obtain ⟨_, _, _, _, _, z⟩ := h2; exact z.elim
  | brk => obtain ⟨_, _, _, z⟩ := h2; exact z.elim
  | cont => obtain ⟨_, _, _, z⟩ := h2; exact z.elim
  | next =>
  obtain ⟨σ2, H2, I2, rfl, rfl⟩ := h2
  have hlam2 : PySem.W.FnAt lam s2.heap := by
    obtain ⟨a1, a2, a3, a4, e⟩ := hlam
    exact ⟨a1, a2, a3, a4, I2.base.keep lam _ e hfree hnf (by rw [hex]; simp)⟩
  refine wpAny_execs_cons (thn (zj8 (D := { nx := W, rt := fun _ _ => False }) I2 hex (hcall s2 I2) hlam2 hk0 (by rw [List.getElem?_set_ne hj0]; exact hv0) hvf hgT hmT hstk hfr hN hi hj hij hn hy hfd hfcd hnd hncd hTd hs0 hs hw) fun fl s3 h3 => ?_)
  cases fl with
  | ret u => obtain ⟨_, _, _, _, _, z⟩ := h3; exact z.elim
  | brk => obtain ⟨_, _, _, z⟩ := h3; exact z.elim
  | cont => obtain ⟨_, _, _, z⟩ := h3; exact z.elim
  | next =>
    obtain ⟨σ3, H3, I3, w3⟩ := h3
    exact hrest [] s3 σ3 H3 _ I3 (hW σ3 H3 w3)
end
end DL
namespace DL
open PySem L2
open PyProof.Rows (AllBare)
section
variable {X : Cx} {pins : List (Addr × Obj)} {σ : St} {H : Hp} {s : Shared}
theorem zbX {Cl : Nat -> Value} {k : Nat} {f lam T : Addr} {name qual nf n y xT : Str} {params : Arguments} {z6F : List Stmt} {scope : Scope} {dV kV doc pm cdv ct oc : Value} {an od : Option Addr} {osl : Array (Option Value)} {N : List Str} {i j : Nat} {Q : VK} {W : St -> Hp -> Prop} {p0 p1 p2 p3 p4 p5 p6 p7 p8 pq pc pos : Pos} {kc : _}
    (I : L2.Inv X pins σ H s) (hr : Room (k + 1) X.A)
    (lk : X.K.lookup f = some ⟨oc, od, .func (PySem.W.fnOf name qual params (.Assign [.Name y pq] (.Constant .none kc pc) p0 :: .Try [.Expr (.Call (.Name nf p1) [] [] p2) p3] [.ExceptHandler (some (.Name xT p4)) (some n) [.Assign [.Name y p5] (.Name n p6) p7] p8] [] [] pos :: z6F) scope dV kV doc pm an cdv ct), osl⟩)
    (hcd : PySem.W.codeIn X.K cdv qual = true) (S : z4X N [nf] scope)
    (hb : BindsTo s (PySem.W.fnOf name qual params (.Assign [.Name y pq] (.Constant .none kc pc) p0 :: .Try [.Expr (.Call (.Name nf p1) [] [] p2) p3] [.ExceptHandler (some (.Name xT p4)) (some n) [.Assign [.Name y p5] (.Name n p6) p7] p8] [] [] pos :: z6F) scope dV kV doc pm an cdv ct) ⟨[.ref lam], []⟩ ([nf].zip [.ref lam]))
    (hlam : PySem.W.FnAt lam s.heap) (hfree : H lam = none) (hnf : lam ∉ frs X.stack) (hN : N.Nodup) (hk0 : N[0]? = some nf) (hi : N[i]? = some n) (hj : N[j]? = some y) (hij : i ≠ j) (hj0 : j ≠ 0) (hn : scope.names.lookup n = some .local) (hy : scope.names.lookup y = some .local) (hvf : Vis scope nf)
    (hgT : scope.names.lookup xT = some .globalImplicit) (hmT : X.mg xT = some (.ref T))
    (hcall : ∀ s2 : Shared, Room k (X.A.deeper (PyProof.Rows.envOfC qual scope s.heap.objs.size f cdv)) -> zh2 X.prog X.w X.K X.mg X.base (X.A.deeper (PyProof.Rows.envOfC qual scope s.heap.objs.size f cdv)) (PyProof.Rows.envOfC qual scope s.heap.objs.size f cdv :: X.stack) s2 H -> Un (frs X.stack) [] H H s.heap s2.heap ->
      codeAny (model X.prog X.w) (X.A.deeper (PyProof.Rows.envOfC qual scope s.heap.objs.size f cdv)) (.call (.ref lam) ⟨[], []⟩) (CR (CXr X.prog X.w Cl) (PyProof.Rows.envOfC qual scope s.heap.objs.size f cdv :: X.stack) X.prog X.w H s2 (fun _ H' => W ((L2.start N [.ref lam]).set j (some .non)) H')
        (fun Cv _ H1 => ∃ C, Cv = .ref C /\ PySem.W.exmOne X.K (.ref C) (.ref T) = some true /\ ∀ a, H1 a = none -> W ((((L2.start N [.ref lam]).set j (some .non)).set j (some (.ref a))).set i none) (upd H1 a (.ext fun h => ∃ ox, PySem.W.InstAt h a ox C none)))) s2)
    (hrest : Room k (X.A.deeper (PyProof.Rows.envOfC qual scope s.heap.objs.size f cdv)) -> ∃ t, PSs (cxX Cl X.prog X.w X.K X.mg X.base N qual scope f cdv X.A X.stack s H E0) z6F t /\ ∀ σ' H', W σ' H' -> t { nx := fun _ H' => Q .non H', rt := Q } σ' H')
    (hfd : (nf == ("__debug__" : Str)) = false := by decide) (hfcd : (nf == ("__classdict__" : Str)) = false := by decide)
    (hnd : (n == ("__debug__" : Str)) = false := by decide) (hncd : (n == ("__classdict__" : Str)) = false := by decide) (hTd : (xT == ("__debug__" : Str)) = false := by decide)
    (hs0 : ∀ env : Env, swapsWith (.Call (.Name nf p1) [] [] p2) none p3.line env = pure false := by intro _; rfl)
    (hsA : ∀ env : Env, swapsWith (.Constant .none kc pc) (some (.Name y pq)) p0.line env = pure false := by intro _; rfl)
    (hs : ∀ env : Env, swapsWithSole [.Name y p5] (.Name n p6) p7.line env = pure false := by intro _; rfl) (hw : ∀ env : Env, swappedStores [.Name y p5] (.Name n p6) env = pure none := by intro _; rfl) :
    wpAny (model X.prog X.w) X.A (call (.ref f) [.ref lam]) (EP X pins σ Q) X.xe s := by
  have e0 := I.env0
  have KX := I.kIn
  have hkind : ∀ z ∈ [nf].zip [Value.ref lam], scope.names.lookup z.1 = some .local \/ (scope.names.lookup z.1 = some .cell /\ ((cellsFrom (s.heap.objs.size + 1) scope.names []).lookup z.1).isSome = true) := fun ⟨m, v⟩ hz => by
    rcases S.par m (List.of_mem_zip hz).1 with q | q
    · exact .inl q
    · exact .inr ⟨q, PySem.W.cellsFrom_some _ _ _ (.inl q)⟩
  refine wpAny_call (codeAny_mono (?_ : codeAny (model X.prog X.w) X.A (.call (.ref f) ⟨[.ref lam], []⟩) (CR (CXr X.prog X.w Cl) X.stack X.prog X.w H s Q E0) s) fun r s' hq => ?_)
  · refine codeAny_call_function hr.depth (KX _ _ lk) rfl S.co S.gen rfl (PySem.W.codeRec_of KX hcd) (hb _ _ _ _ ?_)
    refine wpAny_newFunctionEnv_cells S.kind hkind fun env he s1 x => ?_
    subst he
    refine ⟨I.nolimit.keeps x.toInCall.keep, codeAny_func ?_⟩
    have I1 : L2.Inv (cxX Cl X.prog X.w X.K X.mg X.base N qual scope f cdv X.A X.stack s H E0) [] (L2.start N [.ref lam]) H s1 := zaZ S hr.hd e0 rfl (.cons rfl .nil) x
    obtain ⟨t, ht, hW⟩ := hrest (hr.deeper _)
    refine wpAny_mono (zbb (Y := cxX Cl X.prog X.w X.K X.mg X.base N qual scope f cdv X.A X.stack s H E0) (Cl := Cl) (T := T) (W := W) (Q := Q) I1 rfl rfl rfl hlam hfree hnf hk0 (by rfl) hN hi hj hij hj0 hn hy hvf hgT hmT (fun s2 I2 => hcall s2 (hr.deeper _) I2.env0 I2.base) ht hW hfd hfcd hnd hncd hTd (hs0 _) (hsA _) (hs _) (hw _)) (fun fl s' hs => ?_) fun e s' hs => hs
    have fin : ∀ {σ' : St} {H' : Hp} {v : V} {u : Value}, L2.Inv (cxX Cl X.prog X.w X.K X.mg X.base N qual scope f cdv X.A X.stack s H E0) [] σ' H' s' -> RelV v u -> Q v H' -> CE X.stack X.prog X.w H s Q u s' :=
      fun {σ' H' v u} J rv q => ⟨v, H', J.os, J.bare, J.base, J.hok, rv, q⟩
    cases fl with
    | ret u =>
      obtain ⟨v, σ', H', J, rv, q⟩ := hs
      exact fin J rv q
    | next =>
      obtain ⟨σ', H', J, q⟩ := hs
      exact fin (v := V.non) (u := Value.none) J rfl q
    | brk =>
      obtain ⟨_, _, _, q⟩ := hs
      exact False.elim q
    | cont =>
      obtain ⟨_, _, _, q⟩ := hs
      exact False.elim q
  · cases r with
    | error e => exact zcx pins σ H s e s' I hq
    | ok fl =>
      cases fl with
      | ret u => exact I.after hq
      | next => exact False.elim hq
      | brk => exact False.elim hq
      | cont => exact False.elim hq
end
end DL
namespace DL
open PySem L2
open PyProof.Rows (AllBare)
section
variable {X : Cx} {pins : List (Addr × Obj)} {σ : St} {H : Hp} {s s2 : Shared}
theorem zdU {h h' : Heap} {c : Addr} {v : Option Value} {fs : List Addr} (un : Un fs [] H H h h') (z : h.IsCell c v) (n : H c = none) : h'.IsCell c v := by
  obtain ⟨o, ho, hd⟩ := z
  obtain ⟨sl, e⟩ := un.any ho n (by simp)
  exact ⟨_, e, hd⟩
theorem zcY {clos : List (Str × Addr)} (I : L2.Inv X pins σ H s) (un : Un (frs X.stack) [] H H s.heap s2.heap) (hcl : ∀ x c, clos.lookup x = some c -> X.env.cells.lookup x = some c) : ∀ x c, clos.lookup x = some c -> (∃ v, s2.heap.IsCell c v) /\ H c = none := fun x c e => by
  obtain ⟨v, z⟩ := I.cell x c (hcl x c e)
  exact ⟨⟨v, zdU un z (I.freeC x c (hcl x c e))⟩, I.freeC x c (hcl x c e)⟩
theorem zg1 {clos : List (Str × Addr)} (I : L2.Inv X pins σ H s) (hcl : ∀ x c, clos.lookup x = some c -> X.env.cells.lookup x = some c) : ∀ x y c, clos.lookup x = some c -> clos.lookup y = some c -> x = y := fun x y c e1 e2 => I.ok.inj x y c (hcl x c e1) (hcl y c e2)
theorem zeO {clos : List (Str × Addr)} {scope : Scope} (I : L2.Inv X pins σ H s) (un : Un (frs X.stack) [] H H s.heap s2.heap) (hcl : ∀ x c, clos.lookup x = some c -> X.env.cells.lookup x = some c) (has : ∀ x, scope.names.lookup x = some .free -> ∃ c, clos.lookup x = some c)
    (hfv : ∀ x, scope.names.lookup x = some .free -> X.env.scope.names.lookup x = some .cell \/ X.env.scope.names.lookup x = some .free) :
    ∀ (i : Nat) x v, X.N[i]? = some x -> σ[i]? = some (some v) -> scope.names.lookup x = some .free -> ∃ u c, RelV v u /\ clos.lookup x = some c /\ s2.heap.IsCell c (some u) := fun i x v e1 e2 e3 => by
  obtain ⟨m, hn, hl⟩ := I.loc
  obtain ⟨u, r, l⟩ := hl i x v e1 e2 (.inr (hfv x e3))
  obtain ⟨c, hc⟩ := has x e3
  refine ⟨u, c, r, hc, ?_⟩
  rcases l with ⟨z, _⟩ | ⟨_, c', g1, g2⟩
  · have z' : X.env.scope.names.lookup x = some .local := z
    rcases hfv x e3 with q | q <;> (rw [z'] at q; cases q)
  · have := hcl x c hc
    rw [g1] at this; cases this
    exact zdU un g2 (I.freeC x _ g1)
end
end DL
namespace DL
open PySem L2
open PyProof.Rows (AllBare)
structure zag (out sc : Scope) : Prop where
  kind : sc.kind = .function
  co : sc.isCoroutine = false
  gen : sc.isGenerator = false
  nd : (sc.names.map (·.1)).Nodup
  cell : ∀ x ∈ sc.names, x.2 ≠ .cell
  loc : ∀ x ∈ sc.names, x.2 ≠ .local
  frees : ∀ y ∈ sc.names, y.2 = .free -> out.names.lookup y.1 = some .cell \/ out.names.lookup y.1 = some .free
def zkJ (r : RS) : R D := match r with
  | .nx _ O => .ok .non O
  | .rt d O => .ok d O
  | _ => .bad
def zit (Ca : Nat -> Nat) (n j : Nat) (tR : DS) (r : R D) : R D := match r with
  | .ok _ O => zkJ (tR ((List.replicate n none).set j (some .non)) O)
  | .exc c O => zkJ (tR ((List.replicate n none).set j (some (.exn (Ca c)))) O)
  | .bad => .bad
def z5r (Pt iT : Nat) (Ca : Nat -> Nat) (n j : Nat) (tE : DE) (tR : DS) : DE := fun σ O => match σ[iT]? with
  | some (some (.tab p)) => if p = Pt then zit Ca n j tR (tE σ O) else .bad
  | _ => .bad
theorem zaM {K : PySem.W.Frag} {H : Hp} {hid μ : List Addr} {n j : Nat} {d : D} {v : V} {σv : St} (hl : σv.length = n) (hv : σv[j]? = some (some v)) (q : Dat K H hid μ d v) : EnvOk K H hid μ ((List.replicate n none).set j (some d)) σv := by
  refine ⟨by simp [hl], fun i x e => ?_⟩
  by_cases hi : j = i
  · subst hi
    have hj : j < n := by have := (List.getElem?_eq_some_iff.mp hv).1; omega
    rw [List.getElem?_set_self (by simpa using hj)] at e
    cases e
    exact ⟨v, hv, q⟩
  · rw [List.getElem?_set_ne hi] at e
    rw [List.getElem?_replicate] at e
    split at e <;> cases e
theorem zb6 {Ex : Nat -> Hp -> Prop} {E' : Nat -> Hp -> Prop} {K : PySem.W.Frag} {H : Hp} {hid μ : List Addr} {Q : VK} {r : RS} (q : z5L Ex K H hid μ (zkJ r) Q) : postS E' K H hid μ r { nx := fun _ H' => Q .non H', rt := Q } := by
  cases r with
  | nx σ O' => exact fun σv H' μ' x e c' => q .non H' μ' x c' z8Y
  | rt d' O' => exact fun v H' μ' x c' r => q v H' μ' x c' r
  | bk σ O' => exact False.elim q
  | ct σ O' => exact False.elim q
  | exc c' O' => exact False.elim q
  | bad => exact False.elim q
theorem z7X {N : List Str} {a : V} (h : 0 < N.length) : (L2.start N [a]).length = N.length := by
  unfold L2.start; simp; omega
section
variable {X : Cx} {Ex : Nat -> Hp -> Prop} {Cl : Nat -> Value} {Ca : Nat -> Nat}
theorem zcZ {k iT i j : Nat} {Pt c : Addr} {T : Addr} {x nf n y xT : Str} {st : Stmt} {N : List Str} {z6F : List Stmt} {tR : DS} {tE : DE} {params : Arguments} {body : Expr} {scope : Scope} {p0 p1 p2 p3 p4 p5 p6 p7 p8 pq pc pos pn pl pp : Pos} {kc : _}
    (h : z61 X.K X.mg x st) (hr : Room (k + 2) X.A)
    (hbd : z4V st = .Assign [.Name y pq] (.Constant .none kc pc) p0 :: .Try [.Expr (.Call (.Name nf p1) [] [] p2) p3] [.ExceptHandler (some (.Name xT p4)) (some n) [.Assign [.Name y p5] (.Name n p6) p7] p8] [] [] pos :: z6F)
    (S : z4X N [nf] (z4E st)) (hN : N.Nodup) (hk0 : N[0]? = some nf) (hi : N[i]? = some n) (hj : N[j]? = some y) (hij : i ≠ j) (hj0 : j ≠ 0) (hn : (z4E st).names.lookup n = some .local) (hy : (z4E st).names.lookup y = some .local) (hvf : Vis (z4E st) nf)
    (hb : ∀ (kV doc pm : Value) (an : Option Addr) (cdv ct : Value) (us : List Value), us.length = 1 -> bindArgs (PySem.W.fnOf x x (z50 st) (z4V st) (z4E st) .none kV doc pm an cdv ct) ⟨us, []⟩ = pure ([nf].zip us))
    (hgT : (z4E st).names.lookup xT = some .globalImplicit) (hmT : X.mg xT = some (.ref T)) (hcls : ∀ c, Cl c = .ref (Ca c) /\ XcK X.K (Ca c) /\ PySem.W.exmOne X.K (.ref (Ca c)) (.ref T) = some true)
    (hrest : ∀ (f : Addr) (cdv : Value) (s : Shared) (H : Hp), Room (k + 1) (X.A.deeper (PyProof.Rows.envOfC x (z4E st) s.heap.objs.size f cdv)) -> zcK (cxX Cl X.prog X.w X.K X.mg X.base N x (z4E st) f cdv X.A X.stack s H E0) (Xk Cl E0) z6F tR)
    (L : z9U X.mg X.base c Pt) (hcode : X.env.code = .ref c) (LS : zag X.env.scope scope) (hdef : defaultsOf params X.env = ([], []))
    (hbl : ∀ (name qual : Str) (cl : List (Str × Addr)) (pm cd ct : Value), bindArgs (PySem.W.kla_fn name qual params body scope cl pm cd ct) ⟨[], []⟩ = pure [])
    (hE : ∀ (q : Str) (lam : Addr) (cd : Value) (cl : List (Str × Addr)) (A : Around) (outer : List Env) (s : Shared) (H : Hp) (E : XK), Room k (A.deeper (zdq q scope s.heap.objs.size lam cd cl)) -> PD (cxL (CXr X.prog X.w Cl) X.prog X.w X.K X.mg X.base X.N (zdq q scope s.heap.objs.size lam cd cl) A outer s H E) (Xk Cl E) body tE)
    (hg : Gl X x)
    (hdb : (x == ("__debug__" : Str)) = false := by decide)
    (hfd : (nf == ("__debug__" : Str)) = false := by decide) (hfcd : (nf == ("__classdict__" : Str)) = false := by decide)
    (hnd : (n == ("__debug__" : Str)) = false := by decide) (hncd : (n == ("__classdict__" : Str)) = false := by decide) (hTd : (xT == ("__debug__" : Str)) = false := by decide)
    (hs0 : ∀ env : Env, swapsWith (.Call (.Name nf p1) [] [] p2) none p3.line env = pure false := by intro _; rfl)
    (hsA : ∀ env : Env, swapsWith (.Constant .none kc pc) (some (.Name y pq)) p0.line env = pure false := by intro _; rfl)
    (hs : ∀ env : Env, swapsWithSole [.Name y p5] (.Name n p6) p7.line env = pure false := by intro _; rfl) (hw : ∀ env : Env, swappedStores [.Name y p5] (.Name n p6) env = pure none := by intro _; rfl) :
    PD X Ex (.Call (.Name x pn) [.Lambda params body scope pl] [] pp) (z5r Pt iT Ca N.length j tE tR) := by
  refine ⟨?_⟩
  rintro pins s σv H Q I ⟨hid, μ, σ, O, e1, c1, q⟩
  obtain ⟨f, fd, hm, F⟩ := h
  have hNl : 0 < N.length := (List.getElem?_eq_some_iff.mp hk0).1
  have hjl : j < N.length := (List.getElem?_eq_some_iff.mp hj).1
  have hil : i < N.length := (List.getElem?_eq_some_iff.mp hi).1
  -- the table
  obtain ⟨ti, q⟩ : Tidy H Pt /\ z5L Ex X.K H hid μ (zit Ca N.length j tR (tE σ O)) Q := by
    unfold z5r at q
    split at q
    · rename_i p hp
      by_cases hpp : p = Pt
      · rw [if_pos hpp] at q
        obtain ⟨v, _, d⟩ := e1.at_ iT _ hp
        unfold Dat at d
        rw [hpp] at d
        exact ⟨d.2, q⟩
      · rw [if_neg hpp] at q; exact False.elim q
    · exact False.elim q
  have hfree : ∀ y ∈ scope.names, y.2 = .free -> ∃ c, X.env.cells.lookup y.1 = some c := fun y hy hf => I.ok.has y.1 (LS.frees y hy hf)
  have hcl : ∀ x c, (z5t X.env.cells scope.names []).lookup x = some c -> X.env.cells.lookup x = some c := fun x c e => by
    rcases z7f _ _ (PySem.mem_of_lookup e) with m | ⟨m, z⟩
    · cases m
    · obtain ⟨c', hc'⟩ := hfree (x, .free) m rfl
      have hc2 : X.env.cells.lookup x = some c' := hc'
      rw [hc2] at z ⊢; rw [z]; rfl
  have hasF : ∀ x, scope.names.lookup x = some .free -> ∃ c, (z5t X.env.cells scope.names []).lookup x = some c := fun x e => by
    have m := z7d (cells := X.env.cells) scope.names [] (PySem.mem_of_lookup e)
    exact ⟨_, z5M (z6L _ _ LS.nd (by simp) (by intro p hp; cases hp)) m⟩
  have hfv : ∀ x, scope.names.lookup x = some .free -> X.env.scope.names.lookup x = some .cell \/ X.env.scope.names.lookup x = some .free := fun x e => LS.frees (x, .free) (PySem.mem_of_lookup e) rfl
  have hvis : ∀ x, Vis scope x -> scope.names.lookup x = some .free := fun x hx => by
    rcases hx with z | z | z
    · exact absurd rfl (LS.loc _ (PySem.mem_of_lookup z))
    · exact absurd rfl (LS.cell _ (PySem.mem_of_lookup z))
    · exact z
  refine wpAny_Call_Name_kw (z91 I hg hm ?_ hdb)
  refine PySem.W.callWith_K (h₀ := X.base) I.ok.mod.kin F.kp ?_ (by rfl) (by rfl)
  show wpAny _ _ (spliced ((false, eval (.Lambda params body scope pl) X.env) :: backTo pp (starEach [] X.env))) _ _ s
  refine Calls.spliced_cons (zjI I L hcode ti (z7J hfree) hdef fun lam cd ctv h' tk H' I1 ext cells hlN hge hget hrec => ?_)
  refine Calls.spliced_nil ⟨I1.kIn, ?_⟩
  obtain ⟨oc, od, kV, doc, pm, an, cdv, ct, osl, rfl, lk, hcd⟩ := F.ex
  have hbb : BindsTo { s with heap := h', toks := tk } (PySem.W.fnOf x x (z50 st) (z4V st) (z4E st) .none kV doc pm an cdv ct) ⟨[.ref lam], []⟩ ([nf].zip [.ref lam]) := .of_eq (hb kV doc pm an cdv ct [.ref lam] rfl)
  rw [hbd] at lk hbb
  have hnfr : lam ∉ frs X.stack := by
    intro hb
    obtain ⟨_, o, ho, _⟩ := I.stack.mem hb
    exact absurd (Heap.lt_size ho) (Nat.not_lt.mpr hge)
  obtain ⟨cc, φ, rfl, hcc, hφ⟩ := hrec
  have e2 := e1.ext (ext μ)
  have c2 := cells hid μ O c1
  have q2 := post.ext q (ext μ)
  refine zbX (k := k + 1) (Q := Q) (W := rds (Xk Cl E0) X.K tR { nx := fun _ H' => Q .non H', rt := Q }) (i := i) (j := j) (T := T) (Cl := Cl) I1 hr lk hcd S hbb ⟨_, _, _, _, hget⟩ hlN hnfr hN hk0 hi hj hij hj0 hn hy hvf hgT hmT ?_ ?_ hfd hfcd hnd hncd hTd hs0 hsA hs hw
  · intro s2 hr2 e0 un
    obtain ⟨qq, hqq⟩ := hφ _ (e0.hok cc _ hcc).1
    refine zky (k := k) (t := tE) (hid := hid) (μ := μ) (σd := σ) (O := O) hr2 e0 (un.keep lam _ hget hlN hnfr (by simp)) hqq LS.co LS.gen LS.kind LS.cell (hbl _ _ _ _ _ _) hvis (zcY I1 un hcl) (zg1 I1 hcl) hasF (zeO I1 un hcl hasF hfv) I1.len (hE _ _ _ _ _ _ _ _ _) e2 c2 ?_
    · cases hr : tE σ O with
      | bad => rw [hr] at q2; exact False.elim q2
      | ok d O' =>
        rw [hr] at q2
        intro v H3 μ3 x3 c3 d3
        refine ⟨hid, μ3, _, O', zaM (by rw [List.length_set, z7X hNl]) ?_ z8Y, c3, zb6 (post.ext q2 x3)⟩
        rw [List.getElem?_set_self (by rw [z7X hNl]; exact hjl)]
      | exc cc O' =>
        rw [hr] at q2
        intro H3 μ3 x3 c3
        obtain ⟨h1, h2, h3⟩ := hcls cc
        refine ⟨Ca cc, h1, h3, fun a ha => ⟨hid, μ3, _, O', zaM (v := .ref a) (d := .exn (Ca cc)) (by simp [z7X hNl]) ?_ ?_, c3.laid ha, zb6 (post.ext q2 (x3.trans (.laid ha)))⟩⟩
        · rw [List.getElem?_set_ne hij, List.getElem?_set_self (by simp [z7X hNl]; exact hjl)]
        · unfold Dat
          exact ⟨a, _, rfl, ⟨h2, fun h z => z⟩, .inl z54, c3.not_in ha⟩
  · intro hr2
    exact ⟨_, (hrest f cdv _ H' hr2).out, fun σ' H' z => z⟩
end
end DL
namespace DL
open PySem L2
open PyProof.Rows (AllBare)
theorem ziE {K : PySem.W.Frag} {Ec : XK -> Nat -> Hp -> Prop} {Pt : Addr} {F : List D -> Ow -> R D} {H : Hp} {a : Addr} {ns : List Int} (h : ∃ O, F [.lst (ns.map .int)] [] = .ok (.bl true) O) (hT : H Pt = some (.tbl #[])) (sq : SqL K H a (ns.map V.int)) : zhN K Ec 1 Pt F [.ref a] H (fun v _ => v = .bl true) fun _ _ _ => False := by
  obtain ⟨O, h⟩ := h
  have dn : ∀ (l : List Int), Dats K H [] [] (l.map D.int) (l.map V.int) := fun l => by
    induction l with
    | nil => exact .nil
    | cons x r ih => exact .cons z5v ih
  refine ⟨rfl, [], [], [.lst (ns.map .int)], [], .cons ?_ .nil, ⟨rfl, by simp, by simp, by simp, fun k a e => by simp at e⟩, Tidy.empty hT, ?_⟩
  · unfold Dat
    exact ⟨a, _, rfl, sq.imp (fun z => ⟨z, by simp, by simp⟩) id, dn ns⟩
  · rw [h]
    intro v H' μ' _ _ r
    unfold Dat at r
    exact r
theorem walkT {l : PySem.W.OpenLaw} {q : Program} {loose : List Str} {XP : (Str -> Option Value) -> Heap -> Prop} {YP : World -> Heap -> Prop} {d : DefRec} {K : Params -> PySem.W.Frag} {Cl : Nat -> Value} {k : Nat} {x : Str} {F : Nat -> List D -> Ow -> R D} (hn : l.most = some 63) (hdf : d.params.defaults = []) (hr : Room k callerA)
    (hY : ∀ (w : World) (h : Heap), YP w h -> (K w.params).In h) (hrec : (PyProof.Rows.recsOf q).find? (fun e => e.name == d.name) = some d)
    (hF : ∀ (w : World) (mg : Str -> Option Value) (fa : Addr) (h : Heap), (K w.params).In h -> h.Ns mainGlobals mg -> mg d.name = some (.ref fa) ->
      PySem.W.noTabs (K w.params) = true /\ ∃ (c Pt : Addr), PySem.W.tabIn (K w.params) d.name = some (c, Pt) /\ ∃ fd : FuncData, (∀ (s : Shared) (u : Value), BindsTo s fd ⟨[u], []⟩ [(x, u)]) /\ ∀ base : Heap, (K w.params).In base -> base.Ns mainGlobals mg -> z9U mg base c Pt -> FnOk l.prog w (K w.params) mg base (CXr l.prog w Cl) k fa fd [x] (zhN (K w.params) (Xk Cl) 1 Pt (F Pt)))
    (pure_ : ∀ (Pt : Nat) (ns : List Int), ns.length <= 63 -> ∃ O, F Pt [.lst (ns.map .int)] [] = .ok (.bl true) O) :
    PySem.W.WalkO q loose XP YP l.row.toRowW d [] (fun f vs => PySem.call f vs) := by
  refine Att.attach_call hn hdf fun w s₀ s₁ mg mb fa o pm cd doc a vs ns G Y ho hd hcd hmg hobj hints hlen hg => ?_
  have KX := hY w _ Y
  obtain ⟨hK, c, Pt, ht, fd, hb, hF⟩ := hF w mg fa _ KX G.T.g hmg
  obtain ⟨hC, hP⟩ := PySem.W.tab_of G.T KX hrec ht
  have hB : s₁.heap.BuiltinsAt mg Pt := by
    obtain ⟨bm, ob, b1, b2, b3, b4, b5, b6⟩ := G.T.bmain
    refine ⟨bm, ob, b1, b2, fun q => ?_, fun q => ?_, b3, b4, b5, b6⟩
    · obtain ⟨o, es, ep, e, hd, _⟩ := G.T.g
      rw [q, e] at b3; cases b3; rw [hd] at b6; cases b6
    · rw [q, hP] at b3; cases b3; cases b4
  exact zeP KX G.T.g G.T.b G.T.builtins G.T.nolimit hg hobj hints (Nat.le_trans hlen (by decide)) hr hC hP hK hB hF hb (fun H hT hS => ziE (pure_ Pt ns hlen) hT hS) fun H e s' ⟨_, _, _, _, _, _, _, _, _, z⟩ => z
end DL
namespace DL
open PySem L2
open PyProof.Rows (AllBare)
section
variable {X : Cx} {Ex : Nat -> Hp -> Prop} {pos : Pos} {a b : Expr} {ta tb : DE}
end
theorem CalleeX.frz {Cl : Nat -> Value} {P : Program} {w : World} {K : PySem.W.Frag} {mg : Str -> Option Value} {base : Heap} {k n : Nat} {x : Str} {F : List D -> Ow -> R D} (c : CalleeX Cl P w K mg base x k n F) : CalleeX Cl P w K mg base x k n (zjp F) :=
  c.imp fun ds O H hid μ Ex Q cl q => zcn cl.len q
theorem fnT {Cl : Nat -> Value} {P : Program} {w : World} {K : PySem.W.Frag} {mg : Str -> Option Value} {base : Heap} {k i : Nat} {f c Pt : Addr} {fd : FuncData} {x z : Str} {st : Stmt} {N ps : List Str} {t : DS} (hF : L2.Fun K x x st f fd) (hc : fd.code = .ref c) (S : z4X N ps (z4E st)) (hi : N[i]? = some z) (hz : ¬ Vis (z4E st) z)
    (hbody : ∀ (A : Around) (outer : List Env) (s : Shared) (H : Hp) (E : XK), Room k (A.deeper (PyProof.Rows.envOfC x (z4E st) s.heap.objs.size f (.ref c))) -> zcK (cxX Cl P w K mg base N x (z4E st) f (.ref c) A outer s H E) (Xk Cl E) (z4V st) t) :
    FnOk P w K mg base (CXr P w Cl) (k + 1) f fd ps (zhN K (Xk Cl) ps.length Pt (zk2 N.length i Pt t)) := by
  obtain ⟨oc, od, kV, doc, pm, an, cdv, ct, osl, rfl, lk, hcd⟩ := hF.ex
  have e : cdv = .ref c := hc
  subst e
  exact ziz lk hcd S hi hz hbody
theorem zly {sc : Scope} {z : Str} (h : sc.names.lookup z = none) : ¬ Vis sc z := by
  intro v
  rcases v with v | v | v <;> (rw [h] at v; cases v)
def zl7 (out sc : Scope) : Bool := (match sc.kind with | .function => true | _ => false) && !sc.isCoroutine && !sc.isGenerator && decide ((sc.names.map (·.1)).Nodup) && (sc.names.all fun y => !(y.2 == .cell) && !(y.2 == .local)) && (sc.names.all fun y => !(y.2 == .free) || out.names.lookup y.1 == some .cell || out.names.lookup y.1 == some .free)
theorem zjQ {out sc : Scope} (h : zl7 out sc = true) : zag out sc := by
  unfold zl7 at h
  simp only [Bool.and_eq_true, decide_eq_true_eq, List.all_eq_true] at h
  obtain ⟨⟨⟨⟨⟨h1, h2⟩, h3⟩, h4⟩, h5⟩, h6⟩ := h
  refine ⟨?_, by simpa using h2, by simpa using h3, h4, fun y hy => ?_, fun y hy => ?_, fun y hy hf => ?_⟩
  · cases e : sc.kind <;> rw [e] at h1 <;> first | rfl | cases h1
  · have := (h5 y hy).1; simpa using this
  · have := (h5 y hy).2; simpa using this
  · have := h6 y hy
    rw [hf] at this
    simpa using this
theorem zbH {K : PySem.W.Frag} {base : Heap} {mg : Str -> Option Value} {x : Str} {C : Addr} (X : K.In base) (g : mg x = some (.ref C)) (q : PySem.W.excIn K C zis "ValueError.__new__" = true) : zja mg base x C := by
  unfold PySem.W.excIn at q
  split at q
  next dd cd sl ho =>
    split at q
    next C' bm k0 k1 k2 k3 n k5 hm hs =>
      simp only [Bool.and_eq_true, beq_iff_eq, Bool.not_eq_true'] at q
      obtain ⟨⟨⟨⟨⟨q1, q2⟩, q3⟩, q4⟩, q5⟩, q6⟩ := q
      subst q1; subst q2
      cases cd with
      | mk nm bs mro ns qn hd sn sub ab col del =>
        dsimp only at hm q3 q5 q6
        subst hm; subst q3
        cases sl with
        | mk l =>
          dsimp only at hs
          subst hs
          exact ⟨g, bm, ns, nm, qn, bs, hd, sn, sub, ab, col, dd, k0, k1, k2, k3, k5, _, X _ _ ho, .of_isNs (PySem.W.isNs_of_in X q5), PySem.W.nsMap_none_of_in X q5 q6, PySem.W.tail_of_in X q4⟩
    next => cases q
  next => cases q
theorem zdK {K : PySem.W.Frag} {C : Addr} {cd : ClassData} (ga : PySem.W.findIn K (.ref C) "__getattribute__" = some (some (.builtin "BaseException.__getattribute__"))) (nh : PySem.W.findIn K (.ref C) "__getattr__" = some none) (cl : PySem.W.clsIn K C = some cd)
    (at_ : PySem.W.findIn K (.ref C) "__class__" = some (some (.builtin "object.__class__"))) (gt : PySem.W.specialIn K (.builtin "object.__class__") "__get__" = some (some (.builtin "getset_descriptor.__get__"))) (tk : PySem.W.takesIn K (.builtin "object.__class__") = some true)
    (ob : PySem.W.mroIn K C (.type "object") = some true) (bx : PySem.W.mroIn K C (.type "BaseException") = some true)
    (k1 : PySem.W.kitOne K (.ref C) (.type "int") = some false) (k2 : PySem.W.kitOne K (.ref C) (.type "bool") = some false) (k3 : PySem.W.kitOne K (.ref C) (.type "str") = some false) (k4 : PySem.W.kitOne K (.ref C) (.type "list") = some false) (k5 : PySem.W.kitOne K (.ref C) (.type "tuple") = some false) (k6 : PySem.W.kitOne K (.ref C) (.type "dict") = some false) : XcK K C :=
  ⟨ga, nh, ⟨cd, cl⟩, at_, gt, tk, ob, bx, fun c hc => by
    simp only [List.mem_cons, List.not_mem_nil, or_false] at hc
    rcases hc with rfl | rfl | rfl | rfl | rfl | rfl <;> assumption⟩
theorem zj1 {K : PySem.W.Frag} {x name qual : Str} {f c Pt : Addr} {params : Arguments} {body : List Stmt} {scope : Scope} {dV kV doc pm ct oc oc' : Value} {an od od' : Option Addr} {osl osl' : Array (Option Value)} {vs : Array Value} (a : PySem.W.nsIn K mainGlobals x = some (some (.ref f)))
    (lk : K.lookup f = some ⟨oc, od, .func (PySem.W.fnOf name qual params body scope dV kV doc pm an (.ref c) ct), osl⟩) (h4 : K.lookup c = some ⟨oc', od', .fields vs, osl'⟩) (h5 : vs[11]? = some (.ref Pt)) : PySem.W.tabIn K x = some (c, Pt) := by
  unfold PySem.W.tabIn
  rw [a]
  simp only [lk]
  show (match K.lookup c with | some ⟨_, _, .fields vs, _⟩ => _ | _ => none) = _
  simp only [h4, h5]
theorem za8 : bootBuiltins "ValueError" = some (.type "ValueError") := by boot_by_name
end DL
namespace DL
open PySem L2
structure Inner (P : Program) (w : World) (ia : Addr) (fp : List Addr) (n : Nat) (Pv : Nat -> Value -> Prop) (Sx : Nat -> Heap -> Prop) : Prop where
  stab : ∀ i h h', Sx i h -> (∀ b ∈ ia :: fp, ∀ o, h.get? b = some o -> h'.get? b = some o) -> Sx i h'
  item : ∀ (A : Around) (i : Nat) (s : Shared) (Q : Value -> Shared -> Prop) (E : Value -> Shared -> Prop), i < n -> Sx i s.heap -> (∀ v h' tk, Pv i v -> Sx (i + 1) h' -> Heap.SameBut ia s.heap h' -> Q v { s with heap := h', toks := tk }) -> wpAny (model P w) A (Builtin.SmallTypes.nextOf (.ref ia)) Q E s
  done : ∀ (A : Around) (i : Nat) (s : Shared) (Q : Value -> Shared -> Prop) (E : Value -> Shared -> Prop), A.handled = none -> n <= i -> Sx i s.heap -> (∀ h' e, Heap.ExtBut ia s.heap h' -> (∃ o, h'.get? e = some o /\ o.cls = .type "StopIteration") -> E (.ref e) { s with heap := h' }) -> wpAny (model P w) A (Builtin.SmallTypes.nextOf (.ref ia)) Q E s
section
variable {P : Program} {w : World} {A : Around} {E : Value -> Shared -> Prop} {s : Shared}
theorem zcz {α : Type} {Q : α -> Shared -> Prop} (hh : A.handled = none) (h : ∀ h' e, (∀ b o, s.heap.get? b = some o -> h'.get? b = some o) -> (∃ o, h'.get? e = some o /\ o.cls = .type "StopIteration") -> E (.ref e) { s with heap := h' }) :
    wpAny (model P w) A (newExc (.type "StopIteration") [] >>= fun e => (raiseNew e : Sem α)) Q E s := by
  refine wpAny_bind ?_
  simp only [newExc, newTuple]
  refine wpAny_bind (wpAny_newObj_type (?_) (by size_fits))
  refine wpAny_bind (m := firstArgMember _ _) (wpAny_of_eq (a := .none) (by first | rfl | (simp only [firstArgMember]; rfl)) (wpAny_newObj_type ?_ (by size_fits)))
  simp only [raiseNew]
  refine wpAny_bind (wpAny_handled ?_); rw [hh]
  refine wpAny_bind (wpAny_pure (wpAny_throw (h _ _ (fun b o e => Heap.get?_push_of_some _ (Heap.get?_push_of_some _ e)) ⟨_, Heap.get?_push_size _ rfl, rfl⟩)))
theorem zdE (ia tt : Addr) (items : Array Value) (hne : tt ≠ ia) : Inner P w ia [tt] items.size (fun i v => items[i]? = some v) (fun i h => h.IsTupleIter ia tt i /\ h.IsTuple tt items) where
  stab := by
    rintro i h h' ⟨⟨o, e, c, d⟩, ⟨o2, e2, r⟩⟩ k
    exact ⟨⟨o, k ia (by simp) o e, c, d⟩, ⟨o2, k tt (by simp) o2 e2, r⟩⟩
  item := by
    rintro A i s Q E hi ⟨hit, htt⟩ hq
    obtain ⟨ob, hob, hcl, hda⟩ := id hit
    obtain ⟨ol, hol, k1, nl, hdl⟩ := id htt
    have hxx : items[i]? = some items[i] := Array.getElem?_eq_getElem hi
    unfold Builtin.SmallTypes.nextOf
    refine wpAny_bind (wpAny_callSpecial?_slot (name := "__next__") hit.typeIs F.slot_tuple_iterator_next (wpAny_call_entry F.slot_tuple_iterator_next hit.typeIs F.entry_tuple_iterator_next ?_ (F.args_tuple_iterator_next_1 _)))
    show wpAny _ _ (field (.ref ia) 0 >>= _) _ _ s
    refine wpAny_bind (wpAny_field hob hda (x := .ref tt) rfl ?_)
    show wpAny _ _ (if (Value.ref tt == Value.none) = true then _ else _) _ _ s
    rw [if_neg (by exact Bool.false_ne_true)]
    show wpAny _ _ (field (.ref ia) 1 >>= _) _ _ s
    refine wpAny_bind (wpAny_field hob hda (x := .int i 0) rfl ?_)
    show wpAny _ _ (seqItems? (.ref tt) >>= _) _ _ s
    refine wpAny_bind (wpAny_seqItems hol hdl ?_)
    simp only [Int.toNat_natCast, hxx]
    refine wpAny_bind (wpAny_setField hob hda (by simp) (wpAny_pure ⟨_, rfl, wpAny_pure (hq _ _ s.toks hxx ⟨?_, ?_⟩ (Heap.SameBut.update ..))⟩))
    · exact ⟨_, Heap.get?_update_self _ hob (Obj.isFreed_of_fields (Obj.data_mapFields hda _)), (Obj.cls_mapFields ..).trans hcl, by rw [Obj.data_mapFields hda]; simp [rawInt]⟩
    · exact ⟨ol, (Heap.SameBut.update ..).extBut _ _ hne hol, k1, nl, hdl⟩
  done := by
    rintro A i s Q E hh hi ⟨hit, htt⟩ hq
    obtain ⟨ob, hob, hcl, hda⟩ := id hit
    obtain ⟨ol, hol, k1, nl, hdl⟩ := id htt
    have hxx : items[i]? = none := by simp [hi]
    unfold Builtin.SmallTypes.nextOf
    refine wpAny_bind (wpAny_callSpecial?_slot (name := "__next__") hit.typeIs F.slot_tuple_iterator_next (wpAny_call_entry F.slot_tuple_iterator_next hit.typeIs F.entry_tuple_iterator_next ?_ (F.args_tuple_iterator_next_1 _)))
    show wpAny _ _ (field (.ref ia) 0 >>= _) _ _ s
    refine wpAny_bind (wpAny_field hob hda (x := .ref tt) rfl ?_)
    show wpAny _ _ (if (Value.ref tt == Value.none) = true then _ else _) _ _ s
    rw [if_neg (by exact Bool.false_ne_true)]
    show wpAny _ _ (field (.ref ia) 1 >>= _) _ _ s
    refine wpAny_bind (wpAny_field hob hda (x := .int i 0) rfl ?_)
    show wpAny _ _ (seqItems? (.ref tt) >>= _) _ _ s
    refine wpAny_bind (wpAny_seqItems hol hdl ?_)
    simp only [Int.toNat_natCast, hxx]
    refine wpAny_bind (wpAny_rule (wpAny_bind (wpAny_setField hob hda (by simp) ?_)))
    refine zcz (by first | exact hh | (show A.in1.handled = none; exact hh)) fun h' e k he => hq h' e (fun b o hb z => k b o ((Heap.SameBut.update ..).extBut _ _ hb z)) he
theorem zeU (ia : Addr) (x : Str) (t : Tok) : Inner P w ia [] x.cps.size (fun i v => ∃ c tk, x.cps[i]? = some c /\ v = .str ⟨#[c]⟩ tk) (fun i h => h.IsStrIter ia "str_ascii_iterator" x t i) where
  stab := by
    rintro i h h' ⟨o, e, c, d⟩ k
    exact ⟨o, k ia (by simp) o e, c, d⟩
  item := by
    rintro A i s Q E hi hit hq
    obtain ⟨ob, hob, hcl, hda⟩ := id hit
    have hxx : x.cps[i]? = some x.cps[i] := Array.getElem?_eq_getElem hi
    unfold Builtin.SmallTypes.nextOf
    refine wpAny_bind (wpAny_callSpecial?_slot (name := "__next__") hit.typeIs F.slot_str_ascii_iterator_next (wpAny_call_entry F.slot_str_ascii_iterator_next hit.typeIs F.entry_str_ascii_iterator_next ?_ (F.args_str_ascii_iterator_next_1 _)))
    show wpAny _ _ (field (.ref ia) 0 >>= _) _ _ s
    refine wpAny_bind (wpAny_field hob hda (x := .str x t) rfl ?_)
    show wpAny _ _ (field (.ref ia) 1 >>= _) _ _ s
    refine wpAny_bind (wpAny_field hob hda (x := .int i 0) rfl ?_)
    simp only [Int.toNat_natCast, hxx]
    refine wpAny_bind (wpAny_setField hob hda (by simp) (wpAny_bind (wpAny_mkStr (wpAny_pure ⟨_, rfl, wpAny_pure (hq _ _ _ ⟨_, _, hxx, rfl⟩ ?_ (Heap.SameBut.update ..))⟩) (by show 1 <= sizeLine; decide))))
    exact ⟨_, Heap.get?_update_self _ hob (Obj.isFreed_of_fields (Obj.data_mapFields hda _)), (Obj.cls_mapFields ..).trans hcl, by rw [Obj.data_mapFields hda]; simp [rawInt]⟩
  done := by
    rintro A i s Q E hh hi hit hq
    obtain ⟨ob, hob, hcl, hda⟩ := id hit
    have hxx : x.cps[i]? = none := by simp [hi]
    unfold Builtin.SmallTypes.nextOf
    refine wpAny_bind (wpAny_callSpecial?_slot (name := "__next__") hit.typeIs F.slot_str_ascii_iterator_next (wpAny_call_entry F.slot_str_ascii_iterator_next hit.typeIs F.entry_str_ascii_iterator_next ?_ (F.args_str_ascii_iterator_next_1 _)))
    show wpAny _ _ (field (.ref ia) 0 >>= _) _ _ s
    refine wpAny_bind (wpAny_field hob hda (x := .str x t) rfl ?_)
    show wpAny _ _ (field (.ref ia) 1 >>= _) _ _ s
    refine wpAny_bind (wpAny_field hob hda (x := .int i 0) rfl ?_)
    simp only [Int.toNat_natCast, hxx]
    refine wpAny_bind (wpAny_rule (wpAny_bind (wpAny_setField hob hda (by simp) (wpAny_bind (wpAny_letGo ?_)))))
    refine zcz (by first | exact hh | (show A.in1.handled = none; exact hh)) fun h' e k he => hq h' e (fun b o hb z => k b o ((Heap.SameBut.update ..).extBut _ _ hb z)) he
theorem zeY (ia l : Addr) (items : Array Value) (hne : l ≠ ia) : Inner P w ia [l] items.size (fun i v => items[i]? = some v) (fun i h => h.IsListIter ia l i /\ h.IsList l items) where
  stab := by
    rintro i h h' ⟨⟨o, e, c, d⟩, ⟨o2, e2, r⟩⟩ k
    exact ⟨⟨o, k ia (by simp) o e, c, d⟩, ⟨o2, k l (by simp) o2 e2, r⟩⟩
  item := by
    rintro A i s Q E hi ⟨hit, hl⟩ hq
    obtain ⟨ol, hol, r⟩ := id hl
    exact wpAny_nextOf_list_item hit hl (Array.getElem?_eq_getElem hi) fun h' st sb => hq _ h' s.toks (Array.getElem?_eq_getElem hi) ⟨st, ⟨ol, sb.extBut _ _ hne hol, r⟩⟩ sb
  done := by
    rintro A i s Q E hh hi ⟨hit, hl⟩ hq
    exact wpAny_nextOf_list_end hh hit hl (by simp [hi]) fun h' e eb he => hq h' e eb he
end
end DL
namespace DL
open PySem L2
structure ZAp (z ti to : Addr) (i1 i2 : Addr) (fp1 fp2 : List Addr) : Prop where
  a1 : ti ≠ z
  a2 : to ≠ z
  a3 : ti ≠ to
  b1 : ∀ b ∈ i1 :: fp1, b ≠ z /\ b ≠ to
  b2 : ∀ b ∈ i2 :: fp2, b ≠ z /\ b ≠ to
  c1 : i1 ∉ i2 :: fp2
  c2 : i2 ∉ i1 :: fp1
  d1 : ti ≠ i1
  d2 : ti ≠ i2
section
variable {P : Program} {w : World} {A : Around} {E : Value -> Shared -> Prop} {s : Shared} {z ti to i1 i2 : Addr} {fp1 fp2 : List Addr} {n1 n2 k : Nat} {P1 P2 : Nat -> Value -> Prop} {S1 S2 : Nat -> Heap -> Prop} {a b : Value}
theorem Inner.but {ia c : Addr} {fp : List Addr} {n i : Nat} {Pv : Nat -> Value -> Prop} {Sx : Nat -> Heap -> Prop} {h h' : Heap} (J : Inner P w ia fp n Pv Sx) (x : Sx i h) (e : Heap.ExtBut c h h') (hc : ∀ b ∈ ia :: fp, b ≠ c) : Sx i h' := J.stab i h h' x fun b hb o z => e b o (hc b hb) z
theorem zh5 {Q : Value -> Shared -> Prop} (J1 : Inner P w i1 fp1 n1 P1 S1) (J2 : Inner P w i2 fp2 n2 P2 S2) (D : ZAp z ti to i1 i2 fp1 fp2) (hz : IsZip s.heap z ti to .none) (hti : IsPair s.heap ti (.ref i1) (.ref i2)) (hto : IsPair s.heap to a b) (h1 : S1 k s.heap) (h2 : S2 k s.heap) (l1 : k < n1) (l2 : k < n2)
    (hq : ∀ x y h' tk, P1 k x -> P2 k y -> IsZip h' z ti to (rawInt s.heap.objs.size) -> IsPair h' to x y -> S1 (k + 1) h' -> S2 (k + 1) h' -> IsPair h' s.heap.objs.size x y ->
      (∀ c o, c ≠ z -> c ≠ to -> c ≠ i1 -> c ≠ i2 -> s.heap.get? c = some o -> h'.get? c = some o) -> Q (.ref s.heap.objs.size) { s with heap := h', toks := tk }) :
    wpAny (model P w) A (Builtin.«zip.__next__» ⟨[.ref z], []⟩) (fun f s' => ∃ v, f = .done (.ret v) /\ Q v s') E s := by
  have ne1 : ∀ b ∈ i1 :: fp1, b ≠ z := fun b hb => (D.b1 b hb).1
  have ne2 : ∀ b ∈ i2 :: fp2, b ≠ z := fun b hb => (D.b2 b hb).1
  have no1 : ∀ b ∈ i1 :: fp1, b ≠ to := fun b hb => (D.b1 b hb).2
  have no2 : ∀ b ∈ i2 :: fp2, b ≠ to := fun b hb => (D.b2 b hb).2
  have n21 : ∀ b ∈ i2 :: fp2, b ≠ i1 := fun b hb e => D.c1 (e ▸ hb)
  have n12 : ∀ b ∈ i1 :: fp1, b ≠ i2 := fun b hb e => D.c2 (e ▸ hb)
  have m1 : i1 ∈ i1 :: fp1 := List.mem_cons_self
  have m2 : i2 ∈ i2 :: fp2 := List.mem_cons_self
  show wpAny _ _ (field (.ref z) 2 >>= _) _ _ s
  refine wpAny_bind (wpAny_field hz rfl (x := (.bool false)) rfl ?_)
  show wpAny _ _ (field (.ref z) 3 >>= _) _ _ s
  refine wpAny_bind (wpAny_field hz rfl (x := (.ref ti)) rfl (wpAny_bind (wpAny_seqItems hti rfl ?_)))
  show wpAny _ _ (Builtin.SmallTypes.ownedTupleIsFree (.ref z) >>= _) _ _ s
  refine wpAny_bind ?_; unfold Builtin.SmallTypes.ownedTupleIsFree
  refine wpAny_bind (wpAny_field hz rfl (x := (.none)) rfl (wpAny_pure ?_))
  simp only [if_true]; refine wpAny_bind (wpAny_rule (wpAny_bind (wpAny_field hz rfl (x := (.ref to)) rfl ?_)))
  refine wpAny_bind (wpAny_setField_rec hz (by simp) fun ha za sa => ?_)
  have za : IsZip ha z ti to .ellipsis := za
  refine wpAny_bind ?_; simp only [List.zipIdx_cons, List.zipIdx_nil, List.forIn_cons, List.forIn_nil]
  refine wpAny_bind (wpAny_bind (wpAny_onRaise ?_)); show wpAny _ _ (Builtin.SmallTypes.nextOf (.ref i1) >>= _) _ _ _
  refine wpAny_bind (J1.item _ k _ _ _ l1 (J1.but h1 sa.extBut ne1) fun x hb tk1 px sb1 sb => wpAny_pure ?_)
  have tob : IsPair hb to a b := sb.extBut _ _ (Ne.symm (no1 _ m1)) (sa.extBut _ _ D.a2 hto)
  refine wpAny_bind (wpAny_seqItems tob rfl (wpAny_bind (wpAny_updateSeq_pair tob fun hc toc sc => ?_)))
  have toc : IsPair hc to x b := toc
  refine wpAny_bind (wpAny_letGo (wpAny_pure (wpAny_bind (wpAny_bind (wpAny_onRaise ?_))))); show wpAny _ _ (Builtin.SmallTypes.nextOf (.ref i2) >>= _) _ _ _
  refine wpAny_bind (J2.item _ k _ _ _ l2 (J2.but (J2.but (J2.but h2 sa.extBut ne2) sb.extBut n21) sc.extBut no2) fun y hd tk2 py sd2 sd => wpAny_pure ?_)
  have tod : IsPair hd to x b := sd.extBut _ _ (Ne.symm (no2 _ m2)) toc
  refine wpAny_bind (wpAny_seqItems tod rfl (wpAny_bind (wpAny_updateSeq_pair tod fun he toe se => ?_)))
  have toe : IsPair he to x y := toe
  refine wpAny_bind (wpAny_letGo (wpAny_pure (wpAny_pure (wpAny_bind (wpAny_seqItems toe rfl (wpAny_bind (wpAny_newTuple ?_)))))))
  have hsz : he.objs.size = s.heap.objs.size := by rw [se.1, sd.1, sc.1, sb.1, sa.1]
  have ze : IsZip he z ti to .ellipsis := se.extBut _ _ (Ne.symm D.a2) (sd.extBut _ _ (Ne.symm (ne2 _ m2)) (sc.extBut _ _ (Ne.symm D.a2) (sb.extBut _ _ (Ne.symm (ne1 _ m1)) za)))
  have ke : ∀ c o, c ≠ z -> c ≠ to -> c ≠ i1 -> c ≠ i2 -> s.heap.get? c = some o -> he.get? c = some o := fun c o q1 q2 q3 q4 e => se.extBut _ _ q2 (sd.extBut _ _ q4 (sc.extBut _ _ q2 (sb.extBut _ _ q3 (sa.extBut _ _ q1 e))))
  have s1e : S1 (k + 1) he := J1.but (J1.but (J1.but sb1 sc.extBut no1) sd.extBut n12) se.extBut no1
  have s2e : S2 (k + 1) he := J2.but sd2 se.extBut no2
  have zlt : z < he.objs.size := Heap.lt_size ze
  show wpAny _ _ (Builtin.SmallTypes.ownedTupleHandOut (.ref z) (.ref he.objs.size) >>= _) _ _ _
  refine wpAny_bind ?_; unfold Builtin.SmallTypes.ownedTupleHandOut
  have zf : IsZip (he.push { cls := .type "tuple", data := .seq #[x, y] }) z ti to .ellipsis := Heap.get?_push_of_some _ ze
  refine wpAny_bind (wpAny_setField_rec zf (by simp) fun hg zg sg => ?_)
  have zg : IsZip hg z ti to (rawInt he.objs.size) := zg
  refine wpAny_setField_rec zg (by simp) fun hi zi si => ?_
  have zi : IsZip hi z ti to (rawInt he.objs.size) := zi
  have up : ∀ c o, c ≠ z -> he.get? c = some o -> hi.get? c = some o := fun c o q e => si.extBut _ _ q (sg.extBut _ _ q (Heap.get?_push_of_some _ e))
  have pi : IsPair hi he.objs.size x y := si.extBut _ _ (Nat.ne_of_gt zlt) (sg.extBut _ _ (Nat.ne_of_gt zlt) (Heap.get?_push_size _ rfl))
  rw [hsz] at zi pi
  refine wpAny_pure ⟨_, rfl, ?_⟩
  show Q (.ref he.objs.size) _
  rw [hsz]
  exact hq x y hi _ px py zi (up _ _ D.a2 toe) (J1.stab _ _ _ s1e fun b hb o e => up b o (ne1 b hb) e) (J2.stab _ _ _ s2e fun b hb o e => up b o (ne2 b hb) e) pi fun c o q1 q2 q3 q4 e => up c o q1 (ke c o q1 q2 q3 q4 e)
theorem zia {Q : Fin -> Shared -> Prop} (hh : A.handled = none) (J1 : Inner P w i1 fp1 n1 P1 S1) (J2 : Inner P w i2 fp2 n2 P2 S2) (D : ZAp z ti to i1 i2 fp1 fp2) (hz : IsZip s.heap z ti to .none) (hti : IsPair s.heap ti (.ref i1) (.ref i2)) (hto : IsPair s.heap to a b) (h1 : S1 k s.heap) (h2 : S2 k s.heap) (hend : n1 <= k \/ (k < n1 /\ n2 <= k))
    (hE : ∀ h' tk e, (∀ c o, c ≠ z -> c ≠ to -> c ≠ i1 -> c ≠ i2 -> s.heap.get? c = some o -> h'.get? c = some o) -> (∃ o, h'.get? e = some o /\ o.cls = .type "StopIteration") -> E (.ref e) { s with heap := h', toks := tk }) :
    wpAny (model P w) A (Builtin.«zip.__next__» ⟨[.ref z], []⟩) Q E s := by
  have ne1 : ∀ b ∈ i1 :: fp1, b ≠ z := fun b hb => (D.b1 b hb).1
  have ne2 : ∀ b ∈ i2 :: fp2, b ≠ z := fun b hb => (D.b2 b hb).1
  have no1 : ∀ b ∈ i1 :: fp1, b ≠ to := fun b hb => (D.b1 b hb).2
  have no2 : ∀ b ∈ i2 :: fp2, b ≠ to := fun b hb => (D.b2 b hb).2
  have n21 : ∀ b ∈ i2 :: fp2, b ≠ i1 := fun b hb e => D.c1 (e ▸ hb)
  have m1 : i1 ∈ i1 :: fp1 := List.mem_cons_self
  have m2 : i2 ∈ i2 :: fp2 := List.mem_cons_self
  show wpAny _ _ (field (.ref z) 2 >>= _) _ _ s
  refine wpAny_bind (wpAny_field hz rfl (x := (.bool false)) rfl ?_)
  show wpAny _ _ (field (.ref z) 3 >>= _) _ _ s
  refine wpAny_bind (wpAny_field hz rfl (x := (.ref ti)) rfl (wpAny_bind (wpAny_seqItems hti rfl ?_)))
  show wpAny _ _ (Builtin.SmallTypes.ownedTupleIsFree (.ref z) >>= _) _ _ s
  refine wpAny_bind ?_; unfold Builtin.SmallTypes.ownedTupleIsFree
  refine wpAny_bind (wpAny_field hz rfl (x := (.none)) rfl (wpAny_pure ?_))
  simp only [if_true]; refine wpAny_bind (wpAny_rule (wpAny_bind (wpAny_field hz rfl (x := (.ref to)) rfl ?_)))
  refine wpAny_bind (wpAny_setField_rec hz (by simp) fun ha za sa => ?_)
  have za : IsZip ha z ti to .ellipsis := za
  refine wpAny_bind ?_; simp only [List.zipIdx_cons, List.zipIdx_nil, List.forIn_cons, List.forIn_nil]
  refine wpAny_bind (wpAny_bind (wpAny_onRaise ?_)); show wpAny _ _ (Builtin.SmallTypes.nextOf (.ref i1) >>= _) _ _ _
  have far : ∀ {h : Heap} {e : Addr}, IsZip h z ti to .ellipsis -> (∃ o, h.get? e = some o /\ o.cls = .type "StopIteration") -> e ≠ z := fun {h e} hz ⟨o, ho, hc⟩ q => by subst q; rw [hz] at ho; cases ho; simp at hc
  rcases hend with hend | ⟨l1, hend⟩
  · refine wpAny_bind (J1.done _ k _ _ _ hh hend (J1.but h1 sa.extBut ne1) fun hb e eb he => ?_)
    have zb : IsZip hb z ti to .ellipsis := eb _ _ (Ne.symm (ne1 _ m1)) za
    have nz := far zb he
    obtain ⟨oe, hoe, hce⟩ := he
    exact wpAny_setField_rec zb (by simp) fun hc _ sc => hE hc _ e (fun c o q1 _ q3 _ x => sc.extBut _ _ q1 (eb _ _ q3 (sa.extBut _ _ q1 x))) ⟨oe, sc.extBut _ _ nz hoe, hce⟩
  · refine wpAny_bind (J1.item _ k _ _ _ l1 (J1.but h1 sa.extBut ne1) fun x hb tk1 px sb1 sb => wpAny_pure ?_)
    have tob : IsPair hb to a b := sb.extBut _ _ (Ne.symm (no1 _ m1)) (sa.extBut _ _ D.a2 hto)
    refine wpAny_bind (wpAny_seqItems tob rfl (wpAny_bind (wpAny_updateSeq_pair tob fun hc toc sc => ?_)))
    refine wpAny_bind (wpAny_letGo (wpAny_pure (wpAny_bind (wpAny_bind (wpAny_onRaise ?_))))); show wpAny _ _ (Builtin.SmallTypes.nextOf (.ref i2) >>= _) _ _ _
    refine wpAny_bind (J2.done _ k _ _ _ hh hend (J2.but (J2.but (J2.but h2 sa.extBut ne2) sb.extBut n21) sc.extBut no2) fun hd e eb he => ?_)
    have zd : IsZip hd z ti to .ellipsis := eb _ _ (Ne.symm (ne2 _ m2)) (sc.extBut _ _ (Ne.symm D.a2) (sb.extBut _ _ (Ne.symm (ne1 _ m1)) za))
    have nz := far zd he
    obtain ⟨oe, hoe, hce⟩ := he
    exact wpAny_setField_rec zd (by simp) fun hf _ sf => hE hf _ e (fun c o q1 q2 q3 q4 x => sf.extBut _ _ q1 (eb _ _ q4 (sc.extBut _ _ q2 (sb.extBut _ _ q3 (sa.extBut _ _ q1 x))))) ⟨oe, sf.extBut _ _ nz hoe, hce⟩
theorem zi3 {Q : Option Value -> Shared -> Prop} (J1 : Inner P w i1 fp1 n1 P1 S1) (J2 : Inner P w i2 fp2 n2 P2 S2) (D : ZAp z ti to i1 i2 fp1 fp2) (hz : IsZip s.heap z ti to .none) (hti : IsPair s.heap ti (.ref i1) (.ref i2)) (hto : IsPair s.heap to a b) (h1 : S1 k s.heap) (h2 : S2 k s.heap) (l1 : k < n1) (l2 : k < n2)
    (hq : ∀ x y h' tk, P1 k x -> P2 k y -> IsZip h' z ti to (rawInt s.heap.objs.size) -> IsPair h' to x y -> S1 (k + 1) h' -> S2 (k + 1) h' -> IsPair h' s.heap.objs.size x y ->
      (∀ c o, c ≠ z -> c ≠ to -> c ≠ i1 -> c ≠ i2 -> s.heap.get? c = some o -> h'.get? c = some o) -> Q (some (.ref s.heap.objs.size)) { s with heap := h', toks := tk }) : wpAny (model P w) A (pyNext (.ref z)) Q E s := by
  have ht : s.TypeIs (.ref z) "zip" := ⟨_, hz, rfl⟩
  unfold pyNext
  exact wpAny_bind (wpAny_attempt (wpAny_callSpecial?_slot (name := "__next__") ht F.slot_zip_next (wpAny_call_entry F.slot_zip_next ht F.entry_zip_next (zh5 J1 J2 D hz hti hto h1 h2 l1 l2 fun x y h' tk q1 q2 q3 q4 q5 q6 q7 q8 => wpAny_pure (hq x y h' tk q1 q2 q3 q4 q5 q6 q7 q8)) (F.args_zip_next_1 _))))
theorem ziD {Q : Option Value -> Shared -> Prop} (hh : A.handled = none) (J1 : Inner P w i1 fp1 n1 P1 S1) (J2 : Inner P w i2 fp2 n2 P2 S2) (D : ZAp z ti to i1 i2 fp1 fp2) (hz : IsZip s.heap z ti to .none) (hti : IsPair s.heap ti (.ref i1) (.ref i2)) (hto : IsPair s.heap to a b) (h1 : S1 k s.heap) (h2 : S2 k s.heap) (hend : n1 <= k \/ (k < n1 /\ n2 <= k))
    (hq : ∀ h' tk, (∀ c o, c ≠ z -> c ≠ to -> c ≠ i1 -> c ≠ i2 -> s.heap.get? c = some o -> h'.get? c = some o) -> Q none { s with heap := h', toks := tk }) : wpAny (model P w) A (pyNext (.ref z)) Q E s := by
  have ht : s.TypeIs (.ref z) "zip" := ⟨_, hz, rfl⟩
  unfold pyNext
  refine wpAny_bind (wpAny_attempt (wpAny_callSpecial?_slot (name := "__next__") ht F.slot_zip_next (wpAny_call_entry F.slot_zip_next ht F.entry_zip_next (zia hh J1 J2 D hz hti hto h1 h2 hend fun h' tk e hk he => ?_) (F.args_zip_next_1 _))))
  obtain ⟨oe, ho, hc⟩ := he
  exact wpAny_bind (wpAny_isInstance (T := "StopIteration") (b := true) ⟨oe, ho, hc⟩ isSubtype_stop (wpAny_pure (hq _ tk hk)))
end
end DL
namespace DL
open PySem L2
inductive ZK where
  | tup (t : Addr) (items : Array Value)
  | str (x : Str) (t : Tok)
  | lst (l : Addr) (items : Array Value)
def ZK.val : ZK -> Value
  | .tup t _ => .ref t
  | .str x t => .str x t
  | .lst l _ => .ref l
def ZK.obj : ZK -> Obj
  | .tup t _ => { cls := .type "tuple_iterator", data := .fields #[.ref t, .int 0 0] }
  | .str x t => { cls := .type "str_ascii_iterator", data := .fields #[.str x t, .int 0 0] }
  | .lst l _ => { cls := .type "list_iterator", data := .fields #[.ref l, .int 0 0] }
def ZK.pre (h : Heap) : ZK -> Prop
  | .tup t items => h.IsTuple t items
  | .str x _ => x.cps.all (· < 128) = true
  | .lst l items => h.IsList l items
theorem ZK.keep {h h' : Heap} (k : ∀ b o, h.get? b = some o -> h'.get? b = some o) : ∀ (q : ZK), q.pre h -> q.pre h'
  | .tup t items, ⟨o, e, r⟩ => ⟨o, k _ _ e, r⟩
  | .str x t, e => e
  | .lst l items, ⟨o, e, r⟩ => ⟨o, k _ _ e, r⟩
theorem ZK.iter {P : Program} {w : World} {A : Around} {E : Value -> Shared -> Prop} {s : Shared} {Q : Value -> Shared -> Prop} (q : ZK) (h : q.pre s.heap) (hq : Q (.ref s.heap.objs.size) { s with heap := s.heap.push q.obj }) : wpAny (model P w) A (pyIter q.val) Q E s := by
  cases q with
  | tup t items => exact wpAny_pyIter_tuple h hq
  | str x t => exact wpAny_pyIter_ascii h hq
  | lst l items => exact wpAny_pyIter_list h hq
abbrev zH (h : Heap) (a b : ZK) : Heap := (((((h.push a.obj).push b.obj).push { cls := .type "tuple", data := .seq #[.ref h.objs.size, .ref (h.push a.obj).objs.size] }).push { cls := .type "tuple", data := .seq #[.none, .none] }).push
  { cls := .type "zip", data := .fields #[.none, .bool false, .bool false, .ref ((h.push a.obj).push b.obj).objs.size, .ref (((h.push a.obj).push b.obj).push { cls := .type "tuple", data := .seq #[.ref h.objs.size, .ref (h.push a.obj).objs.size] }).objs.size] })
abbrev zA (h : Heap) (a b : ZK) : Addr := ((((h.push a.obj).push b.obj).push { cls := .type "tuple", data := .seq #[.ref h.objs.size, .ref (h.push a.obj).objs.size] }).push { cls := .type "tuple", data := .seq #[.none, .none] }).objs.size
theorem zh6 (a b : ZK) (va vb : Value) (ea : a.val = va) (eb : b.val = vb) : Meets (Builtin.«zip.__new__» ⟨[.type "zip", va, vb], []⟩) (fun _ R s => a.pre s.heap /\ b.pre s.heap /\ R (.ok (.ret (.ref (zA s.heap a b)))) { s with heap := zH s.heap a b }) :=
  .of_wp fun P w A R s h => by
    obtain ⟨hp, g, d, tk, os⟩ := s; obtain ⟨h1, h2, h⟩ := h
    have hsub := sub_zip
    have i1 : ∀ {E : Value -> Shared -> Prop} {Q : Value -> Shared -> Prop}, Q (.ref hp.objs.size) ⟨hp.push a.obj, g, d, tk, os⟩ -> wpAny (model P w) A.in1 (pyIter va) Q E ⟨hp, g, d, tk, os⟩ := fun {E Q} hq => by rw [<- ea]; exact a.iter (s := ⟨hp, g, d, tk, os⟩) h1 hq
    have h2' : b.pre (hp.push a.obj) := b.keep (fun c o e => Heap.get?_push_of_some _ e) h2
    have i2 : ∀ {E : Value -> Shared -> Prop} {Q : Value -> Shared -> Prop}, Q (.ref (hp.push a.obj).objs.size) ⟨(hp.push a.obj).push b.obj, g, d, tk, os⟩ -> wpAny (model P w) A.in1 (pyIter vb) Q E ⟨hp.push a.obj, g, d, tk, os⟩ := fun {E Q} hq => by rw [<- eb]; exact b.iter (s := ⟨hp.push a.obj, g, d, tk, os⟩) h2' hq
    wp_walk using i1, i2
    exact ⟨_, rfl, h⟩
section
variable {P : Program} {w : World} {A : Around} {E : Value -> Shared -> Prop} {s : Shared}
theorem zeG (a b : ZK) {Q : Value -> Shared -> Prop} (ha : a.pre s.heap) (hb : b.pre s.heap)
    (h : ∀ h', IsZip h' (s.heap.objs.size + 4) (s.heap.objs.size + 2) (s.heap.objs.size + 3) .none -> IsPair h' (s.heap.objs.size + 2) (.ref s.heap.objs.size) (.ref (s.heap.objs.size + 1)) -> IsPair h' (s.heap.objs.size + 3) .none .none ->
      h'.get? s.heap.objs.size = some a.obj -> h'.get? (s.heap.objs.size + 1) = some b.obj -> (∀ c o, s.heap.get? c = some o -> h'.get? c = some o) -> Q (.ref (s.heap.objs.size + 4)) { s with heap := h' }) :
    wpAny (model P w) A (call (.type "zip") [a.val, b.val]) Q E s := by
  refine callType_new F.called_zip (by decide) (F.typeCall_zip_2 _ _) (F.newCall_zip_2 _ _) (fun obj => F.args_object_init_3 obj _ _) F.entry_zip_new (zh6 a b _ _ rfl rfl) ⟨ha, hb, ?_⟩
  have fa : a.obj.isFreed = false := by cases a <;> rfl
  have fb : b.obj.isFreed = false := by cases b <;> rfl
  have e1 : (s.heap.push a.obj).objs.size = s.heap.objs.size + 1 := Heap.size_push ..
  have e2 : ((s.heap.push a.obj).push b.obj).objs.size = s.heap.objs.size + 2 := by rw [Heap.size_push, e1]
  have e3 : (((s.heap.push a.obj).push b.obj).push { cls := .type "tuple", data := .seq #[.ref s.heap.objs.size, .ref (s.heap.push a.obj).objs.size] }).objs.size = s.heap.objs.size + 3 := by rw [Heap.size_push, e2]
  have e4 : zA s.heap a b = s.heap.objs.size + 4 := by show Array.size _ = _; rw [Heap.size_push, e3]
  have g5 : (zH s.heap a b).get? (zA s.heap a b) = some _ := Heap.get?_push_size _ rfl
  have g4 : (zH s.heap a b).get? (((s.heap.push a.obj).push b.obj).push { cls := .type "tuple", data := .seq #[.ref s.heap.objs.size, .ref (s.heap.push a.obj).objs.size] }).objs.size = some _ := Heap.get?_push_of_some _ (Heap.get?_push_size _ rfl)
  have g3 : (zH s.heap a b).get? ((s.heap.push a.obj).push b.obj).objs.size = some _ := Heap.get?_push_of_some _ (Heap.get?_push_of_some _ (Heap.get?_push_size _ rfl))
  have g2 : (zH s.heap a b).get? (s.heap.push a.obj).objs.size = some _ := Heap.get?_push_of_some _ (Heap.get?_push_of_some _ (Heap.get?_push_of_some _ (Heap.get?_push_size _ fb)))
  have g1 : (zH s.heap a b).get? s.heap.objs.size = some _ := Heap.get?_push_of_some _ (Heap.get?_push_of_some _ (Heap.get?_push_of_some _ (Heap.get?_push_of_some _ (Heap.get?_push_size _ fa))))
  show _ /\ _
  rw [e2, e3, e4] at g5
  rw [e3] at g4
  rw [e1, e2] at g3
  rw [e1] at g2
  rw [e4]
  exact ⟨⟨_, g5, rfl⟩, h _ g5 g3 g4 g1 g2 fun c o x => Heap.get?_push_of_some _ (Heap.get?_push_of_some _ (Heap.get?_push_of_some _ (Heap.get?_push_of_some _ (Heap.get?_push_of_some _ x))))⟩
end
end DL
namespace DL
open PySem L2
def Held (X : Cx) (H : Hp) (h : Heap) (b : Addr) : Prop := H b ≠ none \/ ∃ o, X.base.get? b = some o
theorem Held.far {X : Cx} {pins : List (Addr × Obj)} {σ : St} {H : Hp} {s : Shared} {b q : Addr} (I : L2.Inv X pins σ H s) (x : Held X H s.heap b) (f : zbz X pins H q) : b ≠ q := by
  rintro rfl
  rcases x with x | ⟨o, e⟩
  · exact x f.1
  · rcases f.2.2.2.1 with z | z
    · exact I.ok.noex b o e z
    · exact absurd (Nat.lt_of_lt_of_le (Heap.lt_size e) I.ok.bsz) (Nat.not_lt.mpr z)
structure zhC (P : Program) (w : World) (K : PySem.W.Frag) (J : It) (ia : Addr) (S : Nat -> Heap -> Prop) : Prop where
  obj : ∀ i h, S i h -> ∃ o, h.get? ia = some o /\ ∀ v, o.data ≠ .cell v
  keep : ∀ i h h', S i h -> (∀ o, h.get? ia = some o -> h'.get? ia = some o) -> S i h'
  got : ∀ (X : Cx), X.prog = P -> X.w = w -> X.K = K -> ∀ (i : Nat) (pins : List (Addr × Obj)) (s : Shared) (σ : St) (H : Hp), L2.Inv X pins σ H s -> zbz X pins H ia -> S i s.heap -> (J.go i H \/ J.stop i H) ->
    ∃ fp n Pv Sx, Inner P w ia fp n Pv Sx /\ Sx i s.heap /\ (∀ j h, Sx j h -> S j h) /\ (J.go i H -> i < n) /\ (J.stop i H -> n <= i) /\ (∀ v, Pv i v -> ∃ x, RelV x v /\ J.yld i H x H) /\ ∀ b ∈ fp, Held X H s.heap b
section
variable {P : Program} {w : World} {K : PySem.W.Frag}
theorem zgY {X : Cx} {pins : List (Addr × Obj)} {σ : St} {H : Hp} {s : Shared} {a : Addr} {xs : List V} (I : L2.Inv X pins σ H s) (h : SqT X.K H a xs) : Held X H s.heap a := by
  rcases h with h | ⟨o, its, n, hk, _⟩
  · exact .inl (by rcases h with h | ⟨_, h⟩ <;> (rw [h]; simp))
  · exact .inr ⟨o, I.ok.mod.kin a o hk⟩
theorem zgI {X : Cx} {pins : List (Addr × Obj)} {σ : St} {H : Hp} {s : Shared} {a : Addr} {xs : List V} (I : L2.Inv X pins σ H s) (h : SqL X.K H a xs) : Held X H s.heap a := by
  rcases h with h | ⟨o, its, n, hk, _⟩
  · exact .inl (by rcases h with h | ⟨_, h⟩ <;> (rw [h]; simp))
  · exact .inr ⟨o, I.ok.mod.kin a o hk⟩
theorem zaV {xs : List V} {its : List Value} {i : Nat} {v : Value} (r : Vals xs its) (e : its[i]? = some v) : ∃ x, xs[i]? = some x /\ RelV x v := by
  have hl := r.length
  have hi : i < xs.length := by have := (List.getElem?_eq_some_iff.mp e).1; omega
  obtain ⟨u, g1, g2⟩ := r.get (List.getElem?_eq_getElem hi)
  rw [e] at g1; cases g1
  exact ⟨_, List.getElem?_eq_getElem hi, g2⟩
theorem zh1 (a ia : Addr) : zhC P w K (Itt K a) ia (fun i h => h.IsTupleIter ia a i) where
  obj := fun i h ⟨o, e, c, d⟩ => ⟨o, e, fun v z => by rw [d] at z; cases z⟩
  keep := fun i h h' ⟨o, e, c, d⟩ k => ⟨o, k o e, c, d⟩
  got := by
    intro X hP hw hK i pins s σ H I hf st hg
    subst hP hw hK
    have hs : ∃ xs, SqT X.K H a xs := by
      rcases hg with ⟨xs, x, h, _⟩ | ⟨xs, h, _⟩ <;> exact ⟨xs, h⟩
    obtain ⟨xs, hq⟩ := hs
    obtain ⟨its, rv, p, hz⟩ := I.tuple hq
    have hl := rv.length
    refine ⟨[a], _, _, _, zdE ia a its.toArray ((zgY I hq).far I hf), ⟨st, p⟩, fun j h z => z.1, fun ⟨ys, y, h1, h2⟩ => ?_, fun ⟨ys, h1, h2⟩ => ?_, fun v hv => ?_, fun b hb => ?_⟩
    · have e := I.tuple_inj h1 hq; subst e
      have := (List.getElem?_eq_some_iff.mp h2).1
      simp; omega
    · have e := I.tuple_inj h1 hq; subst e
      simp; omega
    · have hv' : its[i]? = some v := by simpa using hv
      obtain ⟨x, e1, r1⟩ := zaV rv hv'
      exact ⟨x, r1, rfl, fun ys hy => by rw [I.tuple_inj hy hq]; exact e1⟩
    · have : b = a := by simpa using hb
      subst this; exact zgY I hq
theorem zgx (a ia : Addr) : zhC P w K (Itl K a) ia (fun i h => h.IsListIter ia a i) where
  obj := fun i h ⟨o, e, c, d⟩ => ⟨o, e, fun v z => by rw [d] at z; cases z⟩
  keep := fun i h h' ⟨o, e, c, d⟩ k => ⟨o, k o e, c, d⟩
  got := by
    intro X hP hw hK i pins s σ H I hf st hg
    subst hP hw hK
    have hs : ∃ xs, SqL X.K H a xs := by
      rcases hg with ⟨xs, x, h, _⟩ | ⟨xs, h, _⟩ <;> exact ⟨xs, h⟩
    obtain ⟨xs, hq⟩ := hs
    obtain ⟨its, rv, p, hz⟩ := I.list hq
    have hl := rv.length
    refine ⟨[a], _, _, _, zeY ia a its.toArray ((zgI I hq).far I hf), ⟨st, p.isList⟩, fun j h z => z.1, fun ⟨ys, y, h1, h2⟩ => ?_, fun ⟨ys, h1, h2⟩ => ?_, fun v hv => ?_, fun b hb => ?_⟩
    · have e := I.list_inj h1 hq; subst e
      have := (List.getElem?_eq_some_iff.mp h2).1
      simp; omega
    · have e := I.list_inj h1 hq; subst e
      simp; omega
    · have hv' : its[i]? = some v := by simpa using hv
      obtain ⟨x, e1, r1⟩ := zaV rv hv'
      exact ⟨x, r1, rfl, fun ys hy => by rw [I.list_inj hy hq]; exact e1⟩
    · have : b = a := by simpa using hb
      subst this; exact zgI I hq
theorem in_str (x : Str) (t : Tok) (ia : Addr) : zhC P w K (Its x) ia (fun i h => h.IsStrIter ia "str_ascii_iterator" x t i) where
  obj := fun i h ⟨o, e, c, d⟩ => ⟨o, e, fun v z => by rw [d] at z; cases z⟩
  keep := fun i h h' ⟨o, e, c, d⟩ k => ⟨o, k o e, c, d⟩
  got := by
    intro X hP hw hK i pins s σ H I hf st hg
    subst hP hw hK
    refine ⟨[], _, _, _, zeU ia x t, st, fun j h z => z, fun z => z, fun z => z, fun v ⟨c, tk, e, hv⟩ => ?_, fun b hb => by cases hb⟩
    subst hv
    exact ⟨.str ⟨#[c]⟩, ⟨_, rfl⟩, rfl, c, e, rfl⟩
end
def Itw (J1 J2 : It) : It :=
  ⟨fun i H => J1.go i H /\ J2.go i H, fun i H v H' => ∃ p x y, H p = none /\ v = .ref p /\ J1.yld i H x H /\ J2.yld i H y H /\ H' = upd H p (.tup [x, y]), fun i H => J1.stop i H /\ (J2.go i H \/ J2.stop i H) \/ J1.go i H /\ J2.stop i H⟩
def zlE (z t o i j : Addr) (S1 S2 : Nat -> Heap -> Prop) (n : Nat) (h : Heap) : Prop := IsZip h z t o .none /\ IsPair h t (.ref i) (.ref j) /\ (∃ a b, IsPair h o a b) /\ S1 n h /\ S2 n h
theorem zeB {P : Program} {w : World} {K : PySem.W.Frag} {J1 J2 : It} {S1 S2 : Nat -> Heap -> Prop} {es : List Expr} {kt} {pt : Pos} (z t o i j : Addr) (ap : [z, t, o, i, j].Nodup) (N1 : zhC P w K J1 i S1) (N2 : zhC P w K J2 j S2) : zeg P w K (.Tuple es kt pt) (Itw J1 J2) [z, t, o, i, j] z (zlE z t o i j S1 S2) := by
  simp only [List.nodup_cons, List.mem_cons, List.not_mem_nil, or_false, not_or, List.nodup_nil, and_true] at ap
  obtain ⟨⟨a1, a2, a3, a4⟩, ⟨b1, b2, b3⟩, ⟨c1, c2⟩, d1, _⟩ := ap
  have zap : ∀ {X : Cx} {pins : List (Addr × Obj)} {s : Shared} {σ : St} {H : Hp} {fp1 fp2 : List Addr}, L2.Inv X pins σ H s -> (∀ b ∈ [z, t, o, i, j], zbz X pins H b) -> (∀ b ∈ fp1, Held X H s.heap b) -> (∀ b ∈ fp2, Held X H s.heap b) -> ZAp z t o i j fp1 fp2 := fun {X pins s σ H fp1 fp2} I hf h1 h2 =>
    ⟨Ne.symm a1, Ne.symm a2, b1, fun b hb => (List.mem_cons.mp hb).elim (fun e => by rw [e]; exact ⟨Ne.symm a3, Ne.symm c1⟩) fun hb => ⟨(h1 b hb).far I (hf z (by simp)), (h1 b hb).far I (hf o (by simp))⟩,
      fun b hb => (List.mem_cons.mp hb).elim (fun e => by rw [e]; exact ⟨Ne.symm a4, Ne.symm c2⟩) fun hb => ⟨(h2 b hb).far I (hf z (by simp)), (h2 b hb).far I (hf o (by simp))⟩,
      fun hb => (List.mem_cons.mp hb).elim d1 fun hb => (h2 i hb).far I (hf i (by simp)) rfl, fun hb => (List.mem_cons.mp hb).elim (Ne.symm d1) fun hb => (h1 j hb).far I (hf j (by simp)) rfl, b2, b3⟩
  refine ⟨by simp, fun n h st b hb => ?_, fun n h h' st k => ?_, ?_, ?_, fun A n s Q E st q => wpAny_pyIter_zip st.1 q⟩
  · obtain ⟨hz, ht, ⟨a, b', ho⟩, hi, hj⟩ := st
    simp only [List.mem_cons, List.not_mem_nil, or_false] at hb
    rcases hb with rfl | rfl | rfl | rfl | rfl
    · exact ⟨_, hz, fun v e => by cases e⟩
    · exact ⟨_, ht, fun v e => by cases e⟩
    · exact ⟨_, ho, fun v e => by cases e⟩
    · exact N1.obj n h hi
    · exact N2.obj n h hj
  · obtain ⟨hz, ht, ⟨a, b', ho⟩, hi, hj⟩ := st
    exact ⟨k z (by simp) _ hz, k t (by simp) _ ht, ⟨a, b', k o (by simp) _ ho⟩, N1.keep n h h' hi (k i (by simp)), N2.keep n h h' hj (k j (by simp))⟩
  · intro X hP hw hK hc n pins s σ H E I hf st hg
    obtain ⟨g1, g2⟩ := hg
    obtain ⟨hz, ht, ⟨a, b, ho⟩, hi, hj⟩ := st
    obtain ⟨fp1, n1, P1, T1, Z1, s1, u1, go1, st1, y1, f1⟩ := N1.got X hP hw hK n pins s σ H I (hf i (by simp)) hi (.inl g1)
    obtain ⟨fp2, n2, P2, T2, Z2, s2, u2, go2, st2, y2, f2⟩ := N2.got X hP hw hK n pins s σ H I (hf j (by simp)) hj (.inl g2)
    have D := zap I hf f1 f2
    subst hP hw hK
    refine zi3 Z1 Z2 D hz ht ho s1 s2 (go1 g1) (go2 g2) fun x y h' tk px py q1 q2 q3 q4 q5 hk => ⟨_, rfl, ?_⟩
    obtain ⟨vx, rx, yx⟩ := y1 x px
    obtain ⟨vy, ry, yy⟩ := y2 y py
    refine wpAny_letOwnedTupleGo_zip q1 fun h'' e1 e2 => ?_
    have nb : ∀ q ∈ [z, t, o, i, j], s.heap.objs.size ≠ q := fun q hq e => by
      have : ∃ ob, s.heap.get? q = some ob := by
        simp only [List.mem_cons, List.not_mem_nil, or_false] at hq
        rcases hq with rfl | rfl | rfl | rfl | rfl
        · exact ⟨_, hz⟩
        · exact ⟨_, ht⟩
        · exact ⟨_, ho⟩
        · obtain ⟨ob, g, _⟩ := N1.obj n _ hi; exact ⟨_, g⟩
        · obtain ⟨ob, g, _⟩ := N2.obj n _ hj; exact ⟨_, g⟩
      obtain ⟨ob, g⟩ := this
      exact absurd (Heap.lt_size g) (by rw [e]; exact Nat.lt_irrefl _)
    have keep : ∀ c ob, c ∉ [z, t, o, i, j] -> s.heap.get? c = some ob -> h''.get? c = some ob := fun c ob hc e => by
      simp only [List.mem_cons, List.not_mem_nil, or_false, not_or] at hc
      exact e2.extBut _ _ hc.1 (hk c ob hc.1 hc.2.2.1 hc.2.2.2.1 hc.2.2.2.2 e)
    have I1 : L2.Inv X pins σ H { s with heap := h'', toks := tk } := Inv.turns [z, t, o, i, j] I keep hf
    have hnew : h''.get? s.heap.objs.size = some { cls := .type "tuple", data := .seq #[x, y] } := e2.extBut _ _ (nb z (by simp)) q5
    have fr : H s.heap.objs.size = none := I.hok.fresh (Nat.le_refl _)
    have I2 : L2.Inv X pins σ (upd H s.heap.objs.size (.tup [vx, vy])) { s with heap := h'', toks := tk } := by
      have un : Un (frs X.stack) [z, t, o, i, j] H (upd H s.heap.objs.size (.tup [vx, vy])) s.heap h'' := by
        refine ⟨fun c ob e _ _ hc => keep c ob hc e, fun c ob e _ _ hc => ⟨ob.slots, keep c ob hc e⟩, fun c ob e hn _ => ?_, fun c ob e hc => ⟨ob, keep c ob hc e⟩, fun c zs e => ?_, fun c ob u e => ?_, fun c ps e => ⟨#[], ?_⟩⟩
        · rw [z4O (Nat.ne_of_lt (Heap.lt_size e))]; exact hn
        · rw [z4O (z4U e fr)]; exact e
        · rw [z4O (z4U e fr)]; exact e
        · rw [z4O (z4U e fr), e]; simp
      have hok : HOk X.prog X.w (upd H s.heap.objs.size (.tup [vx, vy])) h'' := by
        intro c u' e
        by_cases hc : c = s.heap.objs.size
        · subst hc
          rw [z54] at e; cases e
          exact ⟨by show 2 <= sizeLine; decide, [x, y], .cons rx (.cons ry .nil), ⟨_, hnew, rfl, _, rfl⟩⟩
        · rw [z4O hc] at e
          refine (I1.hok c u' e).stay (fun _ _ _ q => q) (fun p q => ?_) fun p zs q => ?_
          · by_cases hp : p = s.heap.objs.size
            · subst hp; rw [fr] at q; cases q
            · rw [z4O hp]; exact q
          · by_cases hp : p = s.heap.objs.size
            · subst hp; rw [fr] at q; cases q
            · rw [z4O hp]; exact q
      exact I.call (t' := tk) (d' := s.drawn) un hok I.bare fun b hb => let ⟨_, f1, _, f3, f4, f5⟩ := hf b hb; ⟨f3, f1, f4, f5⟩
    refine ⟨.ref s.heap.objs.size, _, I2, rfl, ⟨_, vx, vy, fr, rfl, yx, yy, rfl⟩, ⟨e1, ?_, ⟨_, _, e2.extBut _ _ D.a2 q2⟩, ?_, ?_⟩, fun b hb => ?_⟩
    · exact e2.extBut _ _ D.a1 (hk _ _ D.a1 D.a3 D.d1 D.d2 ht)
    · exact u1 _ _ (Z1.but q3 e2.extBut fun b hb => (D.b1 b hb).1)
    · exact u2 _ _ (Z2.but q4 e2.extBut fun b hb => (D.b2 b hb).1)
    · rw [z4O (Ne.symm (nb b hb))]; exact (hf b hb).1
  · intro X hP hw hK hc n pins s σ H E I hf st hg
    obtain ⟨hz, ht, ⟨a, b, ho⟩, hi, hj⟩ := st
    have k1 : J1.go n H \/ J1.stop n H := hg.elim (fun z => .inr z.1) fun z => .inl z.1
    have k2 : J2.go n H \/ J2.stop n H := hg.elim (fun z => z.2) fun z => .inr z.2
    obtain ⟨fp1, n1, P1, T1, Z1, s1, u1, go1, st1, y1, f1⟩ := N1.got X hP hw hK n pins s σ H I (hf i (by simp)) hi k1
    obtain ⟨fp2, n2, P2, T2, Z2, s2, u2, go2, st2, y2, f2⟩ := N2.got X hP hw hK n pins s σ H I (hf j (by simp)) hj k2
    have D := zap I hf f1 f2
    subst hP hw hK
    refine ziD (I.ok.hd hc) Z1 Z2 D hz ht ho s1 s2 (hg.elim (fun q => .inl (st1 q.1)) fun q => .inr ⟨go1 q.1, st2 q.2⟩) fun h' tk hk => ⟨rfl, ?_⟩
    refine Inv.turns (t' := tk) [z, t, o, i, j] I (fun c ob hc e => ?_) hf
    simp only [List.mem_cons, List.not_mem_nil, or_false, not_or] at hc
    exact hk c ob hc.1 hc.2.2.1 hc.2.2.2.1 hc.2.2.2.2 e
end DL
namespace DL
open PySem L2
def zkD : D -> Option Src
  | .lst ds => some (.val ds)
  | .own k => some (.own k)
  | .tup ds => some (.val ds)
  | .str cs => if cs.all (· < 128) = true then some (.val (cs.map fun c => .str [c])) else none
  | _ => none
def zhE (t : DA) : DI := fun σ O => (t σ O).bnd fun xs O1 => match xs with
  | [x, y] => match zkD x, zkD y with
    | some p, some q => .ok (.zip p q) O1
    | _, _ => .bad
  | _ => .bad
theorem SrcAt.zipW {K : PySem.W.Frag} {J1 J2 : It} {s1 s2 : Src} {H : Hp} {hid μ : List Addr} (h1 : SrcAt K J1 s1 H hid μ) (h2 : SrcAt K J2 s2 H hid μ) : SrcAt K (Itw J1 J2) (.zip s1 s2) H hid μ := by
  intro hid' H' μ' O' m c i
  have q1 := h1 hid' H' μ' O' m c i
  have q2 := h2 hid' H' μ' O' m c i
  show match (match s1.get O' i, s2.get O' i with | some x, some y => some (D.tup [x, y]) | _, _ => none) with | some d => _ | none => _
  cases e1 : s1.get O' i with
  | none =>
    rw [e1] at q1
    refine .inl ⟨q1, ?_⟩
    cases e2 : s2.get O' i with
    | none => rw [e2] at q2; exact .inr q2
    | some d => rw [e2] at q2; exact .inl q2.1
  | some d1 =>
    rw [e1] at q1
    cases e2 : s2.get O' i with
    | none => rw [e2] at q2; exact .inr ⟨q1.1, q2⟩
    | some d2 =>
      rw [e2] at q2
      refine ⟨⟨q1.1, q2.1⟩, fun v H'' yl => ?_⟩
      obtain ⟨p, x, y, hp, rfl, y1, y2, rfl⟩ := yl
      exact ⟨.laid hp, c.laid hp, Dat.newT c hp (.cons (q1.2 x H' y1).2.2 (.cons (q2.2 y H' y2).2.2 .nil))⟩
section
variable {X : Cx} {Ex : Nat -> Hp -> Prop} {pos : Pos} {a b c e o : Expr} {ta tb tc te to : DE} {pins : List (Addr × Obj)} {σv : St} {H : Hp} {s : Shared} {hid μ : List Addr} {O : Ow}
theorem zjl {d : D} {v : V} {u : Value} {src : Src} (I : L2.Inv X pins σv H s) (c : Cells X.K H hid μ O) (h : Dat X.K H hid μ d v) (r : RelV v u) (e : zkD d = some src) :
    ∃ (k : ZK) (J : It), k.val = u /\ k.pre s.heap /\ SrcAt X.K J src H hid μ /\ ∀ ia, ∃ S, zhC X.prog X.w X.K J ia S /\ ∀ h : Heap, h.get? ia = some k.obj -> S 0 h := by
  cases d with
  | lst ds =>
    unfold Dat at h
    obtain ⟨q, vs, rfl, l, dd⟩ := h
    cases e; cases r
    obtain ⟨its, _, p, _⟩ := I.list l.sq
    exact ⟨.lst q its.toArray, _, rfl, p.isList, .val l dd, fun ia => ⟨_, zgx q ia, fun h z => ⟨_, z, rfl, rfl⟩⟩⟩
  | own k =>
    unfold Dat at h
    obtain ⟨q, rfl, hk⟩ := h
    cases e; cases r
    obtain ⟨ds, vs, h1, h2, h3⟩ := c.at_ k q hk
    obtain ⟨its, _, p, _⟩ := I.list (a := q) (xs := vs) (.of h2)
    exact ⟨.lst q its.toArray, _, rfl, p.isList, .own hk, fun ia => ⟨_, zgx q ia, fun h z => ⟨_, z, rfl, rfl⟩⟩⟩
  | tup ds =>
    unfold Dat at h
    obtain ⟨q, vs, rfl, l, dd⟩ := h
    cases e; cases r
    obtain ⟨its, _, p, _⟩ := I.tuple l.sq
    exact ⟨.tup q its.toArray, _, rfl, p, .tup l dd, fun ia => ⟨_, zh1 q ia, fun h z => ⟨_, z, rfl, rfl⟩⟩⟩
  | str cs =>
    unfold Dat at h
    subst h
    obtain ⟨t, rfl⟩ := r
    have e' : (if cs.all (· < 128) = true then some (Src.val (cs.map fun c => D.str [c])) else none) = some src := e
    by_cases ha : cs.all (· < 128) = true
    · rw [if_pos ha] at e'
      cases e'
      refine ⟨.str ⟨cs.toArray⟩ t, _, rfl, ?_, .str, fun ia => ⟨_, in_str _ t ia, fun h z => ⟨_, z, rfl, rfl⟩⟩⟩
      show cs.toArray.all (· < 128) = true
      simpa using ha
    · rw [if_neg ha] at e'; cases e'
  | _ => cases e
theorem zgl {es' : List Expr} {kt} {pt : Pos} {t : DA} {p : Pos} (hg : Gl X "zip") (hm : X.mg "zip" = none) (ha : PDA X Ex [a, b] t) (hs : starEach [a, b] X.env = [(false, eval a X.env), (false, eval b X.env)] := by rfl) (hs2 : starEach [b] X.env = [(false, eval b X.env)] := by rfl) :
    PDI X Ex (.Tuple es' kt pt) (.Call (.Name "zip" p) [a, b] [] pos) (zhE t) := by
  refine ⟨?_⟩
  rintro pins s σv H Rr I ⟨hid, μ, σ, O, e1, c1, q⟩
  refine PyProof.Rows.Call_ (z9D I hg hm zgw (PyProof.Rows.callWith_type1 (thn (ha.out pos pins s σv H _ I (rdA.go e1 c1 q (Q1 := fun vs H1 => ∃ hid μ1 O1 ds, Cells X.K H1 hid μ1 O1 /\ Dats X.K H1 hid μ1 ds vs /\
      post Ex X.K (fun H' μ' s J => SrcAt X.K J s H' hid μ') H1 hid μ1 (match ds with | [x, y] => (match zkD x, zkD y with | some p, some q => .ok (.zip p q) O1 | _, _ => .bad) | _ => .bad) Rr)
    fun ds O1 vs H1 μ1 e2 x cl d p => ⟨hid, μ1, O1, ds, cl, d, p⟩)) fun us s1 ⟨vs, H1, I1, r1, hid, μ1, O1, ds, cl, d, p⟩ => ?_) (by rw [hs, hs2]) (by rw [hs2]; rfl)))
  split at p
  · rename_i x y
    split at p
    · rename_i sp sq e1 e2
      obtain ⟨v, w, rfl, dx, dy⟩ := zd3 d
      obtain ⟨u1, u2, rfl, ru1, ru2⟩ := zbM r1
      obtain ⟨k1, J1, v1, p1, t1, i1⟩ := zjl I1 cl dx ru1 e1
      obtain ⟨k2, J2, v2, p2, t2, i2⟩ := zjl I1 cl dy ru2 e2
      rw [<- v1, <- v2]
      refine zeG k1 k2 p1 p2 fun h' g5 g3 g4 g1 g2 hk => ?_
      refine wpAny_pyIter_zip g5 ?_
      have I2 : L2.Inv X pins σv H1 { s1 with heap := h', toks := s1.toks } := I1.kept hk
      obtain ⟨S1, N1, z1⟩ := i1 s1.heap.objs.size
      obtain ⟨S2, N2, z2⟩ := i2 (s1.heap.objs.size + 1)
      refine ⟨s1.heap.objs.size + 4, [s1.heap.objs.size + 4, s1.heap.objs.size + 2, s1.heap.objs.size + 3, s1.heap.objs.size, s1.heap.objs.size + 1], _, _, H1, rfl, I2, zeB _ _ _ _ _ ?_ N1 N2, ⟨g5, g3, ⟨_, _, g4⟩, z1 _ g1, z2 _ g2⟩, fun b hb => ?_, post.here p cl (.zipW t1 t2)⟩
      · have nn : ∀ (n : Addr), [n + 4, n + 2, n + 3, n, n + 1].Nodup := fun n => by
          simp only [List.nodup_cons, List.mem_cons, List.not_mem_nil, or_false, not_or, List.nodup_nil, and_true]
          refine ⟨⟨?_, ?_, ?_, ?_⟩, ⟨?_, ?_, ?_⟩, ⟨?_, ?_⟩, ?_, not_false⟩ <;> simp [Addr] at * <;> omega
        exact nn _
      · have hb' : s1.heap.objs.size <= b := by
          simp only [List.mem_cons, List.not_mem_nil, or_false] at hb
          rcases hb with rfl | rfl | rfl | rfl | rfl <;> omega
        exact I1.fpOk (H' := H1) hb' (I1.hok.fresh hb')
    · exact False.elim p
  · exact False.elim p
end
end DL
namespace DL
open PySem L2
open AutoSeq1 (wpAny_loadPart')
set_option maxHeartbeats 1000000 in
theorem zfd (tt : Addr) (items : Array Value) (nn : Nat) (dct : Option Addr) (sl : Array (Option Value)) :
    Meets (Builtin.«enumerate.__new__» ⟨[.type "enumerate", .ref tt], []⟩) (fun _ R s => s.heap.get? tt = some { cls := .type "tuple", dict := dct, data := .seq items nn, slots := sl } /\
      R (.ok (.ret (.ref (s.heap.push (ZK.tup tt items).obj).objs.size))) { s with heap := (s.heap.push (ZK.tup tt items).obj).push { cls := .type "enumerate", data := .fields #[.none, .bool false, .ref s.heap.objs.size, rawInt 0, .none, .none] } }) :=
  .of_wp fun P w A R s h => by
    obtain ⟨hp, g, d, tk, os⟩ := s; obtain ⟨hl, h⟩ := h
    have hsub := sub_enumerate
    have hT : Heap.IsTuple (Shared.heap ⟨hp, g, d, tk, os⟩) tt items := ⟨_, hl, rfl, nn, rfl⟩
    wp_walk using wpAny_loadPart' hl
    refine wpAny_stack_any fun st => wpAny_pure (?_)
    split
    · rename_i cc _ _ _ _ _
      cases (cc == Value.type "enumerate")
      · wp_walk using wpAny_loadPart' hl, wpAny_pyIter_tuple hT
        exact ⟨_, rfl, h⟩
      · wp_walk using wpAny_loadPart' hl, wpAny_pyIter_tuple hT
        exact ⟨_, rfl, h⟩
    · wp_walk using wpAny_loadPart' hl, wpAny_pyIter_tuple hT
      exact ⟨_, rfl, h⟩
section
variable {P : Program} {w : World} {A : Around} {E : Value -> Shared -> Prop} {s : Shared}
theorem zdg {tt : Addr} {items : Array Value} {Q : Value -> Shared -> Prop} (hT : s.heap.IsTuple tt items)
    (h : ∀ h', IsEnum h' (s.heap.objs.size + 1) s.heap.objs.size 0 .none -> h'.get? s.heap.objs.size = some (ZK.tup tt items).obj -> (∀ b o, s.heap.get? b = some o -> h'.get? b = some o) -> Q (.ref (s.heap.objs.size + 1)) { s with heap := h' }) :
    wpAny (model P w) A (call (.type "enumerate") [.ref tt]) Q E s := by
  obtain ⟨⟨cc, dct, dt, sl⟩, hl, hc, nn, hd⟩ := hT
  have hc : cc = .type "tuple" := hc
  have hd : dt = .seq items nn := hd
  subst hc; subst hd
  refine callType_new F.called_enumerate (by decide) (F.typeCall_enumerate_1 _) (F.newCall_enumerate_1 _) (fun obj => F.args_object_init_2 obj _) F.entry_enumerate_new (zfd tt items nn dct sl) ⟨hl, ?_⟩
  have hz : (s.heap.push (ZK.tup tt items).obj).objs.size = s.heap.objs.size + 1 := Heap.size_push ..
  show _ /\ _
  rw [hz]
  have he : IsEnum ((s.heap.push (ZK.tup tt items).obj).push { cls := .type "enumerate", data := .fields #[.none, .bool false, .ref s.heap.objs.size, rawInt 0, .none, .none] }) (s.heap.objs.size + 1) s.heap.objs.size 0 .none := by
    have q := Heap.get?_push_size (s.heap.push (ZK.tup tt items).obj) (o := { cls := .type "enumerate", data := .fields #[.none, .bool false, .ref s.heap.objs.size, rawInt 0, .none, .none] }) rfl
    rw [hz] at q; exact q
  exact ⟨⟨_, he, rfl⟩, h _ he (Heap.get?_push_of_some _ (Heap.get?_push_size _ rfl)) fun b o x => Heap.get?_push_of_some _ (Heap.get?_push_of_some _ x)⟩
variable {ea ia : Addr} {fp : List Addr} {n k : Nat} {Pv : Nat -> Value -> Prop} {Sx : Nat -> Heap -> Prop} {old : Value}
theorem zfv {Q : Option Value -> Shared -> Prop} (J : Inner P w ia fp n Pv Sx) (he : IsEnum s.heap ea ia (k : Nat) old) (hx : Sx k s.heap) (hk : k < n) (ne : ∀ b ∈ ia :: fp, b ≠ ea)
    (hq : ∀ x h' tk ti, Pv k x -> IsEnumOut h' ea ia ((k : Int) + 1) x s.heap.objs.size -> Sx (k + 1) h' -> h'.get? s.heap.objs.size = some { cls := .type "tuple", data := .seq #[.int (k : Nat) ti, x] } -> (∀ b o, b ≠ ea -> b ≠ ia -> s.heap.get? b = some o -> h'.get? b = some o) -> Q (some (.ref s.heap.objs.size)) { s with heap := h', toks := tk }) :
    wpAny (model P w) A (pyNext (.ref ea)) Q E s := by
  have ht : s.TypeIs (.ref ea) "enumerate" := ⟨_, he, rfl⟩
  have nia : ea ≠ ia := Ne.symm (ne ia List.mem_cons_self)
  unfold pyNext
  refine wpAny_bind (wpAny_attempt (wpAny_callSpecial?_slot (name := "__next__") ht F.slot_enumerate_next (wpAny_call_entry F.slot_enumerate_next ht F.entry_enumerate_next ?_ (F.args_enumerate_next_1 _))))
  obtain ⟨hp, g, d, tk, os⟩ := s
  show wpAny _ _ (field (.ref ea) 2 >>= _) _ _ _
  refine wpAny_bind (wpAny_field he rfl (x := .ref ia) rfl (wpAny_bind (J.item _ k _ _ _ hk hx fun x h1 tk1 px sx1 s1 => ?_)))
  have s1 : Heap.SameBut ia hp h1 := s1
  have e1 : IsEnum h1 ea ia (k : Nat) old := (s1.2 ea nia).trans he
  show wpAny _ _ (field (.ref ea) 3 >>= _) _ _ ⟨h1, g, d, tk1, os⟩
  refine wpAny_bind (wpAny_field e1 rfl (x := rawInt (k : Nat)) rfl ?_)
  show wpAny _ _ (field (.ref ea) 4 >>= _) _ _ ⟨h1, g, d, tk1, os⟩
  refine wpAny_bind (wpAny_field e1 rfl (x := (.none)) rfl ?_)
  show wpAny _ _ (mkInt (k : Nat) >>= _) _ _ ⟨h1, g, d, tk1, os⟩
  refine wpAny_bind (wpAny_mkInt ?_)
  show wpAny _ _ (setField (.ref ea) 3 (rawInt ((k : Int) + 1)) >>= _) _ _ ⟨h1, g, d, tk1 + 1, os⟩
  refine wpAny_bind (wpAny_setField_rec e1 (by simp) fun h2 e2 s2 => ?_)
  have s2 : Heap.SameBut ea h1 h2 := s2
  have e2 : IsEnum h2 ea ia ((k : Int) + 1) old := e2
  show wpAny _ _ (setField (.ref ea) 4 .none >>= _) _ _ ⟨h2, g, d, tk1 + 1, os⟩
  refine wpAny_bind (wpAny_setField_rec e2 (by simp) fun h3 e3 s3 => ?_)
  have s3 : Heap.SameBut ea h2 h3 := s3
  have e3 : IsEnum h3 ea ia ((k : Int) + 1) old := e3
  show wpAny _ _ (newTuple [.int (k : Nat) tk1, x] >>= _) _ _ ⟨h3, g, d, tk1 + 1, os⟩
  refine wpAny_bind (wpAny_newTuple ?_)
  have e4 : IsEnum (h3.push { cls := .type "tuple", data := .seq #[.int (k : Nat) tk1, x] }) ea ia ((k : Int) + 1) old := Heap.get?_push_of_some _ e3
  have hsz : h3.objs.size = hp.objs.size := by rw [s3.1, s2.1, s1.1]
  have hel : ea < hp.objs.size := Heap.lt_size he
  have t4 : (h3.push { cls := .type "tuple", data := .seq #[.int (k : Nat) tk1, x] }).get? hp.objs.size = some { cls := .type "tuple", data := .seq #[.int (k : Nat) tk1, x] } := by rw [<- hsz]; exact Heap.get?_push_size _ rfl
  have k4 : ∀ b o, b ≠ ea -> b ≠ ia -> hp.get? b = some o -> (h3.push { cls := .type "tuple", data := .seq #[.int (k : Nat) tk1, x] }).get? b = some o := fun b o q1 q2 z => Heap.get?_push_of_some _ (s3.extBut b o q1 (s2.extBut b o q1 (s1.extBut b o q2 z)))
  have x4 : Sx (k + 1) (h3.push { cls := .type "tuple", data := .seq #[.int (k : Nat) tk1, x] }) := J.stab _ _ _ (J.but (J.but sx1 s2.extBut ne) s3.extBut ne) fun b _ o z => Heap.get?_push_of_some _ z
  generalize h3.push { cls := .type "tuple", data := .seq #[.int (k : Nat) tk1, x] } = h4 at e4 t4 k4 x4
  show wpAny _ _ (Builtin.SmallTypes.ownedTupleIsFree (.ref ea) >>= _) _ _ ⟨h4, g, d, tk1 + 1, os⟩
  rw [hsz]
  refine wpAny_bind ?_; unfold Builtin.SmallTypes.ownedTupleIsFree
  refine wpAny_bind (wpAny_field e4 rfl (x := (.none)) rfl (wpAny_pure ?_))
  simp only [if_true]; refine wpAny_bind (wpAny_rule (wpAny_bind (wpAny_field e4 rfl (x := old) rfl (wpAny_bind (wpAny_setField_rec e4 (by simp) fun h5 e5 s5 => ?_)))))
  have s5 : Heap.SameBut ea h4 h5 := s5
  have e5 : IsEnum h5 ea ia ((k : Int) + 1) x := e5
  show wpAny _ _ (Builtin.SmallTypes.ownedTupleHandOut (.ref ea) (.ref hp.objs.size) >>= _) _ _ ⟨h5, g, d, tk1 + 1, os⟩
  refine wpAny_bind ?_; unfold Builtin.SmallTypes.ownedTupleHandOut
  refine wpAny_bind (wpAny_setField_rec e5 (by simp) fun h6 e6 s6 => ?_)
  have s6 : Heap.SameBut ea h5 h6 := s6
  have e6 : IsEnumOut h6 ea ia ((k : Int) + 1) x hp.objs.size := e6
  refine wpAny_setField_rec e6 (by simp) fun h7 e7 s7 => ?_
  have s7 : Heap.SameBut ea h6 h7 := s7
  have e7 : IsEnumOut h7 ea ia ((k : Int) + 1) x hp.objs.size := e7
  refine wpAny_bind (wpAny_letGo (wpAny_pure ⟨_, rfl, wpAny_pure (hq x h7 _ tk1 px e7 (J.but (J.but (J.but x4 s5.extBut ne) s6.extBut ne) s7.extBut ne) ?_ fun b o q1 q2 z => s7.extBut b o q1 (s6.extBut b o q1 (s5.extBut b o q1 (k4 b o q1 q2 z))))⟩))
  exact s7.extBut _ _ (Nat.ne_of_gt hel) (s6.extBut _ _ (Nat.ne_of_gt hel) (s5.extBut _ _ (Nat.ne_of_gt hel) t4))
theorem zhM {Q : Option Value -> Shared -> Prop} (hh : A.handled = none) (J : Inner P w ia fp n Pv Sx) (he : IsEnum s.heap ea ia (k : Nat) old) (hx : Sx k s.heap) (hk : n <= k) (hq : ∀ h', Heap.ExtBut ia s.heap h' -> Q none { s with heap := h' }) : wpAny (model P w) A (pyNext (.ref ea)) Q E s := by
  have ht : s.TypeIs (.ref ea) "enumerate" := ⟨_, he, rfl⟩
  unfold pyNext
  refine wpAny_bind (wpAny_attempt (wpAny_callSpecial?_slot (name := "__next__") ht F.slot_enumerate_next (wpAny_call_entry F.slot_enumerate_next ht F.entry_enumerate_next ?_ (F.args_enumerate_next_1 _))))
  show wpAny _ _ (field (.ref ea) 2 >>= _) _ _ _
  refine wpAny_bind (wpAny_field he rfl (x := .ref ia) rfl (wpAny_bind (J.done _ k _ _ _ hh hk hx fun h' e eb hs => ?_)))
  obtain ⟨oe, ho, hc⟩ := hs
  exact wpAny_bind (wpAny_isInstance (T := "StopIteration") (b := true) ⟨oe, ho, hc⟩ isSubtype_stop (wpAny_pure (hq _ eb)))
end
end DL
namespace DL
open PySem L2
def Ite (J : It) : It := ⟨J.go, fun i H v H' => ∃ p x, H p = none /\ v = .ref p /\ J.yld i H x H /\ H' = upd H p (.tup [.int (i : Nat), x]), J.stop⟩
def zls (ea ia : Addr) (S : Nat -> Heap -> Prop) (n : Nat) (h : Heap) : Prop := (∃ old, IsEnum h ea ia (n : Nat) old) /\ S n h
theorem zeI {P : Program} {w : World} {K : PySem.W.Frag} {J : It} {S : Nat -> Heap -> Prop} {es : List Expr} {kt} {pt : Pos} (ea ia : Addr) (ap : ea ≠ ia) (N : zhC P w K J ia S) (hself : ∀ (A : Around) (n : Nat) (s : Shared) (Q E : Value -> Shared -> Prop), (∃ old, IsEnum s.heap ea ia (n : Nat) old) -> Q (.ref ea) s -> wpAny (model P w) A (pyIter (.ref ea)) Q E s) : zeg P w K (.Tuple es kt pt) (Ite J) [ea, ia] ea (zls ea ia S) := by
  refine ⟨by simp, fun n h st b hb => ?_, fun n h h' st k => ?_, ?_, ?_, fun A n s Q E st q => hself A n s Q E st.1 q⟩
  · obtain ⟨⟨old, he⟩, hi⟩ := st
    simp only [List.mem_cons, List.not_mem_nil, or_false] at hb
    rcases hb with rfl | rfl
    · exact ⟨_, he, fun v e => by cases e⟩
    · exact N.obj n h hi
  · obtain ⟨⟨old, he⟩, hi⟩ := st
    exact ⟨⟨old, k ea (by simp) _ he⟩, N.keep n h h' hi (k ia (by simp))⟩
  · intro X hP hw hK hc n pins s σ H E I hf st hg
    have hg : J.go n H := hg
    obtain ⟨⟨old, he⟩, hi⟩ := st
    obtain ⟨fp, m, Pv, T, Z, s1, u1, go1, st1, y1, f1⟩ := N.got X hP hw hK n pins s σ H I (hf ia (by simp)) hi (.inl hg)
    subst hP hw hK
    have ne : ∀ b ∈ ia :: fp, b ≠ ea := fun b hb => (List.mem_cons.mp hb).elim (fun e => by rw [e]; exact Ne.symm ap) fun hb => (f1 b hb).far I (hf ea (by simp))
    refine zfv Z he s1 (go1 hg) ne fun x h' tk tki px q1 q2 q3 hk => ⟨_, rfl, ?_⟩
    obtain ⟨vx, rx, yx⟩ := y1 x px
    refine wpAny_letOwnedTupleGo_enum q1 fun h'' e1 e2 => ?_
    have nb : ∀ q ∈ [ea, ia], s.heap.objs.size ≠ q := fun q hq e => by
      have : ∃ ob, s.heap.get? q = some ob := by
        simp only [List.mem_cons, List.not_mem_nil, or_false] at hq
        rcases hq with rfl | rfl
        · exact ⟨_, he⟩
        · obtain ⟨ob, g, _⟩ := N.obj n _ hi; exact ⟨_, g⟩
      obtain ⟨ob, g⟩ := this
      exact absurd (Heap.lt_size g) (by rw [e]; exact Nat.lt_irrefl _)
    have keep : ∀ c ob, c ∉ [ea, ia] -> s.heap.get? c = some ob -> h''.get? c = some ob := fun c ob hc e => by
      simp only [List.mem_cons, List.not_mem_nil, or_false, not_or] at hc
      exact e2.extBut _ _ hc.1 (hk c ob hc.1 hc.2 e)
    have I1 : L2.Inv X pins σ H { s with heap := h'', toks := tk } := Inv.turns [ea, ia] I keep hf
    have hnew : h''.get? s.heap.objs.size = some { cls := .type "tuple", data := .seq #[.int (n : Nat) tki, x] } := e2.extBut _ _ (nb ea (by simp)) q3
    have fr : H s.heap.objs.size = none := I.hok.fresh (Nat.le_refl _)
    have I2 : L2.Inv X pins σ (upd H s.heap.objs.size (.tup [.int (n : Nat), vx])) { s with heap := h'', toks := tk } := by
      have un : Un (frs X.stack) [ea, ia] H (upd H s.heap.objs.size (.tup [.int (n : Nat), vx])) s.heap h'' := by
        refine ⟨fun c ob e _ _ hc => keep c ob hc e, fun c ob e _ _ hc => ⟨ob.slots, keep c ob hc e⟩, fun c ob e hn _ => ?_, fun c ob e hc => ⟨ob, keep c ob hc e⟩, fun c zs e => ?_, fun c ob u e => ?_, fun c ps e => ⟨#[], ?_⟩⟩
        · rw [z4O (Nat.ne_of_lt (Heap.lt_size e))]; exact hn
        · rw [z4O (z4U e fr)]; exact e
        · rw [z4O (z4U e fr)]; exact e
        · rw [z4O (z4U e fr), e]; simp
      have hok : HOk X.prog X.w (upd H s.heap.objs.size (.tup [.int (n : Nat), vx])) h'' := by
        intro c u' e
        by_cases hc : c = s.heap.objs.size
        · subst hc
          rw [z54] at e; cases e
          exact ⟨by show 2 <= sizeLine; decide, [.int (n : Nat) tki, x], .cons ⟨_, rfl⟩ (.cons rx .nil), ⟨_, hnew, rfl, _, rfl⟩⟩
        · rw [z4O hc] at e
          refine (I1.hok c u' e).stay (fun _ _ _ q => q) (fun p q => ?_) fun p zs q => ?_
          · by_cases hp : p = s.heap.objs.size
            · subst hp; rw [fr] at q; cases q
            · rw [z4O hp]; exact q
          · by_cases hp : p = s.heap.objs.size
            · subst hp; rw [fr] at q; cases q
            · rw [z4O hp]; exact q
      exact I.call (t' := tk) (d' := s.drawn) un hok I.bare fun b hb => let ⟨_, f1, _, f3, f4, f5⟩ := hf b hb; ⟨f3, f1, f4, f5⟩
    refine ⟨.ref s.heap.objs.size, _, I2, rfl, ⟨_, vx, fr, rfl, yx, rfl⟩, ⟨⟨_, by exact_mod_cast e1⟩, ?_⟩, fun b hb => ?_⟩
    · exact u1 _ _ (Z.but q2 e2.extBut ne)
    · rw [z4O (Ne.symm (nb b hb))]; exact (hf b hb).1
  · intro X hP hw hK hc n pins s σ H E I hf st hg
    have hg : J.stop n H := hg
    obtain ⟨⟨old, he⟩, hi⟩ := st
    obtain ⟨fp, m, Pv, T, Z, s1, u1, go1, st1, y1, f1⟩ := N.got X hP hw hK n pins s σ H I (hf ia (by simp)) hi (.inr hg)
    subst hP hw hK
    refine zhM (I.ok.hd hc) Z he s1 (st1 hg) fun h' eb => ⟨rfl, ?_⟩
    refine Inv.turns (t' := s.toks) [ea, ia] I (fun c ob hc e => ?_) hf
    simp only [List.mem_cons, List.not_mem_nil, or_false, not_or] at hc
    exact eb c ob hc.2 e
def z9i (ds : List D) : List D := ds.zipIdx.map fun q => .tup [.int (q.2 : Nat), q.1]
theorem zat (ds : List D) (i : Nat) : (z9i ds)[i]? = (ds[i]?).map fun d => D.tup [.int (i : Nat), d] := by
  unfold z9i
  rw [List.getElem?_map, List.getElem?_zipIdx]
  cases ds[i]? <;> simp
theorem SrcAt.enum {K : PySem.W.Frag} {J : It} {ds : List D} {H : Hp} {hid μ : List Addr} (h1 : SrcAt K J (.val ds) H hid μ) : SrcAt K (Ite J) (.val (z9i ds)) H hid μ := by
  intro hid' H' μ' O' m c i
  have q1 : match ds[i]? with | some d => J.go i H' /\ ∀ x H'', J.yld i H' x H'' -> Ext H' μ' H'' μ' /\ Cells K H'' hid' μ' O' /\ Dat K H'' hid' μ' d x | none => J.stop i H' := h1 hid' H' μ' O' m c i
  show match (z9i ds)[i]? with | some d => _ | none => _
  rw [zat]
  cases e1 : ds[i]? with
  | none => rw [e1] at q1; exact q1
  | some d1 =>
    rw [e1] at q1
    refine ⟨q1.1, fun v H'' yl => ?_⟩
    obtain ⟨p, x, hp, rfl, y1, rfl⟩ := yl
    exact ⟨.laid hp, c.laid hp, Dat.newT c hp (.cons z5v (.cons (q1.2 x H' y1).2.2 .nil))⟩
def zfk (t : DA) : DI := fun σ O => (t σ O).bnd fun xs O1 => match xs with
  | [.tup ds] => .ok (.val (z9i ds)) O1
  | _ => .bad
section
variable {X : Cx} {Ex : Nat -> Hp -> Prop} {pos : Pos} {a b c e o : Expr} {ta tb tc te to : DE} {pins : List (Addr × Obj)} {σv : St} {H : Hp} {s : Shared} {hid μ : List Addr} {O : Ow}
theorem zet : bootBuiltins "enumerate" = some (.type "enumerate") := by boot_by_name
theorem zb0 {P : Program} {w : World} (ea ia : Addr) (A : Around) (n : Nat) (s : Shared) (Q E : Value -> Shared -> Prop) (h : ∃ old, IsEnum s.heap ea ia (n : Nat) old) (q : Q (.ref ea) s) : wpAny (model P w) A (pyIter (.ref ea)) Q E s := by
  obtain ⟨old, h⟩ := h
  have ht : s.TypeIs (.ref ea) "enumerate" := ⟨_, h, rfl⟩
  refine wpAny_pyIter_slot ht F.slot_enumerate_iter (wpAny_call_entry F.slot_enumerate_iter ht F.entry_enumerate_iter ?_ (F.args_enumerate_iter_1 _))
  show wpAny _ _ (ret (.ref ea)) _ _ s
  exact wpAny_pure ⟨_, rfl, "enumerate", _, ht, F.slot_enumerate_next.lookup, q⟩
theorem zeH {es' : List Expr} {kt} {pt : Pos} {t : DA} {p : Pos} (hg : Gl X "enumerate") (hm : X.mg "enumerate" = none) (ha : PDA X Ex [a] t) (hs : starEach [a] X.env = [(false, eval a X.env)] := by rfl) :
    PDI X Ex (.Tuple es' kt pt) (.Call (.Name "enumerate" p) [a] [] pos) (zfk t) := by
  refine ⟨?_⟩
  rintro pins s σv H Rr I ⟨hid, μ, σ, O, e1, c1, q⟩
  refine PyProof.Rows.Call_ (z9D I hg hm zet (PyProof.Rows.callWith_type1 (thn (ha.out pos pins s σv H _ I (rdA.go e1 c1 q (Q1 := fun vs H1 => ∃ hid μ1 O1 ds, Cells X.K H1 hid μ1 O1 /\ Dats X.K H1 hid μ1 ds vs /\
      post Ex X.K (fun H' μ' s J => SrcAt X.K J s H' hid μ') H1 hid μ1 (match ds with | [.tup ds] => .ok (.val (z9i ds)) O1 | _ => .bad) Rr)
    fun ds O1 vs H1 μ1 e2 x cl d p => ⟨hid, μ1, O1, ds, cl, d, p⟩)) fun us s1 ⟨vs, H1, I1, r1, hid, μ1, O1, ds, cl, d, p⟩ => ?_) (by rw [hs]; rfl) (by rfl)))
  split at p
  · rename_i ts
    unfold Dats at d
    obtain ⟨v, r, rfl, dx, dn⟩ := d
    unfold Dats at dn
    subst dn
    unfold Dat at dx
    obtain ⟨tt, vs1, rfl, l, dd⟩ := dx
    obtain ⟨u1, rfl, ru1⟩ := z82 r1
    cases ru1
    obtain ⟨its, _, pT, _⟩ := I1.tuple l.sq
    refine zdg pT fun h' g1 g2 hk => ?_
    refine zb0 (s1.heap.objs.size + 1) s1.heap.objs.size _ 0 _ _ _ ⟨_, g1⟩ ?_
    have I2 : L2.Inv X pins σv H1 { s1 with heap := h', toks := s1.toks } := I1.kept hk
    refine ⟨s1.heap.objs.size + 1, [s1.heap.objs.size + 1, s1.heap.objs.size], _, _, H1, rfl, I2, zeI _ _ (Nat.succ_ne_self _) (zh1 tt _) (zb0 _ _), ⟨⟨_, g1⟩, ⟨_, g2, rfl, rfl⟩⟩, fun b hb => ?_, post.here p cl (.enum (.tup l dd))⟩
    have hb' : s1.heap.objs.size <= b := by
      simp only [List.mem_cons, List.not_mem_nil, or_false] at hb
      rcases hb with rfl | rfl <;> omega
    exact I1.fpOk (H' := H1) hb' (I1.hok.fresh hb')
  · exact False.elim p
end
end DL
namespace DL
open PySem L2
open PyProof.Rows hiding St
section
variable {X : Cx} {Ex : Nat -> Hp -> Prop} {pos : Pos} {a b c e o : Expr} {ta tb tc te to : DE} {pins : List (Addr × Obj)} {σv : L2.St} {H : Hp} {s : Shared} {hid μ : List Addr} {O : Ow}
def zjG (K : PySem.W.Frag) : R2 := fun x y H Q => ∃ a b ys, x = .ref a /\ y = .ref b /\ SqT K H a [] /\ SqT K H b ys /\ Q (.ref b) H
theorem zhx : OpR X (binaryOp .Add) (zjG X.K) := by
  intro pins s σ H x y v u Q I rx ry h
  obtain ⟨p, q, ys, rfl, rfl, ha, hb, hq⟩ := h
  cases rx; cases ry
  obtain ⟨its, r1, ⟨⟨c1, d1, dt1, l1⟩, g1, k1, n1, e1⟩, _⟩ := I.tuple ha
  obtain ⟨its2, r2, ⟨⟨c2, d2, dt2, l2⟩, g2, k2, n2, e2⟩, _⟩ := I.tuple hb
  have hz : its = [] := by cases r1; rfl
  subst hz
  have k1 : c1 = .type "tuple" := k1
  have k2 : c2 = .type "tuple" := k2
  have e1 : dt1 = .seq #[] n1 := e1
  have e2 : dt2 = .seq its2.toArray n2 := e2
  subst k1; subst k2; subst e1; subst e2
  exact concat_meets ⟨_, g1, rfl⟩ ⟨_, g2, rfl⟩ noFill_tuple_add seq_tuple_add PySem.F.slot_tuple_add PySem.F.entry_tuple_add (PySem.F.args_tuple_add_2 _ _) (PyProof.Rows.tuple_addW0 p q #[] its2.toArray n1 n2 d1 d2 l1 l2 rfl) ⟨g1, g2, ⟨.ref q, H, I, rfl, hq⟩⟩
def z6e : Ow -> D -> D -> R D := fun O x y => match x, y with
  | .tup [], .tup ys => .ok (.tup ys) O
  | x, y => z9t O x y
theorem zfQ : OpD X Ex (fun x y H Q => zjG X.K x y H Q \/ zhP X.K x y H Q) z6e := by
  intro H hid μ O x y v w Q c dx dy q
  unfold z6e at q
  split at q
  · rename_i ys
    have dy' := dy
    unfold Dat at dx dy
    obtain ⟨p, vs, rfl, l, d1⟩ := dx
    obtain ⟨p2, vs2, rfl, l2, d2⟩ := dy
    unfold Dats at d1; subst d1
    exact .inl ⟨p, p2, vs2, rfl, rfl, l.sq, l2.sq, post.here q c dy'⟩
  · exact .inr (zfb H hid μ O _ _ v w Q c dx dy q)
theorem z75 (ha : PD X Ex a ta) (hb : PD X Ex b tb) : PD X Ex (.BinOp a .Add b pos) (dOp z6e ta tb) := z6g (OpR.or zhx zen) zfQ ha hb
def zl5 (K : PySem.W.Frag) : V -> Option Int -> Option Int -> Hp -> VK -> Prop := fun x lo hi H Q => ∃ a xs, x = .ref a /\ SqT K H a xs /\ (HT.sIx xs.length 0 lo = 0 /\ HT.sIx xs.length xs.length hi = xs.length) /\ Q (.ref a) H
theorem z9T {P : Program} {w : World} {A : Around} {E : Value -> Shared -> Prop} {s : Shared} {t sl : Addr} {items : Array Value} {vl vu : Value} {lo hi : Option Int} {Q : Value -> Shared -> Prop} (ht : IsTup s.heap t items) (hs : s.heap.IsSliceOf sl vl vu .none) (pl : IsPart vl lo) (pu : IsPart vu hi)
    (hw : HT.sIx items.size 0 lo = 0 /\ HT.sIx items.size items.size hi = items.size) (h : Q (.ref t) s) : wpAny (model P w) A (getItem (.ref t) (.ref sl)) Q E s := by
  obtain ⟨ob, hob, hcb, hdb⟩ := id hs
  have hTs : s.TypeIs (.ref sl) "slice" := ⟨ob, hob, hcb⟩
  unfold getItem
  try with_reducible refine wpAny_holding ?_
  first | refine wpAny_bind (wpAny_pure ?_) | skip
  refine wpAny_bind (wpAny_sequenceKey ht.typeIs (by decide) (wpAny_bind (wpAny_callSpecial?_slot (name := "__getitem__") ht.typeIs PyProof.Rows.slot_tuple_getitem (wpAny_call_entry PyProof.Rows.slot_tuple_getitem ht.typeIs entry_tuple_getitem ?_ (args_tuple_getitem _ _)))))
  show wpAny _ _ (Builtin.Tuple.tupleItemsOf (.ref t) >>= _) _ _ s
  refine wpAny_bind (tupleItemsOf_ ht (wpAny_bind (wpAny_typeOf hTs ?_)))
  rw [if_pos (by decide)]
  refine wpAny_bind (HT.sliceApplied_gen hs pl pu ?_)
  have hyes : (((HT.sIx items.size 0 lo : Nat) : Int) == 0 && (1 : Int) == 1 && (HT.sIx items.size items.size hi - HT.sIx items.size 0 lo) == items.size) = true := by
    rw [hw.1, hw.2]; simp
  show wpAny _ _ (if (((HT.sIx items.size 0 lo : Nat) : Int) == 0 && (1 : Int) == 1 && (HT.sIx items.size items.size hi - HT.sIx items.size 0 lo) == items.size) = true then _ else _) _ _ s
  rw [if_pos hyes]
  refine wpAny_bind (m := Builtin.Tuple.tupleIsExact (.ref t)) ?_
  unfold Builtin.Tuple.tupleIsExact
  refine wpAny_bind (wpAny_typeOf ht.typeIs (wpAny_pure ?_))
  rw [if_pos (by decide)]
  exact wpAny_bind (wpAny_rule (wpAny_pure ⟨_, rfl, wpAny_pure h⟩))
theorem zfX : SlR X (zl5 X.K) := by
  intro pins s σ H x v vl vu lo hi sl Q I rx hs pl pu h
  obtain ⟨p, xs, rfl, hx, hw, q⟩ := h
  cases rx
  obtain ⟨its, r, ht, hz⟩ := I.tuple hx
  have hlen : its.toArray.size = xs.length := by rw [List.size_toArray]; exact r.length.symm
  exact ⟨"tuple", _, PyProof.Rows.slot_tuple_getitem.lookup, ht.typeIs, z9T ht hs pl pu (by rw [hlen]; exact hw) ⟨.ref p, H, I, rfl, q⟩⟩
def zjY (O : Ow) (x : D) (lo hi : Option Int) : R D := match x with
  | .tup ds => if HT.sIx ds.length 0 lo = 0 /\ HT.sIx ds.length ds.length hi = ds.length then .ok (.tup ds) O else .ok (.tup (zdt ds lo hi)) O
  | x => fSl O x lo hi
def z9c (te : DE) (tl th : DO) : DE := fun σ O => (te σ O).bnd fun x O1 => (tl σ O1).bnd fun lo O2 => (th σ O2).bnd fun hi O3 => zjY O3 x lo hi
theorem z9u {lo hi : Option Expr} {tl th : DO} {p2 : Pos} (he : PD X Ex e te) (hl : PDO X Ex lo tl) (hu : PDO X Ex hi th) : PD X Ex (.Subscript e (.Slice lo hi none p2) pos) (z9c te tl th) :=
  z5Y (zg5 (r := fun x lo hi H Q => zl5 X.K x lo hi H Q \/ zlo X.K x lo hi H Q) (SlR.or zfX (SlR.or zjL (SlR.or zju zii))) he.out hl.out hu.out) fun hid μ σ O σv H Q e1 c1 q => rd.go e1 c1 q fun d O1 v H1 μ1 e2 x cl r p => rdO.go e2 cl p fun l O2 H2 μ2 e3 x3 c3 p3 => rdO.go e3 c3 p3 fun u O3 H3 μ3 e4 x4 c4 p4 => by
    have r' := (r.ext x3).ext x4
    cases d with
    | tup ds =>
      have rr := r'
      unfold Dat at r'
      obtain ⟨pa, vs, rfl, la, q1⟩ := r'
      have p4' : z5L Ex X.K H3 hid μ3 (if HT.sIx ds.length 0 l = 0 /\ HT.sIx ds.length ds.length u = ds.length then .ok (.tup ds) O3 else .ok (.tup (zdt ds l u)) O3) Q := p4
      split at p4'
      · rename_i hw
        exact .inl ⟨pa, vs, rfl, la.sq, by rw [<- q1.length]; exact hw, post.here p4' c4 rr⟩
      · rename_i hw
        exact .inr (.inr (.inl ⟨pa, vs, rfl, la.sq, by rw [<- q1.length]; exact hw, fun l' hl' => post.ok p4' (.laid hl') (c4.laid hl') (Dat.newT c4 hl' (z9Q q1 l u))⟩))
    | str i =>
      unfold Dat at r'; subst r'
      have p4' : z5L Ex X.K H3 hid μ3 (if i.length <= 100000 then .ok (.str (Txt.slice ⟨i.toArray⟩ l u).cps.toList) O3 else .bad) Q := p4
      obtain ⟨hll, p4'⟩ := post.ite p4'
      refine .inr (.inl ⟨_, rfl, ?_, post.here p4' c4 ?_⟩)
      · show i.toArray.size <= _
        rw [List.size_toArray]; exact z5w hll
      · unfold Dat; rw [z9O]
    | lst ds =>
      have p4' : z5L Ex X.K H3 hid μ3 (.ok (.lst (zdt ds l u)) O3) Q := p4
      obtain ⟨pa, vs, rfl, sq, q1⟩ := z6V c4 r' (show lsV O3 (.lst ds) = some ds from rfl)
      exact .inr (.inr (.inr ⟨pa, vs, rfl, sq, fun l' hl' => post.ok p4' (.laid hl') (c4.laid hl') (Dat.newL c4 hl' (z9Q q1 l u))⟩))
    | own k =>
      have p4' : z5L Ex X.K H3 hid μ3 (match O3[k]? with | some ds => .ok (.lst (zdt ds l u)) O3 | none => .bad) Q := p4
      split at p4'
      · rename_i ds eds
        obtain ⟨pa, vs, rfl, sq, q1⟩ := z6V c4 r' (show lsV O3 (.own k) = some ds from eds)
        exact .inr (.inr (.inr ⟨pa, vs, rfl, sq, fun l' hl' => post.ok p4' (.laid hl') (c4.laid hl') (Dat.newL c4 hl' (z9Q q1 l u))⟩))
      · exact False.elim p4'
    | _ => exact False.elim p4
end
end DL
namespace DL
open PySem L2
section
variable {X : Cx} {Ex : Nat -> Hp -> Prop}
end
end DL
namespace DL
open PySem L2
section
variable {X : Cx} {Ex : Nat -> Hp -> Prop} {pos : Pos} {a b c e o : Expr} {ta tb tc te to : DE} {pins : List (Addr × Obj)} {σv : St} {H : Hp} {s : Shared} {hid μ : List Addr} {O : Ow}
def dS0 (g : List Nat -> Option D) (to : DE) : DE := fun σ O => (to σ O).bnd fun x O1 => match x with
  | .str i => match g i with
    | some d => .ok d O1
    | none => .bad
  | _ => .bad
structure zlc (mg : Str -> Option Value) (x : Str) (i : Int) : Prop where
  ex : ∃ t, mg x = some (.int i t)
theorem zhb {x : Str} {i : Int} (h : zlc X.mg x i) (hg : Gl X x := by rfl) (hd : (x == ("__debug__" : Str)) = false := by decide) : PD X Ex (.Name x pos) (dC (.int i)) := by
  obtain ⟨t, h⟩ := h.ex
  exact z5Y (z9N (v := .int i) hg h ⟨_, rfl⟩ hd) fun hid μ σ O σv H Q e1 c1 q => post.here q c1 z5v
def zkN (t : DE) : DE := fun σ O => (t σ O).bnd fun d O1 => match d with
  | .int i => if i.natAbs < 2 ^ 64 then .ok (.str (zhB i)) O1 else .bad
  | _ => .bad
theorem zgJ {e : Expr} {p : Pos} (h : PD X Ex e te) : PD X Ex (.FormattedValue e (-1) none p) (zkN te) := by
  refine ⟨?_⟩
  rintro pins s σv H Q I ⟨hid, μ, σ, O, e1, c1, q⟩
  refine PyProof.Rows.FormattedValue_plain (thn (h.out pins s σv H (fun v H1 => ∃ i, v = .int i /\ i.natAbs < 2 ^ 64 /\ Q (.str ⟨(zhB i).toArray⟩) H1) I (rd.go e1 c1 q fun d O1 v H1 μ1 e2 x cl r p => ?_)) fun u s1 ⟨v, H1, I1, r1, i, hv, hi, hq⟩ => ?_)
  · cases d with
    | int i =>
      unfold Dat at r; subst r
      have p' : z5L Ex X.K H1 hid μ1 (if i.natAbs < 2 ^ 64 then .ok (.str (zhB i)) O1 else .bad) Q := p
      obtain ⟨hl, p'⟩ := post.ite p'
      refine ⟨i, rfl, hl, post.here p' cl ?_⟩
      unfold Dat; rfl
    | _ => exact False.elim p
  · subst hv
    obtain ⟨t, rfl⟩ := r1
    refine PyProof.Rows.formatField_int_small (z9H hi) ⟨.str ⟨(zhB i).toArray⟩, H1, I1.tok _, ⟨s1.toks + 1, by unfold zhB; rw [z9O]⟩, hq⟩
def goJ (out : List Nat) : List DE -> DE
  | [] => fun _ O => .ok (.str out) O
  | t :: ts => fun σ O => (t σ O).bnd fun d O1 => match d with
    | .str cs => if (out ++ cs).length <= 100000 then goJ (out ++ cs) ts σ O1 else .bad
    | _ => .bad
def dJs (ts : List DE) : DE := goJ [] ts
theorem zkr {es : List Expr} {ts : List DE} (h : PySem.Paired (fun e t => PD X Ex e t) es ts) : ∀ (out : List Nat) (pins : List (Addr × Obj)) (s : Shared) (σv : St) (H : Hp) (Q : VK), out.length <= 100000 -> L2.Inv X pins σv H s -> rd Ex X.K (goJ out ts) σv H Q ->
    wpAny (model X.prog X.w) X.A (joinParts ⟨out.toArray⟩ (evalEach es X.env)) (EP X pins σv Q) X.xe s := by
  induction h with
  | nil =>
    rintro out pins s σv H Q ho I ⟨hid, μ, σ, O, e1, c1, q⟩
    refine PyProof.Rows.joinParts_nil ⟨.str ⟨out.toArray⟩, H, I.tok _, ⟨_, rfl⟩, post.here q c1 ?_⟩ ?_
    · unfold Dat; rfl
    · show out.toArray.size <= _
      rw [List.size_toArray]; exact z5w ho
  | @cons e t es ts h1 h2 ih =>
    rintro out pins s σv H Q ho I ⟨hid, μ, σ, O, e1, c1, q⟩
    show wpAny _ _ (joinParts ⟨out.toArray⟩ (eval e X.env :: evalEach es X.env)) _ _ s
    refine PyProof.Rows.joinParts_cons (thn (h1.out pins s σv H (fun v H1 => ∃ cs, v = .str ⟨cs.toArray⟩ /\ (out ++ cs).length <= 100000 /\ rd Ex X.K (goJ (out ++ cs) ts) σv H1 Q) I (rd.go e1 c1 q fun d O1 v H1 μ1 e2 x cl r p => ?_)) fun u s1 ⟨v, H1, I1, r1, cs, hv, hl, hq⟩ => ?_)
    · cases d with
      | str cs =>
        unfold Dat at r; subst r
        have p' : z5L Ex X.K H1 hid μ1 (if (out ++ cs).length <= 100000 then goJ (out ++ cs) ts σ O1 else .bad) Q := p
        obtain ⟨hl, p'⟩ := post.ite p'
        exact ⟨cs, rfl, hl, hid, μ1, σ, O1, e2, cl, p'⟩
      | _ => exact False.elim p
    · subst hv
      obtain ⟨t, rfl⟩ := r1
      have ee : ((⟨out.toArray⟩ : Str) ++ (⟨cs.toArray⟩ : Str)) = ⟨(out ++ cs).toArray⟩ := by
        show (⟨out.toArray ++ cs.toArray⟩ : Str) = _
        simp
      show ((⟨out.toArray⟩ : Str) ++ (⟨cs.toArray⟩ : Str)).length <= sizeLine /\ _
      rw [ee]
      refine ⟨?_, ih (out ++ cs) pins s1 σv H1 Q hl I1 hq⟩
      show (out ++ cs).toArray.size <= _
      rw [List.size_toArray]; exact z5w hl
theorem zfn {v1 v2 : Expr} {z6F : List Expr} {ts : List DE} {p : Pos} (h : PySem.Paired (fun e t => PD X Ex e t) (v1 :: v2 :: z6F) ts) : PD X Ex (.JoinedStr (v1 :: v2 :: z6F) p) (dJs ts) :=
  ⟨fun pins s σv H Q I q => PyProof.Rows.JoinedStr_many (zkr h [] pins s σv H Q (by simp) I q)⟩
end
end DL
namespace DL
open PySem L2
section
variable {X : Cx} {Ex : Nat -> Hp -> Prop} {pos : Pos} {tg e : Expr} {te : DE}
end
end DL
namespace DL
open PySem L2 PySem.Spec PyProof.Rows
section
variable {X : Cx} {Ex : Nat -> Hp -> Prop} {pos : Pos} {tg e : Expr} {te : DE}
def zep (i j k : Nat) (te : DE) : DS := fun σ O => (te σ O).bnS fun d O1 => match d with
  | .tup [x, y, z] => .nx (((σ.set i (some x)).set j (some y)).set k (some z)) O1
  | _ => .bad
theorem zkX {K : PySem.W.Frag} {H : Hp} {hid μ : List Addr} {a b c : D} {vs : List V} (h : Dats K H hid μ [a, b, c] vs) : ∃ u v w, vs = [u, v, w] /\ Dat K H hid μ a u /\ Dat K H hid μ b v /\ Dat K H hid μ c w := by
  unfold Dats at h
  obtain ⟨u, r, rfl, h1, h2⟩ := h
  obtain ⟨v, w, rfl, h3, h4⟩ := zd3 h2
  exact ⟨u, v, w, rfl, h1, h3, h4⟩
theorem zg8 {i j k : Nat} {x y z : Str} {px py pz pt : Pos} {kt : Nat} (hc : X.calm = true) (hN : X.N.Nodup) (hi : X.N[i]? = some x) (hj : X.N[j]? = some y) (hk : X.N[k]? = some z) (hx : Loc X.env.scope x) (hy : Loc X.env.scope y) (hz : Loc X.env.scope z)
    (hf : X.fn x = true \/ X.env.scope.names.lookup x = some .local) (hf2 : X.fn y = true \/ X.env.scope.names.lookup y = some .local) (hf3 : X.fn z = true \/ X.env.scope.names.lookup z = some .local) :
    PG X (.Tuple [.Name x px, .Name y py, .Name z pz] kt pt) (zk5 X.K 3 (z9Y (z8U i) (z9Y (z8U j) (z9Y (z8U k) zk1)))) :=
  zgU hc (z7R (z7o hN hi hx hf) (z7R (z7o hN hj hy hf2) (z7R (z7o hN hk hz hf3) zdQ)))
theorem zfs {i j k : Nat} (he : PD X Ex e te) (hg : PG X tg (zk5 X.K 3 (z9Y (z8U i) (z9Y (z8U j) (z9Y (z8U k) zk1))))) (hs : swapsWithSole [tg] e pos.line X.env = pure false := by rfl) (hw : swappedStores [tg] e X.env = pure none := by rfl) (h1 : (assignEach [tg] X.env).map (·.2) = [assign tg X.env] := by rfl) : PDS X Ex (.Assign [tg] e pos) (zep i j k te) :=
  z8O (zeM he.out hg hs hw h1) fun hid μ σ O E σv H e1 c1 q => rd.goS e1 c1 q fun d O1 v H1 μ1 e2 x c r p => by
    split at p
    · rename_i x y z
      unfold Dat at r
      obtain ⟨a, vs, rfl, l, r⟩ := r
      obtain ⟨u, w, t, rfl, q1, q2, q3⟩ := zkX r
      exact ⟨a, [u, w, t], rfl, l.sq, rfl, u, [w, t], rfl, w, [t], rfl, t, [], rfl, rfl, p _ H1 μ1 .refl (((e2.set q1 i).set q2 j).set q3 k) c⟩
    · exact False.elim p
end
section
variable {X : Cx} {Ex : Nat -> Hp -> Prop} {pos p2 : Pos} {e st : Expr} {te : DE} {ts : DO}
theorem zfa (n : Nat) : sliceRange ((n : Int) - 1) (-1) (-1) = (List.range n).map fun k => n - 1 - k := by
  unfold sliceRange
  have h0 : ¬ ((-1 : Int) > 0) := by decide
  simp only [h0, if_false]
  have hc : (if (n : Int) - 1 > -1 then ((n : Int) - 1 - -1 - -1 - 1) / (- -1) else 0).toNat = n := by
    by_cases hn : (n : Int) - 1 > -1
    · rw [if_pos hn]
      have e : (- -1 : Int) = 1 := by decide
      rw [e, Int.ediv_one]; omega
    · rw [if_neg hn]; omega
  rw [hc]
  refine List.map_congr_left fun k hk => ?_
  have hk' : k < n := List.mem_range.mp hk
  omega
theorem zfM (its : List Value) : slicePick its.toArray none none (some (-1)) = its.reverse.toArray := by
  have hb : sliceBounds none none (some (-1)) its.toArray.size = ((its.length : Int) - 1, -1, -1) := by
    unfold sliceBounds
    rw [List.size_toArray]; rfl
  unfold slicePick
  rw [hb]
  show ((sliceRange ((its.length : Int) - 1) (-1) (-1)).filterMap (its.toArray[·]?)).toArray = _
  rw [zfa]
  congr 1
  rw [List.filterMap_map]
  have e : ∀ l : List Nat, (∀ k ∈ l, k < its.length) -> l.filterMap ((fun x => its.toArray[x]?) ∘ fun k => its.length - 1 - k) = l.map fun k => its.reverse.getD k .none := by
    intro l
    induction l with
    | nil => intro _; rfl
    | cons k l ih =>
      intro h
      have hk : k < its.length := h k (by simp)
      have e1 : its.toArray[its.length - 1 - k]? = some (its.reverse.getD k .none) := by
        rw [List.getElem?_toArray, List.getD_eq_getElem?_getD, List.getElem?_reverse hk, List.getElem?_eq_getElem (by omega)]
        rfl
      rw [List.filterMap_cons, List.map_cons]
      have e2 : ((fun x => its.toArray[x]?) ∘ fun k => its.length - 1 - k) k = some (its.reverse.getD k .none) := e1
      rw [e2, ih fun j hj => h j (by simp [hj])]
  rw [e _ fun k hk => List.mem_range.mp hk]
  refine List.ext_getElem (by simp) fun i h1 h2 => ?_
  rw [List.getElem_map, List.getElem_range, List.getD_eq_getElem?_getD, List.getElem?_eq_getElem h2]
  rfl
def zlp (K : PySem.W.Frag) (te : TE) (ts : TO) : TE := fun σ H Q => te σ H fun x H1 => ts σ H1 fun o H2 => o = some (-1) /\ ∃ a xs, x = .ref a /\ SqL K H2 a xs /\ ∀ p, H2 p = none -> Q (.ref p) (upd H2 p (.lst xs.reverse))
theorem zfO {xs : List V} {us : List Value} (r : Vals xs us) : Vals xs.reverse us.reverse := by
  induction r with
  | nil => exact .nil
  | cons r t ih =>
    rw [List.reverse_cons, List.reverse_cons]
    exact Vals.append ih (.cons r .nil)
theorem zjs {te : TE} {ts : TO} (he : PE X e te) (hs : PO X (some st) ts) : PE X (.Subscript e (.Slice none none (some st) p2) pos) (zlp X.K te ts) := by
  intro pins s σ H Q I h
  refine Subscript_ (thn (he pins s σ H _ I h) fun v s1 ⟨x, H1, I1, r1, q1⟩ => ?_)
  refine wpAny_Slice ?_
  rw [evalPart_none]
  refine wpAny_pure (wpAny_pure (thn (hs pins s1 σ H1 _ I1 q1) fun vs s3 ⟨o, H3, I3, ps, q3⟩ => ?_))
  obtain ⟨rfl, a, xs, rfl, sq, q⟩ := q3
  cases r1
  have I4 : Inv X pins σ H3 { s3 with heap := s3.heap.push { cls := .type "slice", data := .fields #[.none, .none, vs] } } := I3.kept (t' := s3.toks) fun b ob q => Heap.get?_push_of_some _ q
  obtain ⟨its, r, ht, hz⟩ := I4.list sq
  have hlen := r.length
  show wpAny (model X.prog X.w) X.A (subscriptTail e (.Slice none none (some st) p2) (.ref a) (.ref s3.heap.objs.size)) (EP X pins σ Q) X.xe { s3 with heap := s3.heap.push { cls := .type "slice", data := .fields #[.none, .none, vs] } }
  refine tail_any (ops := [.ref a, .ref s3.heap.objs.size]) ht.isList.typeIs slot_list_getitem.lookup ?_ (by with_unfolding_all rfl)
  refine wpAny_getItem_list_slice ht.isList (Heap.IsSliceOf.new ..) .none .none ps (by simp) ?_ (by rw [List.size_toArray] <;> omega)
  rw [zfM]
  refine ⟨.ref _, _, I4.laid (t' := s3.toks) (o := .lst xs.reverse) (fun b ob q => Heap.get?_push_of_some _ q) (Nat.le_refl _) ?_, rfl, q _ (I4.hok.fresh (Nat.le_refl _))⟩
  exact ⟨by rw [List.length_reverse]; exact hz, _, 0, zfO r, Heap.get?_push_size _ rfl⟩
def zdx (te : DE) (ts : DO) : DE := fun σ O => (te σ O).bnd fun x O1 => (ts σ O1).bnd fun o O2 => if o = some (-1) then match lsV O2 x with
  | some ds => .ok (.lst ds.reverse) O2
  | none => .bad else .bad
theorem zjD (he : PD X Ex e te) (hs : PDO X Ex (some st) ts) : PD X Ex (.Subscript e (.Slice none none (some st) p2) pos) (zdx te ts) :=
  z5Y (zjs he.out hs.out) fun hid μ σ O σv H Q e1 c1 q => rd.go e1 c1 q fun d O1 v H1 μ1 e2 x cl r p => rdO.go e2 cl p fun l O2 H2 μ2 e3 x3 c3 p3 => by
    have r' := r.ext x3
    obtain ⟨hl, p3⟩ := post.ite p3
    split at p3
    · rename_i ds eds
      obtain ⟨pa, vs, rfl, sq, q1⟩ := z6V c3 r' eds
      exact ⟨hl, pa, vs, rfl, sq, fun l' hl' => post.ok p3 (.laid hl') (c3.laid hl') (Dat.newL c3 hl' q1.rev)⟩
    · exact False.elim p3
end
end DL
namespace DL
open PySem L2 PySem.Spec PyProof.Rows
open Sem (wp)
theorem z8l : fillsNumberSlot (.type "tuple") "mul" = pure false :=
  PySem.fillsNumberSlot_seq (id := "tuple.__mul__") (r := some (.builtin "tuple.__rmul__")) PySem.F.slot_tuple_mul.lookup (by decide +kernel) PySem.F.slot_tuple_rmul.lookup (by decide +kernel)
theorem zb8 : seqRepeat? (.type "tuple") = pure (some (.builtin "tuple.__mul__")) := by
  unfold seqRepeat?
  rw [PySem.seqSlot_of (T := "tuple") (name := "__mul__") (id := "tuple.__mul__") PySem.F.slot_tuple_mul.lookup (by decide +kernel), PySem.seqSlot_of (T := "tuple") (name := "__rmul__") (id := "tuple.__rmul__") PySem.F.slot_tuple_rmul.lookup (by decide +kernel)]
  rfl
theorem zaI (a : Int) (t : Tok) (l : Addr) (items : Array Value) (n : Nat) (dd : Option Addr) (sl) :
    Meets (Builtin.«int.__rmul__» ⟨[.int a t, .ref l], []⟩) (fun _ R s => s.heap.get? l = some { cls := .type "tuple", dict := dd, data := .seq items n, slots := sl } /\ R (.ok (.ret Value.notImplemented)) s) :=
  .of_wp fun prog w A R s h => by obtain ⟨hp, g, d, tk, os⟩ := s; obtain ⟨hl, h⟩ := h; wp_walk; exact ⟨_, rfl, h⟩
theorem zfL (l : Addr) (items : Array Value) (n : Nat) (u : Tok) (dd : Option Addr) (sl) (h0 : items.isEmpty = false) (h1 : items.size <= 100000) :
    Meets (Builtin.«tuple.__mul__» ⟨[.ref l, .int 2 u], []⟩) (fun _ R s => s.heap.get? l = some { cls := .type "tuple", dict := dd, data := .seq items n, slots := sl } /\ R (.ok (.ret (Value.ref s.heap.objs.size))) { s with heap := s.heap.push { cls := Value.type "tuple", data := Data.seq (items ++ items) }, toks := s.toks }) :=
  .of_wp fun prog w A R s h => by
    obtain ⟨hp, g, d, tk, os⟩ := s; obtain ⟨hl, h⟩ := h
    have hz : items ≠ #[] := by intro e; subst e; cases h0
    have c1 : ¬ ((items.size : Int) * 2 > (2 ^ 63 - 1) / 8) := by
      have : ((2 ^ 63 - 1) / 8 : Int) = 1152921504606846975 := by decide
      omega
    have c2 : Builtin.Tuple.tupleTooMany ((items.size : Int) * 2) = false := by
      unfold Builtin.Tuple.tupleTooMany
      have : sizeLine = 16777216 := sizeLine_eq
      rw [this]
      exact decide_eq_false (by omega)
    have c3 : (List.replicate (2 : Int).toNat items).foldl (· ++ ·) #[] = items ++ items := by
      show (#[] ++ items) ++ items = _
      rw [Array.empty_append]
    wp_walk
    rw [if_neg c1]
    dsimp only
    rw [if_neg (show ¬ Builtin.Tuple.tupleTooMany ((items.size : Int) * 2) = true by rw [c2]; decide), c3]
    have hs : (items ++ items).size <= sizeLine := by
      have : sizeLine = 16777216 := sizeLine_eq
      rw [Array.size_append]; omega
    exact wpAny_bind (m := Builtin.Tuple.tupleExact _) (wpAny_newObj_type (wpAny_pure ⟨_, rfl, h⟩) hs)
section
variable {X : Cx} {Ex : Nat -> Hp -> Prop}
theorem zhZ : OpR X (binaryOp .Mult) (fun x y H Q => ∃ a xs, x = .ref a /\ y = .int 2 /\ SqT X.K H a xs /\ xs ≠ [] /\ xs.length <= 1000 /\ ∀ p, H p = none -> Q (.ref p) (upd H p (.tup (xs ++ xs)))) := by
  intro pins s σ H x y v u Q I rx ry h
  obtain ⟨a, xs, rfl, rfl, sq, hx, hz, q⟩ := h
  cases rx
  obtain ⟨t, rfl⟩ := ry
  obtain ⟨its, r, ht, _⟩ := I.tuple sq
  have hlen := r.length
  obtain ⟨⟨cls, dd, data, sl⟩, ho, hc, n, hd⟩ := id ht
  simp only at hc hd
  subst hc hd
  have hi : its.toArray.isEmpty = false := by
    cases its with
    | nil => exact absurd (List.length_eq_zero_iff.mp (by simpa using hlen)) hx
    | cons _ _ => rfl
  have e2 : its.toArray ++ its.toArray = (its ++ its).toArray := by simp
  refine wpAny_binaryOp_repeat_ref (T := "tuple") (U := "int") (by decide) ⟨_, ho, rfl⟩ (fun s' => typeIs_int s' 2 t) z8l PySem.F.fills_int_mul PySem.F.slot_int_rmul zb8 PySem.F.slot_int_index.lookup
    (call_meets PySem.F.slot_int_rmul (typeIs_int s 2 t) PySem.F.entry_int_rmul (PySem.F.args_int_rmul_2 _ _) (zaI 2 t a its.toArray n dd sl)
      ⟨ho, rfl, ⟨_, ho, rfl⟩, call_meets PySem.F.slot_tuple_mul ⟨_, ho, rfl⟩ PySem.F.entry_tuple_mul (PySem.F.args_tuple_mul_2 _ _) (zfL a its.toArray n t dd sl hi (by rw [List.size_toArray]; omega)) ⟨ho, ?_⟩⟩)
  rw [e2]
  refine ⟨.ref s.heap.objs.size, _, I.laid (t' := s.toks) (o := .tup (xs ++ xs)) (fun b ob q => Heap.get?_push_of_some _ q) (Nat.le_refl _) ?_, rfl, q _ (I.hok.fresh (Nat.le_refl _))⟩
  have : sizeLine = 16777216 := sizeLine_eq
  exact ⟨by rw [List.length_append]; omega, _, r.append r, IsTup.new _ _⟩
def ze9 : Ow -> D -> D -> R D := fun O x y => match x, y with
  | .tup ds, .int i => if i = 2 /\ ds ≠ [] /\ ds.length <= 1000 then .ok (.tup (ds ++ ds)) O else .bad
  | _, _ => .bad
theorem zgp : OpD X Ex (fun x y H Q => ∃ a xs, x = .ref a /\ y = .int 2 /\ SqT X.K H a xs /\ xs ≠ [] /\ xs.length <= 1000 /\ ∀ p, H p = none -> Q (.ref p) (upd H p (.tup (xs ++ xs)))) ze9 := by
  intro H hid μ O x y v w Q c dx dy q
  unfold ze9 at q
  split at q
  · rename_i ds i
    unfold Dat at dx dy; subst dy
    obtain ⟨a, vs, rfl, la, dd⟩ := dx
    obtain ⟨⟨h0, h2, h3⟩, q2⟩ := post.ite q
    subst h0
    have hl := dd.length
    refine ⟨a, vs, rfl, rfl, la.sq, fun e => ?_, by omega, fun l hl' => ?_⟩
    · subst e
      exact h2 (List.length_eq_zero_iff.mp (by simpa using hl))
    · exact post.ok q2 (.laid hl') (c.laid hl') (Dat.newT c hl' (dd.append dd))
  · exact False.elim q
end
end DL
namespace DL
open PySem L2 PySem.Spec PyProof.Rows
def z8a (ns : List Int) : Nat := (ns.foldl step_dedup []).length
theorem zd9 (ns : List Int) : (List.range ns.length).map (fun i => ns.getD i 0) = ns := by
  refine List.ext_getElem (by simp) fun i h1 h2 => ?_
  rw [List.getElem_map, List.getElem_range, List.getD_eq_getElem?_getD, List.getElem?_eq_getElem h2]; rfl
theorem zaF (ns : List Int) : (firstMet (fun i => ns.getD i 0) ns.length).length = z8a ns := by
  unfold firstMet z8a
  rw [zd9]
section
variable {X : Cx} {Ex : Nat -> Hp -> Prop} {pos pos2 p p2 : Pos} {e : Expr} {es : List Expr} {t : DA}
def zkc (K : PySem.W.Frag) : List V -> Hp -> VK -> Prop := fun xs H Q => ∃ p ns, xs = [.ref p] /\ SqL K H p (ns.map V.int) /\ ns.length <= 1000 /\ ∀ l S, H l = none -> Q (.ref l) (upd H l (.set S (z8a ns)))
theorem zfe (hc : X.calm = true) : CallR X (.type "set") (zkc X.K) := by
  intro pins s σ H xs us Q I r h
  obtain ⟨p, ns, rfl, sq, hl, q⟩ := h
  obtain ⟨u, rfl, ru⟩ := z82 r
  cases ru
  obtain ⟨its, rv, pl, hz⟩ := I.list sq
  have hi : IntsAre its.toArray.toList ns := by simpa using zdn rv
  have hlen : its.toArray.size = ns.length := by have := rv.length; simp at this ⊢; omega
  refine call_set_list (items := its.toArray) (ns := ns) (I.ok.hd hc) pl.isList hi (by rw [hlen]; unfold scanBound; omega) fun h' tk hS hk => ?_
  rw [hlen, zaF] at hS
  refine ⟨.ref s.heap.objs.size, _, I.laid (t' := tk) (o := .set (fun k' => (firstMet (fun i => ns.getD i 0) ns.length).any (· == k')) (z8a ns)) (fun b ob z => hk b ob (Heap.lt_size z) z) (Nat.le_refl _) ?_, rfl, q _ _ (I.hok.fresh (Nat.le_refl _))⟩
  exact hS
theorem ze4 : CallR X (.builtin "len") (fun xs H Q => ∃ a S n, xs = [.ref a] /\ H a = some (.set S n) /\ n <= 1000 /\ Q (.int (n : Nat)) H) := by
  intro pins s σ H xs us Q I r h
  obtain ⟨a, S, n, rfl, hH, hn, q⟩ := h
  obtain ⟨u, rfl, ru⟩ := z82 r
  cases ru
  have hS : s.heap.SetOf (intKind X.prog X.w) a S n := I.hok a _ hH
  obtain ⟨o, ho, hso⟩ := hS.objOf
  obtain ⟨hex, es, ep, t, hd, _, _, hn2, hf⟩ := hso
  subst hn2
  refine call_len_set ho hex hd hf (by omega) ?_
  exact ⟨.int _, H, I.tok _, ⟨_, rfl⟩, q⟩
def zc5 (t : DA) : DE := fun σ O => (t σ O).bnd fun xs O1 => match xs with
  | [x] => match lsV O1 x with
    | some ds => match zax ds with
      | some ns => if ns.length <= 1000 /\ z8a ns <= 1000 then .ok (.int (z8a ns : Nat)) O1 else .bad
      | none => .bad
    | none => .bad
  | _ => .bad
theorem zdV (hc : X.calm = true) {x y : Str} (hg : Gl X x) (hm : X.mg x = none) (hv : bootBuiltins x = some (.builtin "len")) (hg2 : Gl X y) (hm2 : X.mg y = none) (hv2 : bootBuiltins y = some (.type "set")) (ha : PDA X Ex (e :: es) t)
    (hn : x ≠ "__name__" := by decide) (hdb : (x == ("__debug__" : Str)) = false := by decide) (hn2 : y ≠ "__name__" := by decide) (hdb2 : (y == ("__debug__" : Str)) = false := by decide) (he : starEach (e :: es) X.env = (false, eval e X.env) :: starEach es X.env := by rfl) (hpl : (backTo pos2 (starEach es X.env)).any (·.1) = false := by rfl)
    (he' : starEach [.Call (.Name y p2) (e :: es) [] pos2] X.env = (false, eval (.Call (.Name y p2) (e :: es) [] pos2) X.env) :: starEach [] X.env := by rfl) :
    PD X Ex (.Call (.Name x p) [.Call (.Name y p2) (e :: es) [] pos2] [] pos) (zc5 t) :=
  z5Y (z7g ze4 hg hm hv (z6o (zb3 (zfe hc) hg2 hm2 hv2 ha.out hn2 hdb2 he hpl) z97 he') hn hdb he' (by rfl)) fun hid μ σ O σv H Q e1 c1 q =>
    rdA.go e1 c1 q fun xs O1 vs H1 μ1 e2 x2 c d p => by
      split at p
      · rename_i x
        obtain ⟨v, rfl, dx⟩ := z7Q d
        split at p
        · rename_i ds eds
          obtain ⟨pa, ws, rfl, sq, dd⟩ := z6V c dx eds
          split at p
          · rename_i ns ens
            obtain ⟨hl, p⟩ := post.ite p
            have ev := zez dd ens
            subst ev
            exact ⟨pa, ns, rfl, sq, hl.1, fun l S hl' => ⟨l, S, z8a ns, rfl, z54, hl.2, post.ok p (.laid hl') (c.laid hl') (by unfold Dat; rfl)⟩⟩
          · exact False.elim p
        · exact False.elim p
      · exact False.elim p
end
end DL
namespace DL
open PySem
theorem zjS : bootBuiltins "set" = some (.type "set") := by boot_by_name
end DL
namespace DL
open PySem L2
open AutoSeq1 (wpAny_loadPart')
section
variable {X : Cx} {Ex : Nat -> Hp -> Prop} {pos : Pos} {a b c e o : Expr} {ta tb tc te to : DE}
end
section
variable {P : Program} {w : World} {A : Around} {E : Value -> Shared -> Prop} {s : Shared}
end
section
variable {X : Cx} {Ex : Nat -> Hp -> Prop} {pos : Pos} {a b c e o : Expr} {ta tb tc te to : DE} {pins : List (Addr × Obj)} {σv : St} {H : Hp} {s : Shared} {hid μ : List Addr} {O : Ow}
end
end DL
namespace DL
open PySem L2
end DL
namespace DL
theorem zlZ {α β γ : Type} {x : Option α} {f : α -> β} {g : α -> γ} {b : β} {c : γ} (h1 : x.map f = some b) (h2 : x.map g = some c) : x.map (fun s => (f s, g s)) = some (b, c) := by
  cases x with
  | none => cases h1
  | some s =>
    have e1 : f s = b := Option.some.inj h1
    have e2 : g s = c := Option.some.inj h2
    show some (f s, g s) = _
    rw [e1, e2]
end DL
namespace DL
open PySem
def pl : Nat -> D -> Bool
  | n, .non => true
  | n, .int _ => true
  | n, .str cs => cs.all (· < 1114112)
  | n + 1, .lst ds => ds.all (pl n)
  | n + 1, .tup ds => ds.all (pl n)
  | _, _ => false
theorem z7H {α β : Type} {f : α -> Option β} : ∀ {l : List α}, (∀ x ∈ l, ∃ y, f x = some y) -> ∃ m, z6Q f l = some m
  | [], _ => ⟨[], rfl⟩
  | x :: l, h => by
    obtain ⟨y, hy⟩ := h x List.mem_cons_self
    obtain ⟨m, hm⟩ := z7H (l := l) fun z hz => h z (List.mem_cons_of_mem _ hz)
    exact ⟨y :: m, by unfold z6Q; rw [hy, hm]⟩
section
variable {σ : Sg} {O O1 O2 : Ow} {t u : DE} {d a : DS} {x y : D} {r : RS} {i : Nat} {b : Bool} {c : DT} {tA : DA} {ds : List D}
theorem zfT {n : Nat} {F : List D -> Ow -> R D} {z : R D} (h1 : tA σ O = .ok ds O1) (h2 : F ds O1 = z) (h3 : ds.length = n := by rfl) : dFn n F tA σ O = z := by rw [z5o h1 h3]; exact h2
end
end DL
set_option maxHeartbeats 400000
namespace K01
open PySem L2 DL
def top (i : Nat) : Stmt := PySem.Challenge.pw_leastterms_k01_functions_known.main.body.getD i (.Pass ⟨0, 0, 0, 0⟩)
def z56 : List (Int × Int) := [(1, 2), (2, 4), (3, 8), (4, 16)]
def z4M : List (Int × Int) := [(2, 1), (4, 2), (8, 3), (16, 4)]
def Ca : Nat -> Nat := fun c => match c with
  | 1 => 73
  | 2 => 61
  | _ => 37
def Cl : Nat -> Value := fun c => .ref (Ca c)
def z2P : Nat -> Option Bool := fun C => match C with
  | 37 => some true
  | 73 => some false
  | 61 => some false
  | _ => none
def z2T : Nat -> Option Bool := fun C => match C with
  | 37 => some false
  | 73 => some false
  | 61 => some false
  | _ => none
def z2S : Nat -> Option Bool := fun C => match C with
  | 37 => some false
  | 73 => some false
  | 61 => some true
  | _ => none
def z2R : Nat -> Option Bool := fun C => match C with
  | 37 => some false
  | 73 => some true
  | 61 => some false
  | _ => none
def z2O : Nat -> Option Bool := fun C => match C with
  | 37 => some false
  | 73 => some false
  | 61 => some false
  | _ => none
def z2M : Nat -> Option Bool := fun C => match C with
  | 37 => some false
  | 73 => some false
  | 61 => some false
  | _ => none
def z2U : Nat -> Option Bool := fun C => match C with
  | 37 => some false
  | 73 => some false
  | 61 => some false
  | _ => none
def z2Q : Nat -> Option Bool := fun C => match C with
  | 37 => some false
  | 73 => some false
  | 61 => some false
  | _ => none
def z2N : Nat -> Option Bool := fun C => match C with
  | 37 => some false
  | 73 => some false
  | 61 => some false
  | _ => none
def z2V : Nat -> Option Bool := fun C => match C with
  | 37 => some true
  | 73 => some true
  | 61 => some true
  | _ => none
structure Txt (K : PySem.W.Frag) (mg : Str -> Option Value) : Prop where
  d_is_whole : z61 K mg "is_whole" (top 13)
  d_is_whole_within : z61 K mg "is_whole_within" (top 14)
  d_need_whole_within : z61 K mg "need_whole_within" (top 15)
  d_need_switches : z61 K mg "need_switches" (top 16)
  d_is_answer : z61 K mg "is_answer" (top 20)
  d_is_function : z61 K mg "is_function" (top 21)
  d_need_function : z61 K mg "need_function" (top 22)
  d_is_point_list : z61 K mg "is_point_list" (top 23)
  d_need_point_list : z61 K mg "need_point_list" (top 24)
  d_answer_at : z61 K mg "answer_at" (top 25)
  d_function_of : z61 K mg "function_of" (top 26)
  d_points_with : z61 K mg "points_with" (top 27)
  d_ones_of : z61 K mg "ones_of" (top 28)
  d_noughts_of : z61 K mg "noughts_of" (top 29)
  d_frees_of : z61 K mg "frees_of" (top 30)
  d__law_cell_at : z61 K mg "_law_cell_at" (top 32)
  d__law_state : z61 K mg "_law_state" (top 33)
  d__law_take : z61 K mg "_law_take" (top 34)
  d__law_term : z61 K mg "_law_term" (top 35)
  d__law_bits : z61 K mg "_law_bits" (top 36)
  d__law_points : z61 K mg "_law_points" (top 37)
  d__law_function : z61 K mg "_law_function" (top 38)
  d__law_switches : z61 K mg "_law_switches" (top 39)
  d__law_same : z61 K mg "_law_same" (top 40)
  d__law_refused : z61 K mg "_law_refused" (top 41)
  d__law_is_function : z61 K mg "_law_is_function" (top 42)
  d__law_bent : z61 K mg "_law_bent" (top 43)
  d__law_lists : z61 K mg "_law_lists" (top 44)
  d_law : z61 K mg "law" (top 45)
  b_ValueError : mg "ValueError" = none
  b_all : mg "all" = none
  b_any : mg "any" = none
  b_bool : mg "bool" = none
  b_enumerate : mg "enumerate" = none
  b_int : mg "int" = none
  b_isinstance : mg "isinstance" = none
  b_len : mg "len" = none
  b_list : mg "list" = none
  b_max : mg "max" = none
  b_min : mg "min" = none
  b_range : mg "range" = none
  b_set : mg "set" = none
  b_str : mg "str" = none
  b_tuple : mg "tuple" = none
  b_zip : mg "zip" = none
  z2h : zir K mg "POINTS_BY_SWITCHES" z56
  z2i : zir K mg "SWITCHES_BY_POINTS" z4M
  i_MOST_SWITCHES : zlc mg "MOST_SWITCHES" 4
  z1G : mg "NoFunction" = some (.ref 37)
  z1K : mg "NoTerm" = some (.ref 49)
  z1J : mg "NoPoint" = some (.ref 61)
  z1I : mg "NoNumber" = some (.ref 73)
  z1F : mg "NoForm" = some (.ref 85)
  z1D : mg "NoChange" = some (.ref 97)
  z1L : mg "NoText" = some (.ref 109)
  z1H : mg "NoLine" = some (.ref 121)
  z1E : mg "NoDeed" = some (.ref 133)
  z1M : mg "TermError" = some (.ref 24)
  z2z : PySem.W.kitOne K (.type "NoneType") (.ref 37) = some false
  z2D : PySem.W.kitOne K (.type "NoneType") (.ref 49) = some false
  z2C : PySem.W.kitOne K (.type "NoneType") (.ref 61) = some false
  z2B : PySem.W.kitOne K (.type "NoneType") (.ref 73) = some false
  z2y : PySem.W.kitOne K (.type "NoneType") (.ref 85) = some false
  z2w : PySem.W.kitOne K (.type "NoneType") (.ref 97) = some false
  z2E : PySem.W.kitOne K (.type "NoneType") (.ref 109) = some false
  z2A : PySem.W.kitOne K (.type "NoneType") (.ref 121) = some false
  z2x : PySem.W.kitOne K (.type "NoneType") (.ref 133) = some false
  z2F : PySem.W.kitOne K (.type "NoneType") (.type "ValueError") = some false
  z2t : PySem.W.exmOne K (.ref 37) (.ref 24) = some true
  z1Q : PySem.W.kitOne K (.ref 37) (.ref 37) = some true
  z1U : PySem.W.kitOne K (.ref 37) (.ref 49) = some false
  z1T : PySem.W.kitOne K (.ref 37) (.ref 61) = some false
  z1S : PySem.W.kitOne K (.ref 37) (.ref 73) = some false
  z1P : PySem.W.kitOne K (.ref 37) (.ref 85) = some false
  z1N : PySem.W.kitOne K (.ref 37) (.ref 97) = some false
  z1V : PySem.W.kitOne K (.ref 37) (.ref 109) = some false
  z1R : PySem.W.kitOne K (.ref 37) (.ref 121) = some false
  z1O : PySem.W.kitOne K (.ref 37) (.ref 133) = some false
  z1W : PySem.W.kitOne K (.ref 37) (.type "ValueError") = some true
  z2u : PySem.W.exmOne K (.ref 73) (.ref 24) = some true
  z20 : PySem.W.kitOne K (.ref 73) (.ref 37) = some false
  z24 : PySem.W.kitOne K (.ref 73) (.ref 49) = some false
  z23 : PySem.W.kitOne K (.ref 73) (.ref 61) = some false
  z22 : PySem.W.kitOne K (.ref 73) (.ref 73) = some true
  z1Z : PySem.W.kitOne K (.ref 73) (.ref 85) = some false
  z1X : PySem.W.kitOne K (.ref 73) (.ref 97) = some false
  z25 : PySem.W.kitOne K (.ref 73) (.ref 109) = some false
  z21 : PySem.W.kitOne K (.ref 73) (.ref 121) = some false
  z1Y : PySem.W.kitOne K (.ref 73) (.ref 133) = some false
  z26 : PySem.W.kitOne K (.ref 73) (.type "ValueError") = some true
  z2v : PySem.W.exmOne K (.ref 61) (.ref 24) = some true
  z2a : PySem.W.kitOne K (.ref 61) (.ref 37) = some false
  z2e : PySem.W.kitOne K (.ref 61) (.ref 49) = some false
  z2d : PySem.W.kitOne K (.ref 61) (.ref 61) = some true
  z2c : PySem.W.kitOne K (.ref 61) (.ref 73) = some false
  z29 : PySem.W.kitOne K (.ref 61) (.ref 85) = some false
  z27 : PySem.W.kitOne K (.ref 61) (.ref 97) = some false
  z2f : PySem.W.kitOne K (.ref 61) (.ref 109) = some false
  z2b : PySem.W.kitOne K (.ref 61) (.ref 121) = some false
  z28 : PySem.W.kitOne K (.ref 61) (.ref 133) = some false
  z2g : PySem.W.kitOne K (.ref 61) (.type "ValueError") = some true
  z2J : XcK K 37
  z2K : XcK K 73
  z2L : XcK K 61
structure z7D (mg : Str -> Option Value) (base : Heap) : Prop where
  z2G : zja mg base "NoFunction" 37
  z2H : zja mg base "NoNumber" 73
  z2I : zja mg base "NoPoint" 61
theorem z2m {K : PySem.W.Frag} {mg : Str -> Option Value} (T : Txt K mg) : ∀ C b, z2P C = some b -> PySem.W.kitOne K (.ref C) (.ref 37) = some b := by
  intro C b h
  unfold z2P at h
  split at h <;> first | (cases h; first | exact T.z1Q | exact T.z20 | exact T.z2a) | cases h
theorem z2q {K : PySem.W.Frag} {mg : Str -> Option Value} (T : Txt K mg) : ∀ C b, z2T C = some b -> PySem.W.kitOne K (.ref C) (.ref 49) = some b := by
  intro C b h
  unfold z2T at h
  split at h <;> first | (cases h; first | exact T.z1U | exact T.z24 | exact T.z2e) | cases h
theorem z2p {K : PySem.W.Frag} {mg : Str -> Option Value} (T : Txt K mg) : ∀ C b, z2S C = some b -> PySem.W.kitOne K (.ref C) (.ref 61) = some b := by
  intro C b h
  unfold z2S at h
  split at h <;> first | (cases h; first | exact T.z1T | exact T.z23 | exact T.z2d) | cases h
theorem z2o {K : PySem.W.Frag} {mg : Str -> Option Value} (T : Txt K mg) : ∀ C b, z2R C = some b -> PySem.W.kitOne K (.ref C) (.ref 73) = some b := by
  intro C b h
  unfold z2R at h
  split at h <;> first | (cases h; first | exact T.z1S | exact T.z22 | exact T.z2c) | cases h
theorem z2l {K : PySem.W.Frag} {mg : Str -> Option Value} (T : Txt K mg) : ∀ C b, z2O C = some b -> PySem.W.kitOne K (.ref C) (.ref 85) = some b := by
  intro C b h
  unfold z2O at h
  split at h <;> first | (cases h; first | exact T.z1P | exact T.z1Z | exact T.z29) | cases h
theorem z2j {K : PySem.W.Frag} {mg : Str -> Option Value} (T : Txt K mg) : ∀ C b, z2M C = some b -> PySem.W.kitOne K (.ref C) (.ref 97) = some b := by
  intro C b h
  unfold z2M at h
  split at h <;> first | (cases h; first | exact T.z1N | exact T.z1X | exact T.z27) | cases h
theorem z2r {K : PySem.W.Frag} {mg : Str -> Option Value} (T : Txt K mg) : ∀ C b, z2U C = some b -> PySem.W.kitOne K (.ref C) (.ref 109) = some b := by
  intro C b h
  unfold z2U at h
  split at h <;> first | (cases h; first | exact T.z1V | exact T.z25 | exact T.z2f) | cases h
theorem z2n {K : PySem.W.Frag} {mg : Str -> Option Value} (T : Txt K mg) : ∀ C b, z2Q C = some b -> PySem.W.kitOne K (.ref C) (.ref 121) = some b := by
  intro C b h
  unfold z2Q at h
  split at h <;> first | (cases h; first | exact T.z1R | exact T.z21 | exact T.z2b) | cases h
theorem z2k {K : PySem.W.Frag} {mg : Str -> Option Value} (T : Txt K mg) : ∀ C b, z2N C = some b -> PySem.W.kitOne K (.ref C) (.ref 133) = some b := by
  intro C b h
  unfold z2N at h
  split at h <;> first | (cases h; first | exact T.z1O | exact T.z1Y | exact T.z28) | cases h
theorem z2s {K : PySem.W.Frag} {mg : Str -> Option Value} (T : Txt K mg) : ∀ C b, z2V C = some b -> PySem.W.kitOne K (.ref C) (.type "ValueError") = some b := by
  intro C b h
  unfold z2V at h
  split at h <;> first | (cases h; first | exact T.z1W | exact T.z26 | exact T.z2g) | cases h
theorem zlv {K : PySem.W.Frag} {mg : Str -> Option Value} (T : Txt K mg) : ∀ c, Cl c = .ref (Ca c) /\ XcK K (Ca c) /\ PySem.W.exmOne K (.ref (Ca c)) (.ref 24) = some true := by
  intro c
  refine ⟨rfl, ?_⟩
  unfold Ca
  split <;> first | exact ⟨T.z2J, T.z2t⟩ | exact ⟨T.z2K, T.z2u⟩ | exact ⟨T.z2L, T.z2v⟩
theorem zkA : (["_law_call", "_law_error", "e", "_law_marks"] : List Str).Nodup := by decide +kernel
theorem zlA : (["_law_call", "_law_error", "e", "_law_marks", "_law_k"] : List Str).Nodup := by decide +kernel
theorem zlT : (["thing", "answer"] : List Str).Nodup := by decide +kernel
theorem zlR : (["n", "thing", "last"] : List Str).Nodup := by decide +kernel
theorem zlr : (["n", "thing", "last", "point"] : List Str).Nodup := by decide +kernel
theorem zl0 : (["n", "ones", "frees", "point"] : List Str).Nodup := by decide +kernel
theorem zln : (["function", "answer", "point", "told"] : List Str).Nodup := by decide +kernel
theorem zlF : (["_law_script", "_law_k", "_law_cell"] : List Str).Nodup := by decide +kernel
theorem zkt : (["_law_state_here", "_law_many", "_law_found", "_law_stirred"] : List Str).Nodup := by decide +kernel
theorem zlI : (["_law_state_here", "_law_n", "_law_k"] : List Str).Nodup := by decide +kernel
theorem zgj : (["_law_n", "_law_point", "_law_found", "_law_k"] : List Str).Nodup := by decide +kernel
theorem zho : (["_law_term_here", "_law_found", "_law_point", "_law_bits_here"] : List Str).Nodup := by decide +kernel
theorem zkC : (["_law_term_here", "_law_found", "_law_point", "_law_bits_here", "_law_k"] : List Str).Nodup := by decide +kernel
theorem zc1 : (["_law_state_here", "_law_n", "_law_way", "_law_some", "_law_held", "_law_turn", "_law_found"] : List Str).Nodup := by decide +kernel
theorem zjy : (["_law_state_here", "_law_n", "_law_way", "_law_some", "_law_held", "_law_turn", "_law_found", "_law_point"] : List Str).Nodup := by decide +kernel
theorem zkn : (["_law_found", "_law_due", "_law_one", "_law_other"] : List Str).Nodup := by decide +kernel
theorem zj2 : (["_law_thing", "_law_some", "_law_one"] : List Str).Nodup := by decide +kernel
theorem zkf : (["_law_thing", "_law_some"] : List Str).Nodup := by decide +kernel
theorem zgq : (["_law_state_here", "_law_function_here", "_law_at", "_law_odd", "_law_some"] : List Str).Nodup := by decide +kernel
theorem zi8 : (["_law_state_here", "_law_function_here", "_law_ones", "_law_frees", "_law_noughts", "_law_point"] : List Str).Nodup := by decide +kernel
theorem zim : (["_law_state_here", "_law_function_here", "_law_ones", "_law_frees", "_law_noughts"] : List Str).Nodup := by decide +kernel
theorem z9r : (["_law_script", "_law_k", "_law_state_here", "_law_function_here", "_law_n", "_law_thing", "_law_ones", "_law_frees", "_law_noughts", "_law_turn", "_law_found", "_law_bad", "_law_none", "<tab>"] : List Str).Nodup := by decide +kernel
section
variable {P : Program} {w : World} {K : PySem.W.Frag} {mg : Str -> Option Value} {base : Heap}
def zde : DS :=
  (z5c (zgC (z6R "int" (z4z 0)) (zld (z6R "bool" (z4z 0)))))
def z86 : List D -> Ow -> R D := (z7l 1 zde)
theorem zbV : z4X ["thing"] ["thing"] (z4E (top 13)) := ⟨rfl, rfl, rfl, by decide +kernel, rfl, by decide +kernel, by decide +kernel⟩
theorem zcd (T : Txt K mg) (B : z7D mg base) : CalleeX Cl P w K mg base "is_whole" 1 1 z86 :=
  CalleeX.self (fnX (k := 0) T.d_is_whole zbV (fun _ _ _ _ _ _ us hl => match us, hl with | [_], _ => rfl) fun f cdv A outer s H E hr =>
    (z4H (z4T (zcV (z6Y (n := "int") (z4y (i := 0) rfl (.inl rfl)) (by decide) rfl T.b_isinstance z4K rfl T.b_int zeT) (zav (ziG (z6Y (n := "bool") (z4y (i := 0) rfl (.inl rfl)) (by decide) rfl T.b_isinstance z4K rfl T.b_bool z9V)))))))
def zbC : DS :=
  (z4W (sIf (z5h (dOp fIn (z4z 0) (z4z 1))) (z5c (dC (.int 1))) z5z) (z4W (sIf (z5h (dOp fIn (z4z 0) (z4z 2))) (z5c (dC .non)) z5z) (z5c (dC (.int 0)))))
def z6E : List D -> Ow -> R D := (z7l 3 zbC)
theorem zbc : z4X ["point", "ones", "frees"] ["point", "ones", "frees"] (z4E (top 25)) := ⟨rfl, rfl, rfl, by decide +kernel, rfl, by decide +kernel, by decide +kernel⟩
theorem zbi (T : Txt K mg) (B : z7D mg base) : CalleeX Cl P w K mg base "answer_at" 1 3 z6E :=
  CalleeX.self (fnX (k := 0) T.d_answer_at zbc (fun _ _ _ _ _ _ us hl => match us, hl with | [_, _, _], _ => rfl) fun f cdv A outer s H E hr =>
    (z4F (z5B (z5q (zcH hr.units) zcW (z4y (i := 0) rfl (.inl rfl)) (z4y (i := 1) rfl (.inl rfl)) rfl) (z4H (z4T z4G)) z53) (z4F (z5B (z5q (zcH hr.units) zcW (z4y (i := 0) rfl (.inl rfl)) (z4y (i := 2) rfl (.inl rfl)) rfl) (z4H (z4T z6G)) z53) (z4H (z4T z4G)))))
def zan : DS :=
  (z5c (z5I true 2 (zfk (z4w (z4z 0) z4C)) (.two 2 3) [(z5h (dOp (fPy eqF) (z4z 3) (z4z 1)))] [] (z4z 2)))
def z5y : List D -> Ow -> R D := (z7l 2 zan)
theorem z9f : z4X ["function", "answer"] ["function", "answer"] (z4E (top 27)) := ⟨rfl, rfl, rfl, by decide +kernel, rfl, by decide +kernel, by decide +kernel⟩
theorem z9d (T : Txt K mg) (B : z7D mg base) : CalleeX Cl P w K mg base "points_with" 1 2 z5y :=
  CalleeX.self (fnX (k := 0) T.d_points_with z9f (fun _ _ _ _ _ _ us hl => match us, hl with | [_, _], _ => rfl) fun f cdv A outer s H E hr =>
    (z4H (z4T (z6v true ["point", "told"] rfl (zeH rfl T.b_enumerate (z4x (z4y (i := 0) rfl (.inl rfl)) z4A z4B)) (z6p (by kernel_rfl)) (fun _ _ _ _ _ => ⟨(zgP (i := 2) (j := 3) rfl zln rfl rfl (.inl rfl) (.inl rfl) (.inr rfl) (.inr rfl)), (.cons (z5q (z6S hr.units) z69 (z4y (i := 3) rfl (.inl rfl)) (z4y (i := 1) rfl (.inr (.inl rfl))) (z5O _)) .nil), .nil, (z4y (i := 2) rfl (.inl rfl))⟩)))))
def z9g : DS :=
  (z4W (sIf (z5h (dOp fLt (z4z 1) (z4N z5T (z4w (z4z 0) z4C)))) (z5c (dOp fIx (z4z 0) (z4z 1))) z5z) (z5c (dC (.int 0))))
def z5W : List D -> Ow -> R D := (z7l 2 z9g)
theorem z8T : z4X ["_law_script", "_law_k"] ["_law_script", "_law_k"] (z4E (top 32)) := ⟨rfl, rfl, rfl, by decide +kernel, rfl, by decide +kernel, by decide +kernel⟩
theorem z8V (T : Txt K mg) (B : z7D mg base) : CalleeX Cl P w K mg base "_law_cell_at" 1 2 z5W :=
  CalleeX.self (fnX (k := 0) T.d__law_cell_at z8T (fun _ _ _ _ _ _ us hl => match us, hl with | [_, _], _ => rfl) fun f cdv A outer s H E hr =>
    (z4F (z5B (z5q zjM zgH (z4y (i := 1) rfl (.inl rfl)) (z5a z5s z6h rfl T.b_len z6d (z4x (z4y (i := 0) rfl (.inl rfl)) z4A z4B)) (z5O _)) (z4H (z4T (z6z (z4y (i := 0) rfl (.inl rfl)) (z4y (i := 1) rfl (.inl rfl)) (fun _ _ => rfl)))) z53) (z4H (z4T z4G))))
def zbU : DS :=
  (z4W (sIf (z5V (dOp fIx (z4z 0) (dC (.int 1)))) (z4W (z5n 2 (dOp (fI z9A) (dOp fIx (z4z 0) (dC (.int 0))) (z4z 1))) (z4W (zfp (dOp (fI z9J) (dOp fIx (z4z 0) (dC (.int 0))) (z4z 1)) (z4z 0) (dC (.int 0))) (z5c (z4z 2)))) z5z) (z4W (zfp (dOp (fI z9A) (dOp z9t (dOp (fI zbE) (dOp fIx (z4z 0) (dC (.int 0))) (dC (.int 48271))) (dC (.int 29))) (dC (.int 2147483647))) (z4z 0) (dC (.int 0))) (z4W (z5n 3 (dOp (fI z9A) (dOp z9t (dOp z9t (dOp (fI zbE) (dOp fIx (z4z 0) (dC (.int 0))) (dOp fIx (z4z 0) (dC (.int 0)))) (dOp (fI zbE) (dC (.int 39373)) (dOp fIx (z4z 0) (dC (.int 0))))) (dC (.int 7))) (dC (.int 2147483629)))) (z4W (z5n 3 (dOp (fI z9A) (dOp z9t (dOp (fI zbE) (z4z 3) (z4z 3)) (dOp (fI zbE) (dC (.int 16807)) (z4z 3))) (dC (.int 2147483587)))) (z5c (dOp (fI z9A) (dOp (fI z9J) (z4z 3) (dC (.int 8))) (z4z 1)))))))
def z4I : List D -> Ow -> R D := (z7l 4 zbU)
theorem zaA : z4X ["_law_state_here", "_law_many", "_law_found", "_law_stirred"] ["_law_state_here", "_law_many"] (z4E (top 34)) := ⟨rfl, rfl, rfl, by decide +kernel, rfl, by decide +kernel, by decide +kernel⟩
theorem zbe (T : Txt K mg) (B : z7D mg base) : CalleeX Cl P w K mg base "_law_take" 1 2 z4I :=
  CalleeX.self (fnX (k := 0) T.d__law_take zaA (fun _ _ _ _ _ _ us hl => match us, hl with | [_, _], _ => rfl) fun f cdv A outer s H E hr =>
    (z4F (z5B (z5N (z6z (z4y (i := 0) rfl (.inl rfl)) z4G (fun _ _ => rfl)) (fun _ => rfl)) (z4F (z5d (i := 2) zkt rfl (.inl rfl) (z6g z98 z7x (z6z (z4y (i := 0) rfl (.inl rfl)) z4G (fun _ _ => rfl)) (z4y (i := 1) rfl (.inl rfl)))) (z4F (zc8 (z6g z9L zao (z6z (z4y (i := 0) rfl (.inl rfl)) z4G (fun _ _ => rfl)) (z4y (i := 1) rfl (.inl rfl))) (z4y (i := 0) rfl (.inl rfl)) z4G) (z4H (z4T (z4y (i := 2) rfl (.inl rfl)))))) z53) (z4F (zc8 (z6g z98 z7x (z7K (z6g zaY z8E (z6z (z4y (i := 0) rfl (.inl rfl)) z4G (fun _ _ => rfl)) z4G) z4G) z4G) (z4y (i := 0) rfl (.inl rfl)) z4G) (z4F (z5d (i := 3) zkt rfl (.inl rfl) (z6g z98 z7x (z7K (z7K (z6g zaY z8E (z6z (z4y (i := 0) rfl (.inl rfl)) z4G (fun _ _ => rfl)) (z6z (z4y (i := 0) rfl (.inl rfl)) z4G (fun _ _ => rfl))) (z6g zaY z8E z4G (z6z (z4y (i := 0) rfl (.inl rfl)) z4G (fun _ _ => rfl)))) z4G) z4G)) (z4F (z5d (i := 3) zkt rfl (.inl rfl) (z6g z98 z7x (z7K (z6g zaY z8E (z4y (i := 3) rfl (.inl rfl)) (z4y (i := 3) rfl (.inl rfl))) (z6g zaY z8E z4G (z4y (i := 3) rfl (.inl rfl)))) z4G)) (z4H (z4T (z6g z98 z7x (z6g z9L zao (z4y (i := 3) rfl (.inl rfl)) z4G) (z4y (i := 1) rfl (.inl rfl))))))))))
def zbR : DS :=
  (z4W (z5n 2 (dC (.str []))) (z4W (zdr (z5S (z4w (z4z 0) z4C)) (.one 3) (z4W (z5n 2 (dOp z9t (z4N zhI (z4w (dOp (fI z9A) (z4z 1) (dC (.int 2))) z4C)) (z4z 2))) (z5n 1 (dOp (fI z9J) (z4z 1) (dC (.int 2)))))) (z5c (z4z 2))))
def z5Z : List D -> Ow -> R D := (z7l 4 zbR)
theorem zaW : z4X ["_law_n", "_law_point", "_law_found", "_law_k"] ["_law_n", "_law_point"] (z4E (top 36)) := ⟨rfl, rfl, rfl, by decide +kernel, rfl, by decide +kernel, by decide +kernel⟩
theorem zaC (T : Txt K mg) (B : z7D mg base) : CalleeX Cl P w K mg base "_law_bits" 1 2 z5Z :=
  CalleeX.self (fnX (k := 0) T.d__law_bits zaW (fun _ _ _ _ _ _ us hl => match us, hl with | [_, _], _ => rfl) fun f cdv A outer s H E hr =>
    (z4F (z5d (i := 2) zgj rfl (.inl rfl) (z6J [] rfl)) (z4F (z84 z81 rfl (z5i rfl T.b_range (z4x (z4y (i := 0) rfl (.inl rfl)) z4A z4B)) (z65 (i := 3) zgj rfl (.inl rfl) (.inl rfl)) (z4F (z5d (i := 2) zgj rfl (.inl rfl) (z7K (z6A zas zhV rfl T.b_str zjv (z4x (z6g z98 z7x (z4y (i := 1) rfl (.inl rfl)) z4G) z4A z6X)) (z4y (i := 2) rfl (.inl rfl)))) (z4H (z5d (i := 1) zgj rfl (.inl rfl) (z6g z9L zao (z4y (i := 1) rfl (.inl rfl)) z4G))))) (z4H (z4T (z4y (i := 2) rfl (.inl rfl)))))))
def z92 : DS :=
  (z5c (zjZ [(2, 1), (4, 2), (8, 3), (16, 4)] (z4N z5T (z4w (z4z 0) z4C))))
def z5E : List D -> Ow -> R D := (z7l 1 z92)
theorem z8j : z4X ["_law_function_here"] ["_law_function_here"] (z4E (top 39)) := ⟨rfl, rfl, rfl, by decide +kernel, rfl, by decide +kernel, by decide +kernel⟩
theorem z8n (T : Txt K mg) (B : z7D mg base) : CalleeX Cl P w K mg base "_law_switches" 1 1 z5E :=
  CalleeX.self (fnX (k := 0) T.d__law_switches z8j (fun _ _ _ _ _ _ us hl => match us, hl with | [_], _ => rfl) fun f cdv A outer s H E hr =>
    (z4H (z4T (by exact zjz [(2, 1), (4, 2), (8, 3), (16, 4)] (z8B z7S z7S (z8B z7S z7S (z8B z7S z7S (z8B z7S z7S zib)))) rfl rfl rfl (List.cons_ne_nil _ _) (Nat.le_of_ble_eq_true rfl) (Nat.le_of_ble_eq_true rfl) (zkk hr) (z5a z5s z6h rfl T.b_len z6d (z4x (z4y (i := 0) rfl (.inl rfl)) z4A z4B)) (fun _ _ => rfl)))))
def zch (F : List D -> Ow -> R D) : DS :=
  (z4W (sIf (z5V (zf6 "tuple" "list" (z4z 1))) (z4W (sIf (zbx (z5h (dOp (fPy neF) (z6R "tuple" (z4z 0)) (z6R "tuple" (z4z 1)))) (z5h (dOp (fPy neF) (z6R "list" (z4z 0)) (z6R "list" (z4z 1))))) (z5c (dC (.bl false))) z5z) (z4W (sIf (z5h (dOp (fPy neF) (z4N z5T (z4w (z4z 0) z4C)) (z4N z5T (z4w (z4z 1) z4C)))) (z5c (dC (.bl false))) z5z) (z5c (z4N zgW (z4w (z5I false 2 (zhE (z4w (z4z 0) (z4w (z4z 1) z4C))) (.two 2 3) [] [] (dFn 2 F (z4w (z4z 2) (z4w (z4z 3) z4C)))) z4C))))) z5z) (z5c (zgC (dOp (fPy eqF) (z4z 0) (z4z 1)) (dOp (fPy eqF) (z6R "bool" (z4z 0)) (z6R "bool" (z4z 1))))))
def z5x : Nat -> List D -> Ow -> R D
  | 0 => fun _ _ => .bad
  | k + 1 => (z7l 2 (zch (z5x k)))
theorem z8c : z4X ["_law_found", "_law_due"] ["_law_found", "_law_due"] (z4E (top 40)) := ⟨rfl, rfl, rfl, by decide +kernel, rfl, by decide +kernel, by decide +kernel⟩
theorem z7F (T : Txt K mg) (B : z7D mg base) : ∀ k, CalleeX Cl P w K mg base "_law_same" (1 + k) 2 (z5x k)
  | 0 => CalleeX.bad (F := z7l 2 zlb) (fnX T.d__law_same z8c (fun _ _ _ _ _ _ us hl => match us, hl with | [_, _], _ => rfl) fun f cdv A outer s H E hr => zfI)
  | k + 1 => CalleeX.self (fnX (k := 1 + k) T.d__law_same z8c (fun _ _ _ _ _ _ us hl => match us, hl with | [_, _], _ => rfl) fun f cdv A outer s H E hr =>
    have c_self := z7F T B k
    (z4F (z5B (z5N (zhm (n := "tuple") (n' := "list") (z4y (i := 1) rfl (.inl rfl)) (by decide) (by decide) rfl T.b_isinstance z4K rfl T.b_tuple z6M rfl T.b_list z85) (fun _ => rfl)) (z4F (z5B (PDW.pt (zcA (z5q (z7b hr.units) z69 (z6Y (n := "tuple") (z4y (i := 0) rfl (.inl rfl)) (by decide) rfl T.b_isinstance z4K rfl T.b_tuple z6M) (z6Y (n := "tuple") (z4y (i := 1) rfl (.inl rfl)) (by decide) rfl T.b_isinstance z4K rfl T.b_tuple z6M) (z5O _)) (z9P (z5q (z7b hr.units) z69 (z6Y (n := "list") (z4y (i := 0) rfl (.inl rfl)) (by decide) rfl T.b_isinstance z4K rfl T.b_list z85) (z6Y (n := "list") (z4y (i := 1) rfl (.inl rfl)) (by decide) rfl T.b_isinstance z4K rfl T.b_list z85) (z5O _))))) (z4H (z4T z6T)) z53) (z4F (z5B (z5q (z7b hr.units) z69 (z5a z5s z6h rfl T.b_len z6d (z4x (z4y (i := 0) rfl (.inl rfl)) z4A z4B)) (z5a z5s z6h rfl T.b_len z6d (z4x (z4y (i := 1) rfl (.inl rfl)) z4A z4B)) (z5O _)) (z4H (z4T z6T)) z53) (z4H (z4T (z5a (z8J rfl) zey rfl T.b_all zdO (z4x (z6v false ["_law_one", "_law_other"] rfl (zgl rfl T.b_zip (z4x (z4y (i := 0) rfl (.inl rfl)) (z4x (z4y (i := 1) rfl (.inl rfl)) z4A z4B) z4B)) (z6p (by kernel_rfl)) (fun _ _ _ _ _ => ⟨(zgP (i := 2) (j := 3) rfl zkn rfl rfl (.inl rfl) (.inl rfl) (.inr rfl) (.inr rfl)), .nil, .nil, (z83 c_self hr (Nat.le_refl _) rfl (z4x (z4y (i := 2) rfl (.inl rfl)) (z4x (z4y (i := 3) rfl (.inl rfl)) z4A z4B) z4B))⟩)) z4A z7w)))))) z53) (z4H (z4T (zcV (z8d (z6S hr.units) z69 (z4y (i := 0) rfl (.inl rfl)) (z4y (i := 1) rfl (.inl rfl)) (z5O _)) (zav (z8d (z6S hr.units) z69 (z6Y (n := "bool") (z4y (i := 0) rfl (.inl rfl)) (by decide) rfl T.b_isinstance z4K rfl T.b_bool z9V) (z6Y (n := "bool") (z4y (i := 1) rfl (.inl rfl)) (by decide) rfl T.b_isinstance z4K rfl T.b_bool z9V) (z5O _))))))))
def z5m : List D -> Ow -> R D := z5x 4
theorem zb4 (T : Txt K mg) (B : z7D mg base) : CalleeX Cl P w K mg base "_law_same" 5 2 z5m := z7F T B 4
def z6N : DS :=
  (z4W (z5n 3 (z5k (z4w (zdb z2P (z4z 1)) (z4w (zdb z2T (z4z 1)) (z4w (zdb z2S (z4z 1)) z4C))))) (z4W (z5n 3 (dOp z9t (z4z 3) (z5k (z4w (zdb z2R (z4z 1)) (z4w (zdb z2O (z4z 1)) (z4w (zdb z2M (z4z 1)) z4C)))))) (z4W (z5n 3 (dOp z9t (z4z 3) (z5k (z4w (zdb z2U (z4z 1)) (z4w (zdb z2Q (z4z 1)) (z4w (zdb z2N (z4z 1)) z4C)))))) (z4W (sIf (z5g (z5V (zdb z2V (z4z 1)))) (z5c (dC .non)) z5z) (z5c (z5I false 1 (z5S (z4w (dC (.int 9)) z4C)) (.one 4) [(z5V (dOp fIx (z4z 3) (z4z 4)))] [] (z4z 4)))))))
theorem z99 : z4X ["_law_call", "_law_error", "e", "_law_marks"] ["_law_call"] (z4E (top 41)) := ⟨rfl, rfl, rfl, by decide +kernel, rfl, by decide +kernel, by decide +kernel⟩
theorem zbp {X : Cx} {Ex : Nat -> Hp -> Prop} {k iT : Nat} {c Pt : Addr} {tE : DE} {params : Arguments} {body : Expr} {scope : Scope} {pn pl pp : Pos} (T : Txt X.K X.mg) (hr : Room (k + 2) X.A) (L : z9U X.mg X.base c Pt) (hcode : X.env.code = .ref c) (LS : zag X.env.scope scope) (hdef : defaultsOf params X.env = ([], []))
    (hbl : ∀ (name qual : Str) (cl : List (Str × Addr)) (pm cd ct : Value), bindArgs (PySem.W.kla_fn name qual params body scope cl pm cd ct) ⟨[], []⟩ = pure [])
    (hE : ∀ (q : Str) (lam : Addr) (cd : Value) (cl : List (Str × Addr)) (A : Around) (outer : List Env) (s : Shared) (H : Hp) (E : XK), Room k (A.deeper (zdq q scope s.heap.objs.size lam cd cl)) -> PD (cxL (CXr X.prog X.w Cl) X.prog X.w X.K X.mg X.base X.N (zdq q scope s.heap.objs.size lam cd cl) A outer s H E) (Xk Cl E) body tE)
    (hg : Gl X "_law_refused") : PD X Ex (.Call (.Name "_law_refused" pn) [.Lambda params body scope pl] [] pp) (z5r Pt iT Ca 4 1 tE z6N) :=
  zcZ (N := ["_law_call", "_law_error", "e", "_law_marks"]) (i := 2) (j := 1) (nf := "_law_call") (n := "e") (y := "_law_error") (xT := "TermError") (T := 24) (Cl := Cl) (Ca := Ca) T.d__law_refused hr rfl z99 (by decide +kernel) rfl rfl rfl (by decide) (by decide) rfl rfl (.inl rfl) (fun _ _ _ _ _ _ us hl => match us, hl with | [_], _ => rfl) rfl T.z1M (zlv T) (fun f cdv s H hr => (z4F (z5d (i := 3) zkA rfl (.inr rfl) (z5e (z4x (z74 (x := "NoFunction") (C0 := 37) (f := z2P) (z4y (i := 1) rfl (.inl rfl)) rfl T.b_isinstance z4K rfl T.z1G T.z2z (z2m T)) (z4x (z74 (x := "NoTerm") (C0 := 49) (f := z2T) (z4y (i := 1) rfl (.inl rfl)) rfl T.b_isinstance z4K rfl T.z1K T.z2D (z2q T)) (z4x (z74 (x := "NoPoint") (C0 := 61) (f := z2S) (z4y (i := 1) rfl (.inl rfl)) rfl T.b_isinstance z4K rfl T.z1J T.z2C (z2p T)) z4A z59) z59) z59))) (z4F (z5d (i := 3) zkA rfl (.inr rfl) (z7K (z4y (i := 3) rfl (.inr (.inl rfl))) (z5e (z4x (z74 (x := "NoNumber") (C0 := 73) (f := z2R) (z4y (i := 1) rfl (.inl rfl)) rfl T.b_isinstance z4K rfl T.z1I T.z2B (z2o T)) (z4x (z74 (x := "NoForm") (C0 := 85) (f := z2O) (z4y (i := 1) rfl (.inl rfl)) rfl T.b_isinstance z4K rfl T.z1F T.z2y (z2l T)) (z4x (z74 (x := "NoChange") (C0 := 97) (f := z2M) (z4y (i := 1) rfl (.inl rfl)) rfl T.b_isinstance z4K rfl T.z1D T.z2w (z2j T)) z4A z59) z59) z59)))) (z4F (z5d (i := 3) zkA rfl (.inr rfl) (z7K (z4y (i := 3) rfl (.inr (.inl rfl))) (z5e (z4x (z74 (x := "NoText") (C0 := 109) (f := z2U) (z4y (i := 1) rfl (.inl rfl)) rfl T.b_isinstance z4K rfl T.z1L T.z2E (z2r T)) (z4x (z74 (x := "NoLine") (C0 := 121) (f := z2Q) (z4y (i := 1) rfl (.inl rfl)) rfl T.b_isinstance z4K rfl T.z1H T.z2A (z2n T)) (z4x (z74 (x := "NoDeed") (C0 := 133) (f := z2N) (z4y (i := 1) rfl (.inl rfl)) rfl T.b_isinstance z4K rfl T.z1E T.z2x (z2k T)) z4A z59) z59) z59)))) (z4F (z5B (z6l (z5N (zi0 (x := "ValueError") (n := "ValueError") (f := z2V) (z4y (i := 1) rfl (.inl rfl)) rfl T.b_isinstance z4K rfl T.b_ValueError za8 T.z2F (z2s T)) (fun _ => rfl))) (z4H (z4T z6G)) z53) (z4H (z4T (z6v false ["_law_k"] rfl (z5i rfl T.b_range (z4x z4G z4A z4D)) (z6p (by kernel_rfl)) (fun _ _ _ _ _ => ⟨(z65 (i := 4) zlA rfl (.inl rfl) (.inr rfl)), (.cons (z5N (z6z (z4y (i := 3) rfl (.inr (.inl rfl))) (z4y (i := 4) rfl (.inl rfl)) (fun _ _ => rfl)) (fun _ => rfl)) .nil), .nil, (z4y (i := 4) rfl (.inl rfl))⟩))))))))) L hcode LS hdef hbl hE hg
def z7U : DS :=
  (z4W (sIf (zbx (z5g (z5V (z6R "tuple" (z4z 0)))) (z5h (dOp z9h (z4N z5T (z4w (z4z 0) z4C)) (z72 (z4w (dC (.int 2)) (z4w (dC (.int 4)) (z4w (dC (.int 8)) (z4w (dC (.int 16)) z4C)))))))) (z5c (dC (.bl false))) z5z) (z4W (z5n 1 (z5I false 1 (dIt (z4z 0)) (.one 2) [(zaD (z5h (dOp zgu (z4z 2) (dC .non))) (zbx (z5V (z6R "bool" (z4z 2))) (z5g (z5V (z6R "int" (z4z 2))))))] [] (z4z 2))) (z5c (zgC (dOp (fPy eqF) (z4z 1) (z5k z4C)) (dOp (fPy eqF) (z5I false 1 (dIt (z4z 0)) (.one 2) [(z5h (dOp z9h (z4z 2) (z72 (z4w (dC (.int 0)) (z4w (dC (.int 1)) (z4w (dC .non) z4C))))))] [] (z4z 2)) (z5k z4C))))))
def z57 : List D -> Ow -> R D := (z7l 2 z7U)
theorem z7z : z4X ["_law_thing", "_law_some"] ["_law_thing"] (z4E (top 42)) := ⟨rfl, rfl, rfl, by decide +kernel, rfl, by decide +kernel, by decide +kernel⟩
theorem z7C (T : Txt K mg) (B : z7D mg base) : CalleeX Cl P w K mg base "_law_is_function" 1 1 z57 :=
  CalleeX.self (fnX (k := 0) T.d__law_is_function z7z (fun _ _ _ _ _ _ us hl => match us, hl with | [_], _ => rfl) fun f cdv A outer s H E hr =>
    (z4F (z5B (PDW.pt (zcA (z6l (z5N (z6Y (n := "tuple") (z4y (i := 0) rfl (.inl rfl)) (by decide) rfl T.b_isinstance z4K rfl T.b_tuple z6M) (fun _ => rfl))) (z9P (z5q (zcc hr.units) zbI (z5a z5s z6h rfl T.b_len z6d (z4x (z4y (i := 0) rfl (.inl rfl)) z4A z4B)) (z7c (z4x z4G (z4x z4G (z4x z4G (z4x z4G z4A z4D) z4D) z4D) z4D)) rfl)))) (z4H (z4T z6T)) z53) (z4F (z6w (i := 1) false ["_law_one"] rfl zkf rfl rfl (z7Z (z4y (i := 0) rfl (.inl rfl))) (z6p (by kernel_rfl)) (fun _ _ _ _ _ => ⟨(z65 (i := 2) zj2 rfl (.inl rfl) (.inr rfl)), (.cons (PDW.pt (zf4 (z5q zi2 zft (z4y (i := 2) rfl (.inl rfl)) z6G (z5O _)) (zcM (PDW.pt (zcA (z5N (z6Y (n := "bool") (z4y (i := 2) rfl (.inl rfl)) (by decide) rfl T.b_isinstance z4K rfl T.b_bool z9V) (fun _ => rfl)) (z9P (z6l (z5N (z6Y (n := "int") (z4y (i := 2) rfl (.inl rfl)) (by decide) rfl T.b_isinstance z4K rfl T.b_int zeT) (fun _ => rfl))))))))) .nil), .nil, (z4y (i := 2) rfl (.inl rfl))⟩) rfl) (z4H (z4T (zcV (z8d (z6S hr.units) z69 (z4y (i := 1) rfl (.inl rfl)) (z5e z4A) (z5O _)) (zav (z8d (z6S hr.units) z69 (z6v false ["_law_one"] rfl (z7Z (z4y (i := 0) rfl (.inl rfl))) (z6p (by kernel_rfl)) (fun _ _ _ _ _ => ⟨(z65 (i := 2) zj2 rfl (.inl rfl) (.inr rfl)), (.cons (z5q (zcc hr.units) zbI (z4y (i := 2) rfl (.inl rfl)) (z7c (z4x z4G (z4x z4G (z4x z6G z4A z4D) z4D) z4D)) rfl) .nil), .nil, (z4y (i := 2) rfl (.inl rfl))⟩)) (z5e z4A) (z5O _)))))))))
def zay : DS :=
  (z4W (z5n 2 (z5I false 1 (z5S (z4w (z4N z5T (z4w (z4z 1) z4C)) z4C)) (.one 5) [(z5h (dOp (fPy eqF) (dOp fIx (z4z 1) (z4z 5)) (dC (.int 1))))] [] (z4z 5))) (z4W (z5n 3 (z5I false 1 (z5S (z4w (z4N z5T (z4w (z4z 1) z4C)) z4C)) (.one 5) [(z5h (dOp zjT (dOp fIx (z4z 1) (z4z 5)) (dC .non)))] [] (z4z 5))) (z4W (z5n 4 (z5I false 1 (z5S (z4w (z4N z5T (z4w (z4z 1) z4C)) z4C)) (.one 5) [(z5h (dOp (fPy eqF) (dOp fIx (z4z 1) (z4z 5)) (dC (.int 0))))] [] (z4z 5))) (z5c (z72 (z4w (z4z 2) (z4w (z4z 3) (z4w (z4z 4) z4C))))))))
def z67 : List D -> Ow -> R D := (z7l 5 zay)
theorem zab : z4X ["_law_state_here", "_law_function_here", "_law_ones", "_law_frees", "_law_noughts"] ["_law_state_here", "_law_function_here"] (z4E (top 44)) := ⟨rfl, rfl, rfl, by decide +kernel, rfl, by decide +kernel, by decide +kernel⟩
theorem z9R (T : Txt K mg) (B : z7D mg base) : CalleeX Cl P w K mg base "_law_lists" 1 2 z67 :=
  CalleeX.self (fnX (k := 0) T.d__law_lists zab (fun _ _ _ _ _ _ us hl => match us, hl with | [_, _], _ => rfl) fun f cdv A outer s H E hr =>
    (z4F (z6w (i := 2) false ["_law_point"] rfl zim rfl rfl (z5i rfl T.b_range (z4x (z5a z5s z6h rfl T.b_len z6d (z4x (z4y (i := 1) rfl (.inr (.inl rfl))) z4A z4B)) z4A z59)) (z6p (by kernel_rfl)) (fun _ _ _ _ _ => ⟨(z65 (i := 5) zi8 rfl (.inl rfl) (.inr rfl)), (.cons (z5q (z6S hr.units) z69 (z6z (z4y (i := 1) rfl (.inr (.inl rfl))) (z4y (i := 5) rfl (.inl rfl)) (fun _ _ => rfl)) z4G (z5O _)) .nil), .nil, (z4y (i := 5) rfl (.inl rfl))⟩) rfl) (z4F (z6w (i := 3) false ["_law_point"] rfl zim rfl rfl (z5i rfl T.b_range (z4x (z5a z5s z6h rfl T.b_len z6d (z4x (z4y (i := 1) rfl (.inr (.inl rfl))) z4A z4B)) z4A z59)) (z6p (by kernel_rfl)) (fun _ _ _ _ _ => ⟨(z65 (i := 5) zi8 rfl (.inl rfl) (.inr rfl)), (.cons (z5q zgE zdJ (z6z (z4y (i := 1) rfl (.inr (.inl rfl))) (z4y (i := 5) rfl (.inl rfl)) (fun _ _ => rfl)) z6G (z5O _)) .nil), .nil, (z4y (i := 5) rfl (.inl rfl))⟩) rfl) (z4F (z6w (i := 4) false ["_law_point"] rfl zim rfl rfl (z5i rfl T.b_range (z4x (z5a z5s z6h rfl T.b_len z6d (z4x (z4y (i := 1) rfl (.inr (.inl rfl))) z4A z4B)) z4A z59)) (z6p (by kernel_rfl)) (fun _ _ _ _ _ => ⟨(z65 (i := 5) zi8 rfl (.inl rfl) (.inr rfl)), (.cons (z5q (z6S hr.units) z69 (z6z (z4y (i := 1) rfl (.inr (.inl rfl))) (z4y (i := 5) rfl (.inl rfl)) (fun _ _ => rfl)) z4G (z5O _)) .nil), .nil, (z4y (i := 5) rfl (.inl rfl))⟩) rfl) (z4H (z4T (z7c (z4x (z4y (i := 2) rfl (.inl rfl)) (z4x (z4y (i := 3) rfl (.inl rfl)) (z4x (z4y (i := 4) rfl (.inl rfl)) z4A z4B) z4B) z4B))))))))
def z7Y : DS :=
  (z5c (zgC (dFn 1 z86 (z4w (z4z 0) z4C)) (zgR fLe fLe (z4z 1) (z4z 0) (z4z 2))))
def z4Z : List D -> Ow -> R D := (z7l 3 z7Y)
theorem z7O : z4X ["thing", "least", "most"] ["thing", "least", "most"] (z4E (top 14)) := ⟨rfl, rfl, rfl, by decide +kernel, rfl, by decide +kernel, by decide +kernel⟩
theorem z7N (T : Txt K mg) (B : z7D mg base) (c_is_whole : CalleeX Cl P w K mg base "is_whole" 1 1 z86) : CalleeX Cl P w K mg base "is_whole_within" 2 3 z4Z :=
  CalleeX.self (fnX (k := 1) T.d_is_whole_within z7O (fun _ _ _ _ _ _ us hl => match us, hl with | [_, _, _], _ => rfl) fun f cdv A outer s H E hr =>
    (z4H (z4T (zcV (z4Y c_is_whole (z4J rfl z51) hr (by decide) rfl (z4x (z4y (i := 0) rfl (.inl rfl)) z4A z4B)) (zav (zfu ziX zh0 ziX zh0 (z4y (i := 1) rfl (.inl rfl)) (z4y (i := 0) rfl (.inl rfl)) (z4y (i := 2) rfl (.inl rfl))))))))
def zbj : DS :=
  (z4W (z5n 2 (dFn 2 z5W (z4w (z4z 0) (z4w (z4z 1) z4C)))) (z4W (sIf (z5h (dOp fGe (z4z 2) (dOp (fI zdk) (dC (.int 10)) (dC (.int 18))))) (z5c (zar (z4w (dOp (fI zgK) (z4z 2) (dOp (fI zdk) (dC (.int 10)) (dC (.int 18)))) (z4w (dC (.bl true)) z4C)))) z5z) (z5c (zar (z4w (dOp (fI z9A) (z4z 2) (dC (.int 2147483647))) (z4w (dC (.bl false)) z4C))))))
def z66 : List D -> Ow -> R D := (z7l 3 zbj)
theorem za1 : z4X ["_law_script", "_law_k", "_law_cell"] ["_law_script", "_law_k"] (z4E (top 33)) := ⟨rfl, rfl, rfl, by decide +kernel, rfl, by decide +kernel, by decide +kernel⟩
theorem zai (T : Txt K mg) (B : z7D mg base) (c__law_cell_at : CalleeX Cl P w K mg base "_law_cell_at" 1 2 z5W) : CalleeX Cl P w K mg base "_law_state" 2 2 z66 :=
  CalleeX.self (fnX (k := 1) T.d__law_state za1 (fun _ _ _ _ _ _ us hl => match us, hl with | [_, _], _ => rfl) fun f cdv A outer s H E hr =>
    (z4F (z5d (i := 2) zlF rfl (.inl rfl) (z4Y c__law_cell_at (z4J rfl z51) hr (by decide) rfl (z4x (z4y (i := 0) rfl (.inl rfl)) (z4x (z4y (i := 1) rfl (.inl rfl)) z4A z4B) z4B))) (z4F (z5B (z5q zkz zjk (z4y (i := 2) rfl (.inl rfl)) (z6g zeJ zc0 z4G z4G) (z5O _)) (z4H (z4T (zc3 (z4x (z6g zgV zdI (z4y (i := 2) rfl (.inl rfl)) (z6g zeJ zc0 z4G z4G)) (z4x z6T z4A z4D) z6X)))) z53) (z4H (z4T (zc3 (z4x (z6g z98 z7x (z4y (i := 2) rfl (.inl rfl)) z4G) (z4x z6T z4A z4D) z6X)))))))
def zce : DS :=
  (z5c (zh7 (dC (.str [])) (z4w (z5I false 1 (z5S (z4w (z4z 1) z4C)) (.one 2) [] [] (dOp fIx (dC (.str [48, 49, 45, 45])) (dFn 2 z4I (z4w (z4z 0) (z4w (dC (.int 4)) z4C))))) z4C)))
def z6x : List D -> Ow -> R D := (z7l 2 zce)
theorem zaP : z4X ["_law_state_here", "_law_n"] ["_law_state_here", "_law_n"] (z4E (top 35)) := ⟨rfl, rfl, rfl, by decide +kernel, rfl, by decide +kernel, by decide +kernel⟩
theorem zaT (T : Txt K mg) (B : z7D mg base) (c__law_take : CalleeX Cl P w K mg base "_law_take" 1 2 z4I) : CalleeX Cl P w K mg base "_law_term" 2 2 z6x :=
  CalleeX.self (fnX (k := 1) T.d__law_term zaP (fun _ _ _ _ _ _ us hl => match us, hl with | [_, _], _ => rfl) fun f cdv A outer s H E hr =>
    (z4H (z4T (zhs (z6J [] rfl) (z4x (z6v false ["_law_k"] rfl (z5i rfl T.b_range (z4x (z4y (i := 1) rfl (.inl rfl)) z4A z4B)) (z6p (by kernel_rfl)) (fun _ _ _ _ _ => ⟨(z65 (i := 2) zlI rfl (.inl rfl) (.inr rfl)), .nil, .nil, (z6z (z6J [48, 49, 45, 45] rfl) (z83 c__law_take hr (by decide) rfl (z4x (z4y (i := 0) rfl (.inr (.inl rfl))) (z4x z4G z4A z4D) z4B)) (fun _ _ => rfl))⟩)) z4A z7w)))))
def z7L : DS :=
  (z4W (z5n 1 (zar z4C)) (z4W (zdr (z5S (z4w (dOp (fI zbZ) (dC (.int 1)) (z4N z5T (z4w (z4z 0) z4C))) z4C)) (.one 2) (z4W (z5n 3 (dFn 2 z5Z (z4w (z4N z5T (z4w (z4z 0) z4C)) (z4w (z4z 2) z4C)))) (sIf (z5h (dOp (fPy eqF) (z5I false 1 (z5S (z4w (z4N z5T (z4w (z4z 0) z4C)) z4C)) (.one 4) [(z5h (dOp z9h (dOp fIx (z4z 0) (z4z 4)) (z72 (z4w (dC (.str [45])) (z4w (dOp fIx (z4z 3) (z4z 4)) z4C)))))] [] (z4z 4)) (z5k z4C))) (z5K (zfq (z4z 1) (z4w (z4z 2) z4C))) z5z))) (z5c (z4z 1))))
def z5U : List D -> Ow -> R D := zjp (z7l 4 z7L)
theorem z9k : z4X ["_law_term_here", "_law_found", "_law_point", "_law_bits_here"] ["_law_term_here"] (z4E (top 37)) := ⟨rfl, rfl, rfl, by decide +kernel, rfl, by decide +kernel, by decide +kernel⟩
theorem z9q (T : Txt K mg) (B : z7D mg base) (c__law_bits : CalleeX Cl P w K mg base "_law_bits" 1 2 z5Z) : CalleeX Cl P w K mg base "_law_points" 2 1 z5U :=
  CalleeX.frz (fnX (k := 1) T.d__law_points z9k (fun _ _ _ _ _ _ us hl => match us, hl with | [_], _ => rfl) fun f cdv A outer s H E hr =>
    (z4F (z5d (i := 1) zho rfl (.inl rfl) (zc3 z4A)) (z4F (z84 z81 rfl (z5i rfl T.b_range (z4x (z6g zcG z9M z4G (z5a z5s z6h rfl T.b_len z6d (z4x (z4y (i := 0) rfl (.inr (.inl rfl))) z4A z4B))) z4A z6X)) (z65 (i := 2) zho rfl (.inl rfl) (.inl rfl)) (z4F (z5d (i := 3) zho rfl (.inr rfl) (z4Y c__law_bits (z4J rfl z51) hr (by decide) rfl (z4x (z5a z5s z6h rfl T.b_len z6d (z4x (z4y (i := 0) rfl (.inr (.inl rfl))) z4A z4B)) (z4x (z4y (i := 2) rfl (.inl rfl)) z4A z4B) z59))) (z4H (z5B (z5q (z6S hr.units) z69 (z6v false ["_law_k"] rfl (z5i rfl T.b_range (z4x (z5a z5s z6h rfl T.b_len z6d (z4x (z4y (i := 0) rfl (.inr (.inl rfl))) z4A z4B)) z4A z59)) (z6p (by kernel_rfl)) (fun _ _ _ _ _ => ⟨(z65 (i := 4) zkC rfl (.inl rfl) (.inr rfl)), (.cons (z5q (zcc hr.units) zbI (z6z (z4y (i := 0) rfl (.inr (.inl rfl))) (z4y (i := 4) rfl (.inl rfl)) (fun _ _ => rfl)) (z7c (z4x (z6J [45] rfl) (z4x (z6z (z4y (i := 3) rfl (.inr (.inl rfl))) (z4y (i := 4) rfl (.inl rfl)) (fun _ _ => rfl)) z4A zb1) z4D)) rfl) .nil), .nil, (z4y (i := 4) rfl (.inl rfl))⟩)) (z5e z4A) (z5O _)) (z4H (z6r (zbh (z4y (i := 1) rfl (.inl rfl)) (z4x (z4y (i := 2) rfl (.inl rfl)) z4A z4B)))) z53)))) (z4H (z4T (z4y (i := 1) rfl (.inl rfl)))))))
def zbB : DS :=
  (z4W (z5n 2 (dFn 2 z4I (z4w (z4z 0) (z4w (z4N z5T (z4w (z4z 1) z4C)) z4C)))) (z4W (z5n 3 (dOp fIx (z5k (z4w (dC (.bl true)) (z4w (dC (.int 2)) (z4w (zd5 (dC (.int 1))) (z4w (dC (.str [48])) (z4w (z72 (z4w (dC (.int 0)) z4C)) (z4w (dC (.bl false)) (z4w (z5k z4C) (z4w (dOp (fI zdk) (dC (.int 10)) (dC (.int 29))) z4C))))))))) (dFn 2 z4I (z4w (z4z 0) (z4w (dC (.int 8)) z4C))))) (z4W (z5n 4 (z5k (z4w (dOp z6e (dOp z6e (z9c (z4z 1) z6H (z6f (z4z 2))) (z72 (z4w (z4z 3) z4C))) (z9c (z4z 1) (z6f (dOp z6e (z4z 2) (dC (.int 1)))) z6H)) (z4w (z9c (z4z 1) (z6f (dC (.int 1))) z6H) (z4w (dOp z6e (z4z 1) (z72 (z4w (dC (.int 0)) z4C))) (z4w (z4N (zaQ false) (z4w (z4z 1) z4C)) (z4w (dOp ze9 (z4z 1) (dC (.int 2))) z4C))))))) (z4W (z5n 4 (dOp z6e (z4z 4) (z5k (z4w (z9c (z4z 1) z6H (z6f (dOp (fI z9J) (z4N z5T (z4w (z4z 1) z4C)) (dC (.int 2))))) (z4w (dOp z6e (dOp z6e (z9c (z4z 1) z6H (z6f (z4z 2))) (z72 (z4w (dC .non) z4C))) (z9c (z4z 1) (z6f (dOp z6e (z4z 2) (dC (.int 1)))) z6H)) (z4w (dC .non) (z4w (dC (.int 0)) (z4w (dC (.str [48, 49])) (z4w zhS (z4w (z72 z4C) z4C)))))))))) (z5c (dOp fIx (z4z 4) (dFn 2 z4I (z4w (z4z 0) (z4w (dC (.int 12)) z4C)))))))))
def z5l : List D -> Ow -> R D := (z7l 5 zbB)
theorem zbf : z4X ["_law_state_here", "_law_function_here", "_law_at", "_law_odd", "_law_some"] ["_law_state_here", "_law_function_here"] (z4E (top 43)) := ⟨rfl, rfl, rfl, by decide +kernel, rfl, by decide +kernel, by decide +kernel⟩
theorem zbs (T : Txt K mg) (B : z7D mg base) (c__law_take : CalleeX Cl P w K mg base "_law_take" 1 2 z4I) : CalleeX Cl P w K mg base "_law_bent" 2 2 z5l :=
  CalleeX.self (fnX (k := 1) T.d__law_bent zbf (fun _ _ _ _ _ _ us hl => match us, hl with | [_, _], _ => rfl) fun f cdv A outer s H E hr =>
    (z4F (z5d (i := 2) zgq rfl (.inl rfl) (z4Y c__law_take (z4J rfl z51) hr (by decide) rfl (z4x (z4y (i := 0) rfl (.inl rfl)) (z4x (z5a z5s z6h rfl T.b_len z6d (z4x (z4y (i := 1) rfl (.inl rfl)) z4A z4B)) z4A z59) z4B))) (z4F (z5d (i := 3) zgq rfl (.inl rfl) (z6z (z5e (z4x z6T (z4x z4G (z4x (zcC z4G) (z4x (z6J [48] rfl) (z4x (z7c (z4x z4G z4A z4D)) (z4x z6T (z4x (z5e z4A) (z4x (z6g zeJ zc0 z4G z4G) z4A z6X) z64) z4D) z8z) z4D) zhu) z4D) z4D)) (z4Y c__law_take (z4J rfl z51) hr (by decide) rfl (z4x (z4y (i := 0) rfl (.inl rfl)) (z4x z4G z4A z4D) z4B)) (fun _ _ => rfl))) (z4F (z5d (i := 4) zgq rfl (.inl rfl) (z5e (z4x (z75 (z75 (z9u (z4y (i := 1) rfl (.inl rfl)) z7e (z70 (z4y (i := 2) rfl (.inl rfl)))) (z7c (z4x (z4y (i := 3) rfl (.inl rfl)) z4A z4B))) (z9u (z4y (i := 1) rfl (.inl rfl)) (z70 (z75 (z4y (i := 2) rfl (.inl rfl)) z4G)) z7e)) (z4x (z9u (z4y (i := 1) rfl (.inl rfl)) (z70 z4G) z7e) (z4x (z75 (z4y (i := 1) rfl (.inl rfl)) (z7c (z4x z4G z4A z4D))) (z4x (z6A z8e (zdL false) rfl T.b_list z85 (z4x (z4y (i := 1) rfl (.inl rfl)) z4A z4B)) (z4x (z6g zhZ zgp (z4y (i := 1) rfl (.inl rfl)) z4G) z4A z6X) z59) z6X) zb1) z6X))) (z4F (z5d (i := 4) zgq rfl (.inl rfl) (z75 (z4y (i := 4) rfl (.inl rfl)) (z5e (z4x (z9u (z4y (i := 1) rfl (.inl rfl)) z7e (z70 (z6g z9L zao (z5a z5s z6h rfl T.b_len z6d (z4x (z4y (i := 1) rfl (.inl rfl)) z4A z4B)) z4G))) (z4x (z75 (z75 (z9u (z4y (i := 1) rfl (.inl rfl)) z7e (z70 (z4y (i := 2) rfl (.inl rfl)))) (z7c (z4x z6G z4A z4D))) (z9u (z4y (i := 1) rfl (.inl rfl)) (z70 (z75 (z4y (i := 2) rfl (.inl rfl)) z4G)) z7e)) (z4x z6G (z4x z4G (z4x (z6J [48, 49] rfl) (z4x zgG (z4x (z7c z4A) z4A z8z) zdX) z4D) z4D) z4D) z6X) zb1)))) (z4H (z4T (z6z (z4y (i := 4) rfl (.inl rfl)) (z4Y c__law_take (z4J rfl z51) hr (by decide) rfl (z4x (z4y (i := 0) rfl (.inl rfl)) (z4x z4G z4A z4D) z4B)) (fun _ _ => rfl)))))))))
def z7r : DS :=
  (sIf (z5g (z5V (dFn 3 z4Z (z4w (z4z 0) (z4w (z4z 1) (z4w (z4z 2) z4C)))))) (z9v 1 (z4w (dJs [(dC (.str [111, 110, 108, 121, 32, 97, 32, 119, 104, 111, 108, 101, 32, 110, 117, 109, 98, 101, 114, 32, 102, 114, 111, 109, 32])), (zkN (z4z 1)), (dC (.str [32, 116, 111, 32])), (zkN (z4z 2)), (dC (.str [32, 105, 115, 32, 108, 101, 116, 32, 104, 101, 114, 101]))]) z4C)) z5z)
def z60 : List D -> Ow -> R D := (z7l 3 z7r)
theorem z7i : z4X ["thing", "least", "most"] ["thing", "least", "most"] (z4E (top 15)) := ⟨rfl, rfl, rfl, by decide +kernel, rfl, by decide +kernel, by decide +kernel⟩
theorem z7k (T : Txt K mg) (B : z7D mg base) (c_is_whole_within : CalleeX Cl P w K mg base "is_whole_within" 2 3 z4Z) : CalleeX Cl P w K mg base "need_whole_within" 3 3 z60 :=
  CalleeX.self (fnX (k := 2) T.d_need_whole_within z7i (fun _ _ _ _ _ _ us hl => match us, hl with | [_, _, _], _ => rfl) fun f cdv A outer s H E hr =>
    (z4H (z5B (z6l (z5N (z4Y c_is_whole_within (z4J rfl z51) hr (by decide) rfl (z4x (z4y (i := 0) rfl (.inl rfl)) (z4x (z4y (i := 1) rfl (.inl rfl)) (z4x (z4y (i := 2) rfl (.inl rfl)) z4A z4B) z4B) z4B)) (fun _ => rfl))) (z4H (z7P (c := 1) z51 rfl rfl B.z2H rfl rfl (z4x (zfn (.cons (z6J [111, 110, 108, 121, 32, 97, 32, 119, 104, 111, 108, 101, 32, 110, 117, 109, 98, 101, 114, 32, 102, 114, 111, 109, 32] rfl) (.cons (zgJ (z4y (i := 1) rfl (.inl rfl))) (.cons (z6J [32, 116, 111, 32] rfl) (.cons (zgJ (z4y (i := 2) rfl (.inl rfl))) (.cons (z6J [32, 105, 115, 32, 108, 101, 116, 32, 104, 101, 114, 101] rfl) .nil)))))) z4A))) z53)))
def zbA : DS :=
  (z5c (dOr (dOp zjT (z4z 0) (dC .non)) (dFn 3 z4Z (z4w (z4z 0) (z4w (dC (.int 0)) (z4w (dC (.int 1)) z4C))))))
def z63 : List D -> Ow -> R D := (z7l 1 zbA)
theorem zbu : z4X ["thing"] ["thing"] (z4E (top 20)) := ⟨rfl, rfl, rfl, by decide +kernel, rfl, by decide +kernel, by decide +kernel⟩
theorem zbd (T : Txt K mg) (B : z7D mg base) (c_is_whole_within : CalleeX Cl P w K mg base "is_whole_within" 2 3 z4Z) : CalleeX Cl P w K mg base "is_answer" 3 1 z63 :=
  CalleeX.self (fnX (k := 2) T.d_is_answer zbu (fun _ _ _ _ _ _ us hl => match us, hl with | [_], _ => rfl) fun f cdv A outer s H E hr =>
    (z4H (z4T (zkg (z8d zgE zdJ (z4y (i := 0) rfl (.inl rfl)) z6G (z5O _)) (zav (z4Y c_is_whole_within (z4J rfl z51) hr (by decide) rfl (z4x (z4y (i := 0) rfl (.inl rfl)) (z4x z4G (z4x z4G z4A z4D) z4D) z4B)))))))
def z95 : DS :=
  (z4W (sIf (z5g (z5V (z6R "list" (z4z 1)))) (z5c (dC (.bl false))) z5z) (z4W (z5n 2 (dOp (fI zgK) (ziq z56 (z4z 0)) (dC (.int 1)))) (z4W (sIf (z5g (z5V (z4N zgW (z4w (z5I false 1 (dIt (z4z 1)) (.one 3) [] [] (dFn 3 z4Z (z4w (z4z 3) (z4w (dC (.int 0)) (z4w (z4z 2) z4C))))) z4C)))) (z5c (dC (.bl false))) z5z) (z5c (dOp (fPy eqF) (zc5 (z4w (z4z 1) z4C)) (z4N z5T (z4w (z4z 1) z4C)))))))
def z6b : List D -> Ow -> R D := (z7l 3 z95)
theorem z8r : z4X ["n", "thing", "last"] ["n", "thing"] (z4E (top 23)) := ⟨rfl, rfl, rfl, by decide +kernel, rfl, by decide +kernel, by decide +kernel⟩
theorem z8p (T : Txt K mg) (B : z7D mg base) (c_is_whole_within : CalleeX Cl P w K mg base "is_whole_within" 2 3 z4Z) : CalleeX Cl P w K mg base "is_point_list" 3 2 z6b :=
  CalleeX.self (fnX (k := 2) T.d_is_point_list z8r (fun _ _ _ _ _ _ us hl => match us, hl with | [_, _], _ => rfl) fun f cdv A outer s H E hr =>
    (z4F (z5B (z6l (z5N (z6Y (n := "list") (z4y (i := 1) rfl (.inl rfl)) (by decide) rfl T.b_isinstance z4K rfl T.b_list z85) (fun _ => rfl))) (z4H (z4T z6T)) z53) (z4F (z5d (i := 2) zlR rfl (.inr rfl) (z6g zgV zdI (zeh T.z2h rfl (z4y (i := 0) rfl (.inl rfl)) (fun _ _ => rfl)) z4G)) (z4F (z5B (z6l (z5N (z5a (z8J rfl) zey rfl T.b_all zdO (z4x (z6v false ["point"] rfl (z7Z (z4y (i := 1) rfl (.inl rfl))) (z6p (by kernel_rfl)) (fun _ _ _ _ _ => ⟨(z65 (i := 3) zlr rfl (.inl rfl) (.inr rfl)), .nil, .nil, (z83 c_is_whole_within hr (by decide) rfl (z4x (z4y (i := 3) rfl (.inl rfl)) (z4x z4G (z4x (z4y (i := 2) rfl (.inr (.inl rfl))) z4A z4B) z4D) z4B))⟩)) z4A z7w)) (fun _ => rfl))) (z4H (z4T z6T)) z53) (z4H (z4T (z8d (z6S hr.units) z69 (zdV rfl rfl T.b_len z6d rfl T.b_set zjS (z4x (z4y (i := 1) rfl (.inl rfl)) z4A z4B)) (z5a z5s z6h rfl T.b_len z6d (z4x (z4y (i := 1) rfl (.inl rfl)) z4A z4B)) (z5O _))))))))
def z8K : DS :=
  (z4W (z5n 1 (dOp fIx (z5k (z4w (dC (.int 4)) (z4w (dC (.int 3)) (z4w (dC (.int 3)) (z4w (dC (.int 2)) (z4w (dC (.int 4)) (z4w (dC (.int 3)) (z4w (dC (.int 4)) (z4w (dC (.int 1)) z4C))))))))) (dFn 2 z4I (z4w (z4z 0) (z4w (dC (.int 8)) z4C))))) (z4W (z5n 2 (dFn 2 z4I (z4w (z4z 0) (z4w (dC (.int 6)) z4C)))) (z4W (sIf (z5h (dOp fLt (z4z 2) (dC (.int 4)))) (z4W (z5n 3 (dOp fIx (z5k (z4w (z5k (z4w (dC (.int 0)) (z4w (dC (.int 1)) z4C))) (z4w (z5k (z4w (dC (.int 0)) (z4w (dC (.int 1)) (z4w (dC .non) z4C)))) (z4w (z5k (z4w (dC (.int 0)) (z4w (dC (.int 0)) (z4w (dC (.int 0)) (z4w (dC (.int 1)) (z4w (dC .non) z4C)))))) (z4w (z5k (z4w (dC (.int 1)) (z4w (dC (.int 1)) (z4w (dC (.int 1)) (z4w (dC (.int 0)) (z4w (dC .non) z4C)))))) z4C))))) (z4z 2))) (z5c (z4N z8h (z4w (z5I false 1 (z5S (z4w (dOp (fI zbZ) (dC (.int 1)) (z4z 1)) z4C)) (.one 7) [] [] (dOp fIx (z4z 3) (dFn 2 z4I (z4w (z4z 0) (z4w (z4N z5T (z4w (z4z 3) z4C)) z4C))))) z4C)))) z5z) (z4W (z5n 4 (z5k z4C)) (z4W (zdr (z5S (z4w (dOp z9t (dC (.int 1)) (dFn 2 z4I (z4w (z4z 0) (z4w (dC (.int 5)) z4C)))) z4C)) (.one 5) (z5n 4 (dOp z9t (z4z 4) (dFn 1 z5U (z4w (dFn 2 z6x (z4w (z4z 0) (z4w (z4z 1) z4C))) z4C))))) (z4W (z5n 6 (z5I true 1 (z5S (z4w (dOp (fI zbZ) (dC (.int 1)) (z4z 1)) z4C)) (.one 7) [] [] (z4N zdH (z4w (dOp fIn (z4z 7) (z4z 4)) z4C)))) (z4W (sIf (z5h (dOp (fPy eqF) (z4z 2) (dC (.int 5)))) (zfp (dC .non) (z4z 6) (dFn 2 z4I (z4w (z4z 0) (z4w (dOp (fI zbZ) (dC (.int 1)) (z4z 1)) z4C)))) z5z) (z5c (z4N z8h (z4w (z4z 6) z4C))))))))))
def z5D : List D -> Ow -> R D := zjp (z7l 7 z8K)
theorem z8i : z4X ["_law_state_here", "_law_n", "_law_way", "_law_some", "_law_held", "_law_turn", "_law_found"] ["_law_state_here"] (z4E (top 38)) := ⟨rfl, rfl, rfl, by decide +kernel, rfl, by decide +kernel, by decide +kernel⟩
theorem z8m (T : Txt K mg) (B : z7D mg base) (c__law_points : CalleeX Cl P w K mg base "_law_points" 2 1 z5U) (c__law_take : CalleeX Cl P w K mg base "_law_take" 1 2 z4I) (c__law_term : CalleeX Cl P w K mg base "_law_term" 2 2 z6x) : CalleeX Cl P w K mg base "_law_function" 3 1 z5D :=
  CalleeX.frz (fnX (k := 2) T.d__law_function z8i (fun _ _ _ _ _ _ us hl => match us, hl with | [_], _ => rfl) fun f cdv A outer s H E hr =>
    (z4F (z5d (i := 1) zc1 rfl (.inl rfl) (z6z (z5e (z4x z4G (z4x z4G (z4x z4G (z4x z4G (z4x z4G (z4x z4G (z4x z4G (z4x z4G z4A z4D) z4D) z4D) z4D) z4D) z4D) z4D) z4D)) (z4Y c__law_take (z4J rfl z51) hr (by decide) rfl (z4x (z4y (i := 0) rfl (.inr (.inl rfl))) (z4x z4G z4A z4D) z4B)) (fun _ _ => rfl))) (z4F (z5d (i := 2) zc1 rfl (.inl rfl) (z4Y c__law_take (z4J rfl z51) hr (by decide) rfl (z4x (z4y (i := 0) rfl (.inr (.inl rfl))) (z4x z4G z4A z4D) z4B))) (z4F (z5B (z5q zjM zgH (z4y (i := 2) rfl (.inl rfl)) z4G (z5O _)) (z4F (z5d (i := 3) zc1 rfl (.inr rfl) (z6z (z5e (z4x (z5e (z4x z4G (z4x z4G z4A z4D) z4D)) (z4x (z5e (z4x z4G (z4x z4G (z4x z6G z4A z4D) z4D) z4D)) (z4x (z5e (z4x z4G (z4x z4G (z4x z4G (z4x z4G (z4x z6G z4A z4D) z4D) z4D) z4D) z4D)) (z4x (z5e (z4x z4G (z4x z4G (z4x z4G (z4x z4G (z4x z6G z4A z4D) z4D) z4D) z4D) z4D)) z4A z64) z64) z64) z64)) (z4y (i := 2) rfl (.inl rfl)) (fun _ _ => rfl))) (z4H (z4T (z6A z6Z za6 rfl T.b_tuple z6M (z4x (z6v false ["_law_point"] rfl (z5i rfl T.b_range (z4x (z6g zcG z9M z4G (z4y (i := 1) rfl (.inl rfl))) z4A z6X)) (z6p (by kernel_rfl)) (fun _ _ _ _ _ => ⟨(z65 (i := 7) zjy rfl (.inl rfl) (.inr rfl)), .nil, .nil, (z6z (z4y (i := 3) rfl (.inr (.inl rfl))) (z83 c__law_take hr (by decide) rfl (z4x (z4y (i := 0) rfl (.inr (.inl rfl))) (z4x (z5a z5s z6h rfl T.b_len z6d (z4x (z4y (i := 3) rfl (.inr (.inl rfl))) z4A z4B)) z4A z59) z4B)) (fun _ _ => rfl))⟩)) z4A z7w))))) z53) (z4F (z5d (i := 4) zc1 rfl (.inr rfl) (z5e z4A)) (z4F (z84 z81 rfl (z5i rfl T.b_range (z4x (z7K z4G (z4Y c__law_take (z4J rfl z51) hr (by decide) rfl (z4x (z4y (i := 0) rfl (.inr (.inl rfl))) (z4x z4G z4A z4D) z4B))) z4A z6X)) (z65 (i := 5) zc1 rfl (.inl rfl) (.inl rfl)) (z4H (z5d (i := 4) zc1 rfl (.inr rfl) (z7K (z4y (i := 4) rfl (.inr (.inl rfl))) (z4Y c__law_points (z4J rfl z51) hr (by decide) rfl (z4x (z4Y c__law_term (z4J rfl z51) hr (by decide) rfl (z4x (z4y (i := 0) rfl (.inr (.inl rfl))) (z4x (z4y (i := 1) rfl (.inl rfl)) z4A z4B) z4B)) z4A z59)))))) (z4F (z6w (i := 6) true ["_law_point"] rfl zc1 rfl rfl (z5i rfl T.b_range (z4x (z6g zcG z9M z4G (z4y (i := 1) rfl (.inl rfl))) z4A z6X)) (z6p (by kernel_rfl)) (fun _ _ _ _ _ => ⟨(z65 (i := 7) zjy rfl (.inl rfl) (.inr rfl)), .nil, .nil, (z6A zel zhU rfl T.b_int zeT (z4x (z8d (zcH hr.units) zcW (z4y (i := 7) rfl (.inl rfl)) (z4y (i := 4) rfl (.inr (.inl rfl))) rfl) z4A ziv))⟩) rfl) (z4F (z5B (z5q (z6S hr.units) z69 (z4y (i := 2) rfl (.inl rfl)) z4G (z5O _)) (z4H (zc8 z6G (z4y (i := 6) rfl (.inl rfl)) (z4Y c__law_take (z4J rfl z51) hr (by decide) rfl (z4x (z4y (i := 0) rfl (.inr (.inl rfl))) (z4x (z6g zcG z9M z4G (z4y (i := 1) rfl (.inl rfl))) z4A z6X) z4B)))) z53) (z4H (z4T (z6A z6Z za6 rfl T.b_tuple z6M (z4x (z4y (i := 6) rfl (.inl rfl)) z4A z4B))))))))))))
def z8S : DS :=
  (z5K (dFn 3 z60 (z4w (z4z 0) (z4w (dC (.int 1)) (z4w (dC (.int 4)) z4C)))))
def z5p : List D -> Ow -> R D := (z7l 1 z8S)
theorem z8o : z4X ["n"] ["n"] (z4E (top 16)) := ⟨rfl, rfl, rfl, by decide +kernel, rfl, by decide +kernel, by decide +kernel⟩
theorem z8k (T : Txt K mg) (B : z7D mg base) (c_need_whole_within : CalleeX Cl P w K mg base "need_whole_within" 3 3 z60) : CalleeX Cl P w K mg base "need_switches" 4 1 z5p :=
  CalleeX.self (fnX (k := 3) T.d_need_switches z8o (fun _ _ _ _ _ _ us hl => match us, hl with | [_], _ => rfl) fun f cdv A outer s H E hr =>
    (z4H (z6r (z4Y c_need_whole_within (z4J rfl z51) hr (by decide) rfl (z4x (z4y (i := 0) rfl (.inl rfl)) (z4x z4G (z4x (zhb T.i_MOST_SWITCHES) z4A z4B) z4D) z4B)))))
def z9S : DS :=
  (z4W (sIf (zbx (z5g (z5V (z6R "tuple" (z4z 0)))) (z5h (z7n true z4M (z4N z5T (z4w (z4z 0) z4C))))) (z5c (dC (.bl false))) z5z) (z5c (z4N zgW (z4w (z5I false 1 (dIt (z4z 0)) (.one 1) [] [] (dFn 1 z63 (z4w (z4z 1) z4C))) z4C))))
def z5f : List D -> Ow -> R D := (z7l 1 z9S)
theorem z9o : z4X ["thing"] ["thing"] (z4E (top 21)) := ⟨rfl, rfl, rfl, by decide +kernel, rfl, by decide +kernel, by decide +kernel⟩
theorem z9n (T : Txt K mg) (B : z7D mg base) (c_is_answer : CalleeX Cl P w K mg base "is_answer" 3 1 z63) : CalleeX Cl P w K mg base "is_function" 4 1 z5f :=
  CalleeX.self (fnX (k := 3) T.d_is_function z9o (fun _ _ _ _ _ _ us hl => match us, hl with | [_], _ => rfl) fun f cdv A outer s H E hr =>
    (z4F (z5B (PDW.pt (zcA (z6l (z5N (z6Y (n := "tuple") (z4y (i := 0) rfl (.inl rfl)) (by decide) rfl T.b_isinstance z4K rfl T.b_tuple z6M) (fun _ => rfl))) (z9P (zdm T.z2i rfl (z5a z5s z6h rfl T.b_len z6d (z4x (z4y (i := 0) rfl (.inl rfl)) z4A z4B)))))) (z4H (z4T z6T)) z53) (z4H (z4T (z5a (z8J rfl) zey rfl T.b_all zdO (z4x (z6v false ["answer"] rfl (z7Z (z4y (i := 0) rfl (.inl rfl))) (z6p (by kernel_rfl)) (fun _ _ _ _ _ => ⟨(z65 (i := 1) zlT rfl (.inl rfl) (.inr rfl)), .nil, .nil, (z83 c_is_answer hr (by decide) rfl (z4x (z4y (i := 1) rfl (.inl rfl)) z4A z4B))⟩)) z4A z7w))))))
def z6j : DS :=
  (sIf (z5g (z5V (dFn 2 z6b (z4w (z4z 0) (z4w (z4z 1) z4C))))) (z9v 2 (z4w (dC (.str [97, 32, 108, 105, 115, 116, 32, 111, 102, 32, 112, 111, 105, 110, 116, 115, 32, 104, 97, 115, 32, 117, 110, 108, 105, 107, 101, 32, 119, 104, 111, 108, 101, 32, 110, 117, 109, 98, 101, 114, 115, 44, 32, 101, 97, 99, 104, 32, 97, 32, 112, 111, 105, 110, 116, 32, 111, 102, 32, 116, 104, 101, 32, 110, 32, 115, 119, 105, 116, 99, 104, 101, 115])) z4C)) z5z)
def z4S : List D -> Ow -> R D := (z7l 2 z6j)
theorem z7I : z4X ["n", "thing"] ["n", "thing"] (z4E (top 24)) := ⟨rfl, rfl, rfl, by decide +kernel, rfl, by decide +kernel, by decide +kernel⟩
theorem z7E (T : Txt K mg) (B : z7D mg base) (c_is_point_list : CalleeX Cl P w K mg base "is_point_list" 3 2 z6b) : CalleeX Cl P w K mg base "need_point_list" 4 2 z4S :=
  CalleeX.self (fnX (k := 3) T.d_need_point_list z7I (fun _ _ _ _ _ _ us hl => match us, hl with | [_, _], _ => rfl) fun f cdv A outer s H E hr =>
    (z4H (z5B (z6l (z5N (z4Y c_is_point_list (z4J rfl z51) hr (by decide) rfl (z4x (z4y (i := 0) rfl (.inl rfl)) (z4x (z4y (i := 1) rfl (.inl rfl)) z4A z4B) z4B)) (fun _ => rfl))) (z4H (z7P (c := 2) z51 rfl rfl B.z2I rfl rfl (z4x (z6J [97, 32, 108, 105, 115, 116, 32, 111, 102, 32, 112, 111, 105, 110, 116, 115, 32, 104, 97, 115, 32, 117, 110, 108, 105, 107, 101, 32, 119, 104, 111, 108, 101, 32, 110, 117, 109, 98, 101, 114, 115, 44, 32, 101, 97, 99, 104, 32, 97, 32, 112, 111, 105, 110, 116, 32, 111, 102, 32, 116, 104, 101, 32, 110, 32, 115, 119, 105, 116, 99, 104, 101, 115] rfl) z4A z4D))) z53)))
def z6u : DS :=
  (sIf (z5g (z5V (dFn 1 z5f (z4w (z4z 0) z4C)))) (z9v 0 (z4w (dC (.str [97, 32, 102, 117, 110, 99, 116, 105, 111, 110, 32, 105, 115, 32, 97, 32, 116, 117, 112, 108, 101, 32, 111, 102, 32, 50, 44, 32, 52, 44, 32, 56, 32, 111, 114, 32, 49, 54, 32, 97, 110, 115, 119, 101, 114, 115, 44, 32, 101, 97, 99, 104, 32, 48, 44, 32, 49, 32, 111, 114, 32, 78, 111, 110, 101])) z4C)) z5z)
def z5b : List D -> Ow -> R D := (z7l 1 z6u)
theorem z8t : z4X ["thing"] ["thing"] (z4E (top 22)) := ⟨rfl, rfl, rfl, by decide +kernel, rfl, by decide +kernel, by decide +kernel⟩
theorem z8q (T : Txt K mg) (B : z7D mg base) (c_is_function : CalleeX Cl P w K mg base "is_function" 4 1 z5f) : CalleeX Cl P w K mg base "need_function" 5 1 z5b :=
  CalleeX.self (fnX (k := 4) T.d_need_function z8t (fun _ _ _ _ _ _ us hl => match us, hl with | [_], _ => rfl) fun f cdv A outer s H E hr =>
    (z4H (z5B (z6l (z5N (z4Y c_is_function (z4J rfl z51) hr (by decide) rfl (z4x (z4y (i := 0) rfl (.inl rfl)) z4A z4B)) (fun _ => rfl))) (z4H (z7P (c := 0) z51 rfl rfl B.z2G rfl rfl (z4x (z6J [97, 32, 102, 117, 110, 99, 116, 105, 111, 110, 32, 105, 115, 32, 97, 32, 116, 117, 112, 108, 101, 32, 111, 102, 32, 50, 44, 32, 52, 44, 32, 56, 32, 111, 114, 32, 49, 54, 32, 97, 110, 115, 119, 101, 114, 115, 44, 32, 101, 97, 99, 104, 32, 48, 44, 32, 49, 32, 111, 114, 32, 78, 111, 110, 101] rfl) z4A z4D))) z53)))
def z5H : DS :=
  (z4W (z5K (dFn 1 z5p (z4w (z4z 0) z4C))) (z4W (z5K (dFn 2 z4S (z4w (z4z 0) (z4w (z4z 1) z4C)))) (z4W (z5K (dFn 2 z4S (z4w (z4z 0) (z4w (z4z 2) z4C)))) (z4W (sIf (z5V (z4N zjt (z4w (z5I false 1 (dIt (z4z 2)) (.one 3) [] [] (dOp fIn (z4z 3) (z4z 1))) z4C))) (z9v 2 (z4w (dC (.str [97, 32, 112, 111, 105, 110, 116, 32, 104, 97, 115, 32, 49, 32, 111, 114, 32, 105, 115, 32, 102, 114, 101, 101, 44, 32, 110, 111, 116, 32, 98, 111, 116, 104])) z4C)) z5z) (z5c (z4N z8h (z4w (z5I false 1 (z5S (z4w (ziq z56 (z4z 0)) z4C)) (.one 3) [] [] (dFn 3 z6E (z4w (z4z 3) (z4w (z4z 1) (z4w (z4z 2) z4C))))) z4C)))))))
def z4Q : List D -> Ow -> R D := (z7l 3 z5H)
theorem z9e : z4X ["n", "ones", "frees"] ["n", "ones", "frees"] (z4E (top 26)) := ⟨rfl, rfl, rfl, by decide +kernel, rfl, by decide +kernel, by decide +kernel⟩
theorem z9p (T : Txt K mg) (B : z7D mg base) (c_answer_at : CalleeX Cl P w K mg base "answer_at" 1 3 z6E) (c_need_point_list : CalleeX Cl P w K mg base "need_point_list" 4 2 z4S) (c_need_switches : CalleeX Cl P w K mg base "need_switches" 4 1 z5p) : CalleeX Cl P w K mg base "function_of" 5 3 z4Q :=
  CalleeX.self (fnX (k := 4) T.d_function_of z9e (fun _ _ _ _ _ _ us hl => match us, hl with | [_, _, _], _ => rfl) fun f cdv A outer s H E hr =>
    (z4F (z6r (z4Y c_need_switches (z4J rfl z51) hr (by decide) rfl (z4x (z4y (i := 0) rfl (.inl rfl)) z4A z4B))) (z4F (z6r (z4Y c_need_point_list (z4J rfl z51) hr (by decide) rfl (z4x (z4y (i := 0) rfl (.inl rfl)) (z4x (z4y (i := 1) rfl (.inr (.inl rfl))) z4A z4B) z4B))) (z4F (z6r (z4Y c_need_point_list (z4J rfl z51) hr (by decide) rfl (z4x (z4y (i := 0) rfl (.inl rfl)) (z4x (z4y (i := 2) rfl (.inr (.inl rfl))) z4A z4B) z4B))) (z4F (z5B (z5N (z5a (zej rfl) zjw rfl T.b_any zj7 (z4x (z6v false ["point"] rfl (z7Z (z4y (i := 2) rfl (.inr (.inl rfl)))) (z6p (by kernel_rfl)) (fun _ _ _ _ _ => ⟨(z65 (i := 3) zl0 rfl (.inl rfl) (.inr rfl)), .nil, .nil, (z8d (zcH hr.units) zcW (z4y (i := 3) rfl (.inl rfl)) (z4y (i := 1) rfl (.inr (.inl rfl))) rfl)⟩)) z4A z7w)) (fun _ => rfl)) (z4H (z7P (c := 2) z51 rfl rfl B.z2I rfl rfl (z4x (z6J [97, 32, 112, 111, 105, 110, 116, 32, 104, 97, 115, 32, 49, 32, 111, 114, 32, 105, 115, 32, 102, 114, 101, 101, 44, 32, 110, 111, 116, 32, 98, 111, 116, 104] rfl) z4A z4D))) z53) (z4H (z4T (z6A z6Z za6 rfl T.b_tuple z6M (z4x (z6v false ["point"] rfl (z5i rfl T.b_range (z4x (zeh T.z2h rfl (z4y (i := 0) rfl (.inl rfl)) (fun _ _ => rfl)) z4A zb1)) (z6p (by kernel_rfl)) (fun _ _ _ _ _ => ⟨(z65 (i := 3) zl0 rfl (.inl rfl) (.inr rfl)), .nil, .nil, (z83 c_answer_at hr (by decide) rfl (z4x (z4y (i := 3) rfl (.inl rfl)) (z4x (z4y (i := 1) rfl (.inr (.inl rfl))) (z4x (z4y (i := 2) rfl (.inr (.inl rfl))) z4A z4B) z4B) z4B))⟩)) z4A z7w)))))))))
def z77 : DS :=
  (z4W (z5K (dFn 1 z5b (z4w (z4z 0) z4C))) (z5c (dFn 2 z5y (z4w (z4z 0) (z4w (dC (.int 1)) z4C)))))
def z5X : List D -> Ow -> R D := (z7l 1 z77)
theorem zd4 : z4X ["function"] ["function"] (z4E (top 28)) := ⟨rfl, rfl, rfl, by decide +kernel, rfl, by decide +kernel, by decide +kernel⟩
theorem zcX (T : Txt K mg) (B : z7D mg base) (c_need_function : CalleeX Cl P w K mg base "need_function" 5 1 z5b) (c_points_with : CalleeX Cl P w K mg base "points_with" 1 2 z5y) : CalleeX Cl P w K mg base "ones_of" 6 1 z5X :=
  CalleeX.self (fnX (k := 5) T.d_ones_of zd4 (fun _ _ _ _ _ _ us hl => match us, hl with | [_], _ => rfl) fun f cdv A outer s H E hr =>
    (z4F (z6r (z4Y c_need_function (z4J rfl z51) hr (by decide) rfl (z4x (z4y (i := 0) rfl (.inl rfl)) z4A z4B))) (z4H (z4T (z4Y c_points_with (z4J rfl z51) hr (by decide) rfl (z4x (z4y (i := 0) rfl (.inl rfl)) (z4x z4G z4A z4D) z4B))))))
def z79 : DS :=
  (z4W (z5K (dFn 1 z5b (z4w (z4z 0) z4C))) (z5c (dFn 2 z5y (z4w (z4z 0) (z4w (dC (.int 0)) z4C)))))
def z5Q : List D -> Ow -> R D := (z7l 1 z79)
theorem za0 : z4X ["function"] ["function"] (z4E (top 29)) := ⟨rfl, rfl, rfl, by decide +kernel, rfl, by decide +kernel, by decide +kernel⟩
theorem z9Z (T : Txt K mg) (B : z7D mg base) (c_need_function : CalleeX Cl P w K mg base "need_function" 5 1 z5b) (c_points_with : CalleeX Cl P w K mg base "points_with" 1 2 z5y) : CalleeX Cl P w K mg base "noughts_of" 6 1 z5Q :=
  CalleeX.self (fnX (k := 5) T.d_noughts_of za0 (fun _ _ _ _ _ _ us hl => match us, hl with | [_], _ => rfl) fun f cdv A outer s H E hr =>
    (z4F (z6r (z4Y c_need_function (z4J rfl z51) hr (by decide) rfl (z4x (z4y (i := 0) rfl (.inl rfl)) z4A z4B))) (z4H (z4T (z4Y c_points_with (z4J rfl z51) hr (by decide) rfl (z4x (z4y (i := 0) rfl (.inl rfl)) (z4x z4G z4A z4D) z4B))))))
def z89 : DS :=
  (z4W (z5K (dFn 1 z5b (z4w (z4z 0) z4C))) (z5c (dFn 2 z5y (z4w (z4z 0) (z4w (dC .non) z4C)))))
def z6k : List D -> Ow -> R D := (z7l 1 z89)
theorem zbG : z4X ["function"] ["function"] (z4E (top 30)) := ⟨rfl, rfl, rfl, by decide +kernel, rfl, by decide +kernel, by decide +kernel⟩
theorem zbO (T : Txt K mg) (B : z7D mg base) (c_need_function : CalleeX Cl P w K mg base "need_function" 5 1 z5b) (c_points_with : CalleeX Cl P w K mg base "points_with" 1 2 z5y) : CalleeX Cl P w K mg base "frees_of" 6 1 z6k :=
  CalleeX.self (fnX (k := 5) T.d_frees_of zbG (fun _ _ _ _ _ _ us hl => match us, hl with | [_], _ => rfl) fun f cdv A outer s H E hr =>
    (z4F (z6r (z4Y c_need_function (z4J rfl z51) hr (by decide) rfl (z4x (z4y (i := 0) rfl (.inl rfl)) z4A z4B))) (z4H (z4T (z4Y c_points_with (z4J rfl z51) hr (by decide) rfl (z4x (z4y (i := 0) rfl (.inl rfl)) (z4x z6G z4A z4D) z4B))))))
def zkw (Pt : Nat) : DS :=
  (z4W (zdr (z5S (z4w (z4N zdj (z4w (dC (.int 1)) (z4w (z4N zd8 (z4w (z4N z5T (z4w (z4z 0) z4C)) (z4w (dC (.int 10)) z4C))) z4C))) z4C)) (.one 1) (z4W (z5n 2 (dFn 2 z66 (z4w (z4z 0) (z4w (z4z 1) z4C)))) (z4W (z5n 3 (dFn 1 z5D (z4w (z4z 2) z4C))) (z4W (z5n 4 (dFn 1 z5E (z4w (z4z 3) z4C))) (z4W (zdr (dIt (z5k (z4w (z4z 3) (z4w (dFn 2 z5l (z4w (z4z 2) (z4w (z4z 3) z4C))) (z4w (dFn 2 z5l (z4w (z4z 2) (z4w (z4z 3) z4C))) (z4w (dFn 2 z5l (z4w (z4z 2) (z4w (z4z 3) z4C))) z4C)))))) (.one 5) (z4W (sIf (z5g (z5V (dFn 2 z5m (z4w (dFn 1 z5f (z4w (z4z 5) z4C)) (z4w (dFn 1 z57 (z4w (z4z 5) z4C)) z4C))))) (z5c (dC (.bl false))) z5z) (sIf (zaD (z5g (z5V (dFn 1 z57 (z4w (z4z 5) z4C)))) (z5h (dOp (fPy neF) (z5r Pt 13 Ca 4 1 (dFn 1 z5X (z4w (z4z 5) z4C)) z6N) (z5k (z4w (dC (.int 0)) z4C))))) (z5c (dC (.bl false))) z5z))) (z4W (zep 6 7 8 (dFn 2 z67 (z4w (z4z 2) (z4w (z4z 3) z4C)))) (z4W (zdr (z5S (z4w (dC (.int 2)) z4C)) (.one 9) (z4W (z5n 10 (z5k (z4w (dFn 1 z5X (z4w (z4z 3) z4C)) (z4w (dFn 1 z6k (z4w (z4z 3) z4C)) (z4w (dFn 1 z5Q (z4w (z4z 3) z4C)) z4C))))) (z4W (sIf (z5g (z5V (dFn 2 z5m (z4w (z4z 10) (z4w (z5k (z4w (z4z 6) (z4w (z4z 7) (z4w (z4z 8) z4C)))) z4C))))) (z5c (dC (.bl false))) z5z) (z5K (zfq (dOp fIx (z4z 10) (z4z 9)) (z4w (dC (.int 0)) z4C)))))) (z4W (sIf (z5g (z5V (dFn 2 z5m (z4w (dFn 3 z4Q (z4w (z4z 4) (z4w (zdx (z4z 6) (z6f (zd5 (dC (.int 1))))) (z4w (z4N (zaQ false) (z4w (z4z 7) z4C)) z4C)))) (z4w (z4z 3) z4C))))) (z5c (dC (.bl false))) z5z) (z4W (z5n 11 (dOp fIx (z5k (z4w (dC (.int 0)) (z4w (dC (.int 5)) (z4w (zd5 (dC (.int 1))) (z4w (dC (.bl true)) (z4w (dC .non) (z4w (dC (.str [50])) (z4w (z72 (z4w (dC (.int 1)) z4C)) z4C)))))))) (dFn 2 z4I (z4w (z4z 2) (z4w (dC (.int 7)) z4C))))) (z4W (z5n 12 (dOp fIx (z5k (z4w (dC .non) (z4w (z72 (z4w (dC (.int 0)) z4C)) (z4w (z5k (z4w (dC (.int 0)) (z4w (dC (.int 0)) z4C))) (z4w (z5k (z4w (z4N z5T (z4w (z4z 3) z4C)) z4C)) (z4w (z5k (z4w (zd5 (dC (.int 1))) z4C)) (z4w (z5k (z4w (dC (.bl true)) z4C)) (z4w (z5k (z4w (dC (.str [48])) z4C)) (z4w zhS z4C))))))))) (dFn 2 z4I (z4w (z4z 2) (z4w (dC (.int 8)) z4C))))) (z4W (sIf (z5h (dOp (fPy neF) (z5r Pt 13 Ca 4 1 (dFn 3 z4Q (z4w (z4z 11) (z4w (z4z 12) (z4w (z4z 12) z4C)))) z6N) (z5k (z4w (dC (.int 3)) z4C)))) (z5c (dC (.bl false))) z5z) (z4W (sIf (z5h (dOp (fPy neF) (z5r Pt 13 Ca 4 1 (dFn 3 z4Q (z4w (z4z 4) (z4w (z4z 12) (z4w (z5k z4C) z4C)))) z6N) (z5k (z4w (dC (.int 2)) z4C)))) (z5c (dC (.bl false))) z5z) (z4W (sIf (z5h (dOp (fPy neF) (z5r Pt 13 Ca 4 1 (dFn 3 z4Q (z4w (z4z 4) (z4w (z5k z4C) (z4w (z4z 12) z4C)))) z6N) (z5k (z4w (dC (.int 2)) z4C)))) (z5c (dC (.bl false))) z5z) (sIf (z5h (dOp (fPy neF) (z5r Pt 13 Ca 4 1 (dFn 3 z4Q (z4w (z4z 4) (z4w (z5k (z4w (dC (.int 0)) (z4w (dC (.int 1)) z4C))) (z4w (z5k (z4w (dC (.int 1)) z4C)) z4C)))) z6N) (z5k (z4w (dC (.int 2)) z4C)))) (z5c (dC (.bl false))) z5z)))))))))))))) (z5c (dC (.bl true))))
def F_law (Pt : Nat) : List D -> Ow -> R D := zk2 14 13 Pt (zkw Pt)
theorem zjb : z4X ["_law_script", "_law_k", "_law_state_here", "_law_function_here", "_law_n", "_law_thing", "_law_ones", "_law_frees", "_law_noughts", "_law_turn", "_law_found", "_law_bad", "_law_none", "<tab>"] ["_law_script"] (z4E (top 45)) := ⟨rfl, rfl, rfl, by decide +kernel, rfl, by decide +kernel, by decide +kernel⟩
theorem ziu {f c Pt : Addr} {fd : FuncData} (hF : L2.Fun K "law" "law" (top 45) f fd) (hc : fd.code = .ref c) (T : Txt K mg) (B : z7D mg base) (L : z9U mg base c Pt) (c__law_bent : CalleeX Cl P w K mg base "_law_bent" 2 2 z5l) (c__law_function : CalleeX Cl P w K mg base "_law_function" 3 1 z5D) (c__law_is_function : CalleeX Cl P w K mg base "_law_is_function" 1 1 z57) (c__law_lists : CalleeX Cl P w K mg base "_law_lists" 1 2 z67) (c__law_same : CalleeX Cl P w K mg base "_law_same" 5 2 z5m) (c__law_state : CalleeX Cl P w K mg base "_law_state" 2 2 z66) (c__law_switches : CalleeX Cl P w K mg base "_law_switches" 1 1 z5E) (c__law_take : CalleeX Cl P w K mg base "_law_take" 1 2 z4I) (c_frees_of : CalleeX Cl P w K mg base "frees_of" 6 1 z6k) (c_function_of : CalleeX Cl P w K mg base "function_of" 5 3 z4Q) (c_is_function : CalleeX Cl P w K mg base "is_function" 4 1 z5f) (c_noughts_of : CalleeX Cl P w K mg base "noughts_of" 6 1 z5Q) (c_ones_of : CalleeX Cl P w K mg base "ones_of" 6 1 z5X) : FnOk P w K mg base (CXr P w Cl) 9 f fd ["_law_script"] (zhN K (Xk Cl) 1 Pt (F_law Pt)) :=
  fnT (k := 8) (i := 13) (z := "<tab>") hF hc zjb rfl (zly (by kernel_rfl)) fun A outer s H E hr =>
    (z4F (z84 z81 rfl (z5i rfl T.b_range (z4x (z5a (zei rfl) zhw rfl T.b_max ziJ (z4x z4G (z4x (z5a (zdD rfl) zi5 rfl T.b_min zjn (z4x (z5a z5s z6h rfl T.b_len z6d (z4x (z4y (i := 0) rfl (.inl rfl)) z4A z4B)) (z4x z4G z4A z4D) z59)) z4A z59) z4D)) z4A z59)) (z65 (i := 1) z9r rfl (.inl rfl) (.inl rfl)) (z4F (z5d (i := 2) z9r rfl (.inl rfl) (z4Y c__law_state (z4J rfl z51) hr (by decide) rfl (z4x (z4y (i := 0) rfl (.inl rfl)) (z4x (z4y (i := 1) rfl (.inl rfl)) z4A z4B) z4B))) (z4F (z5d (i := 3) z9r rfl (.inl rfl) (z4Y c__law_function (z4J rfl z51) hr (by decide) rfl (z4x (z4y (i := 2) rfl (.inl rfl)) z4A z4B))) (z4F (z5d (i := 4) z9r rfl (.inr rfl) (z4Y c__law_switches (z4J rfl z51) hr (by decide) rfl (z4x (z4y (i := 3) rfl (.inl rfl)) z4A z4B))) (z4F (z84 z81 rfl (z7Z (z5e (z4x (z4y (i := 3) rfl (.inl rfl)) (z4x (z4Y c__law_bent (z4J rfl z51) hr (by decide) rfl (z4x (z4y (i := 2) rfl (.inl rfl)) (z4x (z4y (i := 3) rfl (.inl rfl)) z4A z4B) z4B)) (z4x (z4Y c__law_bent (z4J rfl z51) hr (by decide) rfl (z4x (z4y (i := 2) rfl (.inl rfl)) (z4x (z4y (i := 3) rfl (.inl rfl)) z4A z4B) z4B)) (z4x (z4Y c__law_bent (z4J rfl z51) hr (by decide) rfl (z4x (z4y (i := 2) rfl (.inl rfl)) (z4x (z4y (i := 3) rfl (.inl rfl)) z4A z4B) z4B)) z4A z59) z59) z59) z4B))) (z65 (i := 5) z9r rfl (.inr rfl) (.inl rfl)) (z4F (z5B (z6l (z5N (z4Y c__law_same (z4J rfl z51) hr (by decide) rfl (z4x (z4Y c_is_function (z4J rfl z51) hr (by decide) rfl (z4x (z4y (i := 5) rfl (.inr (.inl rfl))) z4A z4B)) (z4x (z4Y c__law_is_function (z4J rfl z51) hr (by decide) rfl (z4x (z4y (i := 5) rfl (.inr (.inl rfl))) z4A z4B)) z4A z59) z59)) (fun _ => rfl))) (z4H (z4T z6T)) z53) (z4H (z5B (PDW.pt (zf4 (z6l (z5N (z4Y c__law_is_function (z4J rfl z51) hr (by decide) rfl (z4x (z4y (i := 5) rfl (.inr (.inl rfl))) z4A z4B)) (fun _ => rfl))) (zcM (z5q (z7b hr.units) z69 (zbp (k := 6) T hr L rfl (zjQ (by kernel_rfl)) rfl (fun _ _ _ _ _ _ => rfl) (fun q lam cd cl A outer s H E hr => (z4Y c_ones_of (z4J rfl z9b) hr (by decide) rfl (z4x (z4y (i := 5) rfl (.inr (.inr rfl))) z4A z4B))) rfl) (z5e (z4x z4G z4A z4D)) (z5O _))))) (z4H (z4T z6T)) z53)))) (z4F (zfs (z4Y c__law_lists (z4J rfl z51) hr (by decide) rfl (z4x (z4y (i := 2) rfl (.inl rfl)) (z4x (z4y (i := 3) rfl (.inl rfl)) z4A z4B) z4B)) (zg8 (i := 6) (j := 7) (k := 8) rfl z9r rfl rfl rfl (.inl rfl) (.inl rfl) (.inl rfl) (.inl rfl) (.inl rfl) (.inl rfl))) (z4F (z84 z81 rfl (z5i rfl T.b_range (z4x z4G z4A z4D)) (z65 (i := 9) z9r rfl (.inl rfl) (.inl rfl)) (z4F (z5d (i := 10) z9r rfl (.inl rfl) (z5e (z4x (z4Y c_ones_of (z4J rfl z51) hr (by decide) rfl (z4x (z4y (i := 3) rfl (.inl rfl)) z4A z4B)) (z4x (z4Y c_frees_of (z4J rfl z51) hr (by decide) rfl (z4x (z4y (i := 3) rfl (.inl rfl)) z4A z4B)) (z4x (z4Y c_noughts_of (z4J rfl z51) hr (by decide) rfl (z4x (z4y (i := 3) rfl (.inl rfl)) z4A z4B)) z4A z59) z59) z59))) (z4F (z5B (z6l (z5N (z4Y c__law_same (z4J rfl z51) hr (by decide) rfl (z4x (z4y (i := 10) rfl (.inl rfl)) (z4x (z5e (z4x (z4y (i := 6) rfl (.inl rfl)) (z4x (z4y (i := 7) rfl (.inl rfl)) (z4x (z4y (i := 8) rfl (.inl rfl)) z4A z4B) z4B) z4B)) z4A z64) z4B)) (fun _ => rfl))) (z4H (z4T z6T)) z53) (z4H (z6r (zbh (z6z (z4y (i := 10) rfl (.inl rfl)) (z4y (i := 9) rfl (.inl rfl)) (fun _ _ => rfl)) (z4x z4G z4A z4D))))))) (z4F (z5B (z6l (z5N (z4Y c__law_same (z4J rfl z51) hr (by decide) rfl (z4x (z4Y c_function_of (z4J rfl z51) hr (by decide) rfl (z4x (z4y (i := 4) rfl (.inr (.inl rfl))) (z4x (zjD (z4y (i := 6) rfl (.inl rfl)) (z70 (zcC z4G))) (z4x (z6A z8e (zdL false) rfl T.b_list z85 (z4x (z4y (i := 7) rfl (.inl rfl)) z4A z4B)) z4A z59) zb1) z4B)) (z4x (z4y (i := 3) rfl (.inl rfl)) z4A z4B) z59)) (fun _ => rfl))) (z4H (z4T z6T)) z53) (z4F (z5d (i := 11) z9r rfl (.inr rfl) (z6z (z5e (z4x z4G (z4x z4G (z4x (zcC z4G) (z4x z6T (z4x z6G (z4x (z6J [50] rfl) (z4x (z7c (z4x z4G z4A z4D)) z4A z8z) z4D) z4D) z4D) zhu) z4D) z4D)) (z4Y c__law_take (z4J rfl z51) hr (by decide) rfl (z4x (z4y (i := 2) rfl (.inl rfl)) (z4x z4G z4A z4D) z4B)) (fun _ _ => rfl))) (z4F (z5d (i := 12) z9r rfl (.inr rfl) (z6z (z5e (z4x z6G (z4x (z7c (z4x z4G z4A z4D)) (z4x (z5e (z4x z4G (z4x z4G z4A z4D) z4D)) (z4x (z5e (z4x (z5a z5s z6h rfl T.b_len z6d (z4x (z4y (i := 3) rfl (.inl rfl)) z4A z4B)) z4A z59)) (z4x (z5e (z4x (zcC z4G) z4A zhu)) (z4x (z5e (z4x z6T z4A z4D)) (z4x (z5e (z4x (z6J [48] rfl) z4A z4D)) (z4x zgG z4A zdX) z64) z64) z64) z64) z64) z8z) z4D)) (z4Y c__law_take (z4J rfl z51) hr (by decide) rfl (z4x (z4y (i := 2) rfl (.inl rfl)) (z4x z4G z4A z4D) z4B)) (fun _ _ => rfl))) (z4F (z5B (z5q (z7b hr.units) z69 (zbp (k := 6) T hr L rfl (zjQ (by kernel_rfl)) rfl (fun _ _ _ _ _ _ => rfl) (fun q lam cd cl A outer s H E hr => (z4Y c_function_of (z4J rfl z9b) hr (by decide) rfl (z4x (z4y (i := 11) rfl (.inr (.inr rfl))) (z4x (z4y (i := 12) rfl (.inr (.inr rfl))) (z4x (z4y (i := 12) rfl (.inr (.inr rfl))) z4A z4B) z4B) z4B))) rfl) (z5e (z4x z4G z4A z4D)) (z5O _)) (z4H (z4T z6T)) z53) (z4F (z5B (z5q (z7b hr.units) z69 (zbp (k := 6) T hr L rfl (zjQ (by kernel_rfl)) rfl (fun _ _ _ _ _ _ => rfl) (fun q lam cd cl A outer s H E hr => (z4Y c_function_of (z4J rfl z9b) hr (by decide) rfl (z4x (z4y (i := 4) rfl (.inr (.inr rfl))) (z4x (z4y (i := 12) rfl (.inr (.inr rfl))) (z4x (z5e z4A) z4A z64) z4B) z4B))) rfl) (z5e (z4x z4G z4A z4D)) (z5O _)) (z4H (z4T z6T)) z53) (z4F (z5B (z5q (z7b hr.units) z69 (zbp (k := 6) T hr L rfl (zjQ (by kernel_rfl)) rfl (fun _ _ _ _ _ _ => rfl) (fun q lam cd cl A outer s H E hr => (z4Y c_function_of (z4J rfl z9b) hr (by decide) rfl (z4x (z4y (i := 4) rfl (.inr (.inr rfl))) (z4x (z5e z4A) (z4x (z4y (i := 12) rfl (.inr (.inr rfl))) z4A z4B) z64) z4B))) rfl) (z5e (z4x z4G z4A z4D)) (z5O _)) (z4H (z4T z6T)) z53) (z4H (z5B (z5q (z7b hr.units) z69 (zbp (k := 6) T hr L rfl (zjQ (by kernel_rfl)) rfl (fun _ _ _ _ _ _ => rfl) (fun q lam cd cl A outer s H E hr => (z4Y c_function_of (z4J rfl z9b) hr (by decide) rfl (z4x (z4y (i := 4) rfl (.inr (.inr rfl))) (z4x (z5e (z4x z4G (z4x z4G z4A z4D) z4D)) (z4x (z5e (z4x z4G z4A z4D)) z4A z64) z64) z4B))) rfl) (z5e (z4x z4G z4A z4D)) (z5O _)) (z4H (z4T z6T)) z53))))))))))))))) (z4H (z4T z6T)))
theorem zjo {f c Pt : Addr} {fd : FuncData} (hF : L2.Fun K "law" "law" (top 45) f fd) (hc : fd.code = .ref c) (T : Txt K mg) (B : z7D mg base) (L : z9U mg base c Pt) : FnOk P w K mg base (CXr P w Cl) 9 f fd ["_law_script"] (zhN K (Xk Cl) 1 Pt (F_law Pt)) :=
  have c_is_whole := zcd (P := P) (w := w) (base := base) T B
  have c_answer_at := zbi (P := P) (w := w) (base := base) T B
  have c_points_with := z9d (P := P) (w := w) (base := base) T B
  have c__law_cell_at := z8V (P := P) (w := w) (base := base) T B
  have c__law_take := zbe (P := P) (w := w) (base := base) T B
  have c__law_bits := zaC (P := P) (w := w) (base := base) T B
  have c__law_switches := z8n (P := P) (w := w) (base := base) T B
  have c__law_same := zb4 (P := P) (w := w) (base := base) T B
  have c__law_is_function := z7C (P := P) (w := w) (base := base) T B
  have c__law_lists := z9R (P := P) (w := w) (base := base) T B
  have c_is_whole_within := z7N (P := P) (w := w) (base := base) T B c_is_whole
  have c__law_state := zai (P := P) (w := w) (base := base) T B c__law_cell_at
  have c__law_term := zaT (P := P) (w := w) (base := base) T B c__law_take
  have c__law_points := z9q (P := P) (w := w) (base := base) T B c__law_bits
  have c__law_bent := zbs (P := P) (w := w) (base := base) T B c__law_take
  have c_need_whole_within := z7k (P := P) (w := w) (base := base) T B c_is_whole_within
  have c_is_answer := zbd (P := P) (w := w) (base := base) T B c_is_whole_within
  have c_is_point_list := z8p (P := P) (w := w) (base := base) T B c_is_whole_within
  have c__law_function := z8m (P := P) (w := w) (base := base) T B c__law_points c__law_take c__law_term
  have c_need_switches := z8k (P := P) (w := w) (base := base) T B c_need_whole_within
  have c_is_function := z9n (P := P) (w := w) (base := base) T B c_is_answer
  have c_need_point_list := z7E (P := P) (w := w) (base := base) T B c_is_point_list
  have c_need_function := z8q (P := P) (w := w) (base := base) T B c_is_function
  have c_function_of := z9p (P := P) (w := w) (base := base) T B c_answer_at c_need_point_list c_need_switches
  have c_ones_of := zcX (P := P) (w := w) (base := base) T B c_need_function c_points_with
  have c_noughts_of := z9Z (P := P) (w := w) (base := base) T B c_need_function c_points_with
  have c_frees_of := zbO (P := P) (w := w) (base := base) T B c_need_function c_points_with
  ziu hF hc T B L c__law_bent c__law_function c__law_is_function c__law_lists c__law_same c__law_state c__law_switches c__law_take c_frees_of c_function_of c_is_function c_noughts_of c_ones_of
end
theorem all_mk {P : Program} {w : World} {K : PySem.W.Frag} {h : Heap} {mg : Str -> Option Value} {fa : Addr} (X : K.In h) (G : h.Ns mainGlobals mg) (hfa : mg "law" = some (.ref fa))
    {f0 : Addr} {od0 an0 : Option Addr} {sl0 : Array (Option Value)} {oc0 kV0 dc0 pm0 ct0 : Value} {cd0 : Value} (a0 : PySem.W.nsIn K mainGlobals "is_whole" = some (some (.ref f0)))
    (l0 : K.lookup f0 = some ⟨oc0, od0, .func (PySem.W.fnOf "is_whole" "is_whole" (z50 (top 13)) (z4V (top 13)) (z4E (top 13)) .none kV0 dc0 pm0 an0 cd0 ct0), sl0⟩) (q0 : PySem.W.codeIn K cd0 "is_whole" = true) (k0 : PySem.W.keepIn K (.ref f0) = true)
    {f1 : Addr} {od1 an1 : Option Addr} {sl1 : Array (Option Value)} {oc1 kV1 dc1 pm1 ct1 : Value} {cd1 : Value} (a1 : PySem.W.nsIn K mainGlobals "is_whole_within" = some (some (.ref f1)))
    (l1 : K.lookup f1 = some ⟨oc1, od1, .func (PySem.W.fnOf "is_whole_within" "is_whole_within" (z50 (top 14)) (z4V (top 14)) (z4E (top 14)) .none kV1 dc1 pm1 an1 cd1 ct1), sl1⟩) (q1 : PySem.W.codeIn K cd1 "is_whole_within" = true) (k1 : PySem.W.keepIn K (.ref f1) = true)
    {f2 : Addr} {od2 an2 : Option Addr} {sl2 : Array (Option Value)} {oc2 kV2 dc2 pm2 ct2 : Value} {cd2 : Value} (a2 : PySem.W.nsIn K mainGlobals "need_whole_within" = some (some (.ref f2)))
    (l2 : K.lookup f2 = some ⟨oc2, od2, .func (PySem.W.fnOf "need_whole_within" "need_whole_within" (z50 (top 15)) (z4V (top 15)) (z4E (top 15)) .none kV2 dc2 pm2 an2 cd2 ct2), sl2⟩) (q2 : PySem.W.codeIn K cd2 "need_whole_within" = true) (k2 : PySem.W.keepIn K (.ref f2) = true)
    {f3 : Addr} {od3 an3 : Option Addr} {sl3 : Array (Option Value)} {oc3 kV3 dc3 pm3 ct3 : Value} {cd3 : Value} (a3 : PySem.W.nsIn K mainGlobals "need_switches" = some (some (.ref f3)))
    (l3 : K.lookup f3 = some ⟨oc3, od3, .func (PySem.W.fnOf "need_switches" "need_switches" (z50 (top 16)) (z4V (top 16)) (z4E (top 16)) .none kV3 dc3 pm3 an3 cd3 ct3), sl3⟩) (q3 : PySem.W.codeIn K cd3 "need_switches" = true) (k3 : PySem.W.keepIn K (.ref f3) = true)
    {f4 : Addr} {od4 an4 : Option Addr} {sl4 : Array (Option Value)} {oc4 kV4 dc4 pm4 ct4 : Value} {cd4 : Value} (a4 : PySem.W.nsIn K mainGlobals "is_answer" = some (some (.ref f4)))
    (l4 : K.lookup f4 = some ⟨oc4, od4, .func (PySem.W.fnOf "is_answer" "is_answer" (z50 (top 20)) (z4V (top 20)) (z4E (top 20)) .none kV4 dc4 pm4 an4 cd4 ct4), sl4⟩) (q4 : PySem.W.codeIn K cd4 "is_answer" = true) (k4 : PySem.W.keepIn K (.ref f4) = true)
    {f5 : Addr} {od5 an5 : Option Addr} {sl5 : Array (Option Value)} {oc5 kV5 dc5 pm5 ct5 : Value} {cd5 : Value} (a5 : PySem.W.nsIn K mainGlobals "is_function" = some (some (.ref f5)))
    (l5 : K.lookup f5 = some ⟨oc5, od5, .func (PySem.W.fnOf "is_function" "is_function" (z50 (top 21)) (z4V (top 21)) (z4E (top 21)) .none kV5 dc5 pm5 an5 cd5 ct5), sl5⟩) (q5 : PySem.W.codeIn K cd5 "is_function" = true) (k5 : PySem.W.keepIn K (.ref f5) = true)
    {f6 : Addr} {od6 an6 : Option Addr} {sl6 : Array (Option Value)} {oc6 kV6 dc6 pm6 ct6 : Value} {cd6 : Value} (a6 : PySem.W.nsIn K mainGlobals "need_function" = some (some (.ref f6)))
    (l6 : K.lookup f6 = some ⟨oc6, od6, .func (PySem.W.fnOf "need_function" "need_function" (z50 (top 22)) (z4V (top 22)) (z4E (top 22)) .none kV6 dc6 pm6 an6 cd6 ct6), sl6⟩) (q6 : PySem.W.codeIn K cd6 "need_function" = true) (k6 : PySem.W.keepIn K (.ref f6) = true)
    {f7 : Addr} {od7 an7 : Option Addr} {sl7 : Array (Option Value)} {oc7 kV7 dc7 pm7 ct7 : Value} {cd7 : Value} (a7 : PySem.W.nsIn K mainGlobals "is_point_list" = some (some (.ref f7)))
    (l7 : K.lookup f7 = some ⟨oc7, od7, .func (PySem.W.fnOf "is_point_list" "is_point_list" (z50 (top 23)) (z4V (top 23)) (z4E (top 23)) .none kV7 dc7 pm7 an7 cd7 ct7), sl7⟩) (q7 : PySem.W.codeIn K cd7 "is_point_list" = true) (k7 : PySem.W.keepIn K (.ref f7) = true)
    {f8 : Addr} {od8 an8 : Option Addr} {sl8 : Array (Option Value)} {oc8 kV8 dc8 pm8 ct8 : Value} {cd8 : Value} (a8 : PySem.W.nsIn K mainGlobals "need_point_list" = some (some (.ref f8)))
    (l8 : K.lookup f8 = some ⟨oc8, od8, .func (PySem.W.fnOf "need_point_list" "need_point_list" (z50 (top 24)) (z4V (top 24)) (z4E (top 24)) .none kV8 dc8 pm8 an8 cd8 ct8), sl8⟩) (q8 : PySem.W.codeIn K cd8 "need_point_list" = true) (k8 : PySem.W.keepIn K (.ref f8) = true)
    {f9 : Addr} {od9 an9 : Option Addr} {sl9 : Array (Option Value)} {oc9 kV9 dc9 pm9 ct9 : Value} {cd9 : Value} (a9 : PySem.W.nsIn K mainGlobals "answer_at" = some (some (.ref f9)))
    (l9 : K.lookup f9 = some ⟨oc9, od9, .func (PySem.W.fnOf "answer_at" "answer_at" (z50 (top 25)) (z4V (top 25)) (z4E (top 25)) .none kV9 dc9 pm9 an9 cd9 ct9), sl9⟩) (q9 : PySem.W.codeIn K cd9 "answer_at" = true) (k9 : PySem.W.keepIn K (.ref f9) = true)
    {f10 : Addr} {od10 an10 : Option Addr} {sl10 : Array (Option Value)} {oc10 kV10 dc10 pm10 ct10 : Value} {cd10 : Value} (a10 : PySem.W.nsIn K mainGlobals "function_of" = some (some (.ref f10)))
    (l10 : K.lookup f10 = some ⟨oc10, od10, .func (PySem.W.fnOf "function_of" "function_of" (z50 (top 26)) (z4V (top 26)) (z4E (top 26)) .none kV10 dc10 pm10 an10 cd10 ct10), sl10⟩) (q10 : PySem.W.codeIn K cd10 "function_of" = true) (k10 : PySem.W.keepIn K (.ref f10) = true)
    {f11 : Addr} {od11 an11 : Option Addr} {sl11 : Array (Option Value)} {oc11 kV11 dc11 pm11 ct11 : Value} {cd11 : Value} (a11 : PySem.W.nsIn K mainGlobals "points_with" = some (some (.ref f11)))
    (l11 : K.lookup f11 = some ⟨oc11, od11, .func (PySem.W.fnOf "points_with" "points_with" (z50 (top 27)) (z4V (top 27)) (z4E (top 27)) .none kV11 dc11 pm11 an11 cd11 ct11), sl11⟩) (q11 : PySem.W.codeIn K cd11 "points_with" = true) (k11 : PySem.W.keepIn K (.ref f11) = true)
    {f12 : Addr} {od12 an12 : Option Addr} {sl12 : Array (Option Value)} {oc12 kV12 dc12 pm12 ct12 : Value} {cd12 : Value} (a12 : PySem.W.nsIn K mainGlobals "ones_of" = some (some (.ref f12)))
    (l12 : K.lookup f12 = some ⟨oc12, od12, .func (PySem.W.fnOf "ones_of" "ones_of" (z50 (top 28)) (z4V (top 28)) (z4E (top 28)) .none kV12 dc12 pm12 an12 cd12 ct12), sl12⟩) (q12 : PySem.W.codeIn K cd12 "ones_of" = true) (k12 : PySem.W.keepIn K (.ref f12) = true)
    {f13 : Addr} {od13 an13 : Option Addr} {sl13 : Array (Option Value)} {oc13 kV13 dc13 pm13 ct13 : Value} {cd13 : Value} (a13 : PySem.W.nsIn K mainGlobals "noughts_of" = some (some (.ref f13)))
    (l13 : K.lookup f13 = some ⟨oc13, od13, .func (PySem.W.fnOf "noughts_of" "noughts_of" (z50 (top 29)) (z4V (top 29)) (z4E (top 29)) .none kV13 dc13 pm13 an13 cd13 ct13), sl13⟩) (q13 : PySem.W.codeIn K cd13 "noughts_of" = true) (k13 : PySem.W.keepIn K (.ref f13) = true)
    {f14 : Addr} {od14 an14 : Option Addr} {sl14 : Array (Option Value)} {oc14 kV14 dc14 pm14 ct14 : Value} {cd14 : Value} (a14 : PySem.W.nsIn K mainGlobals "frees_of" = some (some (.ref f14)))
    (l14 : K.lookup f14 = some ⟨oc14, od14, .func (PySem.W.fnOf "frees_of" "frees_of" (z50 (top 30)) (z4V (top 30)) (z4E (top 30)) .none kV14 dc14 pm14 an14 cd14 ct14), sl14⟩) (q14 : PySem.W.codeIn K cd14 "frees_of" = true) (k14 : PySem.W.keepIn K (.ref f14) = true)
    {f15 : Addr} {od15 an15 : Option Addr} {sl15 : Array (Option Value)} {oc15 kV15 dc15 pm15 ct15 : Value} {cd15 : Value} (a15 : PySem.W.nsIn K mainGlobals "_law_cell_at" = some (some (.ref f15)))
    (l15 : K.lookup f15 = some ⟨oc15, od15, .func (PySem.W.fnOf "_law_cell_at" "_law_cell_at" (z50 (top 32)) (z4V (top 32)) (z4E (top 32)) .none kV15 dc15 pm15 an15 cd15 ct15), sl15⟩) (q15 : PySem.W.codeIn K cd15 "_law_cell_at" = true) (k15 : PySem.W.keepIn K (.ref f15) = true)
    {f16 : Addr} {od16 an16 : Option Addr} {sl16 : Array (Option Value)} {oc16 kV16 dc16 pm16 ct16 : Value} {cd16 : Value} (a16 : PySem.W.nsIn K mainGlobals "_law_state" = some (some (.ref f16)))
    (l16 : K.lookup f16 = some ⟨oc16, od16, .func (PySem.W.fnOf "_law_state" "_law_state" (z50 (top 33)) (z4V (top 33)) (z4E (top 33)) .none kV16 dc16 pm16 an16 cd16 ct16), sl16⟩) (q16 : PySem.W.codeIn K cd16 "_law_state" = true) (k16 : PySem.W.keepIn K (.ref f16) = true)
    {f17 : Addr} {od17 an17 : Option Addr} {sl17 : Array (Option Value)} {oc17 kV17 dc17 pm17 ct17 : Value} {cd17 : Value} (a17 : PySem.W.nsIn K mainGlobals "_law_take" = some (some (.ref f17)))
    (l17 : K.lookup f17 = some ⟨oc17, od17, .func (PySem.W.fnOf "_law_take" "_law_take" (z50 (top 34)) (z4V (top 34)) (z4E (top 34)) .none kV17 dc17 pm17 an17 cd17 ct17), sl17⟩) (q17 : PySem.W.codeIn K cd17 "_law_take" = true) (k17 : PySem.W.keepIn K (.ref f17) = true)
    {f18 : Addr} {od18 an18 : Option Addr} {sl18 : Array (Option Value)} {oc18 kV18 dc18 pm18 ct18 : Value} {cd18 : Value} (a18 : PySem.W.nsIn K mainGlobals "_law_term" = some (some (.ref f18)))
    (l18 : K.lookup f18 = some ⟨oc18, od18, .func (PySem.W.fnOf "_law_term" "_law_term" (z50 (top 35)) (z4V (top 35)) (z4E (top 35)) .none kV18 dc18 pm18 an18 cd18 ct18), sl18⟩) (q18 : PySem.W.codeIn K cd18 "_law_term" = true) (k18 : PySem.W.keepIn K (.ref f18) = true)
    {f19 : Addr} {od19 an19 : Option Addr} {sl19 : Array (Option Value)} {oc19 kV19 dc19 pm19 ct19 : Value} {cd19 : Value} (a19 : PySem.W.nsIn K mainGlobals "_law_bits" = some (some (.ref f19)))
    (l19 : K.lookup f19 = some ⟨oc19, od19, .func (PySem.W.fnOf "_law_bits" "_law_bits" (z50 (top 36)) (z4V (top 36)) (z4E (top 36)) .none kV19 dc19 pm19 an19 cd19 ct19), sl19⟩) (q19 : PySem.W.codeIn K cd19 "_law_bits" = true) (k19 : PySem.W.keepIn K (.ref f19) = true)
    {f20 : Addr} {od20 an20 : Option Addr} {sl20 : Array (Option Value)} {oc20 kV20 dc20 pm20 ct20 : Value} {cd20 : Value} (a20 : PySem.W.nsIn K mainGlobals "_law_points" = some (some (.ref f20)))
    (l20 : K.lookup f20 = some ⟨oc20, od20, .func (PySem.W.fnOf "_law_points" "_law_points" (z50 (top 37)) (z4V (top 37)) (z4E (top 37)) .none kV20 dc20 pm20 an20 cd20 ct20), sl20⟩) (q20 : PySem.W.codeIn K cd20 "_law_points" = true) (k20 : PySem.W.keepIn K (.ref f20) = true)
    {f21 : Addr} {od21 an21 : Option Addr} {sl21 : Array (Option Value)} {oc21 kV21 dc21 pm21 ct21 : Value} {cd21 : Value} (a21 : PySem.W.nsIn K mainGlobals "_law_function" = some (some (.ref f21)))
    (l21 : K.lookup f21 = some ⟨oc21, od21, .func (PySem.W.fnOf "_law_function" "_law_function" (z50 (top 38)) (z4V (top 38)) (z4E (top 38)) .none kV21 dc21 pm21 an21 cd21 ct21), sl21⟩) (q21 : PySem.W.codeIn K cd21 "_law_function" = true) (k21 : PySem.W.keepIn K (.ref f21) = true)
    {f22 : Addr} {od22 an22 : Option Addr} {sl22 : Array (Option Value)} {oc22 kV22 dc22 pm22 ct22 : Value} {cd22 : Value} (a22 : PySem.W.nsIn K mainGlobals "_law_switches" = some (some (.ref f22)))
    (l22 : K.lookup f22 = some ⟨oc22, od22, .func (PySem.W.fnOf "_law_switches" "_law_switches" (z50 (top 39)) (z4V (top 39)) (z4E (top 39)) .none kV22 dc22 pm22 an22 cd22 ct22), sl22⟩) (q22 : PySem.W.codeIn K cd22 "_law_switches" = true) (k22 : PySem.W.keepIn K (.ref f22) = true)
    {f23 : Addr} {od23 an23 : Option Addr} {sl23 : Array (Option Value)} {oc23 kV23 dc23 pm23 ct23 : Value} {cd23 : Value} (a23 : PySem.W.nsIn K mainGlobals "_law_same" = some (some (.ref f23)))
    (l23 : K.lookup f23 = some ⟨oc23, od23, .func (PySem.W.fnOf "_law_same" "_law_same" (z50 (top 40)) (z4V (top 40)) (z4E (top 40)) .none kV23 dc23 pm23 an23 cd23 ct23), sl23⟩) (q23 : PySem.W.codeIn K cd23 "_law_same" = true) (k23 : PySem.W.keepIn K (.ref f23) = true)
    {f24 : Addr} {od24 an24 : Option Addr} {sl24 : Array (Option Value)} {oc24 kV24 dc24 pm24 ct24 : Value} {cd24 : Value} (a24 : PySem.W.nsIn K mainGlobals "_law_refused" = some (some (.ref f24)))
    (l24 : K.lookup f24 = some ⟨oc24, od24, .func (PySem.W.fnOf "_law_refused" "_law_refused" (z50 (top 41)) (z4V (top 41)) (z4E (top 41)) .none kV24 dc24 pm24 an24 cd24 ct24), sl24⟩) (q24 : PySem.W.codeIn K cd24 "_law_refused" = true) (k24 : PySem.W.keepIn K (.ref f24) = true)
    {f25 : Addr} {od25 an25 : Option Addr} {sl25 : Array (Option Value)} {oc25 kV25 dc25 pm25 ct25 : Value} {cd25 : Value} (a25 : PySem.W.nsIn K mainGlobals "_law_is_function" = some (some (.ref f25)))
    (l25 : K.lookup f25 = some ⟨oc25, od25, .func (PySem.W.fnOf "_law_is_function" "_law_is_function" (z50 (top 42)) (z4V (top 42)) (z4E (top 42)) .none kV25 dc25 pm25 an25 cd25 ct25), sl25⟩) (q25 : PySem.W.codeIn K cd25 "_law_is_function" = true) (k25 : PySem.W.keepIn K (.ref f25) = true)
    {f26 : Addr} {od26 an26 : Option Addr} {sl26 : Array (Option Value)} {oc26 kV26 dc26 pm26 ct26 : Value} {cd26 : Value} (a26 : PySem.W.nsIn K mainGlobals "_law_bent" = some (some (.ref f26)))
    (l26 : K.lookup f26 = some ⟨oc26, od26, .func (PySem.W.fnOf "_law_bent" "_law_bent" (z50 (top 43)) (z4V (top 43)) (z4E (top 43)) .none kV26 dc26 pm26 an26 cd26 ct26), sl26⟩) (q26 : PySem.W.codeIn K cd26 "_law_bent" = true) (k26 : PySem.W.keepIn K (.ref f26) = true)
    {f27 : Addr} {od27 an27 : Option Addr} {sl27 : Array (Option Value)} {oc27 kV27 dc27 pm27 ct27 : Value} {cd27 : Value} (a27 : PySem.W.nsIn K mainGlobals "_law_lists" = some (some (.ref f27)))
    (l27 : K.lookup f27 = some ⟨oc27, od27, .func (PySem.W.fnOf "_law_lists" "_law_lists" (z50 (top 44)) (z4V (top 44)) (z4E (top 44)) .none kV27 dc27 pm27 an27 cd27 ct27), sl27⟩) (q27 : PySem.W.codeIn K cd27 "_law_lists" = true) (k27 : PySem.W.keepIn K (.ref f27) = true)
    {f28 : Addr} {od28 an28 : Option Addr} {sl28 : Array (Option Value)} {oc28 kV28 dc28 pm28 ct28 : Value} {cd28 : Addr} (a28 : PySem.W.nsIn K mainGlobals "law" = some (some (.ref f28)))
    (l28 : K.lookup f28 = some ⟨oc28, od28, .func (PySem.W.fnOf "law" "law" (z50 (top 45)) (z4V (top 45)) (z4E (top 45)) .none kV28 dc28 pm28 an28 (.ref cd28) ct28), sl28⟩) (q28 : PySem.W.codeIn K (.ref cd28) "law" = true) (k28 : PySem.W.keepIn K (.ref f28) = true)
    (z_ValueError : PySem.W.nsIn K mainGlobals "ValueError" = some none)
    (z_all : PySem.W.nsIn K mainGlobals "all" = some none)
    (z_any : PySem.W.nsIn K mainGlobals "any" = some none)
    (z_bool : PySem.W.nsIn K mainGlobals "bool" = some none)
    (z_enumerate : PySem.W.nsIn K mainGlobals "enumerate" = some none)
    (z_int : PySem.W.nsIn K mainGlobals "int" = some none)
    (z_isinstance : PySem.W.nsIn K mainGlobals "isinstance" = some none)
    (z_len : PySem.W.nsIn K mainGlobals "len" = some none)
    (z_list : PySem.W.nsIn K mainGlobals "list" = some none)
    (z_max : PySem.W.nsIn K mainGlobals "max" = some none)
    (z_min : PySem.W.nsIn K mainGlobals "min" = some none)
    (z_range : PySem.W.nsIn K mainGlobals "range" = some none)
    (z_set : PySem.W.nsIn K mainGlobals "set" = some none)
    (z_str : PySem.W.nsIn K mainGlobals "str" = some none)
    (z_tuple : PySem.W.nsIn K mainGlobals "tuple" = some none)
    (z_zip : PySem.W.nsIn K mainGlobals "zip" = some none)
    {e_POINTS_BY_SWITCHES : Addr} {w_POINTS_BY_SWITCHES : Obj} (d_POINTS_BY_SWITCHES : PySem.W.nsIn K mainGlobals "POINTS_BY_SWITCHES" = some (some (.ref e_POINTS_BY_SWITCHES))) (u_POINTS_BY_SWITCHES : K.lookup e_POINTS_BY_SWITCHES = some w_POINTS_BY_SWITCHES) (v_POINTS_BY_SWITCHES : ziP w_POINTS_BY_SWITCHES z56 = true) (y_POINTS_BY_SWITCHES : (e_POINTS_BY_SWITCHES == sysModules) = false)
    {e_SWITCHES_BY_POINTS : Addr} {w_SWITCHES_BY_POINTS : Obj} (d_SWITCHES_BY_POINTS : PySem.W.nsIn K mainGlobals "SWITCHES_BY_POINTS" = some (some (.ref e_SWITCHES_BY_POINTS))) (u_SWITCHES_BY_POINTS : K.lookup e_SWITCHES_BY_POINTS = some w_SWITCHES_BY_POINTS) (v_SWITCHES_BY_POINTS : ziP w_SWITCHES_BY_POINTS z4M = true) (y_SWITCHES_BY_POINTS : (e_SWITCHES_BY_POINTS == sysModules) = false)
    {t_MOST_SWITCHES : Tok} (s_MOST_SWITCHES : PySem.W.nsIn K mainGlobals "MOST_SWITCHES" = some (some (.int 4 t_MOST_SWITCHES)))
    (z2Z : PySem.W.nsIn K mainGlobals "NoFunction" = some (some (.ref 37)))
    (z33 : PySem.W.nsIn K mainGlobals "NoTerm" = some (some (.ref 49)))
    (z32 : PySem.W.nsIn K mainGlobals "NoPoint" = some (some (.ref 61)))
    (z31 : PySem.W.nsIn K mainGlobals "NoNumber" = some (some (.ref 73)))
    (z2Y : PySem.W.nsIn K mainGlobals "NoForm" = some (some (.ref 85)))
    (z2W : PySem.W.nsIn K mainGlobals "NoChange" = some (some (.ref 97)))
    (z34 : PySem.W.nsIn K mainGlobals "NoText" = some (some (.ref 109)))
    (z30 : PySem.W.nsIn K mainGlobals "NoLine" = some (some (.ref 121)))
    (z2X : PySem.W.nsIn K mainGlobals "NoDeed" = some (some (.ref 133)))
    (z35 : PySem.W.nsIn K mainGlobals "TermError" = some (some (.ref 24)))
    (z3G : PySem.W.kitOne K (.type "NoneType") (.ref 37) = some false)
    (z3K : PySem.W.kitOne K (.type "NoneType") (.ref 49) = some false)
    (z3J : PySem.W.kitOne K (.type "NoneType") (.ref 61) = some false)
    (z3I : PySem.W.kitOne K (.type "NoneType") (.ref 73) = some false)
    (z3F : PySem.W.kitOne K (.type "NoneType") (.ref 85) = some false)
    (z3D : PySem.W.kitOne K (.type "NoneType") (.ref 97) = some false)
    (z3L : PySem.W.kitOne K (.type "NoneType") (.ref 109) = some false)
    (z3H : PySem.W.kitOne K (.type "NoneType") (.ref 121) = some false)
    (z3E : PySem.W.kitOne K (.type "NoneType") (.ref 133) = some false)
    (z3M : PySem.W.kitOne K (.type "NoneType") (.type "ValueError") = some false)
    (z3A : PySem.W.exmOne K (.ref 37) (.ref 24) = some true)
    (z39 : PySem.W.kitOne K (.ref 37) (.ref 37) = some true)
    (z3d : PySem.W.kitOne K (.ref 37) (.ref 49) = some false)
    (z3c : PySem.W.kitOne K (.ref 37) (.ref 61) = some false)
    (z3b : PySem.W.kitOne K (.ref 37) (.ref 73) = some false)
    (z38 : PySem.W.kitOne K (.ref 37) (.ref 85) = some false)
    (z36 : PySem.W.kitOne K (.ref 37) (.ref 97) = some false)
    (z3e : PySem.W.kitOne K (.ref 37) (.ref 109) = some false)
    (z3a : PySem.W.kitOne K (.ref 37) (.ref 121) = some false)
    (z37 : PySem.W.kitOne K (.ref 37) (.ref 133) = some false)
    (z3f : PySem.W.kitOne K (.ref 37) (.type "ValueError") = some true)
    (z3B : PySem.W.exmOne K (.ref 73) (.ref 24) = some true)
    (z3j : PySem.W.kitOne K (.ref 73) (.ref 37) = some false)
    (z3n : PySem.W.kitOne K (.ref 73) (.ref 49) = some false)
    (z3m : PySem.W.kitOne K (.ref 73) (.ref 61) = some false)
    (z3l : PySem.W.kitOne K (.ref 73) (.ref 73) = some true)
    (z3i : PySem.W.kitOne K (.ref 73) (.ref 85) = some false)
    (z3g : PySem.W.kitOne K (.ref 73) (.ref 97) = some false)
    (z3o : PySem.W.kitOne K (.ref 73) (.ref 109) = some false)
    (z3k : PySem.W.kitOne K (.ref 73) (.ref 121) = some false)
    (z3h : PySem.W.kitOne K (.ref 73) (.ref 133) = some false)
    (z3p : PySem.W.kitOne K (.ref 73) (.type "ValueError") = some true)
    (z3C : PySem.W.exmOne K (.ref 61) (.ref 24) = some true)
    (z3t : PySem.W.kitOne K (.ref 61) (.ref 37) = some false)
    (z3x : PySem.W.kitOne K (.ref 61) (.ref 49) = some false)
    (z3w : PySem.W.kitOne K (.ref 61) (.ref 61) = some true)
    (z3v : PySem.W.kitOne K (.ref 61) (.ref 73) = some false)
    (z3s : PySem.W.kitOne K (.ref 61) (.ref 85) = some false)
    (z3q : PySem.W.kitOne K (.ref 61) (.ref 97) = some false)
    (z3y : PySem.W.kitOne K (.ref 61) (.ref 109) = some false)
    (z3u : PySem.W.kitOne K (.ref 61) (.ref 121) = some false)
    (z3r : PySem.W.kitOne K (.ref 61) (.ref 133) = some false)
    (z3z : PySem.W.kitOne K (.ref 61) (.type "ValueError") = some true)
    {cd_NoFunction : ClassData}
    (z3W : PySem.W.findIn K (.ref 37) "__getattribute__" = some (some (.builtin "BaseException.__getattribute__")))
    (z4k : PySem.W.findIn K (.ref 37) "__getattr__" = some none)
    (z3T : PySem.W.clsIn K 37 = some cd_NoFunction)
    (z3N : PySem.W.findIn K (.ref 37) "__class__" = some (some (.builtin "object.__class__")))
    (z3Z : PySem.W.specialIn K (.builtin "object.__class__") "__get__" = some (some (.builtin "getset_descriptor.__get__")))
    (z4t : PySem.W.takesIn K (.builtin "object.__class__") = some true)
    (z4n : PySem.W.mroIn K 37 (.type "object") = some true)
    (z3Q : PySem.W.mroIn K 37 (.type "BaseException") = some true)
    (z48 : PySem.W.kitOne K (.ref 37) (.type "int") = some false)
    (z42 : PySem.W.kitOne K (.ref 37) (.type "bool") = some false)
    (z4e : PySem.W.kitOne K (.ref 37) (.type "str") = some false)
    (z4b : PySem.W.kitOne K (.ref 37) (.type "list") = some false)
    (z4h : PySem.W.kitOne K (.ref 37) (.type "tuple") = some false)
    (z45 : PySem.W.kitOne K (.ref 37) (.type "dict") = some false)
    (z4q : PySem.W.excIn K 37 zis "ValueError.__new__" = true)
    {cd_NoNumber : ClassData}
    (z3X : PySem.W.findIn K (.ref 73) "__getattribute__" = some (some (.builtin "BaseException.__getattribute__")))
    (z4l : PySem.W.findIn K (.ref 73) "__getattr__" = some none)
    (z3U : PySem.W.clsIn K 73 = some cd_NoNumber)
    (z3O : PySem.W.findIn K (.ref 73) "__class__" = some (some (.builtin "object.__class__")))
    (z40 : PySem.W.specialIn K (.builtin "object.__class__") "__get__" = some (some (.builtin "getset_descriptor.__get__")))
    (z4u : PySem.W.takesIn K (.builtin "object.__class__") = some true)
    (z4o : PySem.W.mroIn K 73 (.type "object") = some true)
    (z3R : PySem.W.mroIn K 73 (.type "BaseException") = some true)
    (z49 : PySem.W.kitOne K (.ref 73) (.type "int") = some false)
    (z43 : PySem.W.kitOne K (.ref 73) (.type "bool") = some false)
    (z4f : PySem.W.kitOne K (.ref 73) (.type "str") = some false)
    (z4c : PySem.W.kitOne K (.ref 73) (.type "list") = some false)
    (z4i : PySem.W.kitOne K (.ref 73) (.type "tuple") = some false)
    (z46 : PySem.W.kitOne K (.ref 73) (.type "dict") = some false)
    (z4r : PySem.W.excIn K 73 zis "ValueError.__new__" = true)
    {cd_NoPoint : ClassData}
    (z3Y : PySem.W.findIn K (.ref 61) "__getattribute__" = some (some (.builtin "BaseException.__getattribute__")))
    (z4m : PySem.W.findIn K (.ref 61) "__getattr__" = some none)
    (z3V : PySem.W.clsIn K 61 = some cd_NoPoint)
    (z3P : PySem.W.findIn K (.ref 61) "__class__" = some (some (.builtin "object.__class__")))
    (z41 : PySem.W.specialIn K (.builtin "object.__class__") "__get__" = some (some (.builtin "getset_descriptor.__get__")))
    (z4v : PySem.W.takesIn K (.builtin "object.__class__") = some true)
    (z4p : PySem.W.mroIn K 61 (.type "object") = some true)
    (z3S : PySem.W.mroIn K 61 (.type "BaseException") = some true)
    (z4a : PySem.W.kitOne K (.ref 61) (.type "int") = some false)
    (z44 : PySem.W.kitOne K (.ref 61) (.type "bool") = some false)
    (z4g : PySem.W.kitOne K (.ref 61) (.type "str") = some false)
    (z4d : PySem.W.kitOne K (.ref 61) (.type "list") = some false)
    (z4j : PySem.W.kitOne K (.ref 61) (.type "tuple") = some false)
    (z47 : PySem.W.kitOne K (.ref 61) (.type "dict") = some false)
    (z4s : PySem.W.excIn K 61 zis "ValueError.__new__" = true)
    {Pt : Addr} {oc_t : Value} {od_t : Option Addr} {sl_t : Array (Option Value)} {vs_t : Array Value} (h4 : K.lookup cd28 = some ⟨oc_t, od_t, .fields vs_t, sl_t⟩) (h5 : vs_t[11]? = some (.ref Pt)) (hnt : PySem.W.noTabs K = true)
    : PySem.W.noTabs K = true /\ ∃ (c Pt : Addr), PySem.W.tabIn K "law" = some (c, Pt) /\ ∃ fd : FuncData, (∀ (s : Shared) (u : Value), BindsTo s fd ⟨[u], []⟩ [("_law_script", u)]) /\ ∀ base : Heap, K.In base -> base.Ns mainGlobals mg -> z9U mg base c Pt -> FnOk P w K mg base (CXr P w Cl) 9 fa fd ["_law_script"] (zhN K (Xk Cl) 1 Pt (F_law Pt)) := by
  obtain ⟨T, hm, hF⟩ : Txt K mg /\ mg "law" = some (.ref f28) /\ L2.Fun K "law" "law" (top 45) f28 (PySem.W.fnOf "law" "law" (z50 (top 45)) (z4V (top 45)) (z4E (top 45)) .none kV28 dc28 pm28 an28 (.ref cd28) ct28) := ⟨⟨⟨f0, _, PySem.W.mg_of X G a0, z5u l0 q0 k0⟩, ⟨f1, _, PySem.W.mg_of X G a1, z5u l1 q1 k1⟩, ⟨f2, _, PySem.W.mg_of X G a2, z5u l2 q2 k2⟩, ⟨f3, _, PySem.W.mg_of X G a3, z5u l3 q3 k3⟩, ⟨f4, _, PySem.W.mg_of X G a4, z5u l4 q4 k4⟩, ⟨f5, _, PySem.W.mg_of X G a5, z5u l5 q5 k5⟩, ⟨f6, _, PySem.W.mg_of X G a6, z5u l6 q6 k6⟩, ⟨f7, _, PySem.W.mg_of X G a7, z5u l7 q7 k7⟩, ⟨f8, _, PySem.W.mg_of X G a8, z5u l8 q8 k8⟩, ⟨f9, _, PySem.W.mg_of X G a9, z5u l9 q9 k9⟩, ⟨f10, _, PySem.W.mg_of X G a10, z5u l10 q10 k10⟩, ⟨f11, _, PySem.W.mg_of X G a11, z5u l11 q11 k11⟩, ⟨f12, _, PySem.W.mg_of X G a12, z5u l12 q12 k12⟩, ⟨f13, _, PySem.W.mg_of X G a13, z5u l13 q13 k13⟩, ⟨f14, _, PySem.W.mg_of X G a14, z5u l14 q14 k14⟩, ⟨f15, _, PySem.W.mg_of X G a15, z5u l15 q15 k15⟩, ⟨f16, _, PySem.W.mg_of X G a16, z5u l16 q16 k16⟩, ⟨f17, _, PySem.W.mg_of X G a17, z5u l17 q17 k17⟩, ⟨f18, _, PySem.W.mg_of X G a18, z5u l18 q18 k18⟩, ⟨f19, _, PySem.W.mg_of X G a19, z5u l19 q19 k19⟩, ⟨f20, _, PySem.W.mg_of X G a20, z5u l20 q20 k20⟩, ⟨f21, _, PySem.W.mg_of X G a21, z5u l21 q21 k21⟩, ⟨f22, _, PySem.W.mg_of X G a22, z5u l22 q22 k22⟩, ⟨f23, _, PySem.W.mg_of X G a23, z5u l23 q23 k23⟩, ⟨f24, _, PySem.W.mg_of X G a24, z5u l24 q24 k24⟩, ⟨f25, _, PySem.W.mg_of X G a25, z5u l25 q25 k25⟩, ⟨f26, _, PySem.W.mg_of X G a26, z5u l26 q26 k26⟩, ⟨f27, _, PySem.W.mg_of X G a27, z5u l27 q27 k27⟩, ⟨f28, _, PySem.W.mg_of X G a28, z5u l28 q28 k28⟩, PySem.W.mg_none_of X G z_ValueError, PySem.W.mg_none_of X G z_all, PySem.W.mg_none_of X G z_any, PySem.W.mg_none_of X G z_bool, PySem.W.mg_none_of X G z_enumerate, PySem.W.mg_none_of X G z_int, PySem.W.mg_none_of X G z_isinstance, PySem.W.mg_none_of X G z_len, PySem.W.mg_none_of X G z_list, PySem.W.mg_none_of X G z_max, PySem.W.mg_none_of X G z_min, PySem.W.mg_none_of X G z_range, PySem.W.mg_none_of X G z_set, PySem.W.mg_none_of X G z_str, PySem.W.mg_none_of X G z_tuple, PySem.W.mg_none_of X G z_zip, ⟨_, _, PySem.W.mg_of X G d_POINTS_BY_SWITCHES, u_POINTS_BY_SWITCHES, v_POINTS_BY_SWITCHES, y_POINTS_BY_SWITCHES⟩, ⟨_, _, PySem.W.mg_of X G d_SWITCHES_BY_POINTS, u_SWITCHES_BY_POINTS, v_SWITCHES_BY_POINTS, y_SWITCHES_BY_POINTS⟩, ⟨_, PySem.W.mg_of X G s_MOST_SWITCHES⟩, PySem.W.mg_of X G z2Z, PySem.W.mg_of X G z33, PySem.W.mg_of X G z32, PySem.W.mg_of X G z31, PySem.W.mg_of X G z2Y, PySem.W.mg_of X G z2W, PySem.W.mg_of X G z34, PySem.W.mg_of X G z30, PySem.W.mg_of X G z2X, PySem.W.mg_of X G z35, z3G, z3K, z3J, z3I, z3F, z3D, z3L, z3H, z3E, z3M, z3A, z39, z3d, z3c, z3b, z38, z36, z3e, z3a, z37, z3f, z3B, z3j, z3n, z3m, z3l, z3i, z3g, z3o, z3k, z3h, z3p, z3C, z3t, z3x, z3w, z3v, z3s, z3q, z3y, z3u, z3r, z3z, zdK z3W z4k z3T z3N z3Z z4t z4n z3Q z48 z42 z4e z4b z4h z45, zdK z3X z4l z3U z3O z40 z4u z4o z3R z49 z43 z4f z4c z4i z46, zdK z3Y z4m z3V z3P z41 z4v z4p z3S z4a z44 z4g z4d z4j z47⟩, PySem.W.mg_of X G a28, z5u l28 q28 k28⟩
  have e := hfa.symm.trans hm
  cases e
  exact ⟨hnt, cd28, Pt, zj1 a28 l28 h4 h5, _, fun s u => .of_eq rfl, fun base kb nb L => zjo hF rfl T ⟨zbH kb T.z1G z4q, zbH kb T.z1I z4r, zbH kb T.z1J z4s⟩ L⟩
end K01
-- DEPTH 9
namespace K01
open PySem DL
def z8L : Nat -> List (List Nat)
  | 0 => [[]]
  | n + 1 => (z8L n).flatMap fun t => [t ++ [45], t ++ [48], t ++ [49]]
def ziU : Nat -> List Nat
  | 45 => [0, 1]
  | 49 => [1]
  | _ => [0]
def pts (cs : List Nat) : List Nat := cs.foldl (fun ps c => ps.flatMap fun p => (ziU c).map (2 * p + ·)) [0]
def z4R (l : List Nat) : List D := l.map fun (p : Nat) => D.int (p : Int)
def allT : List (List Nat) := z8L 1 ++ z8L 2 ++ z8L 3 ++ z8L 4
def zb5 : Nat -> Nat -> List Nat
  | 0, _ => []
  | n + 1, p => zb5 n (p / 2) ++ [48 + p % 2]
def allP : List (List Nat × Nat) := allT.flatMap fun cs => (List.range (2 ^ cs.length)).map fun p => (cs, p)
def allN : List (Nat × Nat) := [1, 2, 3, 4].flatMap fun n => (List.range (2 ^ n)).map fun p => (n, p)
theorem zga (O : Ow) : (allN.map fun q => z5Z [.int (q.1 : Nat), .int (q.2 : Nat)] O) = allN.map fun q => R.ok (.str (zb5 q.1 q.2)) O := by kernel_rfl
theorem zcy {n p : Nat} (h1 : 1 <= n) (h4 : n <= 4) (hp : p < 2 ^ n) : (n, p) ∈ allN := by
  unfold allN
  rw [List.mem_flatMap]
  refine ⟨n, ?_, List.mem_map.mpr ⟨p, List.mem_range.mpr hp, rfl⟩⟩
  have : n = 1 \/ n = 2 \/ n = 3 \/ n = 4 := by omega
  rcases this with rfl | rfl | rfl | rfl <;> simp
def zfE : DT := z5h (dOp (fPy eqF) (z5I false 1 (z5S (z4w (z4N z5T (z4w (z4z 0) z4C)) z4C)) (.one 4) [(z5h (dOp z9h (dOp fIx (z4z 0) (z4z 4)) (z72 (z4w (dC (.str [45])) (z4w (dOp fIx (z4z 3) (z4z 4)) z4C)))))] [] (z4z 4)) (z5k z4C))
def zcU (cs bs : List Nat) : Bool := (List.range cs.length).all fun i => cs.getD i 0 == 45 || cs.getD i 0 == bs.getD i 1
def sgn (c : Nat) : Bool := c == 45 || c == 48 || c == 49
def bit (c : Nat) : Bool := c == 48 || c == 49
theorem zjP (O : Ow) {c b : Nat} (hc : sgn c = true) (hb : bit b = true) : z9h O (.str [c]) (.tup [.str [45], .str [b]]) = .ok (.bl (!(c == 45 || c == b))) O := by
  unfold sgn at hc
  unfold bit at hb
  simp only [Bool.or_eq_true, beq_iff_eq] at hc hb
  rcases hc with (rfl | rfl) | rfl <;> rcases hb with rfl | rfl <;> kernel_rfl
theorem zdw : (allP.all fun q => zcU q.1 (zb5 q.1.length q.2) == (pts q.1).contains q.2 && (zb5 q.1.length q.2).length == q.1.length && (zb5 q.1.length q.2).all bit && q.1.all sgn) = true := by decide +kernel
theorem ze5 : (allT.all fun cs => decide ((List.range (2 ^ cs.length)).filter (fun p => (pts cs).contains p) = pts cs)) = true := by decide +kernel
theorem zgi {cs : List Nat} {p : Nat} (h : cs ∈ allT) (hp : p < 2 ^ cs.length) : (cs, p) ∈ allP := by
  unfold allP
  rw [List.mem_flatMap]
  exact ⟨cs, h, List.mem_map.mpr ⟨p, List.mem_range.mpr hp, rfl⟩⟩
theorem zeZ : (allT.all fun cs => decide (1 <= cs.length)) = true := by decide +kernel
theorem zfz : (allT.all fun cs => decide (cs.length <= 4)) = true := by decide +kernel
end K01
namespace K01
open PySem DL
theorem zge {cs bs : List Nat} {O : Ow} {k : Nat} {x : Option D} (hl : bs.length = cs.length) (h4 : cs.length <= 4) (hc : ∀ c ∈ cs, sgn c = true) (hb : ∀ b ∈ bs, bit b = true) :
    zfE [some (.str cs), some (.own k), x, some (.str bs)] O = .ok (zcU cs bs) O := by
  let p : D -> Bool := fun d => match d with | .int i => !(cs.getD i.toNat 0 == 45 || cs.getD i.toNat 0 == bs.getD i.toNat 1) | _ => false
  have hi : z5S (z4w (z4N z5T (z4w (z4z 0) z4C)) z4C) [some (.str cs), some (.own k), x, some (.str bs)] O = .ok (.val ((List.range cs.length).map fun (i : Nat) => D.int (i : Int))) O :=
    z6m (z55 ((z58 (z55 rfl)).trans (zac (by omega)))) (by omega)
  have hcomp := z8Z (ext := 1) (i := 4) (ts := [(z5h (dOp z9h (dOp fIx (z4z 0) (z4z 4)) (z72 (z4w (dC (.str [45])) (z4w (dOp fIx (z4z 3) (z4z 4)) z4C)))))]) (te := z4z 4) (p := p) (e := fun d => d) hi (by simp; omega) (fun d hd => by
    obtain ⟨i, hi, rfl⟩ := List.mem_map.mp hd
    have hi : i < cs.length := List.mem_range.mp hi
    have hib : i < bs.length := by omega
    have hp : p (.int (i : Int)) = !(cs[i] == 45 || cs[i] == bs[i]) := by
      show (!(cs.getD (i : Int).toNat 0 == 45 || cs.getD (i : Int).toNat 0 == bs.getD (i : Int).toNat 1)) = _
      have : ((i : Int)).toNat = i := by omega
      rw [this, List.getD_eq_getElem?_getD, List.getD_eq_getElem?_getD, List.getElem?_eq_getElem hi, List.getElem?_eq_getElem hib]; rfl
    rw [hp]
    have tt : z5h (dOp z9h (dOp fIx (z4z 0) (z4z 4)) (z72 (z4w (dC (.str [45])) (z4w (dOp fIx (z4z 3) (z4z 4)) z4C)))) [some (.str cs), some (.own k), x, some (.str bs), some (.int (i : Int))] O = .ok (!(cs[i] == 45 || cs[i] == bs[i])) O := by
      refine z5P ((z4P ((z4P rfl rfl).trans (zbW (by omega) hi)) ?_).trans (zjP O (hc _ (List.getElem_mem hi)) (hb _ (List.getElem_mem hib))))
      show ((z4w (dC (.str [45])) (z4w (dOp fIx (z4z 3) (z4z 4)) z4C) _ O).bnd _) = _
      rw [z5A rfl ((z4P rfl rfl).trans (zbW (by omega) hib))]
      rfl
    show ((z5h (dOp z9h (dOp fIx (z4z 0) (z4z 4)) (z72 (z4w (dC (.str [45])) (z4w (dOp fIx (z4z 3) (z4z 4)) z4C)))) [some (.str cs), some (.own k), x, some (.str bs), some (.int (i : Int))] O).bnd _) = _
    rw [tt]
    cases (!(cs[i] == 45 || cs[i] == bs[i])) <;> rfl) (fun d hd _ => rfl) false
  have e2 : (((List.range cs.length).map fun (i : Nat) => D.int (i : Int)).filter p).map (fun d => d) = (((List.range cs.length).filter fun i => !(cs.getD i 0 == 45 || cs.getD i 0 == bs.getD i 1)).map fun (i : Nat) => ((i : Nat) : Int)).map D.int := by
    rw [List.map_id', List.filter_map, List.map_map]
    rfl
  rw [e2] at hcomp
  have fin : dOp (fPy eqF) (z5I false 1 (z5S (z4w (z4N z5T (z4w (z4z 0) z4C)) z4C)) (.one 4) [(z5h (dOp z9h (dOp fIx (z4z 0) (z4z 4)) (z72 (z4w (dC (.str [45])) (z4w (dOp fIx (z4z 3) (z4z 4)) z4C)))))] [] (z4z 4)) (z5k z4C) [some (.str cs), some (.own k), x, some (.str bs)] O = .ok (.bl (zcU cs bs)) O := by
    refine (z4P hcomp rfl).trans ((ziZ O _).trans ?_)
    congr 2
    unfold zcU
    rw [Bool.eq_iff_iff, List.isEmpty_iff, List.map_eq_nil_iff, List.filter_eq_nil_iff, List.all_eq_true]
    simp [Decidable.or_iff_not_imp_left]
  exact z5P fin
theorem zfH {cs : List Nat} {p : Nat} (h : (cs, p) ∈ allP) (h4 : cs.length <= 4) (O : Ow) (k : Nat) (x : Option D) : zfE [some (.str cs), some (.own k), x, some (.str (zb5 cs.length p))] O = .ok ((pts cs).contains p) O := by
  have := List.all_eq_true.mp zdw _ h
  simp only [Bool.and_eq_true, beq_iff_eq] at this
  obtain ⟨⟨⟨h1, h2⟩, h3⟩, h5⟩ := this
  rw [zge h2 h4 (fun c hc => List.all_eq_true.mp h5 c hc) (fun c hc => List.all_eq_true.mp h3 c hc), h1]
theorem z9K {cs : List Nat} (h : cs ∈ allT) {O : Ow} (hO : zbv O) : z5U [.str cs] O = .ok (.lst (z4R (pts cs))) O := by
  have h4 : cs.length <= 4 := by simpa using List.all_eq_true.mp zfz cs h
  have h1 : 1 <= cs.length := by simpa using List.all_eq_true.mp zeZ cs h
  have hpw : 2 ^ cs.length <= 16 := Nat.le_trans (Nat.pow_le_pow_right (by decide) h4) (by decide)
  unfold z5U zjp z7l z7L
  let n := O.length
  let body : DS := z4W (z5n 3 (dFn 2 z5Z (z4w (z4N z5T (z4w (z4z 0) z4C)) (z4w (z4z 2) z4C)))) (sIf zfE (z5K (zfq (z4z 1) (z4w (z4z 2) z4C))) z5z)
  have step : ∀ i σ O' d, (∃ y z, σ = [some (.str cs), some (.own O.length), y, z] /\ O' = O ++ [z4R ((List.range i).filter fun p => (pts cs).contains p)]) -> ((List.range (2 ^ cs.length)).map fun (i : Nat) => D.int (i : Int))[i]? = some d ->
      ∃ σ' O2, (match Tg.put (.one 2) d σ with | some σ' => body σ' O' | none => .bad) = .nx σ' O2 /\ (∃ y z, σ' = [some (.str cs), some (.own O.length), y, z] /\ O2 = O ++ [z4R ((List.range (i + 1)).filter fun p => (pts cs).contains p)]) := by
    rintro i σ O' d ⟨y, z, rfl, rfl⟩ hd
    rw [List.getElem?_map] at hd
    have hi : i < 2 ^ cs.length := by
      by_cases hi : i < 2 ^ cs.length
      · exact hi
      · rw [List.getElem?_eq_none_iff.mpr (by simpa using hi)] at hd; cases hd
    rw [List.getElem?_range hi] at hd
    cases hd
    have hm := zgi h hi
    generalize hOO : (O ++ [z4R ((List.range i).filter fun p => (pts cs).contains p)]) = OO
    have hb := List.map_inj_left.mp (zga OO) _ (zcy h1 h4 hi)
    have ht := zfH hm h4 OO O.length (some (D.int (i : Nat)))
    dsimp only at hb
    have e1 : z5n 3 (dFn 2 z5Z (z4w (z4N z5T (z4w (z4z 0) z4C)) (z4w (z4z 2) z4C))) [some (.str cs), some (.own O.length), some (.int (i : Nat)), z] OO = .nx [some (.str cs), some (.own O.length), some (.int (i : Nat)), some (.str (zb5 cs.length i))] OO :=
      z5j ((z5o (z5A ((z58 (z55 rfl)).trans (zac (by omega))) rfl) rfl).trans hb)
    show ∃ σ' O2, (match z5n 3 (dFn 2 z5Z (z4w (z4N z5T (z4w (z4z 0) z4C)) (z4w (z4z 2) z4C))) [some (.str cs), some (.own O.length), some (.int (i : Nat)), z] OO with | .nx σ' O' => sIf zfE (z5K (zfq (z4z 1) (z4w (z4z 2) z4C))) z5z σ' O' | r => r) = .nx σ' O2 /\ _
    rw [e1]
    dsimp only
    unfold sIf
    rw [ht]
    dsimp only [R.bnS]
    subst hOO
    by_cases hc : (pts cs).contains i = true
    · rw [if_pos hc]
      have hf : (List.range (i + 1)).filter (fun p => (pts cs).contains p) = (List.range i).filter (fun p => (pts cs).contains p) ++ [i] := by
        rw [List.range_succ, List.filter_append, List.filter_cons, List.filter_nil, if_pos hc]
      have hll : ((List.range i).filter fun p => (pts cs).contains p).length <= i := by
        have := List.length_filter_le (fun p => (pts cs).contains p) (List.range i)
        simpa using this
      refine ⟨[some (.str cs), some (.own O.length), some (.int (i : Nat)), some (.str (zb5 cs.length i))], O ++ [z4R ((List.range (i + 1)).filter fun p => (pts cs).contains p)], ?_, _, _, rfl, rfl⟩
      unfold z5K zfq z4z
      dsimp only [List.getElem?_cons_succ, List.getElem?_cons_zero, R.bnd, z4w, z4C]
      have hk : (O ++ [z4R ((List.range i).filter fun p => (pts cs).contains p)])[O.length]? = some (z4R ((List.range i).filter fun p => (pts cs).contains p)) := by simp
      rw [hk]
      dsimp only
      rw [if_pos (by unfold z4R; rw [List.length_map]; omega)]
      dsimp only [R.bnS]
      rw [List.set_append_right _ _ (Nat.le_refl _), Nat.sub_self, List.set_cons_zero, hf]
      unfold z4R
      rw [List.map_append]
      rfl
    · rw [if_neg hc]
      refine ⟨_, _, rfl, _, _, rfl, ?_⟩
      rw [List.range_succ, List.filter_append, List.filter_cons, List.filter_nil, if_neg hc, List.append_nil]
  have e0 : z5n 1 (zar z4C) [some (.str cs), none, none, none] O = .nx [some (.str cs), some (.own O.length), none, none] (O ++ [[]]) := rfl
  have hr : z5S (z4w (dOp (fI zbZ) (dC (.int 1)) (z4N z5T (z4w (z4z 0) z4C))) z4C) [some (.str cs), some (.own O.length), none, none] (O ++ [[]]) = .ok (.val ((List.range (2 ^ cs.length)).map fun (i : Nat) => D.int (i : Int))) (O ++ [[]]) := by
    refine z6m (z55 ((z4P rfl ((z58 (z55 rfl)).trans (zac (by omega)))).trans ?_)) (by omega)
    have : cs.length = 1 \/ cs.length = 2 \/ cs.length = 3 \/ cs.length = 4 := by omega
    rcases this with e | e | e | e <;> rw [e] <;> rfl
  obtain ⟨σ', O2, f1, y, z, rfl, rfl⟩ := z7G (fun i σ O' => ∃ y z, σ = [some (.str cs), some (.own O.length), y, z] /\ O' = O ++ [z4R ((List.range i).filter fun p => (pts cs).contains p)]) step (2 ^ cs.length) 0 [some (.str cs), some (.own O.length), none, none] (O ++ [[]]) ⟨none, none, rfl, rfl⟩ (by simp) (Nat.zero_le _)
  have hl : ((List.range (2 ^ cs.length)).map fun (i : Nat) => D.int (i : Int)).length = 2 ^ cs.length := by simp
  rw [hl] at f1
  have hpts : (List.range (2 ^ cs.length)).filter (fun p => (pts cs).contains p) = pts cs := by simpa using List.all_eq_true.mp ze5 cs h
  rw [hpts] at f1
  show zeb O.length (fin (z4W (z5n 1 (zar z4C)) _ [some (.str cs), none, none, none] O)) = _
  rw [z4L e0, z4L ((zc7 hr).trans (by
    show z7B _ _ ((List.range (2 ^ cs.length)).map fun (i : Nat) => D.int (i : Int)).length 0 _ _ = _
    rw [hl]; exact f1)), z5R (x := .own O.length) rfl]
  refine zeN hO [z4R (pts cs)] ?_
  unfold frz
  dsimp only
  rw [if_neg (Nat.lt_irrefl _)]
  have hk : (O ++ [z4R (pts cs)])[O.length]? = some (z4R (pts cs)) := by simp
  rw [hk]
  dsimp only
  rw [z7y fun d hd => ?_]
  · rfl
  · obtain ⟨q, _, rfl⟩ := List.mem_map.mp hd
    exact z8w rfl
end K01
namespace K01
open PySem DL
def Ans (d : D) : Prop := d = .int 0 \/ d = .int 1 \/ d = .non
def isZ : D -> Bool
  | .int i => i == 0
  | _ => false
structure Fn (n : Nat) (f : List D) : Prop where
  n1 : 1 <= n
  n4 : n <= 4
  len : f.length = 2 ^ n
  ans : ∀ d ∈ f, Ans d
theorem eq0 (O : Ow) {d : D} (h : Ans d) : fPy eqF O d (.int 0) = .ok (.bl (isZ d)) O := by rcases h with rfl | rfl | rfl <;> kernel_rfl
theorem zhK {n : Nat} (h1 : 1 <= n) (h4 : n <= 4) : n = 1 \/ n = 2 \/ n = 3 \/ n = 4 := by omega
theorem zcw {n : Nat} (h1 : 1 <= n) (h4 : n <= 4) {cs : List Nat} (h : cs ∈ z8L n) : cs ∈ allT := by
  unfold allT
  rcases zhK h1 h4 with rfl | rfl | rfl | rfl <;> simp [h]
theorem zbY : (allT.all fun cs => decide ((pts cs).length <= 16)) = true := by decide +kernel
theorem zhv {cs : List Nat} (h : cs ∈ allT) : (pts cs).length <= 16 := by simpa using List.all_eq_true.mp zbY cs h
theorem zeS : ∀ l : List Bool, bls (l.map D.bl) = some l
  | [] => rfl
  | b :: l => by
    show (bls (l.map D.bl)).map (b :: ·) = _
    rw [zeS l]; rfl
theorem zcl (O : Ow) (l : List Bool) : zgW O [.lst (l.map D.bl)] = .ok (.bl (l.all id)) O := by
  show (match bls (l.map D.bl) with | some bs => R.ok (D.bl (bs.all id)) O | none => R.bad) = _
  rw [zeS]
theorem za4 {f : List D} {p : Nat} (h : p < f.length) : f.getD p .non = f[p] := by
  rw [List.getD_eq_getElem?_getD, List.getElem?_eq_getElem h]; rfl
theorem z7q {α : Type} (l : List α) : l.filter (fun _ => true) = l := by simp
theorem zdz (O : Ow) {d : D} (h : Ans d) : z63 [d] O = .ok (.bl true) O := by rcases h with rfl | rfl | rfl <;> kernel_rfl
theorem z6a {n : Nat} (h4 : n <= 4) : 2 ^ n <= 16 := Nat.le_trans (Nat.pow_le_pow_right (by decide) h4) (by decide)
theorem z8u (O : Ow) (f : List D) : z5T O [.tup f] = .ok (.int f.length) O := rfl
theorem z9m {n : Nat} {f : List D} (hf : Fn n f) (O : Ow) : z5f [.tup f] O = .ok (.bl true) O := by
  have hc := z8Z (ext := 1) (i := 1) (ts := []) (te := dFn 1 z63 (z4w (z4z 1) z4C)) (it0 := dIt (z4z 0)) (σ := [some (.tup f)]) (O := O) (ds := f) (p := fun _ => true) (e := fun _ => .bl true) rfl (by have := z6a hf.n4; have := hf.len; omega) (fun d hd => rfl) (fun d hd _ => (z5o (z55 rfl) rfl).trans (zdz O (hf.ans d hd))) false
  have e2 : (f.filter fun _ => true).map (fun _ => D.bl true) = (f.map fun _ => true).map D.bl := by rw [z7q, List.map_map]; rfl
  rw [e2] at hc
  have hif : sIf (zbx (z5g (z5V (z6R "tuple" (z4z 0)))) (z5h (z7n true z4M (z4N z5T (z4w (z4z 0) z4C))))) (z5c (dC (.bl false))) z5z [some (.tup f)] O = .nx [some (.tup f)] O := by
    have : zbx (z5g (z5V (z6R "tuple" (z4z 0)))) (z5h (z7n true z4M (z4N z5T (z4w (z4z 0) z4C)))) [some (.tup f)] O = .ok false O := by
      show (z5h (z7n true z4M (z4N z5T (z4w (z4z 0) z4C))) [some (.tup f)] O) = _
      refine z5P ?_
      show R.ok (D.bl (if true = true then !(z6U z4M (f.length : Nat)).isSome else _)) O = _
      rw [hf.len]
      rcases zhK hf.n1 hf.n4 with rfl | rfl | rfl | rfl <;> rfl
    rw [z5F this]; rfl
  show fin (z4W _ _ [some (.tup f)] O) = _
  rw [z4L hif, z5R ((z58 (z55 hc)).trans (zcl O _))]
  show R.ok (D.bl _) O = _
  congr 2
  rw [List.all_map]
  exact List.all_eq_true.mpr fun _ _ => rfl
theorem zc6 {n : Nat} {f : List D} (hf : Fn n f) (O : Ow) : z5b [.tup f] O = .ok .non O := by
  show fin (sIf _ _ z5z [some (.tup f)] O) = _
  have e1 : dFn 1 z5f (z4w (z4z 0) z4C) [some (.tup f)] O = .ok (.bl true) O := (z5o (z55 rfl) rfl).trans (z9m hf O)
  rw [z5F (z8x (z7v e1))]
  rfl
theorem z8R {n : Nat} {f : List D} (hf : Fn n f) (O : Ow) : z5E [.tup f] O = .ok (.int n) O := by
  show fin (z5c (zjZ [(2, 1), (4, 2), (8, 3), (16, 4)] (z4N z5T (z4w (z4z 0) z4C))) [some (.tup f)] O) = _
  have : zjZ [(2, 1), (4, 2), (8, 3), (16, 4)] (z4N z5T (z4w (z4z 0) z4C)) [some (.tup f)] O = .ok (.int n) O := by
    show (match zjg [(2, 1), (4, 2), (8, 3), (16, 4)] (f.length : Nat) with | some v => R.ok (D.int v) O | none => R.bad) = _
    rw [hf.len]
    rcases zhK hf.n1 hf.n4 with rfl | rfl | rfl | rfl <;> rfl
  rw [z5R this]; rfl
end K01
namespace K01
open PySem DL
structure StAt (O : Ow) (m : Nat) (s : Int) (b : Bool) : Prop where
  at_ : O[m]? = some [.int s, .bl b]
  nn : 0 <= s
  lt : b = false -> s < 2147483647
theorem StAt.len {O : Ow} {m : Nat} {s : Int} {b : Bool} (h : StAt O m s b) : m < O.length := (List.getElem?_eq_some_iff.mp h.at_).1
theorem z8v {O : Ow} {m : Nat} {x y : D} (h : O[m]? = some [x, y]) : fIx O (.own m) (.int 0) = .ok x O := by
  show (match O[m]? with | some ds => (match L2.atI ds 0 with | some d => R.ok d O | none => R.bad) | none => _) = _
  rw [h]; rfl
theorem zcm {O : Ow} {m : Nat} {x y : D} (h : O[m]? = some [x, y]) : fIx O (.own m) (.int 1) = .ok y O := by
  show (match O[m]? with | some ds => (match L2.atI ds 1 with | some d => R.ok d O | none => R.bad) | none => _) = _
  rw [h]; rfl
theorem zcb {te to ti : DE} {σ : Sg} {O O1 O2 O3 : Ow} {y : D} {k : Nat} {i : Int} {ds : List D} {j : Nat} (h1 : te σ O = .ok y O1) (h2 : to σ O1 = .ok (.own k) O2) (h3 : ti σ O2 = .ok (.int i) O3) (h4 : O3[k]? = some ds) (h5 : L2.ixN ds.length i = some j) :
    zfp te to ti σ O = .nx σ (O3.set k (ds.set j y)) := by
  show ((te σ O).bnS _) = _
  rw [h1]
  show ((to σ O1).bnS _) = _
  rw [h2]
  show ((ti σ O2).bnS _) = _
  rw [h3]
  show (match O3[k]? with | some ds => (match L2.ixN ds.length i with | some j => RS.nx σ (O3.set k (ds.set j y)) | none => RS.bad) | none => RS.bad) = _
  rw [h4]
  show (match L2.ixN ds.length i with | some j => RS.nx σ (O3.set k (ds.set j y)) | none => RS.bad) = _
  rw [h5]
theorem z9C {O : Ow} {i j : Int} (h : 0 < j) : fI z9A O (.int i) (.int j) = .ok (.int (i % j)) O := by
  show (match z9A i j with | some d => R.ok d O | none => R.bad) = _
  unfold z9A; rw [if_pos h]
theorem ze7 {O : Ow} {i j : Int} (h : 0 < j) (h2 : j < 1073741824) : fI z9J O (.int i) (.int j) = .ok (.int (i / j)) O := by
  show (match z9J i j with | some d => R.ok d O | none => R.bad) = _
  unfold z9J; rw [if_pos ⟨h, h2⟩]
theorem z94 {O : Ow} {i j : Int} (h : -1000000000000000 < i) (h2 : i < 1000000000000000) : fI zbE O (.int i) (.int j) = .ok (.int (i * j)) O := by
  show (match zbE i j with | some d => R.ok d O | none => R.bad) = _
  unfold zbE; rw [if_pos (.inl ⟨h, h2⟩)]
theorem z7M {O : Ow} {i j : Int} : z9t O (.int i) (.int j) = .ok (.int (i + j)) O := rfl
theorem z6C {O : Ow} {m : Nat} {s : Int} {b : Bool} (h : StAt O m s b) {k : Nat} (k1 : 1 <= k) (k2 : k <= 1000) :
    ∃ (r : Nat) (s' : Int), r < k /\ z4I [.own m, .int k] O = .ok (.int r) (O.set m [.int s', .bl b]) /\ StAt (O.set m [.int s', .bl b]) m s' b := by
  have kk : (0 : Int) < (k : Int) := by omega
  have hset : ∀ s', (O.set m [.int s', .bl b])[m]? = some [D.int s', D.bl b] := fun s' => by rw [List.getElem?_set_self h.len]
  have hres : ∀ x : Int, ∃ r : Nat, r < k /\ x % (k : Int) = (r : Int) := fun x => by
    have a1 := Int.emod_nonneg x (show (k : Int) ≠ 0 by omega)
    have a2 := Int.emod_lt_of_pos x kk
    exact ⟨(x % (k : Int)).toNat, by omega, by omega⟩
  cases b with
  | true =>
    obtain ⟨r, r1, r2⟩ := hres s
    refine ⟨r, s / k, r1, ?_, hset _, Int.ediv_nonneg h.nn (by omega), fun z => by cases z⟩
    have hc : z5V (dOp fIx (z4z 0) (dC (.int 1))) [some (.own m), some (.int k), none, none] O = .ok true O := z7v ((z4P rfl rfl).trans (zcm h.at_))
    have e1 : z5n 2 (dOp (fI z9A) (dOp fIx (z4z 0) (dC (.int 0))) (z4z 1)) [some (.own m), some (.int k), none, none] O = .nx [some (.own m), some (.int k), some (.int r), none] O := by
      rw [z5j ((z4P ((z4P rfl rfl).trans (z8v h.at_)) rfl).trans (z9C kk)), r2]; rfl
    have e2 : zfp (dOp (fI z9J) (dOp fIx (z4z 0) (dC (.int 0))) (z4z 1)) (z4z 0) (dC (.int 0)) [some (.own m), some (.int k), some (.int r), none] O = .nx [some (.own m), some (.int k), some (.int r), none] (O.set m [.int (s / k), .bl true]) :=
      zcb (ds := [.int s, .bl true]) (j := 0) ((z4P ((z4P rfl rfl).trans (z8v h.at_)) rfl).trans (ze7 kk (by omega))) rfl rfl h.at_ rfl
    show fin (z4W (sIf _ _ _) _ [some (.own m), some (.int k), none, none] O) = _
    have e3 : sIf (z5V (dOp fIx (z4z 0) (dC (.int 1)))) (z4W (z5n 2 (dOp (fI z9A) (dOp fIx (z4z 0) (dC (.int 0))) (z4z 1))) (z4W (zfp (dOp (fI z9J) (dOp fIx (z4z 0) (dC (.int 0))) (z4z 1)) (z4z 0) (dC (.int 0))) (z5c (z4z 2)))) z5z [some (.own m), some (.int k), none, none] O = .rt (.int r) (O.set m [.int (s / k), .bl true]) := by
      rw [z5F hc, if_pos rfl, z4L e1, z4L e2]; rfl
    rw [z7a e3]; rfl
  | false =>
    have hs := h.lt rfl
    let s1 : Int := (s * 48271 + 29) % 2147483647
    have s1n : 0 <= s1 := Int.emod_nonneg _ (by decide)
    have s1l : s1 < 2147483647 := Int.emod_lt_of_pos _ (by decide)
    let O1 := O.set m [.int s1, .bl false]
    have hO1 : O1[m]? = some [D.int s1, D.bl false] := hset s1
    let t1 : Int := (s1 * s1 + 39373 * s1 + 7) % 2147483629
    have t1n : 0 <= t1 := Int.emod_nonneg _ (by decide)
    have t1l : t1 < 2147483629 := Int.emod_lt_of_pos _ (by decide)
    let t2 : Int := (t1 * t1 + 16807 * t1) % 2147483587
    have hc : z5V (dOp fIx (z4z 0) (dC (.int 1))) [some (.own m), some (.int k), none, none] O = .ok false O := z7v ((z4P rfl rfl).trans (zcm h.at_))
    have e0 : sIf (z5V (dOp fIx (z4z 0) (dC (.int 1)))) (z4W (z5n 2 (dOp (fI z9A) (dOp fIx (z4z 0) (dC (.int 0))) (z4z 1))) (z4W (zfp (dOp (fI z9J) (dOp fIx (z4z 0) (dC (.int 0))) (z4z 1)) (z4z 0) (dC (.int 0))) (z5c (z4z 2)))) z5z [some (.own m), some (.int k), none, none] O = .nx [some (.own m), some (.int k), none, none] O := by
      rw [z5F hc]; rfl
    have e1 : zfp (dOp (fI z9A) (dOp z9t (dOp (fI zbE) (dOp fIx (z4z 0) (dC (.int 0))) (dC (.int 48271))) (dC (.int 29))) (dC (.int 2147483647))) (z4z 0) (dC (.int 0)) [some (.own m), some (.int k), none, none] O = .nx [some (.own m), some (.int k), none, none] O1 :=
      zcb (ds := [.int s, .bl false]) (j := 0) ((z4P ((z4P ((z4P ((z4P rfl rfl).trans (z8v h.at_)) rfl).trans (z94 (by have := h.nn; omega) (by omega))) rfl).trans z7M) rfl).trans (z9C (by decide))) rfl rfl h.at_ rfl
    have ix0 : ∀ z w, dOp fIx (z4z 0) (dC (.int 0)) [some (.own m), some (.int k), z, w] O1 = .ok (.int s1) O1 := fun z w => (z4P rfl rfl).trans (z8v hO1)
    have e2 : z5n 3 (dOp (fI z9A) (dOp z9t (dOp z9t (dOp (fI zbE) (dOp fIx (z4z 0) (dC (.int 0))) (dOp fIx (z4z 0) (dC (.int 0)))) (dOp (fI zbE) (dC (.int 39373)) (dOp fIx (z4z 0) (dC (.int 0))))) (dC (.int 7))) (dC (.int 2147483629))) [some (.own m), some (.int k), none, none] O1 = .nx [some (.own m), some (.int k), none, some (.int t1)] O1 :=
      z5j ((z4P ((z4P ((z4P ((z4P (ix0 none none) (ix0 none none)).trans (z94 (by omega) (by omega))) ((z4P rfl (ix0 none none)).trans (z94 (by decide) (by decide)))).trans z7M) rfl).trans z7M) rfl).trans (z9C (by decide)))
    have e3 : z5n 3 (dOp (fI z9A) (dOp z9t (dOp (fI zbE) (z4z 3) (z4z 3)) (dOp (fI zbE) (dC (.int 16807)) (z4z 3))) (dC (.int 2147483587))) [some (.own m), some (.int k), none, some (.int t1)] O1 = .nx [some (.own m), some (.int k), none, some (.int t2)] O1 :=
      z5j ((z4P ((z4P ((z4P rfl rfl).trans (z94 (by omega) (by omega))) ((z4P rfl rfl).trans (z94 (by decide) (by decide)))).trans z7M) rfl).trans (z9C (by decide)))
    obtain ⟨r, r1, r2⟩ := hres (t2 / 8)
    refine ⟨r, s1, r1, ?_, hset _, s1n, fun _ => s1l⟩
    have e4 : z5c (dOp (fI z9A) (dOp (fI z9J) (z4z 3) (dC (.int 8))) (z4z 1)) [some (.own m), some (.int k), none, some (.int t2)] O1 = .rt (.int r) O1 := by
      rw [z5R ((z4P ((z4P rfl rfl).trans (ze7 (by decide) (by decide))) rfl).trans (z9C kk)), r2]
    show fin (z4W _ _ [some (.own m), some (.int k), none, none] O) = _
    rw [z4L e0, z4L e1, z4L e2, z4L e3, e4]; rfl
theorem zfG {ns : List Int} {k : Nat} (O : Ow) : ∃ s b, z66 [.lst (ns.map .int), .int k] O = .ok (.own O.length) (O ++ [[.int s, .bl b]]) /\ StAt (O ++ [[.int s, .bl b]]) O.length s b := by
  have hat : ∀ s b, (O ++ [[D.int s, D.bl b]])[O.length]? = some [D.int s, D.bl b] := fun s b => by simp
  obtain ⟨c, hc⟩ : ∃ c : Int, z5W [.lst (ns.map .int), .int k] O = .ok (.int c) O := by
    have ht : z5h (dOp fLt (z4z 1) (z4N z5T (z4w (z4z 0) z4C))) [some (.lst (ns.map .int)), some (.int k)] O = .ok (decide ((k : Int) < (ns.map D.int).length)) O := z5P ((z4P rfl ((z58 (z55 rfl)).trans rfl)).trans rfl)
    by_cases hk : (k : Int) < (ns.map D.int).length
    · have hk' : k < (ns.map D.int).length := by omega
      have hx : dOp fIx (z4z 0) (z4z 1) [some (.lst (ns.map .int)), some (.int k)] O = .ok (ns.map D.int)[k] O := (z4P rfl rfl).trans (zeE hk')
      refine ⟨ns[k]'(by simpa using hk'), ?_⟩
      show fin (z4W _ _ [some (.lst (ns.map .int)), some (.int k)] O) = _
      have e1 : sIf (z5h (dOp fLt (z4z 1) (z4N z5T (z4w (z4z 0) z4C)))) (z5c (dOp fIx (z4z 0) (z4z 1))) z5z [some (.lst (ns.map .int)), some (.int k)] O = .rt (.int (ns[k]'(by simpa using hk'))) O := by
        rw [z5F ht, if_pos (decide_eq_true hk), z5R hx]; simp
      rw [z7a e1]; rfl
    · refine ⟨0, ?_⟩
      show fin (z4W _ _ [some (.lst (ns.map .int)), some (.int k)] O) = _
      have e1 : sIf (z5h (dOp fLt (z4z 1) (z4N z5T (z4w (z4z 0) z4C)))) (z5c (dOp fIx (z4z 0) (z4z 1))) z5z [some (.lst (ns.map .int)), some (.int k)] O = .nx [some (.lst (ns.map .int)), some (.int k)] O := by
        rw [z5F ht, if_neg (by simpa using hk)]; rfl
      rw [z4L e1]; rfl
  have e0 : z5n 2 (dFn 2 z5W (z4w (z4z 0) (z4w (z4z 1) z4C))) [some (.lst (ns.map .int)), some (.int k), none] O = .nx [some (.lst (ns.map .int)), some (.int k), some (.int c)] O := z5j ((z5o (z5A rfl rfl) rfl).trans hc)
  have hp : ∀ σ, dOp (fI zdk) (dC (.int 10)) (dC (.int 18)) σ O = .ok (.int 1000000000000000000) O := fun σ => by
    refine (z4P (σ := σ) (O := O) rfl rfl).trans ?_
    kernel_rfl
  have ht : z5h (dOp fGe (z4z 2) (dOp (fI zdk) (dC (.int 10)) (dC (.int 18)))) [some (.lst (ns.map .int)), some (.int k), some (.int c)] O = .ok (decide ((1000000000000000000 : Int) <= c)) O := z5P ((z4P rfl (hp _)).trans rfl)
  by_cases hcc : (1000000000000000000 : Int) <= c
  · refine ⟨c - 1000000000000000000, true, ?_, hat _ _, by omega, fun z => by cases z⟩
    have e1 : sIf (z5h (dOp fGe (z4z 2) (dOp (fI zdk) (dC (.int 10)) (dC (.int 18))))) (z5c (zar (z4w (dOp (fI zgK) (z4z 2) (dOp (fI zdk) (dC (.int 10)) (dC (.int 18)))) (z4w (dC (.bl true)) z4C)))) z5z [some (.lst (ns.map .int)), some (.int k), some (.int c)] O = .rt (.own O.length) (O ++ [[.int (c - 1000000000000000000), .bl true]]) := by
      rw [z5F ht, if_pos (decide_eq_true hcc)]
      refine z5R ?_
      show ((z4w _ _ _ O).bnd _) = _
      rw [z5A ((z4P rfl (hp _)).trans rfl) rfl]
      rfl
    show fin (z4W _ _ [some (.lst (ns.map .int)), some (.int k), none] O) = _
    rw [z4L e0, z7a e1]; rfl
  · refine ⟨c % 2147483647, false, ?_, hat _ _, Int.emod_nonneg _ (by decide), fun _ => Int.emod_lt_of_pos _ (by decide)⟩
    have e1 : sIf (z5h (dOp fGe (z4z 2) (dOp (fI zdk) (dC (.int 10)) (dC (.int 18))))) (z5c (zar (z4w (dOp (fI zgK) (z4z 2) (dOp (fI zdk) (dC (.int 10)) (dC (.int 18)))) (z4w (dC (.bl true)) z4C)))) z5z [some (.lst (ns.map .int)), some (.int k), some (.int c)] O = .nx [some (.lst (ns.map .int)), some (.int k), some (.int c)] O := by
      rw [z5F ht, if_neg (by simpa using hcc)]; rfl
    show fin (z4W _ _ [some (.lst (ns.map .int)), some (.int k), none] O) = _
    rw [z4L e0, z4L e1]
    have e2 : zar (z4w (dOp (fI z9A) (z4z 2) (dC (.int 2147483647))) (z4w (dC (.bl false)) z4C)) [some (.lst (ns.map .int)), some (.int k), some (.int c)] O = .ok (.own O.length) (O ++ [[.int (c % 2147483647), .bl false]]) := by
      show ((z4w _ _ _ O).bnd _) = _
      rw [z5A ((z4P rfl rfl).trans (z9C (by decide))) rfl]
      rfl
    rw [z5R e2]; rfl
end K01
namespace K01
open PySem DL
theorem zfx {O : Ow} {m : Nat} {x : List D} (h : O[m]? = some x) : O.set m x = O := by
  obtain ⟨h1, rfl⟩ := List.getElem?_eq_some_iff.mp h
  exact List.set_getElem_self h1
theorem z6s {O : Ow} (h : zbv O) (m : Nat) (s : Int) (b : Bool) : zbv (O.set m [.int s, .bl b]) := by
  intro c hc d hd
  rw [List.length_set]
  rcases List.mem_or_eq_of_mem_set hc with h1 | rfl
  · exact h c h1 d hd
  · simp only [List.mem_cons, List.not_mem_nil, or_false] at hd
    rcases hd with rfl | rfl <;> rfl
theorem zcN {O' : Ow} (hO : zbv O') (X : Ow) {d d' : D} (h : frz (O' ++ X) O'.length 8 d = some d') : zeb O'.length (.ok d (O' ++ X)) = .ok d' O' := by
  unfold zeb
  dsimp only
  rw [h]
  have : (O' ++ X).take O'.length = O' := by simp
  rw [this, z7y fun c hc => z7y fun d hd => z8w (hO c hc d hd)]
theorem zcF {ext : Nat} {it0 : DI} {i : Nat} {te : DE} {σ : Sg} {O : Ow} {ds : List D} {m : Nat} {s : Int} {b : Bool} {P : D -> Prop} (hst : StAt O m s b) (hi : it0 σ O = .ok (.val ds) O) (hl : ds.length < 50000)
    (he : ∀ d ∈ ds, ∀ s', StAt (O.set m [.int s', .bl b]) m s' b -> ∃ v s'', te ((clr (clr (σ ++ List.replicate ext none) [i]) [i]).set i (some d)) (O.set m [.int s', .bl b]) = .ok v (O.set m [.int s'', .bl b]) /\ StAt (O.set m [.int s'', .bl b]) m s'' b /\ P v) :
    ∃ vs s', z5I false ext it0 (.one i) [] [] te σ O = .ok (.lst vs) (O.set m [.int s', .bl b]) /\ StAt (O.set m [.int s', .bl b]) m s' b /\ vs.length = ds.length /\ ∀ v ∈ vs, P v := by
  obtain ⟨acc, O', e, s', rfl, h1, h2, h3⟩ := zaw (ds := ds) (step := z6I ⟨it0, .one i, []⟩ [] te (clr (σ ++ List.replicate ext none) (z52 [⟨it0, .one i, []⟩])))
    (fun j O' acc => ∃ s', O' = O.set m [.int s', .bl b] /\ StAt O' m s' b /\ acc.length = j /\ ∀ v ∈ acc, P v) (fun j O' acc d hI hd => by
      obtain ⟨s', rfl, h1, h2, h3⟩ := hI
      have hj := (List.getElem?_eq_some_iff.mp hd).1
      obtain ⟨v, s'', q1, q2, q3⟩ := he d (List.mem_of_getElem? hd) s' h1
      refine ⟨acc ++ [v], _, ?_, s'', rfl, q2, by simp [h2], fun w hw => ?_⟩
      · show z6D [] te ((clr (clr (σ ++ List.replicate ext none) [i]) [i]).set i (some d)) (O.set m [.int s', .bl b]) acc = _
        unfold z6D
        rw [q1]
        show (if acc.length < 100000 then _ else _) = _
        rw [if_pos (by omega)]
      · rcases List.mem_append.mp hw with hw | hw
        · exact h3 w hw
        · have : w = v := by simpa using hw
          rw [this]; exact q3) ds.length 0 O [] ⟨s, (zfx hst.at_).symm, hst, rfl, by simp⟩ (by omega) (Nat.zero_le _)
  refine ⟨acc, s', ?_, h1, h2, h3⟩
  unfold z5I z7t
  rw [hi]
  show zdu false (noX (z5C (.val ds) _ ds.length 0 O [])) = _
  rw [e]; rfl
theorem zaL : ∀ (n : Nat) (cs : List Nat), cs.length = n -> (∀ c ∈ cs, sgn c = true) -> cs ∈ z8L n
  | 0, cs, h, _ => by
    have : cs = [] := List.length_eq_zero_iff.mp h
    subst this; simp [z8L]
  | n + 1, cs, h, hs => by
    have hne : cs ≠ [] := by intro e; subst e; simp at h
    obtain ⟨t, c, rfl⟩ : ∃ t c, cs = t ++ [c] := ⟨_, _, (List.dropLast_concat_getLast hne).symm⟩
    have ht := zaL n t (by simpa using h) fun c hc => hs c (List.mem_append_left _ hc)
    unfold z8L
    rw [List.mem_flatMap]
    refine ⟨t, ht, ?_⟩
    have hl := hs c (by simp)
    unfold sgn at hl
    simp only [Bool.or_eq_true, beq_iff_eq] at hl
    rcases hl with (z | z) | z <;> rw [z] <;> simp
theorem zhQ {σ : Sg} {O O' : Ow} {tA : DA} : ∀ (cs : List Nat), 1 <= cs.length -> cs.length <= 4 -> tA σ O = .ok [.lst (cs.map fun c => .str [c])] O' -> zh7 (dC (.str [])) tA σ O = .ok (.str cs) O'
  | [], h, _, _ => by simp at h
  | [a], _, _, h => by show ((tA σ O).bnd _) = _; rw [h]; rfl
  | [a, b], _, _, h => by show ((tA σ O).bnd _) = _; rw [h]; rfl
  | [a, b, c], _, _, h => by show ((tA σ O).bnd _) = _; rw [h]; rfl
  | [a, b, c, d], _, _, h => by show ((tA σ O).bnd _) = _; rw [h]; rfl
  | _ :: _ :: _ :: _ :: _ :: _, _, h, _ => by simp at h
theorem zeK : ∀ (vs : List D), (∀ v ∈ vs, ∃ c, v = D.str [c] /\ sgn c = true) -> ∃ cs : List Nat, vs = cs.map (fun c => D.str [c]) /\ ∀ c ∈ cs, sgn c = true
  | [], _ => ⟨[], rfl, by simp⟩
  | v :: vs, h => by
    obtain ⟨c, rfl, hc⟩ := h v List.mem_cons_self
    obtain ⟨cs, rfl, hcs⟩ := zeK vs fun w hw => h w (List.mem_cons_of_mem _ hw)
    exact ⟨c :: cs, rfl, fun x hx => (List.mem_cons.mp hx).elim (fun e => by rw [e]; exact hc) (hcs x)⟩
theorem zi9 {O : Ow} {m : Nat} {s : Int} {b : Bool} (h : StAt O m s b) {n : Nat} (n1 : 1 <= n) (n4 : n <= 4) :
    ∃ cs s', cs ∈ z8L n /\ z6x [.own m, .int n] O = .ok (.str cs) (O.set m [.int s', .bl b]) /\ StAt (O.set m [.int s', .bl b]) m s' b := by
  have hi : z5S (z4w (z4z 1) z4C) [some (.own m), some (.int n)] O = .ok (.val ((List.range n).map fun (i : Nat) => D.int (i : Int))) O := z6m (z55 rfl) (by omega)
  obtain ⟨vs, s', e1, e2, e3, e4⟩ := zcF (ext := 1) (i := 2) (te := dOp fIx (dC (.str [48, 49, 45, 45])) (dFn 2 z4I (z4w (z4z 0) (z4w (dC (.int 4)) z4C)))) (P := fun v => ∃ c, v = D.str [c] /\ sgn c = true) h hi (by simp; omega) (fun d hd s' hs => by
    obtain ⟨r, s'', r1, r2, r3⟩ := z6C hs (k := 4) (by decide) (by decide)
    rw [List.set_set] at r2 r3
    have r5 : r < [48, 49, 45, 45].length := r1
    refine ⟨D.str [[48, 49, 45, 45][r]], s'', (z4P rfl ((z5o (z5A rfl rfl) rfl).trans r2)).trans (zbW (by decide) r5), r3, _, rfl, ?_⟩
    have : r = 0 \/ r = 1 \/ r = 2 \/ r = 3 := by omega
    rcases this with rfl | rfl | rfl | rfl <;> rfl)
  obtain ⟨cs, rfl, hcs⟩ := zeK vs e4
  have hl : cs.length = n := by simpa using e3
  refine ⟨cs, s', zaL n cs hl hcs, ?_, e2⟩
  show fin (z5c _ [some (.own m), some (.int n)] O) = _
  rw [z5R (zhQ cs (by omega) (by omega) (z55 e1))]; rfl
end K01
namespace K01
open PySem DL
theorem zdS {σ : Sg} {O : Ow} {t : DE} {n : Nat} (n4 : n <= 4) (h : t σ O = .ok (.int n) O) : dOp (fI zbZ) (dC (.int 1)) t σ O = .ok (.int ((2 ^ n : Nat) : Int)) O := by
  refine (z4P rfl h).trans ?_
  have : n = 0 \/ n = 1 \/ n = 2 \/ n = 3 \/ n = 4 := by omega
  rcases this with rfl | rfl | rfl | rfl | rfl <;> rfl
theorem zed (O : Ow) (p : Int) (l : List Int) : fIn O (.int p) (.lst (l.map D.int)) = .ok (.bl (l.any fun q => q == p)) O := by
  show fPy inF O (.int p) (.lst (l.map D.int)) = _
  unfold fPy py
  have e : z8C O 8 (.lst (l.map D.int)) = some (.list (l.map PyData.int)) := by
    show (z6Q (z8C O 7) (l.map D.int)).map PyData.list = _
    rw [zal]; rfl
  rw [e]
  show R.ok (D.bl ((l.map PyData.int).any fun y => PyData.eqv y (.int p))) O = _
  rw [List.any_map]
  rfl
theorem zf3 {O : Ow} {n f : Nat} {ds : List D} (h : ∀ d ∈ ds, z7A n d = true) : frz O n (f + 1) (.tup ds) = some (.tup ds) := by
  show (z6Q (frz O n f) ds).map D.tup = _
  rw [z7y fun d hd => z8w (h d hd)]; rfl
theorem zct {d : D} (h : Ans d) (n : Nat) : z7A n d = true := by rcases h with rfl | rfl | rfl <;> rfl
def L8 : List D := [.int 4, .int 3, .int 3, .int 2, .int 4, .int 3, .int 4, .int 1]
def Ls : List D := [.lst [.int 0, .int 1], .lst [.int 0, .int 1, .non], .lst [.int 0, .int 0, .int 0, .int 1, .non], .lst [.int 1, .int 1, .int 1, .int 0, .non]]
theorem zki (O : Ow) {r : Nat} (h : r < 8) : ∃ n : Nat, 1 <= n /\ n <= 4 /\ fIx O (.lst L8) (.int r) = .ok (.int n) O := by
  have : r = 0 \/ r = 1 \/ r = 2 \/ r = 3 \/ r = 4 \/ r = 5 \/ r = 6 \/ r = 7 := by omega
  rcases this with rfl | rfl | rfl | rfl | rfl | rfl | rfl | rfl
  · exact ⟨4, by decide, by decide, rfl⟩
  · exact ⟨3, by decide, by decide, rfl⟩
  · exact ⟨3, by decide, by decide, rfl⟩
  · exact ⟨2, by decide, by decide, rfl⟩
  · exact ⟨4, by decide, by decide, rfl⟩
  · exact ⟨3, by decide, by decide, rfl⟩
  · exact ⟨4, by decide, by decide, rfl⟩
  · exact ⟨1, by decide, by decide, rfl⟩
theorem zkR (O : Ow) {r : Nat} (h : r < 4) : ∃ l : List D, 1 <= l.length /\ l.length <= 5 /\ (∀ d ∈ l, Ans d) /\ fIx O (.lst Ls) (.int r) = .ok (.lst l) O := by
  have : r = 0 \/ r = 1 \/ r = 2 \/ r = 3 := by omega
  rcases this with rfl | rfl | rfl | rfl
  · exact ⟨[.int 0, .int 1], by decide, by decide, by simp [Ans], rfl⟩
  · exact ⟨[.int 0, .int 1, .non], by decide, by decide, by simp [Ans], rfl⟩
  · exact ⟨[.int 0, .int 0, .int 0, .int 1, .non], by decide, by decide, by simp [Ans], rfl⟩
  · exact ⟨[.int 1, .int 1, .int 1, .int 0, .non], by decide, by decide, by simp [Ans], rfl⟩
theorem zg7 (n : Nat) : 1 <= 2 ^ n := Nat.one_le_two_pow
set_option maxHeartbeats 1000000 in
theorem zbT {O : Ow} (hO : zbv O) {m : Nat} {s : Int} {b : Bool} (h : StAt O m s b) :
    ∃ n f s', Fn n f /\ z5D [.own m] O = .ok (.tup f) (O.set m [.int s', .bl b]) /\ StAt (O.set m [.int s', .bl b]) m s' b := by
  obtain ⟨r, s1, r1, r2, h1⟩ := z6C h (k := 8) (by decide) (by decide)
  obtain ⟨n, n1, n4, hn⟩ := zki (O.set m [.int s1, .bl b]) r1
  obtain ⟨w, s2, w1, w2, h2⟩ := z6C h1 (k := 6) (by decide) (by decide)
  rw [List.set_set] at w2 h2
  have hpw := z6a n4
  have e1 : z5n 1 (dOp fIx (z5k (z4w (dC (.int 4)) (z4w (dC (.int 3)) (z4w (dC (.int 3)) (z4w (dC (.int 2)) (z4w (dC (.int 4)) (z4w (dC (.int 3)) (z4w (dC (.int 4)) (z4w (dC (.int 1)) z4C))))))))) (dFn 2 z4I (z4w (z4z 0) (z4w (dC (.int 8)) z4C)))) [some (.own m), none, none, none, none, none, none] O = .nx [some (.own m), some (.int n), none, none, none, none, none] (O.set m [.int s1, .bl b]) :=
    z5j ((z4P (x := .lst L8) rfl ((z5o (z5A rfl rfl) rfl).trans r2)).trans hn)
  have e2 : z5n 2 (dFn 2 z4I (z4w (z4z 0) (z4w (dC (.int 6)) z4C))) [some (.own m), some (.int n), none, none, none, none, none] (O.set m [.int s1, .bl b]) = .nx [some (.own m), some (.int n), some (.int w), none, none, none, none] (O.set m [.int s2, .bl b]) := z5j ((z5o (z5A rfl rfl) rfl).trans w2)
  have ht : z5h (dOp fLt (z4z 2) (dC (.int 4))) [some (.own m), some (.int n), some (.int w), none, none, none, none] (O.set m [.int s2, .bl b]) = .ok (decide ((w : Int) < 4)) (O.set m [.int s2, .bl b]) := z5P ((z4P rfl rfl).trans rfl)
  have hlen : (O.set m [.int s2, .bl b]).length = O.length := List.length_set
  by_cases hw : (w : Int) < 4
  · -- answers drawn from a list
    obtain ⟨l, l1, l5, la, hl⟩ := zkR (O.set m [.int s2, .bl b]) (show w < 4 by omega)
    have e3 : z5n 3 (dOp fIx (z5k (z4w (z5k (z4w (dC (.int 0)) (z4w (dC (.int 1)) z4C))) (z4w (z5k (z4w (dC (.int 0)) (z4w (dC (.int 1)) (z4w (dC .non) z4C)))) (z4w (z5k (z4w (dC (.int 0)) (z4w (dC (.int 0)) (z4w (dC (.int 0)) (z4w (dC (.int 1)) (z4w (dC .non) z4C)))))) (z4w (z5k (z4w (dC (.int 1)) (z4w (dC (.int 1)) (z4w (dC (.int 1)) (z4w (dC (.int 0)) (z4w (dC .non) z4C)))))) z4C))))) (z4z 2)) [some (.own m), some (.int n), some (.int w), none, none, none, none] (O.set m [.int s2, .bl b]) = .nx [some (.own m), some (.int n), some (.int w), some (.lst l), none, none, none] (O.set m [.int s2, .bl b]) :=
      z5j ((z4P (x := .lst Ls) rfl rfl).trans hl)
    have hi : z5S (z4w (dOp (fI zbZ) (dC (.int 1)) (z4z 1)) z4C) [some (.own m), some (.int n), some (.int w), some (.lst l), none, none, none] (O.set m [.int s2, .bl b]) = .ok (.val ((List.range (2 ^ n)).map fun (i : Nat) => D.int (i : Int))) (O.set m [.int s2, .bl b]) := z6m (z55 (zdS n4 rfl)) (by omega)
    obtain ⟨vs, s3, c1, c2, c3, c4⟩ := zcF (ext := 1) (i := 7) (te := dOp fIx (z4z 3) (dFn 2 z4I (z4w (z4z 0) (z4w (z4N z5T (z4w (z4z 3) z4C)) z4C)))) (P := Ans) h2 hi (by simp; omega) (fun d hd s' hs => by
      rw [List.set_set] at hs
      obtain ⟨q, s'', q1, q2, q3⟩ := z6C hs (k := l.length) l1 (by omega)
      rw [List.set_set] at q2 q3
      rw [List.set_set]
      refine ⟨l[q], s'', ?_, by rw [List.set_set]; exact q3, la _ (List.getElem_mem q1)⟩
      rw [List.set_set]
      exact (z4P (x := .lst l) rfl ((z5o (z5A rfl ((z58 (z55 rfl)).trans rfl)) rfl).trans q2)).trans (zeE q1))
    rw [List.set_set] at c1 c2
    have hv : vs.length = 2 ^ n := by simpa using c3
    refine ⟨n, vs, s3, ⟨n1, n4, hv, c4⟩, ?_, c2⟩
    show zeb O.length (fin (z4W _ _ [some (.own m), none, none, none, none, none, none] O)) = _
    rw [z4L e1, z4L e2]
    have e4 : sIf (z5h (dOp fLt (z4z 2) (dC (.int 4)))) (z4W (z5n 3 (dOp fIx (z5k (z4w (z5k (z4w (dC (.int 0)) (z4w (dC (.int 1)) z4C))) (z4w (z5k (z4w (dC (.int 0)) (z4w (dC (.int 1)) (z4w (dC .non) z4C)))) (z4w (z5k (z4w (dC (.int 0)) (z4w (dC (.int 0)) (z4w (dC (.int 0)) (z4w (dC (.int 1)) (z4w (dC .non) z4C)))))) (z4w (z5k (z4w (dC (.int 1)) (z4w (dC (.int 1)) (z4w (dC (.int 1)) (z4w (dC (.int 0)) (z4w (dC .non) z4C)))))) z4C))))) (z4z 2))) (z5c (z4N z8h (z4w (z5I false 1 (z5S (z4w (dOp (fI zbZ) (dC (.int 1)) (z4z 1)) z4C)) (.one 7) [] [] (dOp fIx (z4z 3) (dFn 2 z4I (z4w (z4z 0) (z4w (z4N z5T (z4w (z4z 3) z4C)) z4C))))) z4C)))) z5z [some (.own m), some (.int n), some (.int w), none, none, none, none] (O.set m [.int s2, .bl b]) = .rt (.tup vs) (O.set m [.int s3, .bl b]) := by
      rw [z5F ht, if_pos (decide_eq_true hw), z4L e3, z5R ((z58 (z55 c1)).trans rfl)]
    rw [z7a e4]
    show zeb O.length (.ok (.tup vs) (O.set m [.int s3, .bl b])) = _
    have := zcN (z6s hO m s3 b) [] (d := .tup vs) (d' := .tup vs) (zf3 fun d hd => zct (c4 d hd) _)
    rw [List.append_nil, List.length_set] at this
    exact this
  · -- the points of z8L
    have e3 : sIf (z5h (dOp fLt (z4z 2) (dC (.int 4)))) (z4W (z5n 3 (dOp fIx (z5k (z4w (z5k (z4w (dC (.int 0)) (z4w (dC (.int 1)) z4C))) (z4w (z5k (z4w (dC (.int 0)) (z4w (dC (.int 1)) (z4w (dC .non) z4C)))) (z4w (z5k (z4w (dC (.int 0)) (z4w (dC (.int 0)) (z4w (dC (.int 0)) (z4w (dC (.int 1)) (z4w (dC .non) z4C)))))) (z4w (z5k (z4w (dC (.int 1)) (z4w (dC (.int 1)) (z4w (dC (.int 1)) (z4w (dC (.int 0)) (z4w (dC .non) z4C)))))) z4C))))) (z4z 2))) (z5c (z4N z8h (z4w (z5I false 1 (z5S (z4w (dOp (fI zbZ) (dC (.int 1)) (z4z 1)) z4C)) (.one 7) [] [] (dOp fIx (z4z 3) (dFn 2 z4I (z4w (z4z 0) (z4w (z4N z5T (z4w (z4z 3) z4C)) z4C))))) z4C)))) z5z [some (.own m), some (.int n), some (.int w), none, none, none, none] (O.set m [.int s2, .bl b]) = .nx [some (.own m), some (.int n), some (.int w), none, none, none, none] (O.set m [.int s2, .bl b]) := by
      rw [z5F ht, if_neg (by simpa using hw)]; rfl
    obtain ⟨q, s3, q1, q2, h3⟩ := z6C h2 (k := 5) (by decide) (by decide)
    rw [List.set_set] at q2 h3
    have hi : z5S (z4w (dOp z9t (dC (.int 1)) (dFn 2 z4I (z4w (z4z 0) (z4w (dC (.int 5)) z4C)))) z4C) [some (.own m), some (.int n), some (.int w), none, some (.lst []), none, none] (O.set m [.int s2, .bl b]) = .ok (.val ((List.range (1 + q)).map fun (i : Nat) => D.int (i : Int))) (O.set m [.int s3, .bl b]) := by
      refine z6m (z55 ((z4P rfl ((z5o (z5A rfl rfl) rfl).trans q2)).trans ?_)) (by omega)
      rw [z7M]
      congr 2
    obtain ⟨σ', O', f1, s4, l, y, rfl, rfl, h4, hll⟩ := z7G (ds := (List.range (1 + q)).map fun (i : Nat) => D.int (i : Int)) (step := fun d σ O => match Tg.put (.one 5) d σ with | some σ' => (z5n 4 (dOp z9t (z4z 4) (dFn 1 z5U (z4w (dFn 2 z6x (z4w (z4z 0) (z4w (z4z 1) z4C))) z4C)))) σ' O | none => .bad)
      (fun i σ O' => ∃ (s4 : Int) (l : List Nat) (y : Option D), σ = [some (.own m), some (.int n), some (.int w), none, some (.lst (z4R l)), y, none] /\ O' = O.set m [.int s4, .bl b] /\ StAt O' m s4 b /\ l.length <= 16 * i)
      (fun i σ O' d hI hd => by
        obtain ⟨s4, l, y, rfl, rfl, h4, hll⟩ := hI
        have hi : i < 1 + q := by have := (List.getElem?_eq_some_iff.mp hd).1; simpa using this
        obtain ⟨cs, s5, t1, t2, t3⟩ := zi9 h4 n1 n4
        rw [List.set_set] at t2 t3
        have hp := z9K (zcw n1 n4 t1) (z6s hO m s5 b)
        have hpl := zhv (zcw n1 n4 t1)
        refine ⟨_, _, z5j ((z4P (x := .lst (z4R l)) rfl ((z5o (z55 ((z5o (z5A rfl rfl) rfl).trans t2)) rfl).trans hp)).trans (?_ : _ = R.ok (D.lst (z4R (l ++ pts cs))) _)), s5, l ++ pts cs, some d, rfl, rfl, t3, by simp; omega⟩
        show (if (z4R l).length + (z4R (pts cs)).length <= 100000 then R.ok (D.lst (z4R l ++ z4R (pts cs))) _ else R.bad) = _
        rw [if_pos (by unfold z4R; simp; omega)]
        unfold z4R
        rw [List.map_append])
      (1 + q) 0 [some (.own m), some (.int n), some (.int w), none, some (.lst []), none, none] (O.set m [.int s3, .bl b]) ⟨s3, [], none, rfl, rfl, h3, by simp⟩ (by simp) (Nat.zero_le _)
    have hx := hll
    -- the answers
    let g : D -> D := fun d => match d with | .int p => .int (if ((l.map fun (p : Nat) => (p : Int)).any fun q => q == p) then 1 else 0) | d => d
    have hi2 : z5S (z4w (dOp (fI zbZ) (dC (.int 1)) (z4z 1)) z4C) [some (.own m), some (.int n), some (.int w), none, some (.lst (z4R l)), y, none] (O.set m [.int s4, .bl b]) = .ok (.val ((List.range (2 ^ n)).map fun (i : Nat) => D.int (i : Int))) (O.set m [.int s4, .bl b]) := z6m (z55 (zdS n4 rfl)) (by omega)
    have hc := z8Z (ext := 1) (i := 7) (ts := []) (te := z4N zdH (z4w (dOp fIn (z4z 7) (z4z 4)) z4C)) (p := fun _ => true) (e := g) hi2 (by simp; omega) (fun d hd => rfl) (fun d hd _ => by
      obtain ⟨p, hp, rfl⟩ := List.mem_map.mp hd
      have e : z4R l = (l.map fun (p : Nat) => (p : Int)).map D.int := by unfold z4R; rw [List.map_map]; rfl
      refine (z58 (z55 ((z4P (x := .int (p : Int)) (y := .lst (z4R l)) rfl rfl).trans (by rw [e]; exact zed _ _ _)))).trans ?_
      rfl) true
    generalize hvs : (((List.range (2 ^ n)).map fun (i : Nat) => D.int (i : Int)).filter fun _ => true).map g = vs at hc
    have hvl : vs.length = 2 ^ n := by rw [<- hvs, List.length_map, z7q]; simp
    have hva : ∀ d ∈ vs, Ans d := by
      intro d hd
      rw [<- hvs] at hd
      obtain ⟨d', hd', rfl⟩ := List.mem_map.mp hd
      obtain ⟨p, hp, rfl⟩ := List.mem_map.mp (List.mem_filter.mp hd').1
      show Ans (.int (if _ then 1 else 0))
      split
      · exact .inr (.inl rfl)
      · exact .inl rfl
    have hlen4 : (O.set m [.int s4, .bl b]).length = O.length := List.length_set
    have e5 : z5n 6 (z5I true 1 (z5S (z4w (dOp (fI zbZ) (dC (.int 1)) (z4z 1)) z4C)) (.one 7) [] [] (z4N zdH (z4w (dOp fIn (z4z 7) (z4z 4)) z4C))) [some (.own m), some (.int n), some (.int w), none, some (.lst (z4R l)), y, none] (O.set m [.int s4, .bl b]) = .nx [some (.own m), some (.int n), some (.int w), none, some (.lst (z4R l)), y, some (.own O.length)] (O.set m [.int s4, .bl b] ++ [vs]) := by
      rw [z5j (hc.trans rfl), hlen4]; rfl
    have hcell : ∀ (s5 : Int) (ws : List D), (O.set m [.int s5, .bl b] ++ [ws])[O.length]? = some ws := fun s5 ws => by
      have : O.length = (O.set m [.int s5, .bl b]).length := List.length_set.symm
      rw [this]; simp
    -- one of them may be free
    obtain ⟨fs, s5, k1, k2, k3, k4⟩ : ∃ fs s5, sIf (z5h (dOp (fPy eqF) (z4z 2) (dC (.int 5)))) (zfp (dC .non) (z4z 6) (dFn 2 z4I (z4w (z4z 0) (z4w (dOp (fI zbZ) (dC (.int 1)) (z4z 1)) z4C)))) z5z [some (.own m), some (.int n), some (.int w), none, some (.lst (z4R l)), y, some (.own O.length)] (O.set m [.int s4, .bl b] ++ [vs])
        = .nx [some (.own m), some (.int n), some (.int w), none, some (.lst (z4R l)), y, some (.own O.length)] (O.set m [.int s5, .bl b] ++ [fs]) /\ fs.length = 2 ^ n /\ (∀ d ∈ fs, Ans d) /\ StAt (O.set m [.int s5, .bl b]) m s5 b := by
      have hq : z5h (dOp (fPy eqF) (z4z 2) (dC (.int 5))) [some (.own m), some (.int n), some (.int w), none, some (.lst (z4R l)), y, some (.own O.length)] (O.set m [.int s4, .bl b] ++ [vs]) = .ok ((w : Int) == 5) (O.set m [.int s4, .bl b] ++ [vs]) := z5P ((z4P rfl rfl).trans rfl)
      rw [z5F hq]
      by_cases h5 : ((w : Int) == 5) = true
      · rw [if_pos h5]
        have hml : m < (O.set m [.int s4, .bl b]).length := h4.len
        have hst : StAt (O.set m [.int s4, .bl b] ++ [vs]) m s4 b := ⟨by rw [List.getElem?_append_left hml]; exact h4.at_, h4.nn, h4.lt⟩
        obtain ⟨z, s5, z1, z2, z3⟩ := z6C hst (k := 2 ^ n) (zg7 n) (by omega)
        rw [List.set_append_left _ _ hml, List.set_set] at z2 z3
        refine ⟨vs.set z .non, s5, ?_, by rw [List.length_set]; exact hvl, fun d hd => ?_, ?_⟩
        · have ez : dFn 2 z4I (z4w (z4z 0) (z4w (dOp (fI zbZ) (dC (.int 1)) (z4z 1)) z4C)) [some (.own m), some (.int n), some (.int w), none, some (.lst (z4R l)), y, some (.own O.length)] (O.set m [.int s4, .bl b] ++ [vs]) = .ok (.int (z : Int)) (O.set m [.int s5, .bl b] ++ [vs]) := (z5o (z5A rfl (zdS n4 rfl)) rfl).trans z2
          rw [zcb (y := .non) (k := O.length) (i := (z : Int)) (ds := vs) (j := z) rfl rfl ez (hcell s5 vs) (by
            unfold L2.ixN
            rw [if_pos (by omega), if_pos (by rw [hvl]; omega)]
            rfl)]
          have hs2 : (O.set m [.int s5, .bl b] ++ [vs]).set O.length (vs.set z .non) = O.set m [.int s5, .bl b] ++ [vs.set z .non] := by
            rw [List.set_append_right _ _ (by rw [List.length_set]; exact Nat.le_refl _), List.length_set, Nat.sub_self]; rfl
          rw [hs2]
        · rcases List.mem_or_eq_of_mem_set hd with hd | rfl
          · exact hva d hd
          · exact .inr (.inr rfl)
        · have hml5 : m < (O.set m [.int s5, .bl b]).length := by rw [List.length_set]; exact h.len
          exact ⟨by have := z3.at_; rw [List.getElem?_append_left hml5] at this; exact this, z3.nn, z3.lt⟩
      · rw [if_neg h5]
        exact ⟨vs, s4, rfl, hvl, hva, h4⟩
    refine ⟨n, fs, s5, ⟨n1, n4, k2, k3⟩, ?_, k4⟩
    show zeb O.length (fin (z4W _ _ [some (.own m), none, none, none, none, none, none] O)) = _
    rw [z4L e1, z4L e2, z4L e3]
    have e4 : z5n 4 (z5k z4C) [some (.own m), some (.int n), some (.int w), none, none, none, none] (O.set m [.int s2, .bl b]) = .nx [some (.own m), some (.int n), some (.int w), none, some (.lst []), none, none] (O.set m [.int s2, .bl b]) := rfl
    have hlr : ((List.range (1 + q)).map fun (i : Nat) => D.int (i : Int)).length = 1 + q := by simp
    rw [z4L e4, z4L ((zc7 hi).trans (by
      show z7B _ _ ((List.range (1 + q)).map fun (i : Nat) => D.int (i : Int)).length 0 _ _ = _
      rw [hlr]; exact f1)), z4L e5, z4L k1]
    have e7 : z4N z8h (z4w (z4z 6) z4C) [some (.own m), some (.int n), some (.int w), none, some (.lst (z4R l)), y, some (.own O.length)] (O.set m [.int s5, .bl b] ++ [fs]) = .ok (.tup fs) (O.set m [.int s5, .bl b] ++ [fs]) := by
      refine (z58 (z55 rfl)).trans ?_
      show (match (O.set m [.int s5, .bl b] ++ [fs])[O.length]? with | some ds => R.ok (D.tup ds) _ | none => _) = _
      rw [hcell]
    rw [z5R e7]
    show zeb O.length (.ok (.tup fs) (O.set m [.int s5, .bl b] ++ [fs])) = _
    have := zcN (z6s hO m s5 b) [fs] (d := .tup fs) (d' := .tup fs) (zf3 fun d hd => zct (k3 d hd) _)
    rw [List.length_set] at this
    exact this
end K01
namespace K01
open PySem DL
theorem zau {src : Src} {step : D -> Ow -> List D -> R (List D)} {O : Ow} {g : D -> List D} {all : List D} (hg : ∀ i, src.get O i = all[i]?) : ∀ (ds pre acc : List D) (f : Nat), all = pre ++ ds -> ds.length <= f -> (∀ d ∈ ds, ∀ acc : List D, acc.length < 100000 -> step d O acc = .ok (acc ++ g d) O) -> acc.length + (ds.flatMap g).length + ds.length < 100000 ->
    z5C src step f pre.length O acc = .ok (acc ++ ds.flatMap g) O
  | [], pre, acc, f, ha, _, _, _ => by
    have e : src.get O pre.length = none := by rw [hg, ha]; simp
    cases f <;> (unfold z5C; rw [e]; simp)
  | d :: ds, pre, acc, 0, _, h, _, _ => by simp at h
  | d :: ds, pre, acc, f + 1, ha, h, hs, hl => by
    unfold z5C
    have e : src.get O pre.length = some d := by rw [hg, ha]; simp
    rw [e]
    simp only [List.flatMap_cons, List.length_append, List.length_cons] at hl
    show ((step d O acc).bnd fun acc' O' => z5C src step f (pre.length + 1) O' acc') = _
    rw [hs d List.mem_cons_self acc (by omega)]
    show z5C src step f (pre.length + 1) O (acc ++ g d) = _
    have := zau hg ds (pre ++ [d]) (acc ++ g d) f (by rw [ha]; simp) (by simpa using h) (fun d' h' => hs d' (List.mem_cons_of_mem _ h')) (by rw [List.length_append]; omega)
    rw [List.length_append, List.length_singleton] at this
    rw [this]; simp
theorem zer {ext : Nat} {it0 : DI} {g : Tg} {ts : List DT} {te : DE} {σ : Sg} {O : Ow} {src : Src} {ds : List D} {p : D -> Bool} {e : D -> D} {τ : D -> Sg} (hi : it0 σ O = .ok src O) (hg : ∀ i, src.get O i = ds[i]?) (hsz : src.size O = ds.length) (hl : ds.length < 50000)
    (hput : ∀ d ∈ ds, g.put d (clr (clr (σ ++ List.replicate ext none) (g.slots ++ [])) (g.slots ++ [])) = some (τ d)) (hp : ∀ d ∈ ds, zbg ts (τ d) O = .ok (p d) O) (he : ∀ d ∈ ds, p d = true -> te (τ d) O = .ok (e d) O) (o : Bool) :
    z5I o ext it0 g ts [] te σ O = zdu o (.ok ((ds.filter p).map e) O) := by
  unfold z5I z7t
  rw [hi]
  show zdu o (noX (z5C src _ (src.size O) 0 O [])) = _
  have step : ∀ d ∈ ds, ∀ acc : List D, acc.length < 100000 -> z6I ⟨it0, g, ts⟩ [] te (clr (σ ++ List.replicate ext none) (z52 [⟨it0, g, ts⟩])) d O acc = .ok (acc ++ (if p d = true then [e d] else [])) O := by
    intro d hd acc ha
    show (match g.put d (clr (clr (σ ++ List.replicate ext none) (g.slots ++ [])) (g.slots ++ [])) with | some σ1 => (zbg ts σ1 O).bnd fun b O3 => if b = true then z6D [] te σ1 O3 acc else .ok acc O3 | none => .bad) = _
    rw [hput d hd]
    show (zbg ts (τ d) O).bnd _ = _
    rw [hp d hd]
    show (if p d = true then z6D [] te _ O acc else .ok acc O) = _
    by_cases hpd : p d = true
    · rw [if_pos hpd, if_pos hpd]
      unfold z6D
      rw [he d hd hpd]
      show (if acc.length < 100000 then _ else _) = _
      rw [if_pos ha]
    · rw [if_neg hpd, if_neg hpd]; simp
  have hb : ∀ l : List D, (l.flatMap fun d => if p d = true then [e d] else []) = (l.filter p).map e := by
    intro l
    induction l with
    | nil => rfl
    | cons x l ih =>
      rw [List.flatMap_cons, ih, List.filter_cons]
      by_cases hx : p x = true
      · rw [if_pos hx, if_pos hx]; rfl
      · rw [if_neg hx, if_neg hx]; rfl
  have hlen : ((ds.filter p).map e).length <= ds.length := by rw [List.length_map]; exact List.length_filter_le _ _
  have w := zau (O := O) (g := fun d => if p d = true then [e d] else []) hg ds [] [] ds.length rfl (Nat.le_refl _) step (by rw [hb]; simp at hlen ⊢; omega)
  rw [hb, List.nil_append] at w
  have w' : z5C src (z6I ⟨it0, g, ts⟩ [] te (clr (σ ++ List.replicate ext none) (z52 [⟨it0, g, ts⟩]))) (src.size O) 0 O [] = .ok ((ds.filter p).map e) O := by rw [hsz]; exact w
  rw [w']; rfl
theorem zeF {O : Ow} {x : D} {xs : List D} (h : lsV O x = some xs) : ∃ src, zh9 x = some src /\ (∀ i, src.get O i = xs[i]?) /\ src.size O = xs.length := by
  cases x with
  | lst ds => cases h; exact ⟨.val xs, rfl, fun _ => rfl, rfl⟩
  | own k =>
    have h : O[k]? = some xs := h
    refine ⟨.own k, rfl, fun i => ?_, ?_⟩
    · show (match O[k]? with | some ds => ds[i]? | none => none) = _
      rw [h]
    · show (match O[k]? with | some ds => ds.length | none => 0) = _
      rw [h]
  | _ => cases h
theorem zil {O : Ow} {x : D} {xs : List D} (h : lsV O x = some xs) : z5T O [x] = .ok (.int xs.length) O := by
  show (match lsV O x with | some ds => R.ok (D.int ds.length) O | none => _) = _
  rw [h]
structure Sq (O : Ow) (x : D) (xs : List D) (kd : String) : Prop where
  zk : ∃ src, zkD x = some src /\ (∀ i, src.get O i = xs[i]?) /\ src.size O = xs.length
  ln : z5T O [x] = .ok (.int xs.length) O
  kind : z7j x = kd
theorem zdR (O : Ow) (xs : List D) : Sq O (.lst xs) xs "list" := ⟨⟨_, rfl, fun _ => rfl, rfl⟩, rfl, rfl⟩
theorem zgz (O : Ow) (xs : List D) : Sq O (.tup xs) xs "tuple" := ⟨⟨_, rfl, fun _ => rfl, rfl⟩, rfl, rfl⟩
theorem zje {O : Ow} {k : Nat} {xs : List D} (h : O[k]? = some xs) : Sq O (.own k) xs "list" := by
  obtain ⟨src, s1, s2, s3⟩ := zeF (O := O) (x := .own k) h
  cases s1
  exact ⟨⟨_, rfl, s2, s3⟩, zil h, rfl⟩
theorem zaa {k : Nat} {O : Ow} {x y : D} {xs ys : List D} {kd : String} (hx : Sq O x xs kd) (hy : Sq O y ys kd) (hkd : kd = "list" \/ kd = "tuple") (hl : xs.length = ys.length) (h5 : ys.length < 10000) (hs : ∀ (i : Nat) (x y : D), xs[i]? = some x -> ys[i]? = some y -> z5x k [x, y] O = .ok (.bl true) O) : z5x (k + 1) [x, y] O = .ok (.bl true) O := by
  obtain ⟨src, s1, s2, s3⟩ := hx.zk
  obtain ⟨srcy, y1, y2, y3⟩ := hy.zk
  have hk := hx.kind
  have hky := hy.kind
  have hi : zhE (z4w (z4z 0) (z4w (z4z 1) z4C)) [some x, some y] O = .ok (.zip src srcy) O := by
    show (match zkD x, zkD y with | some p, some q => R.ok (Src.zip p q) O | _, _ => R.bad) = _
    rw [s1, y1]
  have hgz : ∀ i, (Src.zip src srcy).get O i = ((xs.zip ys).map fun q => D.tup [q.1, q.2])[i]? := by
    intro i
    show (match src.get O i, srcy.get O i with | some x, some y => some (D.tup [x, y]) | _, _ => none) = _
    rw [s2, y2, List.getElem?_map]
    cases e1 : xs[i]? with
    | none =>
      have : (xs.zip ys)[i]? = none := by
        rw [List.getElem?_eq_none_iff] at e1 ⊢
        rw [List.length_zip]; omega
      rw [this]; rfl
    | some a =>
      have hi := (List.getElem?_eq_some_iff.mp e1).1
      have e2 : ys[i]? = some ys[i] := List.getElem?_eq_getElem (by omega)
      have : (xs.zip ys)[i]? = some (a, ys[i]) := List.getElem?_zip_eq_some.mpr ⟨e1, e2⟩
      rw [this, e2]; rfl
  have hzz : (Src.zip src srcy).size O = ((xs.zip ys).map fun q => D.tup [q.1, q.2]).length := by
    show min (src.size O) (srcy.size O) = _
    rw [s3, y3, List.length_map, List.length_zip]
  have hc := zer (ext := 2) (g := .two 2 3) (ts := []) (te := dFn 2 (z5x k) (z4w (z4z 2) (z4w (z4z 3) z4C))) (p := fun _ => true) (e := fun _ => .bl true) (τ := fun d => match d with | .tup [a, b] => [some x, some y, some a, some b] | _ => []) hi hgz hzz (by rw [List.length_map, List.length_zip]; omega)
    (fun d hd => by obtain ⟨q, _, rfl⟩ := List.mem_map.mp hd; rfl) (fun d hd => rfl) (fun d hd _ => by
      obtain ⟨q, hq, rfl⟩ := List.mem_map.mp hd
      obtain ⟨i, hi, e⟩ := List.mem_iff_getElem.mp hq
      have e : (xs.zip ys)[i]? = some (q.1, q.2) := by rw [List.getElem?_eq_getElem hi, e]
      obtain ⟨e1, e2⟩ := List.getElem?_zip_eq_some.mp e
      exact (z5o (z5A rfl rfl) rfl).trans (hs i q.1 q.2 e1 e2)) false
  have e2 : ((((xs.zip ys).map fun q => D.tup [q.1, q.2]).filter fun _ => true).map fun _ => D.bl true) = ((xs.zip ys).map fun _ => true).map D.bl := by rw [z7q, List.map_map, List.map_map]; rfl
  rw [e2] at hc
  have c1 : z5V (zf6 "tuple" "list" (z4z 1)) [some x, some y] O = .ok true O := by
    show z5V (fun _ O => R.ok (D.bl (zby (z7j y) "tuple" || zby (z7j y) "list")) O) [some x, some y] O = _
    rw [hky]
    rcases hkd with rfl | rfl <;> rfl
  have isT : ∀ z : D, z7j z = kd -> ∀ i, ([some x, some y] : Sg)[i]? = some (some z) -> z6R "tuple" (z4z i) [some x, some y] O = .ok (.bl (zby kd "tuple")) O := fun z hz i hi => by
    show (((match ([some x, some y] : Sg)[i]? with | some (some d) => R.ok d O | _ => R.bad) : R D).bnd _) = _
    rw [hi, <- hz]; rfl
  have isL : ∀ z : D, z7j z = kd -> ∀ i, ([some x, some y] : Sg)[i]? = some (some z) -> z6R "list" (z4z i) [some x, some y] O = .ok (.bl (zby kd "list")) O := fun z hz i hi => by
    show (((match ([some x, some y] : Sg)[i]? with | some (some d) => R.ok d O | _ => R.bad) : R D).bnd _) = _
    rw [hi, <- hz]; rfl
  have nb : ∀ b : Bool, fPy neF O (.bl b) (.bl b) = .ok (.bl false) O := fun b => by cases b <;> kernel_rfl
  have c2 : zbx (z5h (dOp (fPy neF) (z6R "tuple" (z4z 0)) (z6R "tuple" (z4z 1)))) (z5h (dOp (fPy neF) (z6R "list" (z4z 0)) (z6R "list" (z4z 1)))) [some x, some y] O = .ok false O := by
    have a1 : z5h (dOp (fPy neF) (z6R "tuple" (z4z 0)) (z6R "tuple" (z4z 1))) [some x, some y] O = .ok false O := z5P ((z4P (isT x hk 0 rfl) (isT y hky 1 rfl)).trans (nb _))
    have a2 : z5h (dOp (fPy neF) (z6R "list" (z4z 0)) (z6R "list" (z4z 1))) [some x, some y] O = .ok false O := z5P ((z4P (isL x hk 0 rfl) (isL y hky 1 rfl)).trans (nb _))
    show ((z5h (dOp (fPy neF) (z6R "tuple" (z4z 0)) (z6R "tuple" (z4z 1))) [some x, some y] O).bnd _) = _
    rw [a1]
    exact a2
  have c3 : z5h (dOp (fPy neF) (z4N z5T (z4w (z4z 0) z4C)) (z4N z5T (z4w (z4z 1) z4C))) [some x, some y] O = .ok false O := by
    refine z5P ((z4P ((z58 (z55 rfl)).trans hx.ln) ((z58 (z55 rfl)).trans hy.ln)).trans ?_)
    rw [hl]
    show R.ok (D.bl (!((ys.length : Int) == (ys.length : Int)))) O = _
    simp
  show fin (z4W _ _ [some x, some y] O) = _
  have e4 : ∀ (a : DS), z4W (sIf (z5V (zf6 "tuple" "list" (z4z 1))) a z5z) (z5c (zgC (dOp (fPy eqF) (z4z 0) (z4z 1)) (dOp (fPy eqF) (z6R "bool" (z4z 0)) (z6R "bool" (z4z 1))))) [some x, some y] O = match a [some x, some y] O with | .nx σ' O' => z5c (zgC (dOp (fPy eqF) (z4z 0) (z4z 1)) (dOp (fPy eqF) (z6R "bool" (z4z 0)) (z6R "bool" (z4z 1)))) σ' O' | r => r := fun a => by
    show (match sIf (z5V (zf6 "tuple" "list" (z4z 1))) a z5z [some x, some y] O with | .nx σ' O' => _ | r => r) = _
    rw [z5F c1, if_pos rfl]
  rw [e4, z4L (σ' := [some x, some y]) (O1 := O) (by rw [z5F c2]; rfl), z4L (σ' := [some x, some y]) (O1 := O) (by rw [z5F c3]; rfl), z5R ((z58 (z55 hc)).trans (zcl O _))]
  show R.ok (D.bl _) O = _
  congr 2
  rw [List.all_map]
  exact List.all_eq_true.mpr fun _ _ => rfl
end K01
namespace K01
open PySem DL
def zfo : List D := [.bl true, .int 2, .int (-1), .str [48], .tup [.int 0], .bl false, .lst [], .int 100000000000000000000000000000]
def E11 : List D := [.int 0, .int 1, .non] ++ zfo
def zg6 : D -> Bool
  | .int i => i == 0 || i == 1
  | .non => true
  | _ => false
def p1 : D -> Bool
  | .int _ => false
  | .non => false
  | _ => true
def p2 : D -> Bool
  | .int i => !(i == 0 || i == 1)
  | .bl _ => false
  | .non => false
  | _ => true
theorem zkM {d : D} (h : Ans d) : d ∈ E11 := by rcases h with rfl | rfl | rfl <;> simp [E11]
theorem zdp (O : Ow) : (E11.map fun d => z63 [d] O) = E11.map fun d => R.ok (.bl (zg6 d)) O := by kernel_rfl
theorem ziK (O : Ow) (a b : Option D) : (E11.map fun d => zaD (z5h (dOp zgu (z4z 2) (dC .non))) (zbx (z5V (z6R "bool" (z4z 2))) (z5g (z5V (z6R "int" (z4z 2))))) [a, b, some d] O) = E11.map fun d => R.ok (p1 d) O := by kernel_rfl
theorem zji (O : Ow) (a b : Option D) : (E11.map fun d => z5h (dOp z9h (z4z 2) (z72 (z4w (dC (.int 0)) (z4w (dC (.int 1)) (z4w (dC .non) z4C))))) [a, b, some d] O) = E11.map fun d => R.ok (p2 d) O := by kernel_rfl
theorem zij : (E11.all fun d => zg6 d == (!p1 d && !p2 d)) = true := by decide +kernel
def okL (L : Nat) : Bool := L == 2 || L == 4 || L == 8 || L == 16
theorem zhq : ((List.range 33).map fun L => (z6U z4M (L : Nat)).isSome) = (List.range 33).map okL := by decide +kernel
theorem zh8 (O : Ow) : ((List.range 33).map fun (L : Nat) => z9h O (.int (L : Nat)) (.tup [.int 2, .int 4, .int 8, .int 16])) = (List.range 33).map fun L => R.ok (.bl (!okL L)) O := by kernel_rfl
def isFn : D -> Bool
  | .tup f => okL f.length && f.all zg6
  | _ => false
def zbN (d : D) : Prop := (∃ f : List D, d = .tup f /\ (∀ x ∈ f, x ∈ E11) /\ f.length <= 32) \/ (∃ xs, d = .lst xs) \/ d = .non \/ d = .int 0 \/ d = .str [48, 49] \/ d = .dct
theorem zj3 (O : Ow) : (E11.map fun d => (z8C O 7 d).isSome) = E11.map fun _ => true := by kernel_rfl
theorem z7H {α β : Type} {g : α -> Option β} : ∀ l : List α, (∀ a ∈ l, (g a).isSome = true) -> ∃ r, z6Q g l = some r /\ r.length = l.length
  | [], _ => ⟨[], rfl, rfl⟩
  | a :: l, h => by
    obtain ⟨b, hb⟩ := Option.isSome_iff_exists.mp (h a (by simp))
    obtain ⟨r, h1, h2⟩ := z7H l fun x hx => h x (by simp [hx])
    refine ⟨b :: r, ?_, by simp [h2]⟩
    unfold z6Q
    rw [hb, h1]
theorem ze2 (O : Ow) (l : List D) (h : ∀ d ∈ l, d ∈ E11) : fPy eqF O (.lst l) (.lst []) = .ok (.bl l.isEmpty) O := by
  unfold fPy py
  obtain ⟨r, h1, h2⟩ := z7H (g := z8C O 7) l fun d hd => List.map_inj_left.mp (zj3 O) d (h d hd)
  have e : z8C O 8 (.lst l) = some (.list r) := by
    show (z6Q (z8C O 7) l).map PyData.list = _
    rw [h1]; rfl
  rw [e]
  cases l with
  | nil =>
    have : r = [] := List.length_eq_zero_iff.mp h2
    subst this; rfl
  | cons a l =>
    cases r with
    | nil => cases h2
    | cons b r => rfl
theorem z8H {f : List D} (hf : ∀ x ∈ f, x ∈ E11) (hl : f.length <= 32) (O : Ow) : z5f [.tup f] O = .ok (.bl (okL f.length && f.all zg6)) O := by
  have ht : (z6U z4M (f.length : Nat)).isSome = okL f.length := List.map_inj_left.mp zhq f.length (List.mem_range.mpr (by omega))
  have c0 := zfC (o := false) (ext := 1) (i := 1) (it0 := dIt (z4z 0)) (σ := [some (.tup f)]) (O0 := O) (O := O) (l := f) (inj := fun d => d) (te := dFn 1 z63 (z4w (z4z 1) z4C)) (e := fun d => D.bl (zg6 d)) (τ := fun d => [some (.tup f), some d]) (by show R.ok (Src.val f) O = _; rw [List.map_id']) (by omega) (fun _ => rfl) (fun d hd => (z5o (z55 rfl) rfl).trans (List.map_inj_left.mp (zdp O) d (hf d hd)))
  have t1 : zbx (z5g (z5V (z6R "tuple" (z4z 0)))) (z5h (z7n true z4M (z4N z5T (z4w (z4z 0) z4C)))) [some (.tup f)] O = .ok (!okL f.length) O := by
    have : z5h (z7n true z4M (z4N z5T (z4w (z4z 0) z4C))) [some (.tup f)] O = .ok (!okL f.length) O := by
      rw [<- ht]; rfl
    exact this
  show fin (z4W (sIf _ (z5c (dC (.bl false))) z5z) (z5c _) [some (.tup f)] O) = _
  cases hx : okL f.length with
  | false =>
    rw [hx] at t1
    have e1 : sIf (zbx (z5g (z5V (z6R "tuple" (z4z 0)))) (z5h (z7n true z4M (z4N z5T (z4w (z4z 0) z4C))))) (z5c (dC (.bl false))) z5z [some (.tup f)] O = .rt (.bl false) O := by rw [z5F t1]; rfl
    rw [z7a e1]; rfl
  | true =>
    rw [hx] at t1
    have e1 : sIf (zbx (z5g (z5V (z6R "tuple" (z4z 0)))) (z5h (z7n true z4M (z4N z5T (z4w (z4z 0) z4C))))) (z5c (dC (.bl false))) z5z [some (.tup f)] O = .nx [some (.tup f)] O := by rw [z5F t1]; rfl
    rw [z4L e1, z5R ((z58 (z55 c0)).trans (zbt O f zg6))]; rfl
theorem z7s {f : List D} (hf : ∀ x ∈ f, x ∈ E11) (hl : f.length <= 32) (O : Ow) : z57 [.tup f] O = .ok (.bl (okL f.length && f.all zg6)) O := by
  have hn : z9h O (.int (f.length : Nat)) (.tup [.int 2, .int 4, .int 8, .int 16]) = .ok (.bl (!okL f.length)) O := List.map_inj_left.mp (zh8 O) f.length (List.mem_range.mpr (by omega))
  have t1 : zbx (z5g (z5V (z6R "tuple" (z4z 0)))) (z5h (dOp z9h (z4N z5T (z4w (z4z 0) z4C)) (z72 (z4w (dC (.int 2)) (z4w (dC (.int 4)) (z4w (dC (.int 8)) (z4w (dC (.int 16)) z4C))))))) [some (.tup f), none] O = .ok (!okL f.length) O := by
    have : z5h (dOp z9h (z4N z5T (z4w (z4z 0) z4C)) (z72 (z4w (dC (.int 2)) (z4w (dC (.int 4)) (z4w (dC (.int 8)) (z4w (dC (.int 16)) z4C)))))) [some (.tup f), none] O = .ok (!okL f.length) O := z5P ((z4P ((z58 (z55 rfl)).trans (z8u O f)) (y := .tup [.int 2, .int 4, .int 8, .int 16]) rfl).trans hn)
    exact this
  have i0 : ∀ y, dIt (z4z 0) [some (.tup f), y] O = .ok (.val (f.map fun d => d)) O := fun y => by show R.ok (Src.val f) O = _; rw [List.map_id']
  have c1 := zhj (o := false) (ext := 1) (i := 2) (it0 := dIt (z4z 0)) (σ := [some (.tup f), none]) (O0 := O) (O := O) (l := f) (inj := fun d => d) (t := zaD (z5h (dOp zgu (z4z 2) (dC .non))) (zbx (z5V (z6R "bool" (z4z 2))) (z5g (z5V (z6R "int" (z4z 2)))))) (te := z4z 2) (p := p1) (e := fun d => d) (τ := fun d => [some (.tup f), none, some d]) (i0 none) (by omega) (fun _ => rfl) (fun d hd => List.map_inj_left.mp (ziK O (some (.tup f)) none) d (hf d hd)) (fun _ _ _ => rfl)
  have c2 : ∀ y, _ := fun y : Option D => zhj (o := false) (ext := 1) (i := 2) (it0 := dIt (z4z 0)) (σ := [some (.tup f), y]) (O0 := O) (O := O) (l := f) (inj := fun d => d) (t := z5h (dOp z9h (z4z 2) (z72 (z4w (dC (.int 0)) (z4w (dC (.int 1)) (z4w (dC .non) z4C)))))) (te := z4z 2) (p := p2) (e := fun d => d) (τ := fun d => [some (.tup f), y, some d]) (i0 y) (by omega) (fun _ => rfl) (fun d hd => List.map_inj_left.mp (zji O (some (.tup f)) y) d (hf d hd)) (fun _ _ _ => rfl)
  rw [List.map_id'] at c1
  show fin (z4W (sIf _ (z5c (dC (.bl false))) z5z) (z4W (z5n 1 _) (z5c _)) [some (.tup f), none] O) = _
  cases hx : okL f.length with
  | false =>
    rw [hx] at t1
    have e1 : sIf (zbx (z5g (z5V (z6R "tuple" (z4z 0)))) (z5h (dOp z9h (z4N z5T (z4w (z4z 0) z4C)) (z72 (z4w (dC (.int 2)) (z4w (dC (.int 4)) (z4w (dC (.int 8)) (z4w (dC (.int 16)) z4C)))))))) (z5c (dC (.bl false))) z5z [some (.tup f), none] O = .rt (.bl false) O := by rw [z5F t1]; rfl
    rw [z7a e1]; rfl
  | true =>
    rw [hx] at t1
    have e1 : sIf (zbx (z5g (z5V (z6R "tuple" (z4z 0)))) (z5h (dOp z9h (z4N z5T (z4w (z4z 0) z4C)) (z72 (z4w (dC (.int 2)) (z4w (dC (.int 4)) (z4w (dC (.int 8)) (z4w (dC (.int 16)) z4C)))))))) (z5c (dC (.bl false))) z5z [some (.tup f), none] O = .nx [some (.tup f), none] O := by rw [z5F t1]; rfl
    rw [z4L e1, z4L (z5j c1)]
    have q1 : dOp (fPy eqF) (z4z 1) (z5k z4C) [some (.tup f), some (.lst (f.filter p1))] O = .ok (.bl (f.filter p1).isEmpty) O := (z4P rfl rfl).trans (ze2 O _ fun d hd => hf d (List.mem_filter.mp hd).1)
    have c2' := c2 (some (.lst (f.filter p1)))
    rw [List.map_id'] at c2'
    have q2 : dOp (fPy eqF) (z5I false 1 (dIt (z4z 0)) (.one 2) [(z5h (dOp z9h (z4z 2) (z72 (z4w (dC (.int 0)) (z4w (dC (.int 1)) (z4w (dC .non) z4C))))))] [] (z4z 2)) (z5k z4C) [some (.tup f), some (.lst (f.filter p1))] O = .ok (.bl (f.filter p2).isEmpty) O := (z4P c2' rfl).trans (ze2 O _ fun d hd => hf d (List.mem_filter.mp hd).1)
    have q3 : zgC (dOp (fPy eqF) (z4z 1) (z5k z4C)) (dOp (fPy eqF) (z5I false 1 (dIt (z4z 0)) (.one 2) [(z5h (dOp z9h (z4z 2) (z72 (z4w (dC (.int 0)) (z4w (dC (.int 1)) (z4w (dC .non) z4C))))))] [] (z4z 2)) (z5k z4C)) [some (.tup f), some (.lst (f.filter p1))] O = .ok (.bl ((f.filter p1).isEmpty && (f.filter p2).isEmpty)) O := by
      show ((dOp (fPy eqF) (z4z 1) (z5k z4C) [some (.tup f), some (.lst (f.filter p1))] O).bnd _) = _
      rw [q1]
      cases (f.filter p1).isEmpty with
      | true => exact q2
      | false => rfl
    have hb : ((f.filter p1).isEmpty && (f.filter p2).isEmpty) = f.all zg6 := by
      rw [Bool.eq_iff_iff, Bool.and_eq_true, List.isEmpty_iff, List.isEmpty_iff, List.filter_eq_nil_iff, List.filter_eq_nil_iff, List.all_eq_true]
      have key : ∀ d ∈ f, zg6 d = (!p1 d && !p2 d) := fun d hd => by simpa using List.all_eq_true.mp zij d (hf d hd)
      constructor
      · rintro ⟨a, b⟩ d hd
        rw [key d hd]
        have := a d hd
        have := b d hd
        simp_all
      · intro h
        refine ⟨fun d hd => ?_, fun d hd => ?_⟩
        · have := h d hd
          rw [key d hd, Bool.and_eq_true] at this
          simpa using this.1
        · have := h d hd
          rw [key d hd, Bool.and_eq_true] at this
          simpa using this.2
    rw [hb] at q3
    show fin (z5c _ [some (.tup f), some (.lst (f.filter p1))] O) = _
    rw [z5R q3]; rfl
theorem z6i {d : D} (h : zbN d) (O : Ow) : z5f [d] O = .ok (.bl (isFn d)) O := by
  rcases h with ⟨f, rfl, hc, hl⟩ | ⟨xs, rfl⟩ | rfl | rfl | rfl | rfl
  · exact z8H hc hl O
  all_goals rfl
theorem z6n {d : D} (h : zbN d) (O : Ow) : z57 [d] O = .ok (.bl (isFn d)) O := by
  rcases h with ⟨f, rfl, hc, hl⟩ | ⟨xs, rfl⟩ | rfl | rfl | rfl | rfl
  · exact z7s hc hl O
  all_goals rfl
theorem zg2 {d : D} (h : zbN d) (hb : isFn d = false) (O : Ow) : z5X [d] O = .exc 0 O := by
  have e : z5b [d] O = .exc 0 O := by
    show fin (z6u [some d] O) = _
    unfold z6u
    simp only [z4W, z5n, sIf, z5c, z5K, z5z, z4z, dC, z4w, z4C, dFn, z4N, dOp, z5h, z5V, z5g, z9j, R.bnd, R.bnS, fin, List.getElem?_cons_zero, List.getElem?_cons_succ, List.set_cons_zero, List.set_cons_succ, List.length_cons, List.length_nil, Nat.zero_add, Nat.reduceAdd, Nat.reduceLeDiff, Nat.reduceLT, if_true, if_false, Bool.not_true, Bool.not_false, Bool.false_eq_true, ite_true, ite_false, z6i h O, hb]
    rfl
  show fin (z77 [some d] O) = _
  unfold z77
  simp only [z4W, z5n, sIf, z5c, z5K, z5z, z4z, dC, z4w, z4C, dFn, z4N, dOp, z5h, z5V, z5g, z9j, R.bnd, R.bnS, fin, List.getElem?_cons_zero, List.getElem?_cons_succ, List.set_cons_zero, List.set_cons_succ, List.length_cons, List.length_nil, Nat.zero_add, Nat.reduceAdd, Nat.reduceLeDiff, Nat.reduceLT, if_true, if_false, Bool.not_true, Bool.not_false, Bool.false_eq_true, ite_true, ite_false, e]
end K01
namespace K01
open PySem DL
theorem zeX (O : Ow) (ds : List D) (k : Nat) (hk : k < ds.length) : zjY O (.tup ds) none (some (k : Int)) = .ok (.tup (ds.take k)) O := by
  show (if HT.sIx ds.length 0 none = 0 /\ HT.sIx ds.length ds.length (some (k : Int)) = ds.length then R.ok (D.tup ds) O else R.ok (D.tup (zdt ds none (some (k : Int)))) O) = _
  have e : HT.sIx ds.length ds.length (some (k : Int)) = min k ds.length := HT.sIx_nat _ _ k
  rw [if_neg (by rw [e]; omega)]
  unfold zdt
  rw [HT.sIx_none, e, Nat.min_eq_left (by omega)]; rfl
theorem ze6 (O : Ow) (ds : List D) (k : Nat) (h0 : 0 < k) (hk : k <= ds.length) : zjY O (.tup ds) (some (k : Int)) none = .ok (.tup (ds.drop k)) O := by
  have e' : HT.sIx ds.length 0 (some (k : Int)) = min k ds.length := HT.sIx_nat _ _ k
  show (if HT.sIx ds.length 0 (some (k : Int)) = 0 /\ HT.sIx ds.length ds.length none = ds.length then R.ok (D.tup ds) O else R.ok (D.tup (zdt ds (some (k : Int)) none)) O) = _
  rw [if_neg (by rw [e']; omega)]
  unfold zdt
  rw [HT.sIx_none, e', Nat.min_eq_left (by omega), List.take_of_length_le (by rw [List.length_drop]; exact Nat.le_refl _)]
theorem zkm (O : Ow) (a b : List D) (h : a.length + b.length <= 1000) : z6e O (.tup a) (.tup b) = .ok (.tup (a ++ b)) O := by
  cases a with
  | nil => rfl
  | cons d ds =>
    show (if d :: ds ≠ [] /\ (d :: ds).length + b.length <= 100000 then R.ok (D.tup (d :: ds ++ b)) O else R.bad) = _
    rw [if_pos ⟨by simp, by omega⟩]
theorem zhn (σ : Sg) (O : Ow) : z5k (z4w (dC (.bl true)) (z4w (dC (.int 2)) (z4w (zd5 (dC (.int 1))) (z4w (dC (.str [48])) (z4w (z72 (z4w (dC (.int 0)) z4C)) (z4w (dC (.bl false)) (z4w (z5k z4C) (z4w (dOp (fI zdk) (dC (.int 10)) (dC (.int 29))) z4C)))))))) σ O = .ok (.lst zfo) O := by kernel_rfl
theorem zix (O : Ow) {r : Nat} (h : r < 8) : ∃ d, d ∈ E11 /\ fIx O (.lst zfo) (.int (r : Nat)) = .ok d O := by
  have : (r = 0 \/ r = 1 \/ r = 2 \/ r = 3 \/ r = 4 \/ r = 5 \/ r = 6 \/ r = 7) := by omega
  rcases this with rfl | rfl | rfl | rfl | rfl | rfl | rfl | rfl
  · exact ⟨.bl true, by simp [E11, zfo], by kernel_rfl⟩
  · exact ⟨.int 2, by simp [E11, zfo], by kernel_rfl⟩
  · exact ⟨.int (-1), by simp [E11, zfo], by kernel_rfl⟩
  · exact ⟨.str [48], by simp [E11, zfo], by kernel_rfl⟩
  · exact ⟨.tup [.int 0], by simp [E11, zfo], by kernel_rfl⟩
  · exact ⟨.bl false, by simp [E11, zfo], by kernel_rfl⟩
  · exact ⟨.lst [], by simp [E11, zfo], by kernel_rfl⟩
  · exact ⟨.int 100000000000000000000000000000, by simp [E11, zfo], by kernel_rfl⟩
def zbw (f : List D) (k : Nat) (x : D) : List D := [.tup (f.take k ++ [x] ++ f.drop (k + 1)), .tup (f.drop 1), .tup (f ++ [.int 0]), .lst f, .tup (f ++ f)]
def zgf (f : List D) (k : Nat) : List D := [.tup (f.take (f.length / 2)), .tup (f.take k ++ [.non] ++ f.drop (k + 1)), .non, .int 0, .str [48, 49], .dct, .tup []]
theorem zjE {f : List D} (hf : ∀ x ∈ f, x ∈ E11) (hl : f.length <= 16) {k q : Nat} {x : D} (hx : x ∈ E11) (hk : k < f.length) (hq : q < 12) (O : Ow) : ∃ d, zbN d /\ fIx O (.lst (zbw f k x ++ zgf f k)) (.int (q : Nat)) = .ok d O := by
  have h0 : D.int 0 ∈ E11 := by simp [E11]
  have hN : D.non ∈ E11 := by simp [E11]
  have bent : ∀ y ∈ E11, ∀ z ∈ f.take k ++ [y] ++ f.drop (k + 1), z ∈ E11 := fun y hy z hz => by
    rcases List.mem_append.mp hz with hz | hz
    · rcases List.mem_append.mp hz with hz | hz
      · exact hf z (List.mem_of_mem_take hz)
      · have : z = y := by simpa using hz
        subst this; exact hy
    · exact hf z (List.mem_of_mem_drop hz)
  have : (q = 0 \/ q = 1 \/ q = 2 \/ q = 3 \/ q = 4 \/ q = 5 \/ q = 6 \/ q = 7 \/ q = 8 \/ q = 9 \/ q = 10 \/ q = 11) := by omega
  rcases this with rfl | rfl | rfl | rfl | rfl | rfl | rfl | rfl | rfl | rfl | rfl | rfl
  · exact ⟨_, .inl ⟨_, rfl, bent x hx, by simp; omega⟩, rfl⟩
  · exact ⟨_, .inl ⟨_, rfl, fun z hz => hf z (List.mem_of_mem_drop hz), by simp; omega⟩, rfl⟩
  · refine ⟨_, .inl ⟨_, rfl, fun z hz => ?_, by simp; omega⟩, rfl⟩
    rcases List.mem_append.mp hz with hz | hz
    · exact hf z hz
    · have : z = .int 0 := by simpa using hz
      subst this; exact h0
  · exact ⟨_, .inr (.inl ⟨f, rfl⟩), rfl⟩
  · refine ⟨_, .inl ⟨_, rfl, fun z hz => ?_, by simp; omega⟩, rfl⟩
    rcases List.mem_append.mp hz with hz | hz <;> exact hf z hz
  · exact ⟨_, .inl ⟨_, rfl, fun z hz => hf z (List.mem_of_mem_take hz), by simp; omega⟩, rfl⟩
  · exact ⟨_, .inl ⟨_, rfl, bent .non hN, by simp; omega⟩, rfl⟩
  · exact ⟨_, .inr (.inr (.inl rfl)), rfl⟩
  · exact ⟨_, .inr (.inr (.inr (.inl rfl))), rfl⟩
  · exact ⟨_, .inr (.inr (.inr (.inr (.inl rfl)))), rfl⟩
  · exact ⟨_, .inr (.inr (.inr (.inr (.inr rfl)))), rfl⟩
  · exact ⟨_, .inl ⟨[], rfl, by simp, by simp⟩, rfl⟩
theorem zl2 {n : Nat} {f : List D} (hf : Fn n f) : (∀ x ∈ f, x ∈ E11) /\ f.length <= 16 /\ 2 <= f.length := by
  refine ⟨fun x hx => zkM (hf.ans x hx), by rw [hf.len]; exact z6a hf.n4, ?_⟩
  rw [hf.len]
  have := Nat.pow_le_pow_right (n := 2) (by decide) hf.n1
  simpa using this
theorem zc9 {n : Nat} {f : List D} (hf : Fn n f) {O : Ow} {m : Nat} {s : Int} {b : Bool} (hst : StAt O m s b) :
    ∃ d s', zbN d /\ z5l [.own m, .tup f] O = .ok d (O.set m [.int s', .bl b]) /\ StAt (O.set m [.int s', .bl b]) m s' b := by
  obtain ⟨hE, hl, hl2⟩ := zl2 hf
  obtain ⟨k, s1, hk, t1, st1⟩ := z6C hst (k := f.length) (by omega) (by omega)
  obtain ⟨r, s2, hr, t2, st2⟩ := z6C st1 (k := 8) (by decide) (by decide)
  rw [List.set_set] at t2 st2
  obtain ⟨x, hx, ex⟩ := zix (O.set m [.int s2, .bl b]) hr
  obtain ⟨q, s3, hq, t3, st3⟩ := z6C st2 (k := 12) (by decide) (by decide)
  rw [List.set_set] at t3 st3
  obtain ⟨d, hd, ed⟩ := zjE hE hl hx hk hq (O.set m [.int s3, .bl b])
  refine ⟨d, s3, hd, ?_, st3⟩
  generalize O.set m [.int s1, .bl b] = O1 at *
  generalize O.set m [.int s2, .bl b] = O2 at *
  generalize O.set m [.int s3, .bl b] = O3 at *
  let M : Option D := some (.own m)
  let F : Option D := some (.tup f)
  let K : Option D := some (.int (k : Nat))
  have e1 : z5n 2 (dFn 2 z4I (z4w (z4z 0) (z4w (z4N z5T (z4w (z4z 1) z4C)) z4C))) [M, F, none, none, none] O = .nx [M, F, K, none, none] O1 := z5j ((z5o (z5A rfl ((z58 (z55 rfl)).trans (z8u O f))) rfl).trans t1)
  have e2 : z5n 3 (dOp fIx (z5k (z4w (dC (.bl true)) (z4w (dC (.int 2)) (z4w (zd5 (dC (.int 1))) (z4w (dC (.str [48])) (z4w (z72 (z4w (dC (.int 0)) z4C)) (z4w (dC (.bl false)) (z4w (z5k z4C) (z4w (dOp (fI zdk) (dC (.int 10)) (dC (.int 29))) z4C))))))))) (dFn 2 z4I (z4w (z4z 0) (z4w (dC (.int 8)) z4C)))) [M, F, K, none, none] O1 = .nx [M, F, K, some x, none] O2 :=
    z5j ((z4P (zhn _ _) ((z5o (z5A rfl rfl) rfl).trans t2)).trans ex)
  have lo : ∀ σ : Sg, σ = [M, F, K, some x, none] \/ σ = [M, F, K, some x, some (.lst (zbw f k x))] -> z9c (z4z 1) z6H (z6f (z4z 2)) σ O2 = .ok (.tup (f.take k)) O2 := fun σ h => by
    rcases h with rfl | rfl <;> exact zeX O2 f k hk
  have hi : ∀ σ : Sg, σ = [M, F, K, some x, none] \/ σ = [M, F, K, some x, some (.lst (zbw f k x))] -> z9c (z4z 1) (z6f (dOp z6e (z4z 2) (dC (.int 1)))) z6H σ O2 = .ok (.tup (f.drop (k + 1))) O2 := fun σ h => by
    rcases h with rfl | rfl <;> exact ze6 O2 f (k + 1) (by omega) (by omega)
  have bentT : ∀ (σ : Sg) (te : DE) (y : D), σ = [M, F, K, some x, none] \/ σ = [M, F, K, some x, some (.lst (zbw f k x))] -> te σ O2 = .ok y O2 -> dOp z6e (dOp z6e (z9c (z4z 1) z6H (z6f (z4z 2))) (z72 (z4w te z4C))) (z9c (z4z 1) (z6f (dOp z6e (z4z 2) (dC (.int 1)))) z6H) σ O2 = .ok (.tup (f.take k ++ [y] ++ f.drop (k + 1))) O2 := fun σ te y h ht => by
    have hT : z72 (z4w te z4C) σ O2 = .ok (.tup [y]) O2 := by
      show ((z4w te z4C σ O2).bnd _) = _
      rw [z55 ht]; rfl
    refine (z4P ((z4P (lo σ h) hT).trans (zkm O2 (f.take k) [y] (by simp; omega))) (hi σ h)).trans (zkm O2 _ _ (by simp; omega))
  have i1 := bentT [M, F, K, some x, none] (z4z 3) x (.inl rfl) rfl
  have i2 : z9c (z4z 1) (z6f (dC (.int 1))) z6H [M, F, K, some x, none] O2 = .ok (.tup (f.drop 1)) O2 := ze6 O2 f 1 (by omega) (by omega)
  have i3 : dOp z6e (z4z 1) (z72 (z4w (dC (.int 0)) z4C)) [M, F, K, some x, none] O2 = .ok (.tup (f ++ [.int 0])) O2 := (z4P rfl rfl).trans (zkm O2 f [.int 0] (by simp; omega))
  have i4 : z4N (zaQ false) (z4w (z4z 1) z4C) [M, F, K, some x, none] O2 = .ok (.lst f) O2 := (z58 (z55 rfl)).trans rfl
  have i5 : dOp ze9 (z4z 1) (dC (.int 2)) [M, F, K, some x, none] O2 = .ok (.tup (f ++ f)) O2 := by
    refine (z4P rfl rfl).trans ?_
    show (if (2 : Int) = 2 /\ f ≠ [] /\ f.length <= 1000 then R.ok (D.tup (f ++ f)) O2 else R.bad) = _
    rw [if_pos ⟨rfl, fun e => by rw [e] at hl2; simp at hl2, by omega⟩]
  have e3 : z5n 4 (z5k (z4w (dOp z6e (dOp z6e (z9c (z4z 1) z6H (z6f (z4z 2))) (z72 (z4w (z4z 3) z4C))) (z9c (z4z 1) (z6f (dOp z6e (z4z 2) (dC (.int 1)))) z6H)) (z4w (z9c (z4z 1) (z6f (dC (.int 1))) z6H) (z4w (dOp z6e (z4z 1) (z72 (z4w (dC (.int 0)) z4C))) (z4w (z4N (zaQ false) (z4w (z4z 1) z4C)) (z4w (dOp ze9 (z4z 1) (dC (.int 2))) z4C)))))) [M, F, K, some x, none] O2 = .nx [M, F, K, some x, some (.lst (zbw f k x))] O2 := by
    refine z5j (i := 4) ?_
    show ((z4w _ _ [M, F, K, some x, none] O2).bnd _) = _
    rw [z6q i1 (z6q i2 (z6q i3 (z5A i4 i5)))]; rfl
  have hhalf : f.length / 2 < f.length := by omega
  have j1 : z9c (z4z 1) z6H (z6f (dOp (fI z9J) (z4N z5T (z4w (z4z 1) z4C)) (dC (.int 2)))) [M, F, K, some x, some (.lst (zbw f k x))] O2 = .ok (.tup (f.take (f.length / 2))) O2 := by
    have hd : dOp (fI z9J) (z4N z5T (z4w (z4z 1) z4C)) (dC (.int 2)) [M, F, K, some x, some (.lst (zbw f k x))] O2 = .ok (.int ((f.length / 2 : Nat) : Int)) O2 := by
      refine (z4P ((z58 (z55 rfl)).trans (z8u O2 f)) rfl).trans ?_
      rw [ze7 (by decide) (by decide)]
      congr 2
    show ((z6f (dOp (fI z9J) (z4N z5T (z4w (z4z 1) z4C)) (dC (.int 2))) [M, F, K, some x, some (.lst (zbw f k x))] O2).bnd fun hi O3 => zjY O3 (.tup f) none hi) = _
    have : z6f (dOp (fI z9J) (z4N z5T (z4w (z4z 1) z4C)) (dC (.int 2))) [M, F, K, some x, some (.lst (zbw f k x))] O2 = .ok (some ((f.length / 2 : Nat) : Int)) O2 := by
      show ((dOp (fI z9J) (z4N z5T (z4w (z4z 1) z4C)) (dC (.int 2)) [M, F, K, some x, some (.lst (zbw f k x))] O2).bnd _) = _
      rw [hd]; rfl
    rw [this]
    exact zeX O2 f (f.length / 2) hhalf
  have j2 := bentT [M, F, K, some x, some (.lst (zbw f k x))] (dC .non) .non (.inr rfl) rfl
  have e4 : z5n 4 (dOp z6e (z4z 4) (z5k (z4w (z9c (z4z 1) z6H (z6f (dOp (fI z9J) (z4N z5T (z4w (z4z 1) z4C)) (dC (.int 2))))) (z4w (dOp z6e (dOp z6e (z9c (z4z 1) z6H (z6f (z4z 2))) (z72 (z4w (dC .non) z4C))) (z9c (z4z 1) (z6f (dOp z6e (z4z 2) (dC (.int 1)))) z6H)) (z4w (dC .non) (z4w (dC (.int 0)) (z4w (dC (.str [48, 49])) (z4w zhS (z4w (z72 z4C) z4C))))))))) [M, F, K, some x, some (.lst (zbw f k x))] O2 = .nx [M, F, K, some x, some (.lst (zbw f k x ++ zgf f k))] O2 := by
    refine z5j (i := 4) ?_
    have hL : z5k (z4w (z9c (z4z 1) z6H (z6f (dOp (fI z9J) (z4N z5T (z4w (z4z 1) z4C)) (dC (.int 2))))) (z4w (dOp z6e (dOp z6e (z9c (z4z 1) z6H (z6f (z4z 2))) (z72 (z4w (dC .non) z4C))) (z9c (z4z 1) (z6f (dOp z6e (z4z 2) (dC (.int 1)))) z6H)) (z4w (dC .non) (z4w (dC (.int 0)) (z4w (dC (.str [48, 49])) (z4w zhS (z4w (z72 z4C) z4C))))))) [M, F, K, some x, some (.lst (zbw f k x))] O2 = .ok (.lst (zgf f k)) O2 := by
      show ((z4w _ _ [M, F, K, some x, some (.lst (zbw f k x))] O2).bnd _) = _
      rw [z6q j1 (z6q j2 (ds := [.non, .int 0, .str [48, 49], .dct, .tup []]) (O2 := O2) rfl)]; rfl
    exact (z4P rfl hL).trans rfl
  have e5 : dOp fIx (z4z 4) (dFn 2 z4I (z4w (z4z 0) (z4w (dC (.int 12)) z4C))) [M, F, K, some x, some (.lst (zbw f k x ++ zgf f k))] O2 = .ok d O3 := (z4P rfl ((z5o (z5A rfl rfl) rfl).trans t3)).trans ed
  show fin (z4W _ (z4W _ (z4W _ (z4W _ (z5c _)))) [M, F, none, none, none] O) = _
  rw [z4L e1, z4L e2, z4L e3, z4L e4, z5R e5]; rfl
end K01
namespace K01
open PySem DL
def z6y : D -> Bool
  | .int 1 => true
  | _ => false
def isN : D -> Bool
  | .non => true
  | _ => false
theorem eq1 (O : Ow) {d : D} (h : Ans d) : fPy eqF O d (.int 1) = .ok (.bl (z6y d)) O := by rcases h with rfl | rfl | rfl <;> kernel_rfl
theorem eqN (O : Ow) {d : D} (h : Ans d) : fPy eqF O d .non = .ok (.bl (isN d)) O := by rcases h with rfl | rfl | rfl <;> kernel_rfl
theorem zlS (O : Ow) {d : D} (h : Ans d) : zjT O d .non = .ok (.bl (isN d)) O := by rcases h with rfl | rfl | rfl <;> kernel_rfl
def whr (q : D -> Bool) (n : Nat) (f : List D) : List Nat := (List.range (2 ^ n)).filter fun p => q (f.getD p .non)
theorem z9W {α : Type} {n i : Nat} (f : Nat -> α) : ((List.range n).map f)[i]? = if i < n then some (f i) else none := by
  rw [List.getElem?_map]
  by_cases h : i < n
  · rw [List.getElem?_range h, if_pos h]; rfl
  · rw [if_neg h, List.getElem?_eq_none_iff.mpr (by simp; omega)]; rfl
theorem zcj {n : Nat} {f : List D} (hf : Fn n f) {p : Nat} (hp : p < 2 ^ n) : Ans (f.getD p .non) := by
  rw [za4 (by rw [hf.len]; exact hp)]
  exact hf.ans _ (List.getElem_mem _)
theorem z6O {n : Nat} {f : List D} (hf : Fn n f) (a : D) (q : D -> Bool) (O : Ow) (hq : ∀ d, Ans d -> fPy eqF O d a = .ok (.bl (q d)) O) : z5y [.tup f, a] O = .ok (.own O.length) (O ++ [z4R (whr q n f)]) := by
  have hpw := z6a hf.n4
  have hi : zfk (z4w (z4z 0) z4C) [some (.tup f), some a] O = .ok (.val (z9i f)) O := rfl
  have hc := za7 (o := true) (ext := 2) (g := .two 2 3) (ts := [(z5h (dOp (fPy eqF) (z4z 3) (z4z 1)))]) (te := z4z 2) (l := List.range (2 ^ n)) (inj := fun (p : Nat) => D.tup [.int (p : Int), f.getD p .non]) (p := fun p => q (f.getD p .non)) (e := fun (p : Nat) => D.int (p : Int))
    (τ := fun (p : Nat) => [some (.tup f), some a, some (.int (p : Int)), some (f.getD p .non)]) hi (fun i => by
      rw [z9W]
      show (z9i f)[i]? = _
      rw [zat]
      by_cases hi : i < 2 ^ n
      · have hif : i < f.length := by rw [hf.len]; exact hi
        rw [if_pos hi, List.getElem?_eq_getElem hif]
        show some (D.tup [.int (i : Nat), f[i]]) = _
        rw [za4 hif]
      · rw [if_neg hi, List.getElem?_eq_none_iff.mpr (by rw [hf.len]; omega)]; rfl) (by
      show (z9i f).length = _
      unfold z9i; simp [hf.len]) (by rw [List.length_range]; omega) (fun k _ => rfl) (fun p hp => zcs (by
      have hp := List.mem_range.mp hp
      exact z5P ((z4P rfl rfl).trans (hq _ (zcj hf hp))))) (fun p _ _ => rfl)
  show fin (z5c _ [some (.tup f), some a] O) = _
  rw [z5R (hc.trans rfl)]; rfl
theorem zdf {n : Nat} {f : List D} (hf : Fn n f) (O : Ow) : z5X [.tup f] O = .ok (.own O.length) (O ++ [z4R (whr z6y n f)]) := by
  show fin (z77 [some (.tup f)] O) = _
  unfold z77
  simp only [z4W, z5n, sIf, z5c, z5K, z5z, z4z, dC, z4w, z4C, dFn, z4N, dOp, z5h, z5V, z5g, z9j, R.bnd, R.bnS, fin, List.getElem?_cons_zero, List.getElem?_cons_succ, List.set_cons_zero, List.set_cons_succ, List.length_cons, List.length_nil, Nat.zero_add, Nat.reduceAdd, Nat.reduceLeDiff, Nat.reduceLT, if_true, if_false, Bool.not_true, Bool.not_false, Bool.false_eq_true, ite_true, ite_false, zc6 hf O, z6O hf (.int 1) z6y O fun d h => eq1 O h]
theorem zbD {n : Nat} {f : List D} (hf : Fn n f) (O : Ow) : z6k [.tup f] O = .ok (.own O.length) (O ++ [z4R (whr isN n f)]) := by
  show fin (z89 [some (.tup f)] O) = _
  unfold z89
  simp only [z4W, z5n, sIf, z5c, z5K, z5z, z4z, dC, z4w, z4C, dFn, z4N, dOp, z5h, z5V, z5g, z9j, R.bnd, R.bnS, fin, List.getElem?_cons_zero, List.getElem?_cons_succ, List.set_cons_zero, List.set_cons_succ, List.length_cons, List.length_nil, Nat.zero_add, Nat.reduceAdd, Nat.reduceLeDiff, Nat.reduceLT, if_true, if_false, Bool.not_true, Bool.not_false, Bool.false_eq_true, ite_true, ite_false, zc6 hf O, z6O hf .non isN O fun d h => eqN O h]
theorem zaq {n : Nat} {f : List D} (hf : Fn n f) (O : Ow) : z5Q [.tup f] O = .ok (.own O.length) (O ++ [z4R (whr isZ n f)]) := by
  show fin (z79 [some (.tup f)] O) = _
  unfold z79
  simp only [z4W, z5n, sIf, z5c, z5K, z5z, z4z, dC, z4w, z4C, dFn, z4N, dOp, z5h, z5V, z5g, z9j, R.bnd, R.bnS, fin, List.getElem?_cons_zero, List.getElem?_cons_succ, List.set_cons_zero, List.set_cons_succ, List.length_cons, List.length_nil, Nat.zero_add, Nat.reduceAdd, Nat.reduceLeDiff, Nat.reduceLT, if_true, if_false, Bool.not_true, Bool.not_false, Bool.false_eq_true, ite_true, ite_false, zc6 hf O, z6O hf (.int 0) isZ O fun d h => eq0 O h]
theorem z80 {n : Nat} {f : List D} (hf : Fn n f) (O : Ow) (a y2 y3 y4 : Option D) (t : DT) (q : D -> Bool) (ht : ∀ p, p < 2 ^ n -> t [a, some (.tup f), y2, y3, y4, some (.int (p : Nat))] O = .ok (q (f.getD p .non)) O) :
    z5I false 1 (z5S (z4w (z4N z5T (z4w (z4z 1) z4C)) z4C)) (.one 5) [t] [] (z4z 5) [a, some (.tup f), y2, y3, y4] O = .ok (.lst (z4R (whr q n f))) O := by
  have hpw := z6a hf.n4
  have hr : z5S (z4w (z4N z5T (z4w (z4z 1) z4C)) z4C) [a, some (.tup f), y2, y3, y4] O = .ok (.val ((List.range (2 ^ n)).map fun (i : Nat) => D.int (i : Int))) O := by
    have hq : z4N z5T (z4w (z4z 1) z4C) [a, some (.tup f), y2, y3, y4] O = .ok (.int (f.length : Nat)) O := (z58 (z55 (t := z4z 1) (x := .tup f) rfl)).trans (z8u O f)
    have := z6m (σ := [a, some (.tup f), y2, y3, y4]) (O := O) (z55 hq) (by rw [hf.len]; omega)
    rw [hf.len] at this
    exact this
  have hc := zhj (o := false) (ext := 1) (i := 5) (it0 := z5S (z4w (z4N z5T (z4w (z4z 1) z4C)) z4C)) (σ := [a, some (.tup f), y2, y3, y4]) (O0 := O) (O := O) (l := List.range (2 ^ n)) (inj := fun (p : Nat) => D.int (p : Int)) (t := t) (te := z4z 5) (p := fun p => q (f.getD p .non)) (e := fun (p : Nat) => D.int (p : Int)) (τ := fun p => [a, some (.tup f), y2, y3, y4, some (.int (p : Nat))]) hr (by rw [List.length_range]; omega) (fun _ => rfl) (fun p hp => ht p (List.mem_range.mp hp)) (fun _ _ _ => rfl)
  exact hc
theorem zb7 {n : Nat} {f : List D} (hf : Fn n f) (O : Ow) (m : Nat) : z67 [.own m, .tup f] O = .ok (.tup [.lst (z4R (whr z6y n f)), .lst (z4R (whr isN n f)), .lst (z4R (whr isZ n f))]) O := by
  have ix : ∀ p, p < 2 ^ n -> ∀ a y2 y3 y4, dOp fIx (z4z 1) (z4z 5) [a, some (.tup f), y2, y3, y4, some (.int (p : Nat))] O = .ok (f.getD p .non) O := fun p hp a y2 y3 y4 => by
    have hlt : p < f.length := by rw [hf.len]; exact hp
    refine (z4P rfl rfl).trans ((zif hlt).trans ?_)
    rw [za4 hlt]
  have c1 := z80 hf O (some (.own m)) none none none (z5h (dOp (fPy eqF) (dOp fIx (z4z 1) (z4z 5)) (dC (.int 1)))) z6y fun p hp => z5P ((z4P (ix p hp _ _ _ _) rfl).trans (eq1 O (zcj hf hp)))
  have c2 := z80 hf O (some (.own m)) (some (.lst (z4R (whr z6y n f)))) none none (z5h (dOp zjT (dOp fIx (z4z 1) (z4z 5)) (dC .non))) isN fun p hp => z5P ((z4P (ix p hp _ _ _ _) rfl).trans (zlS O (zcj hf hp)))
  have c3 := z80 hf O (some (.own m)) (some (.lst (z4R (whr z6y n f)))) (some (.lst (z4R (whr isN n f)))) none (z5h (dOp (fPy eqF) (dOp fIx (z4z 1) (z4z 5)) (dC (.int 0)))) isZ fun p hp => z5P ((z4P (ix p hp _ _ _ _) rfl).trans (eq0 O (zcj hf hp)))
  show fin (z4W (z5n 2 _) (z4W (z5n 3 _) (z4W (z5n 4 _) (z5c _))) [some (.own m), some (.tup f), none, none, none] O) = _
  rw [z4L (z5j c1)]
  show fin (z4W (z5n 3 _) (z4W (z5n 4 _) (z5c _)) [some (.own m), some (.tup f), some (.lst (z4R (whr z6y n f))), none, none] O) = _
  rw [z4L (z5j c2)]
  show fin (z4W (z5n 4 _) (z5c _) [some (.own m), some (.tup f), some (.lst (z4R (whr z6y n f))), some (.lst (z4R (whr isN n f))), none] O) = _
  rw [z4L (z5j c3)]
  rfl
theorem zi1 (O : Ow) : (allN.map fun q => z4Z [.int (q.2 : Nat), .int 0, .int (((2 ^ q.1 : Nat) : Int) - 1)] O) = allN.map fun _ => R.ok (.bl true) O := by kernel_rfl
theorem z9B : ∀ l : List Nat, zax (z4R l) = some (l.map fun (p : Nat) => (p : Int))
  | [] => rfl
  | p :: l => by
    show (zax (z4R l)).map _ = _
    rw [z9B l]; rfl
theorem z93 : ∀ (l acc : List Int), (acc ++ l).Nodup -> l.foldl PyProof.Rows.step_dedup acc = acc ++ l
  | [], acc, _ => by simp
  | k :: l, acc, h => by
    have hk : acc.any (· == k) = false := by
      rw [Bool.eq_false_iff, Ne, List.any_eq_true]
      rintro ⟨x, hx, e⟩
      have e : x = k := by simpa using e
      subst e
      exact (List.nodup_append.mp h).2.2 x hx x (by simp) rfl
    rw [List.foldl_cons]
    have e1 : PyProof.Rows.step_dedup acc k = acc ++ [k] := by
      unfold PyProof.Rows.step_dedup
      rw [hk]; rfl
    rw [e1, z93 l (acc ++ [k]) (by simpa using h)]
    simp
theorem zd0 {l : List Nat} (h : l.Nodup) : z8a (l.map fun (p : Nat) => (p : Int)) = l.length := by
  unfold z8a
  rw [z93 _ [] (by
    rw [List.nil_append]
    exact List.Pairwise.map _ (fun a b hab e => hab (by omega)) h)]
  simp
theorem zbF (O : Ow) (p : Nat) (l : List Nat) : fIn O (.int (p : Nat)) (.lst (z4R l)) = .ok (.bl (l.contains p)) O := by
  have e : z4R l = (l.map fun (q : Nat) => (q : Int)).map D.int := by unfold z4R; rw [List.map_map]; rfl
  rw [e, zed]
  congr 2
  rw [List.any_map, Bool.eq_iff_iff, List.any_eq_true]
  simp only [Function.comp, beq_iff_eq, List.contains_iff_mem]
  constructor
  · rintro ⟨q, hq, e⟩
    have : q = p := by omega
    rw [<- this]; exact hq
  · exact fun hq => ⟨p, hq, rfl⟩
theorem zdW {n : Nat} (h1 : 1 <= n) (h4 : n <= 4) (σ : Sg) (O : Ow) (h : z4z 0 σ O = .ok (.int (n : Nat)) O) : ziq z56 (z4z 0) σ O = .ok (.int ((2 ^ n : Nat) : Int)) O := by
  show ((z4z 0 σ O).bnd _) = _
  rw [h]
  rcases zhK h1 h4 with rfl | rfl | rfl | rfl <;> rfl
theorem eqI (O : Ow) (a : Int) : fPy eqF O (.int a) (.int a) = .ok (.bl true) O := by
  show R.ok (D.bl (a == a)) O = _
  simp
theorem z76 {n : Nat} (h1 : 1 <= n) (h4 : n <= 4) {l : List Nat} (hl : ∀ p ∈ l, p < 2 ^ n) (hd : l.Nodup) (hs : l.length <= 16) (O : Ow) : z4S [.int (n : Nat), .lst (z4R l)] O = .ok .non O := by
  have hlen : (z4R l).length = l.length := by unfold z4R; simp
  let σ0 : Sg := [some (.int (n : Nat)), some (.lst (z4R l)), none]
  let σ : Sg := [some (.int (n : Nat)), some (.lst (z4R l)), some (.int (((2 ^ n : Nat) : Int) - 1))]
  have e1 : sIf (z5g (z5V (z6R "list" (z4z 1)))) (z5c (dC (.bl false))) z5z σ0 O = .nx σ0 O := rfl
  have e2 : z5n 2 (dOp (fI zgK) (ziq z56 (z4z 0)) (dC (.int 1))) σ0 O = .nx σ O := z5j ((z4P (zdW h1 h4 σ0 O rfl) rfl).trans rfl)
  have c0 := zfC (o := false) (ext := 1) (i := 3) (it0 := dIt (z4z 1)) (σ := σ) (O0 := O) (O := O) (l := l) (inj := fun (p : Nat) => D.int (p : Int)) (te := dFn 3 z4Z (z4w (z4z 3) (z4w (dC (.int 0)) (z4w (z4z 2) z4C)))) (e := fun _ => D.bl true) (τ := fun p => [some (.int (n : Nat)), some (.lst (z4R l)), some (.int (((2 ^ n : Nat) : Int) - 1)), some (.int (p : Nat))]) rfl (by omega) (fun _ => rfl) (fun p hp => (z5o (z6q rfl (z5A rfl rfl)) rfl).trans (List.map_inj_left.mp (zi1 O) (n, p) (zcy h1 h4 (hl p hp))))
  have hall : (l.all fun _ => true) = true := List.all_eq_true.mpr fun _ _ => rfl
  have e3 : sIf (z5g (z5V (z4N zgW (z4w (z5I false 1 (dIt (z4z 1)) (.one 3) [] [] (dFn 3 z4Z (z4w (z4z 3) (z4w (dC (.int 0)) (z4w (z4z 2) z4C))))) z4C)))) (z5c (dC (.bl false))) z5z σ O = .nx σ O := by
    have := (z58 (z55 c0)).trans (zbt O l fun _ => true)
    rw [hall] at this
    rw [z5F (z8x (z7v this))]; rfl
  have q1 : zc5 (z4w (z4z 1) z4C) σ O = .ok (.int (l.length : Nat)) O := by
    show (match zax (z4R l) with | some ns => if ns.length <= 1000 /\ z8a ns <= 1000 then R.ok (D.int (z8a ns : Nat)) O else R.bad | none => R.bad) = _
    rw [z9B]
    show (if (l.map fun (p : Nat) => (p : Int)).length <= 1000 /\ z8a (l.map fun (p : Nat) => (p : Int)) <= 1000 then R.ok (D.int (z8a (l.map fun (p : Nat) => (p : Int)) : Nat)) O else R.bad) = _
    rw [zd0 hd, if_pos ⟨by simp; omega, by omega⟩]
  have q2 : z4N z5T (z4w (z4z 1) z4C) σ O = .ok (.int (l.length : Nat)) O := by
    refine (z58 (z55 rfl)).trans ?_
    show R.ok (D.int ((z4R l).length : Nat)) O = _
    rw [hlen]
  have hp : z6b [.int (n : Nat), .lst (z4R l)] O = .ok (.bl true) O := by
    show fin (z4W _ (z4W _ (z4W _ (z5c _))) σ0 O) = _
    rw [z4L e1, z4L e2, z4L e3, z5R ((z4P q1 q2).trans (eqI O _))]; rfl
  show fin (z6j [some (.int (n : Nat)), some (.lst (z4R l))] O) = _
  unfold z6j
  simp only [z4W, z5n, sIf, z5c, z5K, z5z, z4z, dC, z4w, z4C, dFn, z4N, dOp, z5h, z5V, z5g, z9j, R.bnd, R.bnS, fin, List.getElem?_cons_zero, List.getElem?_cons_succ, List.set_cons_zero, List.set_cons_succ, List.length_cons, List.length_nil, Nat.zero_add, Nat.reduceAdd, Nat.reduceLeDiff, Nat.reduceLT, if_true, if_false, Bool.not_true, Bool.not_false, Bool.false_eq_true, ite_true, ite_false, hp]
theorem ziT (O : Ow) : ([1, 2, 3, 4].map fun n => z5p [.int (n : Nat)] O) = [1, 2, 3, 4].map fun _ => R.ok .non O := by kernel_rfl
theorem zhJ {n : Nat} (h1 : 1 <= n) (h4 : n <= 4) (O : Ow) : z5p [.int (n : Nat)] O = .ok .non O :=
  List.map_inj_left.mp (ziT O) n (by rcases zhK h1 h4 with rfl | rfl | rfl | rfl <;> simp)
theorem zaO (O : Ow) (p : Nat) (A B : List Nat) : z6E [.int (p : Nat), .lst (z4R A), .lst (z4R B)] O = .ok (if A.contains p = true then .int 1 else if B.contains p = true then .non else .int 0) O := by
  let σ : Sg := [some (.int (p : Nat)), some (.lst (z4R A)), some (.lst (z4R B))]
  have t1 : z5h (dOp fIn (z4z 0) (z4z 1)) σ O = .ok (A.contains p) O := z5P ((z4P rfl rfl).trans (zbF O p A))
  have t2 : z5h (dOp fIn (z4z 0) (z4z 2)) σ O = .ok (B.contains p) O := z5P ((z4P rfl rfl).trans (zbF O p B))
  show fin (z4W (sIf _ _ z5z) (z4W (sIf _ _ z5z) (z5c _)) σ O) = _
  cases ha : A.contains p with
  | true =>
    rw [ha] at t1
    have e1 : sIf (z5h (dOp fIn (z4z 0) (z4z 1))) (z5c (dC (.int 1))) z5z σ O = .rt (.int 1) O := by rw [z5F t1]; rfl
    rw [z7a e1]; rfl
  | false =>
    rw [ha] at t1
    have e1 : sIf (z5h (dOp fIn (z4z 0) (z4z 1))) (z5c (dC (.int 1))) z5z σ O = .nx σ O := by rw [z5F t1]; rfl
    rw [z4L e1]
    cases hb : B.contains p with
    | true =>
      rw [hb] at t2
      have e2 : sIf (z5h (dOp fIn (z4z 0) (z4z 2))) (z5c (dC .non)) z5z σ O = .rt .non O := by rw [z5F t2]; rfl
      rw [z7a e2]; rfl
    | false =>
      rw [hb] at t2
      have e2 : sIf (z5h (dOp fIn (z4z 0) (z4z 2))) (z5c (dC .non)) z5z σ O = .nx σ O := by rw [z5F t2]; rfl
      rw [z4L e2]; rfl
theorem z9l {n : Nat} (h1 : 1 <= n) (h4 : n <= 4) {A B : List Nat} (ha : ∀ p ∈ A, p < 2 ^ n) (hb : ∀ p ∈ B, p < 2 ^ n) (da : A.Nodup) (db : B.Nodup) (la : A.length <= 16) (lb : B.length <= 16) (hab : ∀ p ∈ B, A.contains p = false) (O : Ow) :
    z4Q [.int (n : Nat), .lst (z4R A), .lst (z4R B)] O = .ok (.tup ((List.range (2 ^ n)).map fun p => if A.contains p = true then .int 1 else if B.contains p = true then .non else .int 0)) O := by
  have hpw := z6a h4
  let σ : Sg := [some (.int (n : Nat)), some (.lst (z4R A)), some (.lst (z4R B))]
  have e1 : z5K (dFn 1 z5p (z4w (z4z 0) z4C)) σ O = .nx σ O := by simp only [z4W, z5n, sIf, z5c, z5K, z5z, z4z, dC, z4w, z4C, dFn, z4N, dOp, z5h, z5V, z5g, z9j, R.bnd, R.bnS, fin, List.getElem?_cons_zero, List.getElem?_cons_succ, List.set_cons_zero, List.set_cons_succ, List.length_cons, List.length_nil, Nat.zero_add, Nat.reduceAdd, Nat.reduceLeDiff, Nat.reduceLT, if_true, if_false, Bool.not_true, Bool.not_false, Bool.false_eq_true, ite_true, ite_false, σ, zhJ h1 h4 O]
  have e2 : z5K (dFn 2 z4S (z4w (z4z 0) (z4w (z4z 1) z4C))) σ O = .nx σ O := by simp only [z4W, z5n, sIf, z5c, z5K, z5z, z4z, dC, z4w, z4C, dFn, z4N, dOp, z5h, z5V, z5g, z9j, R.bnd, R.bnS, fin, List.getElem?_cons_zero, List.getElem?_cons_succ, List.set_cons_zero, List.set_cons_succ, List.length_cons, List.length_nil, Nat.zero_add, Nat.reduceAdd, Nat.reduceLeDiff, Nat.reduceLT, if_true, if_false, Bool.not_true, Bool.not_false, Bool.false_eq_true, ite_true, ite_false, σ, z76 h1 h4 ha da la O]
  have e3 : z5K (dFn 2 z4S (z4w (z4z 0) (z4w (z4z 2) z4C))) σ O = .nx σ O := by simp only [z4W, z5n, sIf, z5c, z5K, z5z, z4z, dC, z4w, z4C, dFn, z4N, dOp, z5h, z5V, z5g, z9j, R.bnd, R.bnS, fin, List.getElem?_cons_zero, List.getElem?_cons_succ, List.set_cons_zero, List.set_cons_succ, List.length_cons, List.length_nil, Nat.zero_add, Nat.reduceAdd, Nat.reduceLeDiff, Nat.reduceLT, if_true, if_false, Bool.not_true, Bool.not_false, Bool.false_eq_true, ite_true, ite_false, σ, z76 h1 h4 hb db lb O]
  have c1 := zfC (o := false) (ext := 1) (i := 3) (it0 := dIt (z4z 2)) (σ := σ) (O0 := O) (O := O) (l := B) (inj := fun (p : Nat) => D.int (p : Int)) (te := dOp fIn (z4z 3) (z4z 1)) (e := fun p => D.bl (A.contains p)) (τ := fun p => [some (.int (n : Nat)), some (.lst (z4R A)), some (.lst (z4R B)), some (.int (p : Nat))]) rfl (by omega) (fun _ => rfl) (fun p hp => (z4P rfl rfl).trans (zbF O p A))
  have hany : (B.any fun p => A.contains p) = false := by
    rw [Bool.eq_false_iff, Ne, List.any_eq_true]
    rintro ⟨p, hp, e⟩
    rw [hab p hp] at e; cases e
  have a1 := (z58 (z55 c1)).trans (zgg O B fun p => A.contains p)
  rw [hany] at a1
  have e4 : ∀ s : DS, sIf (z5V (z4N zjt (z4w (z5I false 1 (dIt (z4z 2)) (.one 3) [] [] (dOp fIn (z4z 3) (z4z 1))) z4C))) s z5z σ O = .nx σ O := fun s => by rw [z5F (z7v a1)]; rfl
  have hr := z6m (σ := σ) (O := O) (z55 (zdW h1 h4 σ O rfl)) (by omega)
  have c2 := zfC (o := false) (ext := 1) (i := 3) (it0 := z5S (z4w (ziq z56 (z4z 0)) z4C)) (σ := σ) (O0 := O) (O := O) (l := List.range (2 ^ n)) (inj := fun (p : Nat) => D.int (p : Int)) (te := dFn 3 z6E (z4w (z4z 3) (z4w (z4z 1) (z4w (z4z 2) z4C)))) (e := fun p => if A.contains p = true then .int 1 else if B.contains p = true then .non else .int 0) (τ := fun p => [some (.int (n : Nat)), some (.lst (z4R A)), some (.lst (z4R B)), some (.int (p : Nat))]) hr (by rw [List.length_range]; omega) (fun _ => rfl) (fun p hp => (z5o (z6q rfl (z5A rfl rfl)) rfl).trans (zaO O p A B))
  show fin (z4W _ (z4W _ (z4W _ (z4W (sIf _ _ z5z) (z5c _)))) σ O) = _
  rw [z4L e1, z4L e2, z4L e3, z4L (e4 _), z5R ((z58 (z55 c2)).trans rfl)]; rfl
end K01
namespace K01
open PySem DL
def bads : List D := [.int 0, .int 5, .int (-1), .bl true, .non, .str [50], .tup [.int 1]]
def z7u (n : Nat) : List D := [.non, .tup [.int 0], .lst [.int 0, .int 0], .lst [.int ((2 ^ n : Nat) : Int)], .lst [.int (-1)], .lst [.bl true], .lst [.str [48]], .dct]
theorem zht (O : Ow) : (bads.map fun d => z5p [d] O) = bads.map fun _ => R.exc 1 O := by kernel_rfl
theorem ze0 (O : Ow) : ((z7u 1).map fun d => z4S [.int (1 : Nat), d] O) = (z7u 1).map fun _ => R.exc 2 O := by kernel_rfl
theorem zf2 (O : Ow) : ((z7u 2).map fun d => z4S [.int (2 : Nat), d] O) = (z7u 2).map fun _ => R.exc 2 O := by kernel_rfl
theorem zfc (O : Ow) : ((z7u 3).map fun d => z4S [.int (3 : Nat), d] O) = (z7u 3).map fun _ => R.exc 2 O := by kernel_rfl
theorem zf5 (O : Ow) : ((z7u 4).map fun d => z4S [.int (4 : Nat), d] O) = (z7u 4).map fun _ => R.exc 2 O := by kernel_rfl
theorem zgk (O : Ow) : ([1, 2, 3, 4].map fun n => z4Q [.int (n : Nat), .lst [.int 0, .int 1], .lst [.int 1]] O) = [1, 2, 3, 4].map fun _ => R.exc 2 O := by kernel_rfl
theorem zcJ {n : Nat} (h1 : 1 <= n) (h4 : n <= 4) {d : D} (h : d ∈ z7u n) (O : Ow) : z4S [.int (n : Nat), d] O = .exc 2 O := by
  rcases zhK h1 h4 with rfl | rfl | rfl | rfl
  · exact List.map_inj_left.mp (ze0 O) d h
  · exact List.map_inj_left.mp (zf2 O) d h
  · exact List.map_inj_left.mp (zfc O) d h
  · exact List.map_inj_left.mp (zf5 O) d h
theorem ziR {d a c : D} (h : d ∈ bads) (O : Ow) : z4Q [d, a, c] O = .exc 1 O := by
  show fin (z5H [some d, some a, some c] O) = _
  unfold z5H
  simp only [z4W, z5n, sIf, z5c, z5K, z5z, z4z, dC, z4w, z4C, dFn, z4N, dOp, z5h, z5V, z5g, z9j, R.bnd, R.bnS, fin, List.getElem?_cons_zero, List.getElem?_cons_succ, List.set_cons_zero, List.set_cons_succ, List.length_cons, List.length_nil, Nat.zero_add, Nat.reduceAdd, Nat.reduceLeDiff, Nat.reduceLT, if_true, if_false, Bool.not_true, Bool.not_false, Bool.false_eq_true, ite_true, ite_false, List.map_inj_left.mp (zht O) d h]
theorem zgt {n : Nat} (h1 : 1 <= n) (h4 : n <= 4) {d c : D} (h : d ∈ z7u n) (O : Ow) : z4Q [.int (n : Nat), d, c] O = .exc 2 O := by
  show fin (z5H [some (.int (n : Nat)), some d, some c] O) = _
  unfold z5H
  simp only [z4W, z5n, sIf, z5c, z5K, z5z, z4z, dC, z4w, z4C, dFn, z4N, dOp, z5h, z5V, z5g, z9j, R.bnd, R.bnS, fin, List.getElem?_cons_zero, List.getElem?_cons_succ, List.set_cons_zero, List.set_cons_succ, List.length_cons, List.length_nil, Nat.zero_add, Nat.reduceAdd, Nat.reduceLeDiff, Nat.reduceLT, if_true, if_false, Bool.not_true, Bool.not_false, Bool.false_eq_true, ite_true, ite_false, zhJ h1 h4 O, zcJ h1 h4 h O]
theorem zfW {n : Nat} (h1 : 1 <= n) (h4 : n <= 4) {d : D} (h : d ∈ z7u n) (O : Ow) : z4Q [.int (n : Nat), .lst [], d] O = .exc 2 O := by
  have e : z4S [.int (n : Nat), .lst []] O = .ok .non O := z76 h1 h4 (l := []) (by simp) (by simp) (by simp) O
  show fin (z5H [some (.int (n : Nat)), some (.lst []), some d] O) = _
  unfold z5H
  simp only [z4W, z5n, sIf, z5c, z5K, z5z, z4z, dC, z4w, z4C, dFn, z4N, dOp, z5h, z5V, z5g, z9j, R.bnd, R.bnS, fin, List.getElem?_cons_zero, List.getElem?_cons_succ, List.set_cons_zero, List.set_cons_succ, List.length_cons, List.length_nil, Nat.zero_add, Nat.reduceAdd, Nat.reduceLeDiff, Nat.reduceLT, if_true, if_false, Bool.not_true, Bool.not_false, Bool.false_eq_true, ite_true, ite_false, zhJ h1 h4 O, e, zcJ h1 h4 h O]
theorem zhD {n : Nat} (h1 : 1 <= n) (h4 : n <= 4) (O : Ow) : z4Q [.int (n : Nat), .lst [.int 0, .int 1], .lst [.int 1]] O = .exc 2 O :=
  List.map_inj_left.mp (zgk O) n (by rcases zhK h1 h4 with rfl | rfl | rfl | rfl <;> simp)
theorem zkq (O : Ow) : zit Ca 4 1 z6N (.exc 0 O) = .ok (.lst [.int 0]) O := by kernel_rfl
theorem zkF (O : Ow) : zit Ca 4 1 z6N (.exc 1 O) = .ok (.lst [.int 3]) O := by kernel_rfl
theorem zha (O : Ow) : zit Ca 4 1 z6N (.exc 2 O) = .ok (.lst [.int 2]) O := by kernel_rfl
theorem zlO (O : Ow) : fPy neF O (.lst [.int 0]) (.lst [.int 0]) = .ok (.bl false) O := by kernel_rfl
theorem zkQ (O : Ow) : fPy neF O (.lst [.int 2]) (.lst [.int 2]) = .ok (.bl false) O := by kernel_rfl
theorem zlP (O : Ow) : fPy neF O (.lst [.int 3]) (.lst [.int 3]) = .ok (.bl false) O := by kernel_rfl
theorem zeQ (O : Ow) (b : Bool) : z5m [.bl b, .bl b] O = .ok (.bl true) O := by cases b <;> kernel_rfl
theorem zid (O : Ow) {r : Nat} (h : r < 7) : ∃ d, d ∈ bads /\ fIx O (.lst bads) (.int (r : Nat)) = .ok d O := by
  have : (r = 0 \/ r = 1 \/ r = 2 \/ r = 3 \/ r = 4 \/ r = 5 \/ r = 6) := by omega
  rcases this with rfl | rfl | rfl | rfl | rfl | rfl | rfl
  · exact ⟨.int 0, by simp [bads], by kernel_rfl⟩
  · exact ⟨.int 5, by simp [bads], by kernel_rfl⟩
  · exact ⟨.int (-1), by simp [bads], by kernel_rfl⟩
  · exact ⟨.bl true, by simp [bads], by kernel_rfl⟩
  · exact ⟨.non, by simp [bads], by kernel_rfl⟩
  · exact ⟨.str [50], by simp [bads], by kernel_rfl⟩
  · exact ⟨.tup [.int 1], by simp [bads], by kernel_rfl⟩
theorem zgs (n : Nat) (O : Ow) {r : Nat} (h : r < 8) : ∃ d, d ∈ z7u n /\ fIx O (.lst (z7u n)) (.int (r : Nat)) = .ok d O := by
  have : (r = 0 \/ r = 1 \/ r = 2 \/ r = 3 \/ r = 4 \/ r = 5 \/ r = 6 \/ r = 7) := by omega
  rcases this with rfl | rfl | rfl | rfl | rfl | rfl | rfl | rfl
  · exact ⟨_, .head _, rfl⟩
  · exact ⟨_, .tail _ (.head _), rfl⟩
  · exact ⟨_, .tail _ (.tail _ (.head _)), rfl⟩
  · exact ⟨_, .tail _ (.tail _ (.tail _ (.head _))), rfl⟩
  · exact ⟨_, .tail _ (.tail _ (.tail _ (.tail _ (.head _)))), rfl⟩
  · exact ⟨_, .tail _ (.tail _ (.tail _ (.tail _ (.tail _ (.head _))))), rfl⟩
  · exact ⟨_, .tail _ (.tail _ (.tail _ (.tail _ (.tail _ (.tail _ (.head _)))))), rfl⟩
  · exact ⟨_, .tail _ (.tail _ (.tail _ (.tail _ (.tail _ (.tail _ (.tail _ (.head _))))))), rfl⟩
theorem zaS (O : Ow) : ((List.range 16).map fun (p : Nat) => z5x 2 [.int (p : Nat), .int (p : Nat)] O) = (List.range 16).map fun _ => R.ok (.bl true) O := by kernel_rfl
theorem zfK (O : Ow) {d : D} (h : Ans d) : z5x 3 [d, d] O = .ok (.bl true) O := by rcases h with rfl | rfl | rfl <;> kernel_rfl
theorem zcS {q : D -> Bool} {n : Nat} {f : List D} {p : Nat} (h : p ∈ whr q n f) : p < 2 ^ n := List.mem_range.mp (List.mem_filter.mp h).1
theorem z9X (q : D -> Bool) {n : Nat} (h4 : n <= 4) (f : List D) : (whr q n f).length <= 16 := by
  have := List.length_filter_le (fun p => q (f.getD p .non)) (List.range (2 ^ n))
  have := z6a h4
  unfold whr
  rw [List.length_range] at *
  omega
theorem zbr (q : D -> Bool) (n : Nat) (f : List D) : (whr q n f).Nodup := List.Pairwise.filter _ List.nodup_range
theorem zbL {q : D -> Bool} {n : Nat} {f : List D} {p : Nat} (hp : p < 2 ^ n) : (whr q n f).contains p = q (f.getD p .non) := by
  rw [Bool.eq_iff_iff, List.contains_iff_mem]
  unfold whr
  rw [List.mem_filter]
  exact ⟨fun h => h.2, fun h => ⟨List.mem_range.mpr hp, h⟩⟩
theorem z8Q {n : Nat} (h4 : n <= 4) {f : List D} (q : D -> Bool) {O : Ow} {k : Nat} (h : O[k]? = some (z4R (whr q n f))) : z5x 3 [.own k, .lst (z4R (whr q n f))] O = .ok (.bl true) O := by
  have hl : (z4R (whr q n f)).length = (whr q n f).length := by unfold z4R; simp
  have := z9X q h4 f
  refine zaa (k := 2) (zje h) (zdR O _) (.inl rfl) rfl (by omega) fun i x y hx hy => ?_
  have e : x = y := by rw [hx] at hy; exact Option.some.inj hy
  subst e
  obtain ⟨p, hp, rfl⟩ := List.mem_map.mp (List.mem_of_getElem? hx)
  have h1 := zcS hp
  have h2 := z6a h4
  exact List.map_inj_left.mp (zaS O) p (List.mem_range.mpr (by omega))
theorem zhO {n : Nat} {f : List D} (hf : Fn n f) (O : Ow) : z5m [.tup f, .tup f] O = .ok (.bl true) O := by
  have h2 := z6a hf.n4
  refine zaa (k := 3) (zgz O f) (zgz O f) (.inr rfl) rfl (by rw [hf.len]; omega) fun i x y hx hy => ?_
  have e : x = y := by rw [hx] at hy; exact Option.some.inj hy
  subst e
  exact zfK O (hf.ans x (List.mem_of_getElem? hx))
theorem zhT {n : Nat} {f : List D} (hf : Fn n f) : ((List.range (2 ^ n)).map fun p => if (whr z6y n f).reverse.contains p = true then D.int 1 else if (whr isN n f).contains p = true then .non else .int 0) = f := by
  refine List.ext_getElem (by rw [List.length_map, List.length_range, hf.len]) fun i h1 h2 => ?_
  rw [List.getElem_map, List.getElem_range]
  have hi : i < 2 ^ n := by rw [<- hf.len]; exact h2
  have hr : (whr z6y n f).reverse.contains i = (whr z6y n f).contains i := by
    rw [Bool.eq_iff_iff, List.contains_iff_mem, List.contains_iff_mem, List.mem_reverse]
  rw [hr, zbL hi, zbL hi, za4 h2]
  rcases hf.ans _ (List.getElem_mem h2) with e | e | e <;> rw [e] <;> rfl
theorem apart {n : Nat} {f : List D} (p : Nat) (h : p ∈ whr isN n f) : (whr z6y n f).reverse.contains p = false := by
  have hp := zcS h
  have hr : (whr z6y n f).reverse.contains p = (whr z6y n f).contains p := by
    rw [Bool.eq_iff_iff, List.contains_iff_mem, List.contains_iff_mem, List.mem_reverse]
  have hn : isN (f.getD p .non) = true := (List.mem_filter.mp h).2
  rw [hr, zbL hp]
  cases hd : f.getD p .non <;> rw [hd] at hn <;> first | rfl | cases hn
end K01
namespace K01
open PySem DL
theorem za9 {O X : Ow} (h : zbv O) (hx : ∀ c ∈ X, ∀ d ∈ c, z7A (O.length + X.length) d = true) : zbv (O ++ X) := by
  intro c hc d hd
  rw [List.length_append]
  rcases List.mem_append.mp hc with hc | hc
  · have := h c hc d hd
    cases d with
    | own k =>
      have : k < O.length := by simpa [z7A] using this
      show decide (k < O.length + X.length) = true
      exact decide_eq_true (by omega)
    | lst _ => cases this
    | tup _ => cases this
    | _ => rfl
  · exact hx c hc d hd
theorem zgh {O : Ow} (h : zbv O) {c : List D} (hc : ∀ d ∈ c, z7A (O.length + 1) d = true) : zbv (O ++ [c]) := za9 h fun x hx d hd => by
  have : x = c := by simpa using hx
  subst this; exact hc d hd
theorem zkY {k : Nat} {c : Int} (hc : c = (k : Nat)) (hk : k < 1000) (σ : Sg) (O : Ow) : z5S (z4w (dC (.int c)) z4C) σ O = .ok (.val ((List.range k).map fun (i : Nat) => D.int (i : Int))) O := by
  subst hc
  exact z6m (z55 rfl) (by omega)
theorem zgc {ns : List Int} (hn : ns.length <= 63) (σ : Sg) (c : Nat) (hc : c < 1000) (h0 : z4z 0 σ [] = .ok (.lst (ns.map .int)) []) : ∃ m : Nat, m < 100000 /\ z4N zdj (z4w (dC (.int 1)) (z4w (z4N zd8 (z4w (z4N z5T (z4w (z4z 0) z4C)) (z4w (dC (.int (c : Nat))) z4C))) z4C)) σ [] = .ok (.int (m : Nat)) [] := by
  have h1 : z4N zd8 (z4w (z4N z5T (z4w (z4z 0) z4C)) (z4w (dC (.int (c : Nat))) z4C)) σ [] = .ok (.int (if (c : Int) < ((ns.map D.int).length : Nat) then (c : Int) else ((ns.map D.int).length : Nat))) [] := (z58 (z5A ((z58 (z55 h0)).trans rfl) rfl)).trans rfl
  have h2 := (z58 (f := zdj) (z5A (t := dC (.int 1)) rfl h1))
  refine ⟨(if (if (c : Int) < ((ns.map D.int).length : Nat) then (c : Int) else ((ns.map D.int).length : Nat)) > 1 then (if (c : Int) < ((ns.map D.int).length : Nat) then (c : Int) else ((ns.map D.int).length : Nat)) else 1).toNat, ?_, h2.trans ?_⟩
  · rw [List.length_map]; split <;> split <;> omega
  · show R.ok (D.int (if (if (c : Int) < ((ns.map D.int).length : Nat) then (c : Int) else ((ns.map D.int).length : Nat)) > 1 then (if (c : Int) < ((ns.map D.int).length : Nat) then (c : Int) else ((ns.map D.int).length : Nat)) else 1)) [] = _
    congr 2
    rw [List.length_map]; split <;> split <;> omega
theorem StAt.more {O X : Ow} {m : Nat} {s : Int} {b : Bool} (h : StAt O m s b) : StAt (O ++ X) m s b := ⟨by rw [List.getElem?_append_left h.len]; exact h.at_, h.nn, h.lt⟩
end K01
namespace K01
open PySem DL
def zfD (Pt : Nat) : DS := z4W (sIf (z5g (z5V (dFn 2 z5m (z4w (dFn 1 z5f (z4w (z4z 5) z4C)) (z4w (dFn 1 z57 (z4w (z4z 5) z4C)) z4C))))) (z5c (dC (.bl false))) z5z) (sIf (zaD (z5g (z5V (dFn 1 z57 (z4w (z4z 5) z4C)))) (z5h (dOp (fPy neF) (z5r Pt 13 Ca 4 1 (dFn 1 z5X (z4w (z4z 5) z4C)) z6N) (z5k (z4w (dC (.int 0)) z4C))))) (z5c (dC (.bl false))) z5z)
theorem zgo {Pt : Nat} {d : D} (h : zbN d) (O : Ow) {y0 y1 y2 y3 y4 y6 y7 y8 y9 y10 y11 y12 : Option D} : zfD Pt [y0, y1, y2, y3, y4, some d, y6, y7, y8, y9, y10, y11, y12, some (.tab Pt)] O = .nx [y0, y1, y2, y3, y4, some d, y6, y7, y8, y9, y10, y11, y12, some (.tab Pt)] O := by
  unfold zfD
  cases hb : isFn d with
  | true => simp only [z4W, z5n, sIf, z5c, z5K, z5z, z4z, dC, z4w, z4C, dFn, z4N, dOp, z5h, z5V, z5g, z9j, R.bnd, R.bnS, fin, List.getElem?_cons_zero, List.getElem?_cons_succ, List.set_cons_zero, List.set_cons_succ, List.length_cons, List.length_nil, Nat.zero_add, Nat.reduceAdd, Nat.reduceLeDiff, Nat.reduceLT, if_true, if_false, Bool.not_true, Bool.not_false, Bool.false_eq_true, ite_true, ite_false, zaD, z6i h O, z6n h O, zeQ, hb]
  | false => simp only [z4W, z5n, sIf, z5c, z5K, z5z, z4z, dC, z4w, z4C, dFn, z4N, dOp, z5h, z5V, z5g, z9j, R.bnd, R.bnS, fin, List.getElem?_cons_zero, List.getElem?_cons_succ, List.set_cons_zero, List.set_cons_succ, List.length_cons, List.length_nil, Nat.zero_add, Nat.reduceAdd, Nat.reduceLeDiff, Nat.reduceLT, if_true, if_false, Bool.not_true, Bool.not_false, Bool.false_eq_true, ite_true, ite_false, zaD, z6i h O, z6n h O, zeQ, hb, z5r, zg2 h hb O, zkq, z5k, zlO]
def zi4 : DS := z4W (z5n 10 (z5k (z4w (dFn 1 z5X (z4w (z4z 3) z4C)) (z4w (dFn 1 z6k (z4w (z4z 3) z4C)) (z4w (dFn 1 z5Q (z4w (z4z 3) z4C)) z4C))))) (z4W (sIf (z5g (z5V (dFn 2 z5m (z4w (z4z 10) (z4w (z5k (z4w (z4z 6) (z4w (z4z 7) (z4w (z4z 8) z4C)))) z4C))))) (z5c (dC (.bl false))) z5z) (z5K (zfq (dOp fIx (z4z 10) (z4z 9)) (z4w (dC (.int 0)) z4C))))
theorem z96 (n : Nat) (l : List Nat) : ∀ d ∈ z4R l, z7A n d = true := fun d hd => by
  obtain ⟨p, _, rfl⟩ := List.mem_map.mp hd; rfl
theorem zfR {n : Nat} {f : List D} (hf : Fn n f) {O : Ow} (hO : zbv O) {t : Nat} (ht : t < 2) {y0 y1 y2 y4 y5 y10 y11 y12 y13 : Option D} :
    ∃ z10 X, zi4 [y0, y1, y2, some (.tup f), y4, y5, some (.lst (z4R (whr z6y n f))), some (.lst (z4R (whr isN n f))), some (.lst (z4R (whr isZ n f))), some (.int (t : Nat)), y10, y11, y12, y13] O = .nx [y0, y1, y2, some (.tup f), y4, y5, some (.lst (z4R (whr z6y n f))), some (.lst (z4R (whr isN n f))), some (.lst (z4R (whr isZ n f))), some (.int (t : Nat)), z10, y11, y12, y13] (O ++ X) /\ zbv (O ++ X) := by
  let c1 := z4R (whr z6y n f)
  let c2 := z4R (whr isN n f)
  let c3 := z4R (whr isZ n f)
  let L := O.length
  let W : D := .lst [.own L, .own (L + 1), .own (L + 2)]
  let T : Option D := some (.int (t : Nat))
  let σ : Sg := [y0, y1, y2, some (.tup f), y4, y5, some (.lst c1), some (.lst c2), some (.lst c3), T, y10, y11, y12, y13]
  let σ' : Sg := [y0, y1, y2, some (.tup f), y4, y5, some (.lst c1), some (.lst c2), some (.lst c3), T, some W, y11, y12, y13]
  have n4 := hf.n4
  have hO3 : O ++ [c1] ++ [c2] ++ [c3] = O ++ [c1, c2, c3] := by simp
  have l1 : (O ++ [c1]).length = L + 1 := by simp [L]
  have l2 : (O ++ [c1] ++ [c2]).length = L + 2 := by simp [L]
  have f1 : dFn 1 z5X (z4w (z4z 3) z4C) σ O = .ok (.own L) (O ++ [c1]) := (z5o (z55 rfl) rfl).trans (zdf hf O)
  have f2 : dFn 1 z6k (z4w (z4z 3) z4C) σ (O ++ [c1]) = .ok (.own (L + 1)) (O ++ [c1] ++ [c2]) := (z5o (z55 rfl) rfl).trans (by rw [zbD hf, l1])
  have f3 : dFn 1 z5Q (z4w (z4z 3) z4C) σ (O ++ [c1] ++ [c2]) = .ok (.own (L + 2)) (O ++ [c1, c2, c3]) := (z5o (z55 rfl) rfl).trans (by rw [zaq hf, l2, hO3])
  have e1 : z5n 10 (z5k (z4w (dFn 1 z5X (z4w (z4z 3) z4C)) (z4w (dFn 1 z6k (z4w (z4z 3) z4C)) (z4w (dFn 1 z5Q (z4w (z4z 3) z4C)) z4C)))) σ O = .nx σ' (O ++ [c1, c2, c3]) := by
    refine z5j (i := 10) (x := W) ?_
    show ((z4w _ _ σ O).bnd _) = _
    rw [z6q f1 (z5A f2 f3)]; rfl
  have g0 : (O ++ [c1, c2, c3])[L]? = some c1 := by simp [L]
  have g1 : (O ++ [c1, c2, c3])[L + 1]? = some c2 := by simp [L]
  have g2 : (O ++ [c1, c2, c3])[L + 2]? = some c3 := by simp [L]
  have hs : z5m [W, .lst [.lst c1, .lst c2, .lst c3]] (O ++ [c1, c2, c3]) = .ok (.bl true) (O ++ [c1, c2, c3]) := by
    refine zaa (k := 3) (zdR _ _) (zdR _ _) (.inl rfl) rfl (show 3 < 10000 by decide) fun i x y hx hy => ?_
    match i with
    | 0 => cases hx; cases hy; exact z8Q n4 z6y g0
    | 1 => cases hx; cases hy; exact z8Q n4 isN g1
    | 2 => cases hx; cases hy; exact z8Q n4 isZ g2
    | i + 3 => cases hx
  have e2 : sIf (z5g (z5V (dFn 2 z5m (z4w (z4z 10) (z4w (z5k (z4w (z4z 6) (z4w (z4z 7) (z4w (z4z 8) z4C)))) z4C))))) (z5c (dC (.bl false))) z5z σ' (O ++ [c1, c2, c3]) = .nx σ' (O ++ [c1, c2, c3]) := by
    have hL : z5k (z4w (z4z 6) (z4w (z4z 7) (z4w (z4z 8) z4C))) σ' (O ++ [c1, c2, c3]) = .ok (.lst [.lst c1, .lst c2, .lst c3]) (O ++ [c1, c2, c3]) := rfl
    rw [z5F (z8x (z7v ((z5o (n := 2) (z5A (x := W) rfl hL) rfl).trans hs)))]; rfl
  have sizes : ∀ q : D -> Bool, (z4R (whr q n f)).length < 100000 := fun q => by
    have := z9X q n4 f
    unfold z4R; rw [List.length_map]; omega
  have fl : ∀ l : List D, (∀ N, ∀ d ∈ l, z7A N d = true) -> ∀ N, ∀ d ∈ l ++ [D.int 0], z7A N d = true := fun l h N d hd => by
    rcases List.mem_append.mp hd with z | z
    · exact h N d z
    · have : d = .int 0 := by simpa using z
      subst this; rfl
  have F1 : ∀ N, ∀ d ∈ c1, z7A N d = true := fun N => z96 N _
  have F2 : ∀ N, ∀ d ∈ c2, z7A N d = true := fun N => z96 N _
  have F3 : ∀ N, ∀ d ∈ c3, z7A N d = true := fun N => z96 N _
  have app : ∀ (i : Nat) (c : List D), fIx (O ++ [c1, c2, c3]) W (.int (t : Nat)) = .ok (.own (L + i)) (O ++ [c1, c2, c3]) -> (O ++ [c1, c2, c3])[L + i]? = some c -> c.length < 100000 -> z5K (zfq (dOp fIx (z4z 10) (z4z 9)) (z4w (dC (.int 0)) z4C)) σ' (O ++ [c1, c2, c3]) = .nx σ' (O ++ [c1, c2, c3].set i (c ++ [.int 0])) := fun i c h1 h2 h3 => by
    have hx : dOp fIx (z4z 10) (z4z 9) σ' (O ++ [c1, c2, c3]) = .ok (.own (L + i)) (O ++ [c1, c2, c3]) := (z4P rfl rfl).trans h1
    have hset : (O ++ [c1, c2, c3]).set (L + i) (c ++ [.int 0]) = O ++ [c1, c2, c3].set i (c ++ [.int 0]) := by
      rw [List.set_append_right _ _ (Nat.le_add_right _ _)]
      congr 2
      exact Nat.add_sub_cancel_left _ _
    have hA : zfq (dOp fIx (z4z 10) (z4z 9)) (z4w (dC (.int 0)) z4C) σ' (O ++ [c1, c2, c3]) = .ok .non (O ++ [c1, c2, c3].set i (c ++ [.int 0])) := by
      show ((dOp fIx (z4z 10) (z4z 9) σ' (O ++ [c1, c2, c3])).bnd _) = _
      rw [hx]
      show (match [D.int 0], (O ++ [c1, c2, c3])[L + i]? with | [y], some ds => if ds.length < 100000 then R.ok D.non ((O ++ [c1, c2, c3]).set (L + i) (ds ++ [y])) else R.bad | _, _ => R.bad) = _
      rw [h2]
      show (if c.length < 100000 then _ else _) = _
      rw [if_pos h3, hset]
    show ((zfq (dOp fIx (z4z 10) (z4z 9)) (z4w (dC (.int 0)) z4C) σ' (O ++ [c1, c2, c3])).bnS _) = _
    rw [hA]; rfl
  have t01 : t = 0 \/ t = 1 := by omega
  rcases t01 with rfl | rfl
  · refine ⟨some W, [c1 ++ [.int 0], c2, c3], ?_, za9 hO fun c hc d hd => ?_⟩
    · show z4W _ (z4W _ _) σ O = _
      rw [z4L e1, z4L e2, app 0 c1 rfl g0 (sizes z6y)]; rfl
    · simp only [List.mem_cons, List.not_mem_nil, or_false] at hc
      rcases hc with rfl | rfl | rfl
      · exact fl c1 F1 _ d hd
      · exact F2 _ d hd
      · exact F3 _ d hd
  · refine ⟨some W, [c1, c2 ++ [.int 0], c3], ?_, za9 hO fun c hc d hd => ?_⟩
    · show z4W _ (z4W _ _) σ O = _
      rw [z4L e1, z4L e2, app 1 c2 rfl g1 (sizes isN)]; rfl
    · simp only [List.mem_cons, List.not_mem_nil, or_false] at hc
      rcases hc with rfl | rfl | rfl
      · exact F1 _ d hd
      · exact fl c2 F2 _ d hd
      · exact F3 _ d hd
def s12 : DS := sIf (z5g (z5V (dFn 2 z5m (z4w (dFn 3 z4Q (z4w (z4z 4) (z4w (zdx (z4z 6) (z6f (zd5 (dC (.int 1))))) (z4w (z4N (zaQ false) (z4w (z4z 7) z4C)) z4C)))) (z4w (z4z 3) z4C))))) (z5c (dC (.bl false))) z5z
def s13 : DS := z5n 11 (dOp fIx (z5k (z4w (dC (.int 0)) (z4w (dC (.int 5)) (z4w (zd5 (dC (.int 1))) (z4w (dC (.bl true)) (z4w (dC .non) (z4w (dC (.str [50])) (z4w (z72 (z4w (dC (.int 1)) z4C)) z4C)))))))) (dFn 2 z4I (z4w (z4z 2) (z4w (dC (.int 7)) z4C))))
def s14 : DS := z5n 12 (dOp fIx (z5k (z4w (dC .non) (z4w (z72 (z4w (dC (.int 0)) z4C)) (z4w (z5k (z4w (dC (.int 0)) (z4w (dC (.int 0)) z4C))) (z4w (z5k (z4w (z4N z5T (z4w (z4z 3) z4C)) z4C)) (z4w (z5k (z4w (zd5 (dC (.int 1))) z4C)) (z4w (z5k (z4w (dC (.bl true)) z4C)) (z4w (z5k (z4w (dC (.str [48])) z4C)) (z4w zhS z4C))))))))) (dFn 2 z4I (z4w (z4z 2) (z4w (dC (.int 8)) z4C))))
def s15 (Pt : Nat) : DS := sIf (z5h (dOp (fPy neF) (z5r Pt 13 Ca 4 1 (dFn 3 z4Q (z4w (z4z 11) (z4w (z4z 12) (z4w (z4z 12) z4C)))) z6N) (z5k (z4w (dC (.int 3)) z4C)))) (z5c (dC (.bl false))) z5z
def s16 (Pt : Nat) : DS := sIf (z5h (dOp (fPy neF) (z5r Pt 13 Ca 4 1 (dFn 3 z4Q (z4w (z4z 4) (z4w (z4z 12) (z4w (z5k z4C) z4C)))) z6N) (z5k (z4w (dC (.int 2)) z4C)))) (z5c (dC (.bl false))) z5z
def s17 (Pt : Nat) : DS := sIf (z5h (dOp (fPy neF) (z5r Pt 13 Ca 4 1 (dFn 3 z4Q (z4w (z4z 4) (z4w (z5k z4C) (z4w (z4z 12) z4C)))) z6N) (z5k (z4w (dC (.int 2)) z4C)))) (z5c (dC (.bl false))) z5z
def s18 (Pt : Nat) : DS := sIf (z5h (dOp (fPy neF) (z5r Pt 13 Ca 4 1 (dFn 3 z4Q (z4w (z4z 4) (z4w (z5k (z4w (dC (.int 0)) (z4w (dC (.int 1)) z4C))) (z4w (z5k (z4w (dC (.int 1)) z4C)) z4C)))) z6N) (z5k (z4w (dC (.int 2)) z4C)))) (z5c (dC (.bl false))) z5z
def zgb (Pt : Nat) : DS := z4W (z5n 2 (dFn 2 z66 (z4w (z4z 0) (z4w (z4z 1) z4C)))) (z4W (z5n 3 (dFn 1 z5D (z4w (z4z 2) z4C))) (z4W (z5n 4 (dFn 1 z5E (z4w (z4z 3) z4C))) (z4W (zdr (dIt (z5k (z4w (z4z 3) (z4w (dFn 2 z5l (z4w (z4z 2) (z4w (z4z 3) z4C))) (z4w (dFn 2 z5l (z4w (z4z 2) (z4w (z4z 3) z4C))) (z4w (dFn 2 z5l (z4w (z4z 2) (z4w (z4z 3) z4C))) z4C)))))) (.one 5) (zfD Pt)) (z4W (zep 6 7 8 (dFn 2 z67 (z4w (z4z 2) (z4w (z4z 3) z4C)))) (z4W (zdr (z5S (z4w (dC (.int 2)) z4C)) (.one 9) zi4) (z4W s12 (z4W s13 (z4W s14 (z4W (s15 Pt) (z4W (s16 Pt) (z4W (s17 Pt) (s18 Pt))))))))))))
theorem zgn {Pt : Nat} {ns : List Int} {k : Nat} {O : Ow} (hO : zbv O) {y2 y3 y4 y5 y6 y7 y8 y9 y10 y11 y12 : Option D} :
    ∃ z2 z3 z4 z5 z6 z7 z8 z9 z10 z11 z12 O', zgb Pt [some (.lst (ns.map .int)), some (.int (k : Int)), y2, y3, y4, y5, y6, y7, y8, y9, y10, y11, y12, some (.tab Pt)] O = .nx [some (.lst (ns.map .int)), some (.int (k : Int)), z2, z3, z4, z5, z6, z7, z8, z9, z10, z11, z12, some (.tab Pt)] O' /\ zbv O' := by
  obtain ⟨s, b, s1, st1⟩ := zfG (ns := ns) (k := k) O
  have fl1 : zbv (O ++ [[.int s, .bl b]]) := zgh hO fun d hd => by
    simp only [List.mem_cons, List.not_mem_nil, or_false] at hd
    rcases hd with rfl | rfl <;> rfl
  generalize hO1 : O ++ [[D.int s, D.bl b]] = O1 at *
  generalize hm : O.length = m at *
  obtain ⟨n, f, sa, hf, t2, st2⟩ := zbT fl1 st1
  have fl2 := z6s fl1 m sa b
  generalize hO2 : O1.set m [D.int sa, D.bl b] = O2 at *
  obtain ⟨d1, sb, hd1, t3, st3⟩ := zc9 hf st2
  have fl3 := z6s fl2 m sb b
  generalize hO3 : O2.set m [D.int sb, D.bl b] = O3 at *
  obtain ⟨d2, sc, hd2, t4, st4⟩ := zc9 hf st3
  have fl4 := z6s fl3 m sc b
  generalize hO4 : O3.set m [D.int sc, D.bl b] = O4 at *
  obtain ⟨d3, sd, hd3, t5, st5⟩ := zc9 hf st4
  have fl5 := z6s fl4 m sd b
  generalize hO5 : O4.set m [D.int sd, D.bl b] = O5 at *
  have n1 := hf.n1
  have n4 := hf.n4
  let A : Option D := some (.lst (ns.map .int))
  let B : Option D := some (.int (k : Int))
  let M : Option D := some (.own m)
  let F : Option D := some (.tup f)
  let N : Option D := some (.int (n : Nat))
  let T : Option D := some (.tab Pt)
  have e1 : z5n 2 (dFn 2 z66 (z4w (z4z 0) (z4w (z4z 1) z4C))) [A, B, y2, y3, y4, y5, y6, y7, y8, y9, y10, y11, y12, T] O = .nx [A, B, M, y3, y4, y5, y6, y7, y8, y9, y10, y11, y12, T] O1 := z5j ((z5o (z5A rfl rfl) rfl).trans s1)
  have e2 : z5n 3 (dFn 1 z5D (z4w (z4z 2) z4C)) [A, B, M, y3, y4, y5, y6, y7, y8, y9, y10, y11, y12, T] O1 = .nx [A, B, M, F, y4, y5, y6, y7, y8, y9, y10, y11, y12, T] O2 := z5j ((z5o (z55 rfl) rfl).trans t2)
  have e3 : z5n 4 (dFn 1 z5E (z4w (z4z 3) z4C)) [A, B, M, F, y4, y5, y6, y7, y8, y9, y10, y11, y12, T] O2 = .nx [A, B, M, F, N, y5, y6, y7, y8, y9, y10, y11, y12, T] O2 := z5j ((z5o (z55 rfl) rfl).trans (z8R hf O2))
  have hi : dIt (z5k (z4w (z4z 3) (z4w (dFn 2 z5l (z4w (z4z 2) (z4w (z4z 3) z4C))) (z4w (dFn 2 z5l (z4w (z4z 2) (z4w (z4z 3) z4C))) (z4w (dFn 2 z5l (z4w (z4z 2) (z4w (z4z 3) z4C))) z4C))))) [A, B, M, F, N, y5, y6, y7, y8, y9, y10, y11, y12, T] O2 = .ok (.val ([.tup f, d1, d2, d3].map fun d => d)) O5 := by
    refine zhL ?_
    unfold z5k
    simp only [z4W, z5n, sIf, z5c, z5K, z5z, z4z, dC, z4w, z4C, dFn, z4N, dOp, z5h, z5V, z5g, z9j, R.bnd, R.bnS, fin, List.getElem?_cons_zero, List.getElem?_cons_succ, List.set_cons_zero, List.set_cons_succ, List.length_cons, List.length_nil, Nat.zero_add, Nat.reduceAdd, Nat.reduceLeDiff, Nat.reduceLT, if_true, if_false, Bool.not_true, Bool.not_false, Bool.false_eq_true, ite_true, ite_false, M, F, t3, t4, t5]
    rfl
  have hth : ∀ d, d ∈ [D.tup f, d1, d2, d3] -> zbN d := fun d hd => by
    obtain ⟨hE, hl, _⟩ := zl2 hf
    simp only [List.mem_cons, List.not_mem_nil, or_false] at hd
    rcases hd with rfl | rfl | rfl | rfl
    · exact .inl ⟨f, rfl, hE, by omega⟩
    · exact hd1
    · exact hd2
    · exact hd3
  obtain ⟨σ4, O4', e4, z5, rfl, rfl⟩ := zex (i := 5) (body := zfD Pt) hi (fun _ σ O' => ∃ z5, σ = [A, B, M, F, N, z5, y6, y7, y8, y9, y10, y11, y12, T] /\ O' = O5) (fun _ d σ O' hk hI => by
    obtain ⟨z5, rfl, rfl⟩ := hI
    exact ⟨_, _, zgo (hth d (List.mem_of_getElem? hk)) _, _, rfl, rfl⟩) ⟨y5, rfl, rfl⟩
  let P1 : Option D := some (.lst (z4R (whr z6y n f)))
  let P2 : Option D := some (.lst (z4R (whr isN n f)))
  let P3 : Option D := some (.lst (z4R (whr isZ n f)))
  have e5 : zep 6 7 8 (dFn 2 z67 (z4w (z4z 2) (z4w (z4z 3) z4C))) [A, B, M, F, N, z5, y6, y7, y8, y9, y10, y11, y12, T] O4' = .nx [A, B, M, F, N, z5, P1, P2, P3, y9, y10, y11, y12, T] O4' := by
    unfold zep
    simp only [z4W, z5n, sIf, z5c, z5K, z5z, z4z, dC, z4w, z4C, dFn, z4N, dOp, z5h, z5V, z5g, z9j, R.bnd, R.bnS, fin, List.getElem?_cons_zero, List.getElem?_cons_succ, List.set_cons_zero, List.set_cons_succ, List.length_cons, List.length_nil, Nat.zero_add, Nat.reduceAdd, Nat.reduceLeDiff, Nat.reduceLT, if_true, if_false, Bool.not_true, Bool.not_false, Bool.false_eq_true, ite_true, ite_false, M, F, zb7 hf O4' m]
    rfl
  obtain ⟨σ6, O6, e6, z9, z10, rfl, fl6, s6, st6⟩ := zex (i := 9) (body := zi4) (zkY (k := 2) (c := 2) rfl (by decide) [A, B, M, F, N, z5, P1, P2, P3, y9, y10, y11, y12, T] O4') (fun _ σ O' => ∃ z9 z10, σ = [A, B, M, F, N, z5, P1, P2, P3, z9, z10, y11, y12, T] /\ zbv O' /\ ∃ s, StAt O' m s b) (fun j t σ O' hk hI => by
    obtain ⟨z9, z10, rfl, fl, s, st⟩ := hI
    have ht : t < 2 := List.mem_range.mp (List.mem_of_getElem? hk)
    obtain ⟨w10, X, g1, g2⟩ := zfR hf fl ht (y0 := A) (y1 := B) (y2 := M) (y4 := N) (y5 := z5) (y10 := z10) (y11 := y11) (y12 := y12) (y13 := T)
    exact ⟨_, _, g1, _, _, rfl, g2, s, st.more⟩) ⟨y9, y10, rfl, fl5, sd, st5⟩
  have hrev : zdx (z4z 6) (z6f (zd5 (dC (.int 1)))) [A, B, M, F, N, z5, P1, P2, P3, z9, z10, y11, y12, T] O6 = .ok (.lst (z4R (whr z6y n f).reverse)) O6 := by
    show (if some (-1 : Int) = some (-1) then R.ok (D.lst (z4R (whr z6y n f)).reverse) O6 else R.bad) = _
    rw [if_pos rfl]
    unfold z4R
    rw [List.map_reverse]
  have hfo : dFn 3 z4Q (z4w (z4z 4) (z4w (zdx (z4z 6) (z6f (zd5 (dC (.int 1))))) (z4w (z4N (zaQ false) (z4w (z4z 7) z4C)) z4C))) [A, B, M, F, N, z5, P1, P2, P3, z9, z10, y11, y12, T] O6 = .ok (.tup f) O6 := by
    refine (z5o (z6q (x := .int (n : Nat)) rfl (z5A hrev ((z58 (z55 (x := .lst (z4R (whr isN n f))) rfl)).trans rfl))) rfl).trans ?_
    refine (z9l n1 n4 (fun p hp => zcS (List.mem_reverse.mp hp)) (fun p hp => zcS hp) (List.pairwise_reverse.mpr ((zbr _ _ _).imp fun h e => h e.symm)) (zbr _ _ _) (by rw [List.length_reverse]; exact z9X _ n4 f) (z9X _ n4 f) (fun p hp => apart p hp) O6).trans ?_
    rw [zhT hf]
  have e7 : s12 [A, B, M, F, N, z5, P1, P2, P3, z9, z10, y11, y12, T] O6 = .nx [A, B, M, F, N, z5, P1, P2, P3, z9, z10, y11, y12, T] O6 := by
    unfold s12
    rw [z5F (z8x (z7v ((z5o (n := 2) (z5A (y := .tup f) hfo rfl) rfl).trans (zhO hf O6))))]; rfl
  obtain ⟨r7, s7, hr7, t7, st7⟩ := z6C st6 (k := 7) (by decide) (by decide)
  have fl7 := z6s fl6 m s7 b
  generalize hO7 : O6.set m [D.int s7, D.bl b] = O7 at *
  obtain ⟨db, hdb, edb⟩ := zid O7 hr7
  have e8 : s13 [A, B, M, F, N, z5, P1, P2, P3, z9, z10, y11, y12, T] O6 = .nx [A, B, M, F, N, z5, P1, P2, P3, z9, z10, some db, y12, T] O7 := z5j (i := 11) ((z4P (x := .lst bads) rfl ((z5o (z5A rfl rfl) rfl).trans t7)).trans edb)
  obtain ⟨r8, s8, hr8, t8, st8⟩ := z6C st7 (k := 8) (by decide) (by decide)
  have fl8 := z6s fl7 m s8 b
  generalize hO8 : O7.set m [D.int s8, D.bl b] = O8 at *
  obtain ⟨dn, hdn, edn⟩ := zgs n O8 hr8
  have hL : z5k (z4w (dC .non) (z4w (z72 (z4w (dC (.int 0)) z4C)) (z4w (z5k (z4w (dC (.int 0)) (z4w (dC (.int 0)) z4C))) (z4w (z5k (z4w (z4N z5T (z4w (z4z 3) z4C)) z4C)) (z4w (z5k (z4w (zd5 (dC (.int 1))) z4C)) (z4w (z5k (z4w (dC (.bl true)) z4C)) (z4w (z5k (z4w (dC (.str [48])) z4C)) (z4w zhS z4C)))))))) [A, B, M, F, N, z5, P1, P2, P3, z9, z10, some db, y12, T] O7 = .ok (.lst (z7u n)) O7 := by
    unfold z7u
    rw [<- hf.len]; rfl
  have e9 : s14 [A, B, M, F, N, z5, P1, P2, P3, z9, z10, some db, y12, T] O7 = .nx [A, B, M, F, N, z5, P1, P2, P3, z9, z10, some db, some dn, T] O8 := z5j (i := 12) ((z4P hL ((z5o (z5A rfl rfl) rfl).trans t8)).trans edn)
  let σ9 : Sg := [A, B, M, F, N, z5, P1, P2, P3, z9, z10, some db, some dn, T]
  have e10 : s15 Pt σ9 O8 = .nx σ9 O8 := by
    unfold s15
    simp only [z4W, z5n, sIf, z5c, z5K, z5z, z4z, dC, z4w, z4C, dFn, z4N, dOp, z5h, z5V, z5g, z9j, R.bnd, R.bnS, fin, List.getElem?_cons_zero, List.getElem?_cons_succ, List.set_cons_zero, List.set_cons_succ, List.length_cons, List.length_nil, Nat.zero_add, Nat.reduceAdd, Nat.reduceLeDiff, Nat.reduceLT, if_true, if_false, Bool.not_true, Bool.not_false, Bool.false_eq_true, ite_true, ite_false, σ9, T, z5r, ziR (a := dn) (c := dn) hdb O8, zkF, z5k, zlP]
  have e11 : s16 Pt σ9 O8 = .nx σ9 O8 := by
    unfold s16
    simp only [z4W, z5n, sIf, z5c, z5K, z5z, z4z, dC, z4w, z4C, dFn, z4N, dOp, z5h, z5V, z5g, z9j, R.bnd, R.bnS, fin, List.getElem?_cons_zero, List.getElem?_cons_succ, List.set_cons_zero, List.set_cons_succ, List.length_cons, List.length_nil, Nat.zero_add, Nat.reduceAdd, Nat.reduceLeDiff, Nat.reduceLT, if_true, if_false, Bool.not_true, Bool.not_false, Bool.false_eq_true, ite_true, ite_false, σ9, N, T, z5r, z5k, zgt n1 n4 (c := .lst []) hdn O8, zha, zkQ, Nat.zero_le]
  have e12 : s17 Pt σ9 O8 = .nx σ9 O8 := by
    unfold s17
    simp only [z4W, z5n, sIf, z5c, z5K, z5z, z4z, dC, z4w, z4C, dFn, z4N, dOp, z5h, z5V, z5g, z9j, R.bnd, R.bnS, fin, List.getElem?_cons_zero, List.getElem?_cons_succ, List.set_cons_zero, List.set_cons_succ, List.length_cons, List.length_nil, Nat.zero_add, Nat.reduceAdd, Nat.reduceLeDiff, Nat.reduceLT, if_true, if_false, Bool.not_true, Bool.not_false, Bool.false_eq_true, ite_true, ite_false, σ9, N, T, z5r, z5k, zfW n1 n4 hdn O8, zha, zkQ, Nat.zero_le]
  have e13 : s18 Pt σ9 O8 = .nx σ9 O8 := by
    unfold s18
    simp only [z4W, z5n, sIf, z5c, z5K, z5z, z4z, dC, z4w, z4C, dFn, z4N, dOp, z5h, z5V, z5g, z9j, R.bnd, R.bnS, fin, List.getElem?_cons_zero, List.getElem?_cons_succ, List.set_cons_zero, List.set_cons_succ, List.length_cons, List.length_nil, Nat.zero_add, Nat.reduceAdd, Nat.reduceLeDiff, Nat.reduceLT, if_true, if_false, Bool.not_true, Bool.not_false, Bool.false_eq_true, ite_true, ite_false, σ9, N, T, z5r, z5k, zhD n1 n4 O8, zha, zkQ, Nat.zero_le]
  refine ⟨M, F, N, z5, P1, P2, P3, z9, z10, some db, some dn, O8, ?_, fl8⟩
  unfold zgb
  rw [z4L e1, z4L e2, z4L e3, z4L e4, z4L e5, z4L e6, z4L e7, z4L e8, z4L e9]
  show z4W _ (z4W _ (z4W _ _)) σ9 O8 = .nx σ9 O8
  rw [z4L e10, z4L e11, z4L e12, e13]
theorem pure_law (Pt : Nat) (ns : List Int) (hn : ns.length <= 63) : ∃ O, F_law Pt [.lst (ns.map .int)] [] = .ok (.bl true) O := by
  let A : Option D := some (.lst (ns.map .int))
  let T : Option D := some (.tab Pt)
  let σ0 : Sg := [A, none, none, none, none, none, none, none, none, none, none, none, none, T]
  obtain ⟨m, hm, hr⟩ := zgc hn σ0 10 (by decide) rfl
  obtain ⟨σ', O', l1, y1, y2, y3, y4, y5, y6, y7, y8, y9, y10, y11, y12, rfl, l2⟩ := zex (i := 1) (body := zgb Pt) (z6m (z55 hr) hm) (fun _ σ O' => ∃ y1 y2 y3 y4 y5 y6 y7 y8 y9 y10 y11 y12, σ = [A, y1, y2, y3, y4, y5, y6, y7, y8, y9, y10, y11, y12, T] /\ zbv O') (fun _ i σ O' _ hI => by
      obtain ⟨y1, y2, y3, y4, y5, y6, y7, y8, y9, y10, y11, y12, rfl, fl⟩ := hI
      obtain ⟨z2, z3, z4, z5, z6, z7, z8, z9, z10, z11, z12, O4, t1, t2⟩ := zgn (Pt := Pt) (ns := ns) (k := i) fl (y2 := y2) (y3 := y3) (y4 := y4) (y5 := y5) (y6 := y6) (y7 := y7) (y8 := y8) (y9 := y9) (y10 := y10) (y11 := y11) (y12 := y12)
      exact ⟨_, _, t1, _, _, _, _, _, _, _, _, _, _, _, _, rfl, t2⟩) ⟨none, none, none, none, none, none, none, none, none, none, none, none, rfl, fun c hc => by cases hc⟩
  refine ⟨O', ?_⟩
  show fin (z4W (zdr (z5S (z4w (z4N zdj (z4w (dC (.int 1)) (z4w (z4N zd8 (z4w (z4N z5T (z4w (z4z 0) z4C)) (z4w (dC (.int ((10 : Nat) : Int))) z4C))) z4C))) z4C)) (.one 1) (zgb Pt)) (z5c (dC (.bl true))) σ0 []) = _
  rw [z4L l1]; rfl
end K01
open PySem PySem.W PyProof.Rows
set_option maxRecDepth 100000 in
set_option maxHeartbeats 0 in
theorem PySem.Challenge.cw_leastterms_k01_functions_known_holds : PySem.Challenge.rw_leastterms_k01_functions_known.Holds := by
  w_on; o_law; refine PySem.W.holds_open (q := K01.Qv) (loose := K01.Lv) (N := 6350) (Xt := K01.Xv) (XP := PySem.W.XL K01.Qv []) (Yf := PySem.W.Hook.obs K01.Hk) (Ya := PySem.W.Hook.val K01.Hk) (YP := PySem.W.Hook.says K01.Hk) K01.lw (PySem.W.Hook.of K01.Hk) (PySem.W.Hook.keeps K01.Hk) (fun s e => PySem.W.xl_of s (Bool.and_eq_true_iff.mp e).1) PySem.W.XL.keeps (by rfl) (by rfl) (by rfl) (fun s e => PySem.W.recFacts_of (Bool.and_eq_true_iff.mp e).2) (by rfl) (by first | assumption | decide +kernel) (by decide +kernel) ⟨rfl, rfl, rfl, rfl, rfl, by decide +kernel⟩ ?hw ?hc; (case hw => w_witness2)
  delta K01.Hk; k_fill
  refine DL.walkT (l := PySem.Challenge.rw_leastterms_k01_functions_known) (k := 9) (x := "_law_script") (Cl := K01.Cl) (F := K01.F_law) rfl rfl ⟨rfl, by decide, by decide⟩ (fun w h Y => PySem.W.km_in_of Y) ?R ?F K01.pure_law
  case R => first | rfl | kernel_rfl
  case F =>
    intro w mg fa h KX G hmg
    refine' K01.all_mk KX G hmg ?Ga0 ?Gl0 ?Gq0 ?Gk0 ?Ga1 ?Gl1 ?Gq1 ?Gk1 ?Ga2 ?Gl2 ?Gq2 ?Gk2 ?Ga3 ?Gl3 ?Gq3 ?Gk3 ?Ga4 ?Gl4 ?Gq4 ?Gk4 ?Ga5 ?Gl5 ?Gq5 ?Gk5 ?Ga6 ?Gl6 ?Gq6 ?Gk6 ?Ga7 ?Gl7 ?Gq7 ?Gk7 ?Ga8 ?Gl8 ?Gq8 ?Gk8 ?Ga9 ?Gl9 ?Gq9 ?Gk9 ?Ga10 ?Gl10 ?Gq10 ?Gk10 ?Ga11 ?Gl11 ?Gq11 ?Gk11 ?Ga12 ?Gl12 ?Gq12 ?Gk12 ?Ga13 ?Gl13 ?Gq13 ?Gk13 ?Ga14 ?Gl14 ?Gq14 ?Gk14 ?Ga15 ?Gl15 ?Gq15 ?Gk15 ?Ga16 ?Gl16 ?Gq16 ?Gk16 ?Ga17 ?Gl17 ?Gq17 ?Gk17 ?Ga18 ?Gl18 ?Gq18 ?Gk18 ?Ga19 ?Gl19 ?Gq19 ?Gk19 ?Ga20 ?Gl20 ?Gq20 ?Gk20 ?Ga21 ?Gl21 ?Gq21 ?Gk21 ?Ga22 ?Gl22 ?Gq22 ?Gk22 ?Ga23 ?Gl23 ?Gq23 ?Gk23 ?Ga24 ?Gl24 ?Gq24 ?Gk24 ?Ga25 ?Gl25 ?Gq25 ?Gk25 ?Ga26 ?Gl26 ?Gq26 ?Gk26 ?Ga27 ?Gl27 ?Gq27 ?Gk27 ?Ga28 ?Gl28 ?Gq28 ?Gk28 ?Gz_ValueError ?Gz_all ?Gz_any ?Gz_bool ?Gz_enumerate ?Gz_int ?Gz_isinstance ?Gz_len ?Gz_list ?Gz_max ?Gz_min ?Gz_range ?Gz_set ?Gz_str ?Gz_tuple ?Gz_zip ?Gd_POINTS_BY_SWITCHES ?Gu_POINTS_BY_SWITCHES ?Gv_POINTS_BY_SWITCHES ?Gy_POINTS_BY_SWITCHES ?Gd_SWITCHES_BY_POINTS ?Gu_SWITCHES_BY_POINTS ?Gv_SWITCHES_BY_POINTS ?Gy_SWITCHES_BY_POINTS ?Gs_MOST_SWITCHES ?z03 ?z07 ?z06 ?z05 ?z02 ?z00 ?z08 ?z04 ?z01 ?z09 ?z0K ?z0O ?z0N ?z0M ?z0J ?z0H ?z0P ?z0L ?z0I ?z0Q ?z0E ?z0d ?z0h ?z0g ?z0f ?z0c ?z0a ?z0i ?z0e ?z0b ?z0j ?z0F ?z0n ?z0r ?z0q ?z0p ?z0m ?z0k ?z0s ?z0o ?z0l ?z0t ?z0G ?z0x ?z0B ?z0A ?z0z ?z0w ?z0u ?z0C ?z0y ?z0v ?z0D ?z13 ?z1r ?z0X ?z0R ?z16 ?z1A ?z1u ?z0U ?z1f ?z19 ?z1l ?z1i ?z1o ?z1c ?z1x ?z14 ?z1s ?z0Y ?z0S ?z17 ?z1B ?z1v ?z0V ?z1g ?z1a ?z1m ?z1j ?z1p ?z1d ?z1y ?z15 ?z1t ?z0Z ?z0T ?z18 ?z1C ?z1w ?z0W ?z1h ?z1b ?z1n ?z1k ?z1q ?z1e ?z1z ?Gh4 ?Gh5 ?Ghnt
    (case Ga0 => k_is)
    (case Gl0 => k_is)
    (case Gq0 => k_is)
    (case Gk0 => k_is)
    (case Ga1 => k_is)
    (case Gl1 => k_is)
    (case Gq1 => k_is)
    (case Gk1 => k_is)
    (case Ga2 => k_is)
    (case Gl2 => k_is)
    (case Gq2 => k_is)
    (case Gk2 => k_is)
    (case Ga3 => k_is)
    (case Gl3 => k_is)
    (case Gq3 => k_is)
    (case Gk3 => k_is)
    (case Ga4 => k_is)
    (case Gl4 => k_is)
    (case Gq4 => k_is)
    (case Gk4 => k_is)
    (case Ga5 => k_is)
    (case Gl5 => k_is)
    (case Gq5 => k_is)
    (case Gk5 => k_is)
    (case Ga6 => k_is)
    (case Gl6 => k_is)
    (case Gq6 => k_is)
    (case Gk6 => k_is)
    (case Ga7 => k_is)
    (case Gl7 => k_is)
    (case Gq7 => k_is)
    (case Gk7 => k_is)
    (case Ga8 => k_is)
    (case Gl8 => k_is)
    (case Gq8 => k_is)
    (case Gk8 => k_is)
    (case Ga9 => k_is)
    (case Gl9 => k_is)
    (case Gq9 => k_is)
    (case Gk9 => k_is)
    (case Ga10 => k_is)
    (case Gl10 => k_is)
    (case Gq10 => k_is)
    (case Gk10 => k_is)
    (case Ga11 => k_is)
    (case Gl11 => k_is)
    (case Gq11 => k_is)
    (case Gk11 => k_is)
    (case Ga12 => k_is)
    (case Gl12 => k_is)
    (case Gq12 => k_is)
    (case Gk12 => k_is)
    (case Ga13 => k_is)
    (case Gl13 => k_is)
    (case Gq13 => k_is)
    (case Gk13 => k_is)
    (case Ga14 => k_is)
    (case Gl14 => k_is)
    (case Gq14 => k_is)
    (case Gk14 => k_is)
    (case Ga15 => k_is)
    (case Gl15 => k_is)
    (case Gq15 => k_is)
    (case Gk15 => k_is)
    (case Ga16 => k_is)
    (case Gl16 => k_is)
    (case Gq16 => k_is)
    (case Gk16 => k_is)
    (case Ga17 => k_is)
    (case Gl17 => k_is)
    (case Gq17 => k_is)
    (case Gk17 => k_is)
    (case Ga18 => k_is)
    (case Gl18 => k_is)
    (case Gq18 => k_is)
    (case Gk18 => k_is)
    (case Ga19 => k_is)
    (case Gl19 => k_is)
    (case Gq19 => k_is)
    (case Gk19 => k_is)
    (case Ga20 => k_is)
    (case Gl20 => k_is)
    (case Gq20 => k_is)
    (case Gk20 => k_is)
    (case Ga21 => k_is)
    (case Gl21 => k_is)
    (case Gq21 => k_is)
    (case Gk21 => k_is)
    (case Ga22 => k_is)
    (case Gl22 => k_is)
    (case Gq22 => k_is)
    (case Gk22 => k_is)
    (case Ga23 => k_is)
    (case Gl23 => k_is)
    (case Gq23 => k_is)
    (case Gk23 => k_is)
    (case Ga24 => k_is)
    (case Gl24 => k_is)
    (case Gq24 => k_is)
    (case Gk24 => k_is)
    (case Ga25 => k_is)
    (case Gl25 => k_is)
    (case Gq25 => k_is)
    (case Gk25 => k_is)
    (case Ga26 => k_is)
    (case Gl26 => k_is)
    (case Gq26 => k_is)
    (case Gk26 => k_is)
    (case Ga27 => k_is)
    (case Gl27 => k_is)
    (case Gq27 => k_is)
    (case Gk27 => k_is)
    (case Ga28 => k_is)
    (case Gl28 => k_is)
    (case Gq28 => k_is)
    (case Gk28 => k_is)
    (case Gz_ValueError => k_is)
    (case Gz_all => k_is)
    (case Gz_any => k_is)
    (case Gz_bool => k_is)
    (case Gz_enumerate => k_is)
    (case Gz_int => k_is)
    (case Gz_isinstance => k_is)
    (case Gz_len => k_is)
    (case Gz_list => k_is)
    (case Gz_max => k_is)
    (case Gz_min => k_is)
    (case Gz_range => k_is)
    (case Gz_set => k_is)
    (case Gz_str => k_is)
    (case Gz_tuple => k_is)
    (case Gz_zip => k_is)
    (case Gd_POINTS_BY_SWITCHES => k_is)
    (case Gu_POINTS_BY_SWITCHES => k_is)
    (case Gv_POINTS_BY_SWITCHES => first | kernel_rfl | rfl | decide)
    (case Gy_POINTS_BY_SWITCHES => first | kernel_rfl | rfl | decide)
    (case Gd_SWITCHES_BY_POINTS => k_is)
    (case Gu_SWITCHES_BY_POINTS => k_is)
    (case Gv_SWITCHES_BY_POINTS => first | kernel_rfl | rfl | decide)
    (case Gy_SWITCHES_BY_POINTS => first | kernel_rfl | rfl | decide)
    (case Gs_MOST_SWITCHES => k_is)
    (case z03 => k_is)
    (case z07 => k_is)
    (case z06 => k_is)
    (case z05 => k_is)
    (case z02 => k_is)
    (case z00 => k_is)
    (case z08 => k_is)
    (case z04 => k_is)
    (case z01 => k_is)
    (case z09 => k_is)
    (case z0K => kernel_rfl)
    (case z0O => kernel_rfl)
    (case z0N => kernel_rfl)
    (case z0M => kernel_rfl)
    (case z0J => kernel_rfl)
    (case z0H => kernel_rfl)
    (case z0P => kernel_rfl)
    (case z0L => kernel_rfl)
    (case z0I => kernel_rfl)
    (case z0Q => kernel_rfl)
    (case z0E => kernel_rfl)
    (case z0d => kernel_rfl)
    (case z0h => kernel_rfl)
    (case z0g => kernel_rfl)
    (case z0f => kernel_rfl)
    (case z0c => kernel_rfl)
    (case z0a => kernel_rfl)
    (case z0i => kernel_rfl)
    (case z0e => kernel_rfl)
    (case z0b => kernel_rfl)
    (case z0j => kernel_rfl)
    (case z0F => kernel_rfl)
    (case z0n => kernel_rfl)
    (case z0r => kernel_rfl)
    (case z0q => kernel_rfl)
    (case z0p => kernel_rfl)
    (case z0m => kernel_rfl)
    (case z0k => kernel_rfl)
    (case z0s => kernel_rfl)
    (case z0o => kernel_rfl)
    (case z0l => kernel_rfl)
    (case z0t => kernel_rfl)
    (case z0G => kernel_rfl)
    (case z0x => kernel_rfl)
    (case z0B => kernel_rfl)
    (case z0A => kernel_rfl)
    (case z0z => kernel_rfl)
    (case z0w => kernel_rfl)
    (case z0u => kernel_rfl)
    (case z0C => kernel_rfl)
    (case z0y => kernel_rfl)
    (case z0v => kernel_rfl)
    (case z0D => kernel_rfl)
    (case z13 => k_is)
    (case z1r => k_is)
    (case z0X => k_is)
    (case z0R => k_is)
    (case z16 => k_is)
    (case z1A => k_is)
    (case z1u => k_is)
    (case z0U => k_is)
    (case z1f => kernel_rfl)
    (case z19 => kernel_rfl)
    (case z1l => kernel_rfl)
    (case z1i => kernel_rfl)
    (case z1o => kernel_rfl)
    (case z1c => kernel_rfl)
    (case z1x => first | k_is | kernel_rfl)
    (case z14 => k_is)
    (case z1s => k_is)
    (case z0Y => k_is)
    (case z0S => k_is)
    (case z17 => k_is)
    (case z1B => k_is)
    (case z1v => k_is)
    (case z0V => k_is)
    (case z1g => kernel_rfl)
    (case z1a => kernel_rfl)
    (case z1m => kernel_rfl)
    (case z1j => kernel_rfl)
    (case z1p => kernel_rfl)
    (case z1d => kernel_rfl)
    (case z1y => first | k_is | kernel_rfl)
    (case z15 => k_is)
    (case z1t => k_is)
    (case z0Z => k_is)
    (case z0T => k_is)
    (case z18 => k_is)
    (case z1C => k_is)
    (case z1w => k_is)
    (case z0W => k_is)
    (case z1h => kernel_rfl)
    (case z1b => kernel_rfl)
    (case z1n => kernel_rfl)
    (case z1k => kernel_rfl)
    (case z1q => kernel_rfl)
    (case z1e => kernel_rfl)
    (case z1z => first | k_is | kernel_rfl)
    (case Gh4 => k_is)
    (case Gh5 => rfl)
    (case Ghnt => first | k_is | kernel_rfl)
