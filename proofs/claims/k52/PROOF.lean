import PyProof.Rows.All
import Wide.All
import OpenK.AllK
import Wide.FinOn
import Lean
import PyProof.EqAt
import PyProof.EqKinds
import PyProof.TupleCall
import PySem.Challenge.RW_leastterms_k52_functions_of_sums_and_pro
set_option Elab.async false
set_option linter.all false
set_option maxRecDepth 100000
namespace K52
open PySem PySem.W
def ty (i:Nat):Stmt:=PySem.Challenge.pw_leastterms_k52_functions_of_sums_and_pro.main.body.getD i (.Pass ⟨0,0,0,0⟩)
def Qv:Program:={ PySem.Challenge.pw_leastterms_k52_functions_of_sums_and_pro with main:={ PySem.Challenge.pw_leastterms_k52_functions_of_sums_and_pro.main with body:=[ty 1,ty 2,ty 3,ty 4,ty 5,ty 6,ty 7,ty 8,ty 9,ty 10,ty 12,ty 13,ty 14,ty 15,ty 16,ty 17,ty 19,ty 20,ty 21,ty 22,ty 23,ty 25,ty 26,ty 27,ty 28,ty 29,ty 30,ty 31,ty 32,ty 33,ty 34,ty 36,ty 37,ty 38,ty 39,ty 40,ty 41,ty 42,ty 43,ty 45,ty 46,ty 47,ty 48,ty 49,ty 50,ty 51,ty 52,ty 53,ty 54,ty 55,ty 56,ty 57] } }
def Lv:List PySem.Str:=[PySem.Str.ofString "POINTS_BY_SWITCHES",PySem.Str.ofString "SWITCHES_BY_POINTS"]
def Xv:Shared → Bool:=fun s=>PySem.W.xlAt Qv [] s && PySem.W.recOk (PySem.W.RowW.records (PySem.W.OpenRow.toRowW PySem.Challenge.rw_leastterms_k52_functions_of_sums_and_pro.row)) s
theorem bY {α β γ:Type} {x:Option α} {f:α → β} {g:α → γ} {b:β} {c:γ} (h1:x.map f=some b) (h2:x.map g=some c):x.map (fun s=>(f s,g s))=some (b,c):=by
  cases x with
  | none=>cases h1
  | some s=>
    have e1:f s=b:=Option.some.inj h1
    have e2:g s=c:=Option.some.inj h2
    show some (f s,g s)=_
    rw [e1,e2]
end K52
section
open PySem PySem.W PyProof.Rows
local macro_rules|`(tactic| o_head $H)=>`(tactic| refine PySem.W.holds_open (q:=K52.Qv) (loose:=K52.Lv) (N:=6858) (Xt:=K52.Xv) (XP:=PySem.W.XL K52.Qv []) (Yf:=PySem.W.Hook.obs $H) (Ya:=PySem.W.Hook.val $H) (YP:=PySem.W.Hook.says $H) ?hl (PySem.W.Hook.of $H) (PySem.W.Hook.keeps $H) (fun s e=>PySem.W.xl_of s (Bool.and_eq_true_iff.mp e).1) PySem.W.XL.keeps (by rfl) (by rfl) (by rfl) (fun s e=>PySem.W.recFacts_of (Bool.and_eq_true_iff.mp e).2) (by rfl) (by first|assumption|decide +kernel) (by decide +kernel) ⟨rfl,rfl,rfl,rfl,rfl,by decide +kernel⟩ ?hw ?hc)
set_option maxRecDepth 100000 in
set_option maxHeartbeats 0 in
theorem K52.hp:False → PySem.Challenge.rw_leastterms_k52_functions_of_sums_and_pro.Holds:=by
  intro ff
  w_on;o_law;k_head
  all_goals exact ff.elim
end

namespace DLT
open PySem PySem.W
def runT (tb:String → Option Builtin) (p:Program) (w:World) (m:Nat) (an:Option Value):Nat → SharedT → Thread → Option SharedT
  | 0,_,_=>none
  | k + 1,a,th=>match through th with
    | true=>some a
    | false=>match stepOk m an th with
      | false=>none
      | true=>match stepT (denote tb) p w a th with
        | some (b,th')=>runT tb p w m an k b th'
        | none=>none
theorem run_of {tb:String → Option Builtin} {p:Program} {w:World} {m:Nat} {an:Option Value}:∀ {k:Nat} {a z:SharedT} {th:Thread},runT tb p w m an k a th=some z → topRun tb p w m an k a.abs th=some z.abs
  | 0,_,_,_,H=>by cases H
  | k + 1,a,z,th,H=>by
    unfold runT at H
    unfold topRun
    cases e1:through th with
    | true=>rw [e1] at H;cases H;rfl
    | false=>
      rw [e1] at H
      cases e2:stepOk m an th with
      | false=>rw [e2] at H;cases H
      | true=>
        rw [e2] at H
        cases e3:stepT (denote tb) p w a th with
        | none=>rw [e3] at H;cases H
        | some q=>obtain ⟨b,th'⟩:=q;rw [e3] at H;rw [stepT_spec e3];exact run_of H
def treeOf:Nat → BT → List Obj → BT
  | _,T,[]=>T
  | i,T,o :: os=>treeOf (i + 1) (T.ins i o) os
noncomputable def bootTree (P:Params):BT:=treeOf 0 .nil (boot_heap P).objs.toList
theorem boot_abs:∀ P:Params,absHeap (bootTree P) (boot_heap P).objs.size (boot_heap P).life=boot_heap P:=fun P=>by kernel_rfl
noncomputable def s0T (P:Params) (os:OsState):SharedT:=⟨bootTree P,(boot_heap P).objs.size,(boot_heap P).life,Array.mk [],boot_drawn,boot_toks,os⟩
noncomputable def s0 (P:Params) (os:OsState):Shared:=⟨boot_heap P,Array.mk [],boot_drawn,boot_toks,os⟩
theorem s0_abs (P:Params) (os:OsState):(s0T P os).abs=s0 P os:=by
  unfold s0T s0 SharedT.abs
  rw [boot_abs P]
theorem boot_size:∀ P:Params,((boot_heap P).isNs mainGlobals && (Array.mk []:Array GenState).size == 0,(boot_heap P).objs.size,(boot_heap P).nsMap mainGlobals "__annotations__")=(true,11,some (.ref 6)):=fun P=>by kernel_rfl
def chk (p:Program) (h:Heap) (s:Shared):Bool:=staticsOk (importedModules p.main.body) h s.heap && namesBound p s.heap && gensDone s && laidKept h s.heap
theorem from_of {p:Program} {w:World} {P:Params} {os:OsState} {N:Nat} {α:Type} {f:Shared → α} {a:α} (h:(runT treeTable p w 11 (some (.ref 6)) N (s0T P os) (topStub p)).map (fun s=>(chk p (boot_heap P) s.abs,f s.abs))=some (true,a)):(topFrom treeTable p w N (s0 P os)).map f=some a:=by
  obtain ⟨s,e,e'⟩:=Option.map_eq_some_iff.mp h
  have r:=run_of e
  rw [s0_abs] at r
  obtain ⟨z1,z2,z3⟩:_ ∧ _ ∧ _:=by simpa only [Prod.mk.injEq] using boot_size P
  obtain ⟨c1,c2⟩:=Prod.mk.inj e'
  unfold topFrom
  show Option.map f (match (boot_heap P).isNs mainGlobals && (Array.mk []:Array GenState).size == 0 with
    | true=>(topRun treeTable p w (boot_heap P).objs.size ((boot_heap P).nsMap mainGlobals "__annotations__") N (s0 P os) (topStub p)).bind fun s₁=>match chk p (boot_heap P) s₁ with
      | true=>some s₁
      | false=>none
    | false=>none)=some a
  rw [z1,z2,z3,r]
  show Option.map f (match chk p (boot_heap P) s.abs with
      | true=>some s.abs
      | false=>none)=some a
  rw [c1]
  exact congrArg some c2
theorem both {α β γ δ:Type} {x:Option α} {f:α → β × γ} {g:α → δ} {b:β} {c:γ} {d:δ} (h1:x.map (fun s=>((f s).1,g s))=some (b,d)) (h2:x.map (fun s=>(f s).2)=some c):x.map (fun s=>(f s,g s))=some ((b,c),d):=by
  cases x with
  | none=>cases h1
  | some s=>
    obtain ⟨e1,e3⟩:=Prod.mk.inj (Option.some.inj h1)
    have e2:(f s).2=c:=Option.some.inj h2
    exact congrArg some (Prod.ext (Prod.ext e1 e2) e3)
noncomputable abbrev R (p:Program) (N:Nat) (w:World) (P:Params) (os:OsState):Option SharedT:=runT treeTable p w 11 (some (.ref 6)) N (s0T P os) (topStub p)
theorem left_of {p q:Program} {loose:List Str} {Xt:Shared → Bool} {α:Type} {Yf:Shared → α} {Ya:World → α} {N:Nat} {g0:Bool} (row:String) (e:opening p=plainProg p.main.scope.names) (hN:Nat.ble 600 N=true) (fm:∀ s,fenceModules? p s=some s)
    (ha:∀ (v:Bool) (w:World) (os:OsState),(R p N (w.withFollow row v) w.params os).map (fun s=>(chk p (boot_heap w.params) s.abs,((openSeen q loose (importedModules p.main.body) Xt g0 s.abs).1,Yf s.abs)))=some (true,(openGood q loose).1,Ya (w.withFollow row v)))
    (hb:∀ (v:Bool) (w:World) (os:OsState),(R p N (w.withFollow row v) w.params os).map (fun s=>(chk p (boot_heap w.params) s.abs,(openSeen q loose (importedModules p.main.body) Xt g0 s.abs).2))=some (true,(openGood q loose).2)):
    LeftO p q loose Xt Yf Ya N g0:=LeftO.of_split row fun w=>by
  obtain ⟨⟨h,gs,d,k,os⟩,x,y⟩:=Option.map_eq_some_iff.mp (boot_open e hN fm w)
  obtain ⟨rfl,rfl,rfl,rfl⟩:h=boot_heap w.params ∧ gs=Array.mk [] ∧ d=boot_drawn ∧ k=boot_toks:=by simpa using y
  rw [x]
  have go (v:Bool):(topFrom treeTable p (w.withFollow row v) N (s0 w.params os)).map (fun s=>(openSeen q loose (importedModules p.main.body) Xt g0 s,Yf s))=some (openGood q loose,Ya (w.withFollow row v)):=
    both (f:=fun s=>openSeen q loose (importedModules p.main.body) Xt g0 s) (g:=Yf) (from_of (f:=fun s=>((openSeen q loose (importedModules p.main.body) Xt g0 s).1,Yf s)) (ha v w os)) (from_of (f:=fun s=>(openSeen q loose (importedModules p.main.body) Xt g0 s).2) (hb v w os))
  exact congrArg some (Prod.ext (go false) (go true))
end DLT

namespace K52
open PySem PySem.W
abbrev As:List Addr:=[2,3,15,22,23,24,25,28,35,36,37,40,47,48,49,52,59,60,61,64,71,72,73,76,83,84,85,88,95,96,97,100,107,108,109,112,119,120,121,124,131,132,133,136,138,139,141,142,143,145,146,148,149,150,152,153,155,156,157,159,160,162,163,164,167,168,169,170,171,173,174,176,177,178,181,182,183,185,186,188,189,190,193,194,195,198,199,200,202,203,205,206,207,210,211,212,215,216,217,219,220,222,223,224,226,227,229,230,231,233,234,236,237,238,241,242,243,245,246,248,249,250,253,254,255,257,258,260,261,262,265,266,267,269,270,272,273,274,277,278,279,282,283,284,287,288,289,292,293,294,297,298,299,302,303,304,306,307,309,310,311,313,314,316,317,318,320,321,323,324,325,327,328,330,331,332,335,336,337,339,340,342,343,344,347,348,349,352,353,354,357,358,359,362,363]
noncomputable def Hk:PySem.W.Hook:=PySem.W.kmHook K52.hp.heap_39 K52.As (fun _=>by kernel_rfl) [355]
abbrev Pg:Program:=PySem.Challenge.rw_leastterms_k52_functions_of_sums_and_pro.row.prog
set_option maxRecDepth 100000 in
theorem la1:∀ (w:World) (os:OsState),(DLT.R Pg 6858 (w.withFollow "special-get-raises" false) w.params os).map (fun s=>(DLT.chk Pg (boot_heap w.params) s.abs,((openSeen Qv Lv (importedModules Pg.main.body) Xv true s.abs).1,(Hk.obs s.abs,decide (0 < s.abs.toks)))))=some (true,((openGood Qv Lv).1,(Hk.val (w.withFollow "special-get-raises" false),true))):=fun w os=>by kernel_rfl
set_option maxRecDepth 100000 in
theorem la2:∀ (w:World) (os:OsState),(DLT.R Pg 6858 (w.withFollow "special-get-raises" false) w.params os).map (fun s=>(DLT.chk Pg (boot_heap w.params) s.abs,(openSeen Qv Lv (importedModules Pg.main.body) Xv true s.abs).2))=some (true,(openGood Qv Lv).2):=fun w os=>by kernel_rfl
set_option maxRecDepth 100000 in
theorem lb1:∀ (w:World) (os:OsState),(DLT.R Pg 6858 (w.withFollow "special-get-raises" true) w.params os).map (fun s=>(DLT.chk Pg (boot_heap w.params) s.abs,((openSeen Qv Lv (importedModules Pg.main.body) Xv true s.abs).1,(Hk.obs s.abs,decide (0 < s.abs.toks)))))=some (true,((openGood Qv Lv).1,(Hk.val (w.withFollow "special-get-raises" true),true))):=fun w os=>by kernel_rfl
set_option maxRecDepth 100000 in
theorem lb2:∀ (w:World) (os:OsState),(DLT.R Pg 6858 (w.withFollow "special-get-raises" true) w.params os).map (fun s=>(DLT.chk Pg (boot_heap w.params) s.abs,(openSeen Qv Lv (importedModules Pg.main.body) Xv true s.abs).2))=some (true,(openGood Qv Lv).2):=fun w os=>by kernel_rfl
theorem lw:PySem.W.LeftO Pg Qv Lv Xv (fun s=>(Hk.obs s,decide (0 < s.toks))) (fun w=>(Hk.val w,true)) 6858:=DLT.left_of "special-get-raises" rfl rfl (fun _=>rfl) (fun v=>match v with|false=>la1|true=>lb1) (fun v=>match v with|false=>la2|true=>lb2)
end K52

-- CHANGE: your row's module here, as the last of these rows
namespace L2
open PySem PySem.Spec PyProof.Rows
abbrev Key:=Sum Int Str
def ziB:Key->Value->Bool
 | .inl k,v=>Value.isInt k v
 | .inr x,v=>Value.isStrOf x v
def zkp (w:World):Key->Int
 | .inl k=>hashInt k
 | .inr x=>hashStr w x
theorem z24:∀ {k:Key} {v:Value},ziB k v=true->(∃ i t,k=Sum.inl i/\v=Value.int i t) \/ (∃ x t,k=Sum.inr x/\v=Value.str x t)
 | .inl i,v,h=>by
  obtain ⟨t,e⟩:=Value.isInt_shape (k:=i) (v:=v) h
  exact .inl ⟨i,t,rfl,e⟩
 | .inr x,v,h=>by
  obtain ⟨t,e⟩:=Value.isStrOf_shape (x:=x) (v:=v) h
  exact .inr ⟨x,t,rfl,e⟩
theorem zix (a b:Int):decide ((Sum.inl a:Key)=Sum.inl b)=(a == b):=by
 by_cases e:a=b
 ·subst e;simp
 ·have h:¬ (Sum.inl a:Key)=Sum.inl b:=fun q=>e (Sum.inl.inj q)
  rw [decide_eq_false h]
  exact (beq_eq_false_iff_ne.mpr e).symm
theorem zi9 (a b:Str):decide ((Sum.inr a:Key)=Sum.inr b)=decide (a=b):=by
 by_cases e:a=b
 ·subst e;simp
 ·have h:¬ (Sum.inr a:Key)=Sum.inr b:=fun q=>e (Sum.inr.inj q)
  rw [decide_eq_false h,decide_eq_false e]
theorem zhe (a:Int) (b:Str):decide ((Sum.inl a:Key)=Sum.inr b)=false:=decide_eq_false (fun q=>nomatch q)
theorem zid (a:Str) (b:Int):decide ((Sum.inr a:Key)=Sum.inl b)=false:=decide_eq_false (fun q=>nomatch q)
def z8C (prog:Program) (w:World):PySem.KeyKind prog w Key where
 is:=ziB
 hash:=zkp w
 inj:=fun v a b ha hb=>by
  rcases z24 ha with ⟨i,t,rfl,rfl⟩|⟨x,t,rfl,rfl⟩
  ·rcases z24 hb with ⟨j,u,rfl,e⟩|⟨y,u,rfl,e⟩
   ·injection e with e1 _;rw [e1]
   ·exact nomatch e
  ·rcases z24 hb with ⟨j,u,rfl,e⟩|⟨y,u,rfl,e⟩
   ·exact nomatch e
   ·injection e with e1 _;rw [e1]
 byValue:=fun k v h=>by
  rcases z24 h with ⟨i,t,rfl,rfl⟩|⟨x,t,rfl,rfl⟩ <;> rfl
 pyHash:=fun hv h=>by
  rcases z24 hv with ⟨i,t,rfl,rfl⟩|⟨x,t,rfl,rfl⟩
  ·exact wpAny_pyHash_int h
  ·exact wpAny_pyHash_str h
 eqBool:=fun hu hv h=>by
  rcases z24 hu with ⟨i,t,rfl,rfl⟩|⟨x,t,rfl,rfl⟩
  ·rcases z24 hv with ⟨j,u,rfl,rfl⟩|⟨y,u,rfl,rfl⟩
   ·rw [zix] at h;exact wpAny_eqBool_int h
   ·rw [zhe] at h;exact SeqAt.EqAt.int_str i t y u _ _ _ _ h
  ·rcases z24 hv with ⟨j,u,rfl,rfl⟩|⟨y,u,rfl,rfl⟩
   ·rw [zid] at h;exact SeqAt.EqAt.str_int x t j u _ _ _ _ h
   ·rw [zi9] at h;exact wpAny_eqBool_str h
 «strs»:=fun k x t v h=>by
  rcases z24 h with ⟨i,u,rfl,e⟩|⟨y,u,rfl,e⟩
  ·exact nomatch e
  ·injection e with e1 _
   subst e1
   cases v <;> rfl
inductive V where
 | non|bl (b:Bool)|int (i:Int)|str (x:Str)|byt (b:Array UInt8)|flt (b:UInt64)|ref (a:Addr)|ty (n:String)
 deriving DecidableEq
def RelV:V->Value->Prop
 | .non,u=>u=Value.none
 | .bl b,u=>u=Value.bool b
 | .int i,u=>∃ t,u=Value.int i t
 | .str x,u=>∃ t,u=Value.str x t
 | .byt b,u=>∃ t,u=Value.bytes b t
 | .flt b,u=>∃ t,u=Value.float b t
 | .ref a,u=>u=Value.ref a
 | .ty n,u=>u=Value.type n
abbrev Vals:List V->List Value->Prop:=Paired RelV
theorem Vals.length {xs:List V} {us:List Value} (r:Vals xs us):xs.length=us.length:=Paired.length r
theorem Vals.get:∀ {xs:List V} {us:List Value} {i:Nat} {x:V},Vals xs us->xs[i]?=some x->∃ u,us[i]?=some u/\RelV x u
 | _,_,_,_,.nil,e=>by simp at e
 | _,_,0,_,.cons r _,e=>by simp at e;subst e;exact ⟨_,rfl,r⟩
 | _,_,i + 1,x,.cons _ t,e=>by
  obtain ⟨u,h1,h2⟩:=Vals.get (i:=i) (x:=x) t (by simpa using e)
  exact ⟨u,by simpa using h1,h2⟩
theorem Vals.set {x:V} {u:Value} (r:RelV x u):∀ {xs:List V} {us:List Value} (i:Nat),Vals xs us->Vals (xs.set i x) (us.set i u)
 | _,_,_,.nil=>.nil
 | _,_,0,.cons _ t=>.cons r t
 | _,_,i + 1,.cons q t=>.cons q (Vals.set r i t)
theorem Vals.append:∀ {xs ys:List V} {us ws:List Value},Vals xs us->Vals ys ws->Vals (xs ++ ys) (us ++ ws)
 | _,_,_,_,.nil,s=>s
 | _,_,_,_,.cons r t,s=>.cons r (Vals.append t s)
theorem Vals.take:∀ {xs:List V} {us:List Value} (n:Nat),Vals xs us->Vals (xs.take n) (us.take n)
 | _,_,0,_=>.nil
 | _,_,_ + 1,.nil=>.nil
 | _,_,n + 1,.cons r t=>.cons r (Vals.take n t)
theorem Vals.drop:∀ {xs:List V} {us:List Value} (n:Nat),Vals xs us->Vals (xs.drop n) (us.drop n)
 | _,_,0,r=>r
 | _,_,_ + 1,.nil=>.nil
 | _,_,n + 1,.cons _ t=>Vals.drop n t
def zkk:Option V->Option Value->Prop
 | some v,some u=>RelV v u
 | none,none=>True
 | _,_=>False
def KV {κ:Type}:List (κ × V)->List (κ × Value)->Prop:=Paired fun (p:κ × V) (q:κ × Value)=>p.1=q.1/\RelV p.2 q.2
def kV:Key->V
 | .inl i=>.int i
 | .inr x=>.str x
inductive HO where
 | lst (xs:List V)
 | tup (xs:List V)
 | dK (kvs:List (Key × V))|dT (kvs:List (List Key × V))
 | set (S:Int->Bool) (n:Nat)
 | ins (C dx:Addr) (fs:List (Str × V))
 | own (x:Addr)
 | xd (fs:List (Str × V))
 | met (f x:Addr)
 | rng (lo hi:Int)
 | frz (o:Obj) (u:HO)
 | tbl (ps:Array Value)
 | ext (φ:Heap->Prop)
abbrev Hp:=Addr->Option HO
def upd (H:Hp) (a:Addr) (o:HO):Hp:=fun b=>if b=a then some o else H b
theorem z1z {H:Hp} {a:Addr} {o:HO}:upd H a o a=some o:=by unfold upd;rw [if_pos rfl]
theorem z1q {H:Hp} {a b:Addr} {o:HO} (h:b ≠ a):upd H a o b=H b:=by unfold upd;rw [if_neg h]
theorem zjT {H:Hp} {a b:Addr} {o u:HO} (h:H a=some o) (h':H b=some u) (d:o ≠ u):a ≠ b:=by
 intro e;subst e;rw [h] at h';exact d (Option.some.inj h')
theorem z1r {H:Hp} {a b:Addr} {o:HO} (h:H a=some o) (h':H b=none):a ≠ b:=by
 intro e;subst e;rw [h] at h';cases h'
def IsTupD (h:Heap) (a:Addr) (items:Array Value):Prop:=∃ o,h.get? a=some o/\o.cls=.type "tuple"/\(∃ n,o.data=.seq items n)/\o.dict=none
theorem IsTupD.tup {h:Heap} {a:Addr} {items:Array Value} (x:IsTupD h a items):IsTup h a items:=let ⟨o,e,c,d,_⟩:=x;⟨o,e,c,d⟩
theorem IsTupD.new (h:Heap) (items:Array Value):IsTupD (h.push { cls:=.type "tuple",data:=.seq items }) h.objs.size items:=⟨_,Heap.get?_push_size _ rfl,rfl,⟨_,rfl⟩,rfl⟩
section
variable (P:Program) (w:World)
def ObjOk (H:Hp) (h:Heap) (a:Addr):HO->Prop
 | .lst xs=>xs.length <= sizeLine/\∃ (its:List Value) (n:Nat),Vals xs its/\h.get? a=some { cls:=.type "list",data:=.seq its.toArray n }
 | .tup xs=>xs.length <= sizeLine/\∃ its:List Value,Vals xs its/\IsTupD h a its.toArray
 | .dK kvs=>kvs.length <= sizeLine/\(a == sysModules)=false/\∃ vs,KV kvs vs/\h.DictOf (z8C P w) a vs
 | .dT kvs=>kvs.length <= sizeLine/\(a == sysModules)=false/\∃ xs:List (List Key × Addr × Value),
   Paired (fun (p:List Key × V) (q:List Key × Addr × Value)=>p.1=q.1/\H q.2.1=some (.tup (p.1.map kV))/\RelV p.2 q.2.2) kvs xs/\
   ∃ o es ep,h.get? a=some o/\o.ExactDict/\o.data=.dict es ep/\es.toList=xs.map (entryOfKey (tupleKind (z8C P w)))/\(xs.map (·.1)).Nodup
 | .set S n=>h.SetOf (intKind P w) a S n
 | .ins C dx fs=>H dx=some (.own a)/\fs.length <= 1000/\dx ≠ a/\h.get? a=some (PySem.W.instObj C dx)/\
   ∃ mA,h.Ns1 dx mA/\(∀ f,zkk (fs.lookup f) (mA f))/\PySem.Within mA (fs.map (·.1))
 | .own _=>∃ o,h.get? a=some o
 | .xd fs=>∃ mA,h.Ns1 a mA/\∀ f,zkk (fs.lookup f) (mA f)
 | .rng lo hi=>∃ t u v,h.get? a=some { cls:=.type "range",data:=.fields #[.int lo t,.int hi u,.int 1 v] }
 | .frz o u=>h.get? a=some o/\ObjOk H h a u
 | .tbl ps=>h.get? a=some { cls:=.none,data:=.fields ps }
 | .met f x=>h.get? a=some (PySem.W.methodObj (.ref f) (.ref x))
 | .ext φ=>φ h/\(∃ o,h.get? a=some o)/\∀ h1 h2:Heap,φ h1->(∀ o,h1.get? a=some o->h2.get? a=some o)->φ h2
def HOk (H:Hp) (h:Heap):Prop:=∀ a o,H a=some o->ObjOk P w H h a o
end
section
variable {P:Program} {w:World} {H H':Hp} {h h':Heap} {a:Addr} {o:HO}
theorem ObjOk.lt (x:ObjOk P w H h a o):a < h.objs.size:=by
 cases o with
 | lst xs=>obtain ⟨_,_,_,_,e⟩:=x;exact Heap.lt_size e
 | tup xs=>obtain ⟨_,_,_,p⟩:=x;exact (IsTupD.tup p).lt
 | dK kvs=>obtain ⟨_,_,_,_,o,_,_,e,_⟩:=x;exact Heap.lt_size e
 | dT kvs=>obtain ⟨_,_,_,_,o,_,_,e,_⟩:=x;exact Heap.lt_size e
 | set S n=>obtain ⟨o,_,_,_,e,_⟩:=x;exact Heap.lt_size e
 | ins C dx fs=>obtain ⟨_,_,_,e,_⟩:=x;exact Heap.lt_size e
 | own y=>obtain ⟨_,e⟩:=x;exact Heap.lt_size e
 | xd fs=>obtain ⟨_,⟨_,_,_,e,_⟩,_⟩:=x;exact Heap.lt_size e
 | rng lo hi=>obtain ⟨_,_,_,e⟩:=x;exact Heap.lt_size e
 | frz ob u=>obtain ⟨e,_⟩:=x;exact Heap.lt_size e
 | tbl ps=>exact Heap.lt_size (show h.get? a=some _ from x)
 | met f y=>exact Heap.lt_size (show h.get? a=some _ from x)
 | ext φ=>obtain ⟨_,⟨_,e⟩,_⟩:=x;exact Heap.lt_size e
theorem Paired.mapP {α β:Type} {F G:α->β->Prop}:∀ {l₁:List α} {l₂:List β},Paired F l₁ l₂->(∀ a b,F a b->G a b)->Paired G l₁ l₂
 | _,_,.nil,_=>.nil
 | _,_,.cons r t,f=>.cons (f _ _ r) (Paired.mapP t f)
theorem Paired.imp' {α β:Type} {F G:α->β->Prop} (f:∀ a b,F a b->G a b) {l₁:List α} {l₂:List β} (r:Paired F l₁ l₂):Paired G l₁ l₂:=Paired.mapP r f
theorem ObjOk.stay (x:ObjOk P w H h a o) (k:∀ b u,(b=a \/ H b=some (.own a))->h.get? b=some u->h'.get? b=some u)
  (ho:∀ b,H b=some (.own a)->H' b=some (.own a)) (ht:∀ b xs,H b=some (.tup xs)->H' b=some (.tup xs)):ObjOk P w H' h' a o:=by
 induction o with
 | lst xs=>obtain ⟨z,its,n,r,e⟩:=x;exact ⟨z,its,n,r,k _ _ (.inl rfl) e⟩
 | tup xs=>obtain ⟨z,its,r,ob,e,c⟩:=x;exact ⟨z,its,r,ob,k _ _ (.inl rfl) e,c⟩
 | dK kvs=>obtain ⟨z,y,vs,r,ob,es,ep,e,c⟩:=x;exact ⟨z,y,vs,r,ob,es,ep,k _ _ (.inl rfl) e,c⟩
 | dT kvs=>
  obtain ⟨z,y,xs,r,ob,es,ep,e,c⟩:=x
  exact ⟨z,y,xs,Paired.mapP r fun p q z=>⟨z.1,ht _ _ z.2.1,z.2.2⟩,ob,es,ep,k _ _ (.inl rfl) e,c⟩
 | set S n=>obtain ⟨ob,es,ep,t,e,c⟩:=x;exact ⟨ob,es,ep,t,k _ _ (.inl rfl) e,c⟩
 | ins C dx fs=>
  obtain ⟨d,z,ne,e,mA,⟨od,es,ep,e2,c⟩,r⟩:=x
  exact ⟨ho _ d,z,ne,k _ _ (.inl rfl) e,mA,⟨od,es,ep,k _ _ (.inr d) e2,c⟩,r⟩
 | own y=>obtain ⟨ob,e⟩:=x;exact ⟨ob,k _ _ (.inl rfl) e⟩
 | xd fs=>obtain ⟨mA,⟨od,es,ep,e,c⟩,r⟩:=x;exact ⟨mA,⟨od,es,ep,k _ _ (.inl rfl) e,c⟩,r⟩
 | rng lo hi=>obtain ⟨t,u,v,e⟩:=x;exact ⟨t,u,v,k _ _ (.inl rfl) e⟩
 | frz ob u ih=>obtain ⟨e,q⟩:=x;exact ⟨k _ _ (.inl rfl) e,ih q⟩
 | tbl ps=>
  have e:h.get? a=some { cls:=.none,data:=.fields ps }:=x
  show h'.get? a=some { cls:=.none,data:=.fields ps }
  exact k a _ (.inl rfl) e
 | met f y=>
  have e:h.get? a=some (PySem.W.methodObj (.ref f) (.ref y)):=x
  show h'.get? a=some (PySem.W.methodObj (.ref f) (.ref y))
  exact k a _ (.inl rfl) e
 | ext φ=>obtain ⟨p,⟨o,e⟩,st⟩:=x;exact ⟨st _ _ p fun o q=>k _ _ (.inl rfl) q,⟨o,k _ _ (.inl rfl) e⟩,st⟩
theorem HOk.lt (x:HOk P w H h) (e:H a=some o):a < h.objs.size:=(x a o e).lt
theorem HOk.fresh (x:HOk P w H h) (e:h.objs.size <= a):H a=none:=by
 cases q:H a with
 | none=>rfl
 | some u=>exact absurd (Nat.lt_of_lt_of_le (x.lt q) e) (Nat.lt_irrefl _)
theorem HOk.kept (x:HOk P w H h) (k:∀ b u,h.get? b=some u->h'.get? b=some u):HOk P w H h':=fun a o e=>
 (x a o e).stay (fun b u _ q=>k b u q) (fun _ q=>q) fun _ _ q=>q
theorem HOk.laid (x:HOk P w H h) (k:∀ b u,h.get? b=some u->h'.get? b=some u) (hp:h.objs.size <= a) (new:ObjOk P w (upd H a o) h' a o):HOk P w (upd H a o) h':=fun b u e=>by
 have hn:=x.fresh hp
 by_cases hb:b=a
 ·subst hb;rw [z1z] at e;cases e;exact new
 ·rw [z1q hb] at e
  exact (x b u e).stay (fun c v _ q=>k c v q) (fun c q=>by rw [z1q (z1r q hn)];exact q) fun c xs q=>by rw [z1q (z1r q hn)];exact q
end
def Rd (H:Hp) (a:Addr) (u:HO):Prop:=H a=some u \/ ∃ o,H a=some (.frz o u)
theorem Rd.ok {P:Program} {w:World} {H:Hp} {h:Heap} {a:Addr} {u:HO} (r:Rd H a u) (x:HOk P w H h):ObjOk P w H h a u:=by
 rcases r with r|⟨o,r⟩
 ·exact x a u r
 ·obtain ⟨_,q⟩:=x a _ r
  exact q
def Mut:Option HO->Prop
 | some (.lst _)=>True
 | some (.dK _)=>True
 | some (.dT _)=>True
 | some (.set _ _)=>True
 | some (.ins _ _ _)=>True
 | some (.ext _)=>True
 | _=>False
section
variable {P:Program} {w:World} {H:Hp} {h h':Heap} {x e:Addr} {o':HO}
theorem HOk.write (ok:HOk P w H h) (mu:Mut (H x)) (he:e=x \/ H e=some (.own x)) (k:∀ b u,b ≠ e->h.get? b=some u->h'.get? b=some u) (heo:∃ u,h'.get? e=some u)
  (new:ObjOk P w (upd H x o') h' x o'):HOk P w (upd H x o') h':=fun b u q=>by
 have nown:∀ c y,H c=some (.own y)->c ≠ x:=fun c y r z=>by subst z;rw [r] at mu;exact mu
 have ntup:∀ c xs,H c=some (.tup xs)->c ≠ x:=fun c xs r z=>by subst z;rw [r] at mu;exact mu
 by_cases hb:b=x
 ·subst hb;rw [z1z] at q;cases q;exact new
 ·rw [z1q hb] at q
  by_cases hbe:b=e
  ·have q':H b=some (.own x):=by
    rcases he with z|z
    ·exact absurd (hbe.trans z) hb
    ·rw [hbe];exact z
   rw [q] at q';cases q'
   obtain ⟨v,hv⟩:=heo
   exact ⟨v,by rw [hbe];exact hv⟩
  ·refine (ok b u q).stay (fun c v hc r=>k c v ?_ r) (fun c r=>by rw [z1q (nown c b r)];exact r) fun c xs r=>by rw [z1q (ntup c xs r)];exact r
   rcases hc with rfl|hc
   ·exact hbe
   ·rintro rfl
    rcases he with z|z
    ·exact nown c b hc z
    ·rw [hc] at z;cases z;exact hb rfl
end
structure Un (fs ex:List Addr) (H H':Hp) (h h':Heap):Prop where
 keep:∀ b o,h.get? b=some o->H b=none->b ∉ fs->b ∉ ex->h'.get? b=some o
 slot:∀ b o,h.get? b=some o->H b=none->b ∈ fs->b ∉ ex->∃ sl,h'.get? b=some { o with slots:=sl }
 free:∀ b o,h.get? b=some o->H b=none->b ∉ ex->H' b=none
 there:∀ b o,h.get? b=some o->b ∉ ex->∃ o',h'.get? b=some o'
 tups:∀ b xs,H b=some (.tup xs)->H' b=some (.tup xs)
 frzs:∀ b o u,H b=some (.frz o u)->H' b=some (.frz o u)
 tbls:∀ b ps,H b=some (.tbl ps)->∃ more,H' b=some (.tbl (ps ++ more))
section
variable {fs ex:List Addr} {H H1 H2:Hp} {h h1 h2 h':Heap} {a x e:Addr} {o:HO}
theorem Un.any (u:Un fs ex H H1 h h1) {b:Addr} {ob:Obj} (q:h.get? b=some ob) (n:H b=none) (hx:b ∉ ex):∃ sl,h1.get? b=some { ob with slots:=sl }:=by
 by_cases hb:b ∈ fs
 ·exact u.slot b ob q n hb hx
 ·exact ⟨ob.slots,u.keep b ob q n hb hx⟩
theorem Un.trans (a:Un fs ex H H1 h h1) (b:Un fs ex H1 H2 h1 h2):Un fs ex H H2 h h2 where
 keep:=fun c ob q n hc hx=>b.keep c ob (a.keep c ob q n hc hx) (a.free c ob q n hx) hc hx
 slot:=fun c ob q n hc hx=>by
  obtain ⟨sl,e1⟩:=a.slot c ob q n hc hx
  obtain ⟨sl',e2⟩:=b.slot c _ e1 (a.free c ob q n hx) hc hx
  exact ⟨sl',e2⟩
 free:=fun c ob q n hx=>by
  obtain ⟨o',e1⟩:=a.there c ob q hx
  exact b.free c o' e1 (a.free c ob q n hx) hx
 there:=fun c ob q hx=>by
  obtain ⟨o',e1⟩:=a.there c ob q hx
  exact b.there c o' e1 hx
 tups:=fun c xs q=>b.tups c xs (a.tups c xs q)
 frzs:=fun c ob xs q=>b.frzs c ob xs (a.frzs c ob xs q)
 tbls:=fun c ps q=>by
  obtain ⟨m1,e1⟩:=a.tbls c ps q
  obtain ⟨m2,e2⟩:=b.tbls c _ e1
  exact ⟨m1 ++ m2,by rw [e2,Array.append_assoc]⟩
theorem Un.kept (k:∀ b u,h.get? b=some u->h'.get? b=some u):Un fs ex H H h h':=
 ⟨fun b ob q _ _ _=>k b ob q,fun b ob q _ _ _=>⟨ob.slots,k b ob q⟩,fun _ _ _ n _=>n,fun b ob q _=>⟨ob,k b ob q⟩,fun _ _ q=>q,fun _ _ _ q=>q,fun _ ps q=>⟨#[],by rw [q];simp⟩⟩
theorem Un.refl:Un fs ex H H h h:=Un.kept fun _ _ q=>q
theorem Un.laid (k:∀ b u,h.get? b=some u->h'.get? b=some u) (hp:h.objs.size <= a) (hn:H a=none):Un fs ex H (upd H a o) h h' where
 keep:=fun b u q _ _ _=>k b u q
 slot:=fun b u q _ _ _=>⟨u.slots,k b u q⟩
 free:=fun b u q n _=>by rw [z1q (Nat.ne_of_lt (Nat.lt_of_lt_of_le (Heap.lt_size q) hp))];exact n
 there:=fun b u q _=>⟨u,k b u q⟩
 tups:=fun b xs q=>by rw [z1q (z1r q hn)];exact q
 frzs:=fun b u xs q=>by rw [z1q (z1r q hn)];exact q
 tbls:=fun b ps q=>⟨#[],by rw [z1q (z1r q hn),q];simp⟩
theorem Un.write (mu:Mut (H x)) (he:e=x \/ H e=some (.own x)) (k:∀ b u,b ≠ e->h.get? b=some u->h'.get? b=some u) (heo:∃ u,h'.get? e=some u):Un fs ex H (upd H x o) h h':=by
 have hx:∀ b,H b=none->b ≠ x:=fun b n z=>by subst z;rw [n] at mu;exact mu
 have hb:∀ b,H b=none->b ≠ e:=fun b n z=>by
  subst z
  rcases he with r|r
  ·exact hx b n r
  ·rw [n] at r;cases r
 have hm:∀ b u,H b=some u->¬ Mut (some u)->b ≠ x:=fun b u q nm z=>by subst z;rw [q] at mu;exact nm mu
 refine ⟨fun b u q n _ _=>k b u (hb b n) q,fun b u q n _ _=>⟨u.slots,k b u (hb b n) q⟩,fun b u q n _=>by rw [z1q (hx b n)];exact n,fun b u q _=>?_,
  fun b xs q=>by rw [z1q (hm b _ q fun z=>z)];exact q,fun b u xs q=>by rw [z1q (hm b _ q fun z=>z)];exact q,fun b ps q=>⟨#[],by rw [z1q (hm b _ q fun z=>z),q];simp⟩⟩
 by_cases hbe:b=e
 ·subst hbe;exact heo
 ·exact ⟨u,k b u hbe q⟩
end
def trk (h:Heap) (H:Hp):List Addr:=(List.range h.objs.size).filter fun a=>(H a).isSome
def zcM (h:Heap) (H:Hp):Heap:=PySem.W.hideAll h (trk h H)
theorem zb8 (h:Heap) (H:Hp):(zcM h H).objs.size=h.objs.size:=PySem.W.hideAll_size _ _
theorem ze8 {h:Heap} {H:Hp} {b:Addr} {o:Obj} (e:h.get? b=some o) (n:H b=none):(zcM h H).get? b=some o:=
 PySem.W.hideAll_get _ e fun hm=>by
  have q:(H b).isSome=true:=(List.mem_filter.mp hm).2
  rw [n] at q;simp at q
theorem zfO {h:Heap} {H:Hp} {b:Addr} {o:Obj} (e:(zcM h H).get? b=some o):h.get? b=some o/\H b=none:=by
 have e':h.get? b=some o:=PySem.W.of_hideAll (trk h H) e
 refine ⟨e',?_⟩
 cases q:H b with
 | none=>rfl
 | some x=>
  have hm:b ∈ trk h H:=List.mem_filter.mpr ⟨List.mem_range.mpr (Heap.lt_size e'),by simp [q]⟩
  have z:(zcM h H).get? b=none:=PySem.W.hideAll_none (trk h H) hm
  rw [z] at e;cases e
def zg0 (g h:Heap) (L:Addr):List (Addr × Obj):=(List.range h.objs.size).filterMap fun a=>if a=L \/ (g.get? a).isSome=true then none else (h.get? a).map fun o=>(a,o)
def z2C (g h:Heap) (L d:Addr):List (Addr × Obj):=(zg0 g h L).filter fun p=>decide (p.1 ≠ d)
structure Mod (K:PySem.W.Frag) (mg:Str->Option Value) (base:Heap):Prop where
 kin:K.In base
 glob:base.Ns mainGlobals mg
 blt:∃ mb,base.Ns builtinsNs mb/\∀ x:Str,x ≠ "__name__"->mb x=bootBuiltins x
 nolimit:base.NoLimit
structure Cx where
 prog:Program
 w:World
 K:PySem.W.Frag
 mg:Str->Option Value
 base:Heap
 A:Around
 N:List Str
 s₀:Shared
 H₀:Hp
 env:Env
 outer:List Env
 stack:List Env
 ex:List Addr
 fn:Str->Bool
 calm:Bool
 pn:List (Addr × Obj)
 xe:Value->Shared->Prop
def frs (l:List Env):List Addr:=l.filterMap (·.frame)
abbrev Cx.fs (X:Cx):List Addr:=frs X.outer
def Vis (sc:Scope) (x:Str):Prop:=sc.names.lookup x=some .local \/ sc.names.lookup x=some .cell \/ sc.names.lookup x=some .free
def Loc (sc:Scope) (x:Str):Prop:=sc.names.lookup x=some .local \/ sc.names.lookup x=some .cell
def zkr (env:Env) (h:Heap) (m:Str->Option Value) (x:Str) (u:Value):Prop:=
 (env.kindOf x=some .local/\m x=some u) \/ ((env.kindOf x=some .cell \/ env.kindOf x=some .free)/\∃ c,env.cells.lookup x=some c/\h.IsCell c (some u))
structure Cx.Ok (X:Cx):Prop where
 mod:Mod X.K X.mg X.base
 kind:X.env.scope.kind=.function
 glob:X.env.globals=mainGlobals
 blt:X.env.builtins=builtinsNs
 above:X.s₀.heap.objs.size <= X.env.locals
 inj:∀ x y c,X.env.cells.lookup x=some c->X.env.cells.lookup y=some c->x=y
 has:∀ x,(X.env.kindOf x=some .cell \/ X.env.kindOf x=some .free)->∃ c,X.env.cells.lookup x=some c
 cab:∀ x c,X.fn x=true->X.env.cells.lookup x=some c->X.s₀.heap.objs.size <= c
 hd:X.calm=true->X.A.handled=none
 frames:X.A.frames=some X.stack
 stk:X.stack=X.outer \/ (X.stack=X.env :: X.outer/\X.env.frame=some X.env.locals)
 exf:∀ b ∈ X.ex,b ≠ X.env.locals/\∀ x c,X.env.cells.lookup x=some c->c ≠ b
 bs:∀ b o,X.base.get? b=some o->X.s₀.heap.get? b=some o/\X.H₀ b=none
 bsz:X.base.objs.size <= X.s₀.heap.objs.size
 noex:∀ b o,X.base.get? b=some o->b ∉ X.ex
 exfs:∀ b ∈ X.ex,b ∉ X.fs
 funs:X.s₀.heap.FunFrames X.base X.outer
 frf:∀ b ∈ X.fs,X.H₀ b=none
structure Inv (X:Cx) (pins:List (Addr × Obj)) (σ:List (Option V)) (H:Hp) (s:Shared):Prop where
 ok:X.Ok
 os:s.os=X.s₀.os
 bare:AllBare s.gens
 base:Un X.fs X.ex X.H₀ H X.s₀.heap s.heap
 loc:∃ m,s.heap.Ns X.env.locals m/\∀ (i:Nat) (x:Str) (v:V),X.N[i]?=some x->σ[i]?=some (some v)->Vis X.env.scope x->∃ u,RelV v u/\zkr X.env s.heap m x u
 cell:∀ x c,X.env.cells.lookup x=some c->∃ v,s.heap.IsCell c v
 free:H X.env.locals=none
 freeC:∀ x c,X.env.cells.lookup x=some c->H c=none
 pin:∀ p ∈ X.pn ++ pins,s.heap.get? p.1=some p.2/\H p.1=none/\p.1 ≠ X.env.locals/\p.1 ∉ X.fs/\∀ v,p.2.data ≠ .cell v
 hok:HOk X.prog X.w H s.heap
 len:σ.length=X.N.length
 tk:0 < s.toks
section
variable {X:Cx} {pins:List (Addr × Obj)} {σ:List (Option V)} {H H':Hp} {s:Shared} {h':Heap}
theorem Cx.Ok.nofr (ok:X.Ok) {b:Addr} {o:Obj} (e:X.base.get? b=some o):b ∉ X.fs:=fun hb=>by
 have:=(ok.funs.mem hb).1
 rw [e] at this;cases this
theorem Inv.bs (I:Inv X pins σ H s):∀ b o,X.base.get? b=some o->s.heap.get? b=some o/\H b=none:=fun b o e=>
 ⟨I.base.keep b o (I.ok.bs b o e).1 (I.ok.bs b o e).2 (I.ok.nofr e) (I.ok.noex b o e),I.base.free b o (I.ok.bs b o e).1 (I.ok.bs b o e).2 (I.ok.noex b o e)⟩
theorem Inv.bk (I:Inv X pins σ H s):∀ b o,X.base.get? b=some o->s.heap.get? b=some o:=fun b o e=>(I.bs b o e).1
theorem Inv.mod (I:Inv X pins σ H s):Mod X.K X.mg X.base:=I.ok.mod
theorem Inv.kIn (I:Inv X pins σ H s):X.K.In s.heap:=I.ok.mod.kin.keeps I.bk
theorem Inv.nolimit (I:Inv X pins σ H s):s.heap.NoLimit:=I.ok.mod.nolimit.keeps I.bk
theorem Inv.fr (I:Inv X pins σ H s):∃ m,Fr X.base X.env.locals s.heap m:=
 let ⟨m,hn,_⟩:=I.loc
 ⟨m,hn,I.bk,Nat.le_trans I.ok.bsz I.ok.above⟩
theorem Inv.lt (I:Inv X pins σ H s):X.env.locals < s.heap.objs.size:=let ⟨_,hn,_⟩:=I.loc;hn.lt
theorem Inv.sz (I:Inv X pins σ H s):X.s₀.heap.objs.size <= s.heap.objs.size:=Nat.le_trans I.ok.above (Nat.le_of_lt I.lt)
theorem Inv.nofs (I:Inv X pins σ H s) {a:Addr} (h:s.heap.objs.size <= a):a ∉ X.fs:=fun hb=>by
 obtain ⟨_,o,ho,_⟩:=I.ok.funs.mem hb
 exact absurd (Nat.lt_of_lt_of_le (Heap.lt_size ho) (Nat.le_trans I.sz h)) (Nat.lt_irrefl _)
theorem Inv.cne (I:Inv X pins σ H s):∀ x c,X.env.cells.lookup x=some c->c ≠ X.env.locals:=fun x c e z=>by
 obtain ⟨v,o,ho,hd⟩:=I.cell x c e
 obtain ⟨m,⟨o',es,ep,ho',hd',_⟩,_⟩:=I.loc
 rw [z,ho'] at ho;cases ho;rw [hd'] at hd;cases hd
theorem Inv.funs (I:Inv X pins σ H s):s.heap.FunFrames X.base X.outer:=by
 have all:∀ (l:List Env),(∀ b ∈ frs l,b ∈ X.fs)->X.s₀.heap.FunFrames X.base l->s.heap.FunFrames X.base l:=by
  intro l
  induction l with
  | nil=>intro _ _;trivial
  | cons env r ih=>
   intro hs hl
   obtain ⟨hk,⟨L,o,hf,hn,ho,hd⟩,hr⟩:=hl
   have hL:L ∈ X.fs:=hs L (by unfold frs;rw [List.filterMap_cons,hf];exact List.mem_cons_self)
   obtain ⟨sl,e⟩:=I.base.slot L o ho (I.ok.frf L hL) hL fun z=>I.ok.exfs L z hL
   exact ⟨hk,⟨L,_,hf,hn,e,hd⟩,ih (fun b hb=>hs b (by unfold frs;rw [List.filterMap_cons,hf];exact List.mem_cons_of_mem _ hb)) hr⟩
 exact all X.outer (fun _ hb=>hb) I.ok.funs
theorem Inv.stack (I:Inv X pins σ H s):s.heap.FunFrames X.base X.stack:=by
 rcases I.ok.stk with e|⟨e,hf⟩
 ·rw [e];exact I.funs
 ·rw [e]
  obtain ⟨m,hn,_⟩:=I.loc
  refine .cons (by rw [I.ok.kind];decide) hf hn ?_ I.funs
  exact Heap.get?_none_of_le (Nat.le_trans I.ok.bsz I.ok.above)
theorem Inv.stkSub (I:Inv X pins σ H s):∀ b ∈ frs X.stack,b ∈ X.env.locals :: X.fs:=fun b hb=>by
 rcases I.ok.stk with e|⟨e,hf⟩
 ·rw [e] at hb;exact List.mem_cons_of_mem _ hb
 ·rw [e] at hb
  unfold frs at hb
  rw [List.filterMap_cons,hf] at hb
  exact hb
theorem Inv.stkFree (I:Inv X pins σ H s):∀ b ∈ frs X.stack,H b=none:=fun b hb=>by
 rcases List.mem_cons.mp (I.stkSub b hb) with e|hb
 ·rw [e];exact I.free
 ·obtain ⟨_,o,ho,_⟩:=I.ok.funs.mem hb
  exact I.base.free b o ho (I.ok.frf b hb) fun z=>I.ok.exfs b z hb
theorem Inv.step {g':Array GenState} {t':Nat} {d':Drawn} {ch:List Addr} (I:Inv X pins σ H s)
  (hch:∀ b ∈ ch,(b ∈ X.ex \/ X.s₀.heap.objs.size <= b)/\b ≠ X.env.locals/\(∀ x c,X.env.cells.lookup x=some c->c ≠ b)/\∀ p ∈ X.pn ++ pins,p.1 ≠ b)
  (keep:∀ b o,b ≠ X.env.locals->b ∉ X.fs->b ∉ ch->s.heap.get? b=some o->H b=none->h'.get? b=some o)
  (slot:∀ b o,b ≠ X.env.locals->b ∈ X.fs->b ∉ ch->s.heap.get? b=some o->H b=none->∃ sl,h'.get? b=some { o with slots:=sl }) (free:∀ b o,b ∉ ch->s.heap.get? b=some o->H b=none->H' b=none)
  (there:∀ b o,b ∉ ch->s.heap.get? b=some o->∃ o',h'.get? b=some o')
  (tups:∀ b xs,H b=some (.tup xs)->H' b=some (.tup xs)) (frzs:∀ b o u,H b=some (.frz o u)->H' b=some (.frz o u)) (tbls:∀ b ps,H b=some (.tbl ps)->∃ more,H' b=some (.tbl (ps ++ more)))
  (ns:∀ m,s.heap.Ns X.env.locals m->h'.Ns X.env.locals m) (hok:HOk X.prog X.w H' h') (hg:AllBare g') (ht:0 < t'):
  Inv X pins σ H' { s with heap:=h',gens:=g',drawn:=d',toks:=t' }:=by
 have neL:∀ b o,X.s₀.heap.get? b=some o->b ≠ X.env.locals:=fun b o e=>Nat.ne_of_lt (Nat.lt_of_lt_of_le (Heap.lt_size e) I.ok.above)
 have neC:∀ b o,X.s₀.heap.get? b=some o->b ∉ X.ex->b ∉ ch:=fun b o e hx hb=>by
  rcases (hch b hb).1 with z|z
  ·exact hx z
  ·exact absurd (Nat.lt_of_lt_of_le (Heap.lt_size e) z) (Nat.lt_irrefl _)
 have cellK:∀ x c,X.env.cells.lookup x=some c->∀ v,s.heap.IsCell c v->h'.IsCell c v:=fun x c e v ⟨o,ho,hd⟩=>by
  have nch:c ∉ ch:=fun z=>(hch c z).2.2.1 x c e rfl
  by_cases hc:c ∈ X.fs
  ·obtain ⟨sl,q⟩:=slot c o (I.cne x c e) hc nch ho (I.freeC x c e)
   exact ⟨_,q,hd⟩
  ·exact ⟨o,keep c o (I.cne x c e) hc nch ho (I.freeC x c e),hd⟩
 refine ⟨I.ok,I.os,hg,⟨fun b o e n hb hx=>?_,fun b o e n hb hx=>?_,fun b o e n hx=>?_,fun b o e hx=>?_,fun b xs e=>tups b xs (I.base.tups b xs e),fun b o xs e=>frzs b o xs (I.base.frzs b o xs e),fun b ps e=>?_⟩,?_,fun x c e=>?_,?_,fun x c e=>?_,fun p hp=>?_,hok,I.len,ht⟩
 ·exact keep b o (neL b o e) hb (neC b o e hx) (I.base.keep b o e n hb hx) (I.base.free b o e n hx)
 ·obtain ⟨sl,e1⟩:=I.base.slot b o e n hb hx
  obtain ⟨sl',e2⟩:=slot b _ (neL b o e) hb (neC b o e hx) e1 (I.base.free b o e n hx)
  exact ⟨sl',e2⟩
 ·obtain ⟨o',e1⟩:=I.base.there b o e hx
  exact free b o' (neC b o e hx) e1 (I.base.free b o e n hx)
 ·obtain ⟨o',e1⟩:=I.base.there b o e hx
  exact there b o' (neC b o e hx) e1
 ·obtain ⟨m1,e1⟩:=I.base.tbls b ps e
  obtain ⟨m2,e2⟩:=tbls b _ e1
  exact ⟨m1 ++ m2,by rw [e2,Array.append_assoc]⟩
 ·obtain ⟨m,hn,hl⟩:=I.loc
  refine ⟨m,ns m hn,fun i x v e1 e2 e3=>?_⟩
  obtain ⟨u,r,l⟩:=hl i x v e1 e2 e3
  refine ⟨u,r,?_⟩
  rcases l with l|⟨k,c,e,z⟩
  ·exact .inl l
  ·exact .inr ⟨k,c,e,cellK x c e _ z⟩
 ·obtain ⟨v,z⟩:=I.cell x c e
  exact ⟨v,cellK x c e v z⟩
 ·obtain ⟨m,⟨o,_,_,ho,_⟩,_⟩:=I.loc
  exact free _ o (fun z=>(hch _ z).2.1 rfl) ho I.free
 ·obtain ⟨v,o,ho,hd⟩:=I.cell x c e
  exact free c o (fun z=>(hch c z).2.2.1 x c e rfl) ho (I.freeC x c e)
 ·obtain ⟨e,n,ne,nf,d⟩:=I.pin p hp
  have nch:p.1 ∉ ch:=fun z=>(hch p.1 z).2.2.2 p hp rfl
  exact ⟨keep p.1 p.2 ne nf nch e n,free p.1 p.2 nch e n,ne,nf,d⟩
theorem Inv.un {t':Nat} (I:Inv X pins σ H s) (u:Un X.fs [] H H' s.heap h') (hok:HOk X.prog X.w H' h') (ht:0 < t':=by first|exact Nat.succ_pos _|exact Inv.tk ‹_›|assumption|omega):Inv X pins σ H' { s with heap:=h',toks:=t' }:=by
 obtain ⟨m,⟨o,es,ep,ho,r⟩,_⟩:=id I.loc
 obtain ⟨sl,hL⟩:=u.any ho I.free (by simp)
 exact I.step (g':=s.gens) (d':=s.drawn) (ch:=[]) (fun _ z=>nomatch z) (fun b o _ hb _ e n=>u.keep b o e n hb (by simp)) (fun b o _ hb _ e n=>u.slot b o e n hb (by simp)) (fun b o _ e n=>u.free b o e n (by simp)) (fun b o _ e=>u.there b o e (by simp)) u.tups u.frzs u.tbls (fun m' hm=>by
  obtain ⟨o',es',ep',ho',r'⟩:=hm
  rw [ho] at ho';cases ho'
  exact ⟨_,es',ep',hL,r'⟩) hok I.bare ht
theorem Inv.call {g':Array GenState} {t':Nat} {d':Drawn} {ch:List Addr} (I:Inv X pins σ H s) (u:Un (frs X.stack) ch H H' s.heap h') (hok:HOk X.prog X.w H' h') (hg:AllBare g')
  (hch:∀ b ∈ ch,(b ∈ X.ex \/ X.s₀.heap.objs.size <= b)/\b ≠ X.env.locals/\(∀ x c,X.env.cells.lookup x=some c->c ≠ b)/\∀ p ∈ X.pn ++ pins,p.1 ≠ b) (ht:0 < t':=by first|exact Nat.succ_pos _|exact Inv.tk ‹_›|assumption|omega):
  Inv X pins σ H' { s with heap:=h',gens:=g',drawn:=d',toks:=t' }:=by
 obtain ⟨m,⟨o,es,ep,ho,r⟩,_⟩:=id I.loc
 obtain ⟨sl,hL⟩:=u.any ho I.free fun z=>(hch _ z).2.1 rfl
 exact I.step (ch:=ch) hch (fun b o hL hb hc e n=>u.keep b o e n (fun z=>(List.mem_cons.mp (I.stkSub b z)).elim hL hb) hc) (fun b o _ _ hc e n=>u.any e n hc) (fun b o hc e n=>u.free b o e n hc) (fun b o hc e=>u.there b o e hc) u.tups u.frzs u.tbls (fun m' hm=>by
  obtain ⟨o',es',ep',ho',r'⟩:=hm
  rw [ho] at ho';cases ho'
  exact ⟨_,es',ep',hL,r'⟩) hok hg ht
theorem Inv.turned {t':Nat} {it:Addr} (I:Inv X pins σ H s) (k:∀ b o,b ≠ it->s.heap.get? b=some o->h'.get? b=some o) (hn:H it=none) (hL:it ≠ X.env.locals)
  (h1:it ∈ X.ex \/ X.s₀.heap.objs.size <= it) (h2:∀ x c,X.env.cells.lookup x=some c->c ≠ it) (h3:∀ p ∈ X.pn ++ pins,p.1 ≠ it) (ht:0 < t':=by first|exact Nat.succ_pos _|exact Inv.tk ‹_›|assumption|omega):Inv X pins σ H { s with heap:=h',toks:=t' }:=by
 have nit:∀ b u,H b=some u->b ≠ it:=fun b u e z=>by rw [z,hn] at e;cases e
 refine I.step (g':=s.gens) (d':=s.drawn) (ch:=[it]) (fun b hb=>?_) (fun b o _ _ hc e _=>k b o (fun z=>hc (by simp [z])) e) (fun b o _ _ hc e _=>⟨o.slots,k b o (fun z=>hc (by simp [z])) e⟩) (fun _ _ _ _ n=>n)
  (fun b o hc e=>⟨o,k b o (fun z=>hc (by simp [z])) e⟩) (fun _ _ e=>e) (fun _ _ _ e=>e) (fun b ps e=>⟨#[],by rw [e];simp⟩) (fun m hm=>?_) (fun b u e=>?_) I.bare ht
 ·have e:b=it:=by simpa using hb
  subst e
  exact ⟨h1,hL,h2,h3⟩
 ·obtain ⟨o,es,ep,ho,r⟩:=hm
  exact ⟨o,es,ep,k _ o (Ne.symm hL) ho,r⟩
 ·refine (I.hok b u e).stay (fun c v hc q=>k c v ?_ q) (fun _ q=>q) fun _ _ q=>q
  rcases hc with z|z
  ·rw [z];exact nit b u e
  ·exact nit c _ z
theorem Inv.tok (I:Inv X pins σ H s) (t:Nat) (ht:0 < t:=by first|exact Nat.succ_pos _|exact Inv.tk ‹_›|assumption|omega):Inv X pins σ H { s with toks:=t }:=I.un (h':=s.heap) (t':=t) Un.refl I.hok
theorem Inv.kept {t':Nat} (I:Inv X pins σ H s) (k:∀ b u,s.heap.get? b=some u->h'.get? b=some u) (ht:0 < t':=by first|exact Nat.succ_pos _|exact Inv.tk ‹_›|assumption|omega):Inv X pins σ H { s with heap:=h',toks:=t' }:=I.un (Un.kept k) (I.hok.kept k)
theorem Inv.laid {a:Addr} {o:HO} {t':Nat} (I:Inv X pins σ H s) (k:∀ b u,s.heap.get? b=some u->h'.get? b=some u) (hp:s.heap.objs.size <= a) (new:ObjOk X.prog X.w (upd H a o) h' a o) (ht:0 < t':=by first|exact Nat.succ_pos _|exact Inv.tk ‹_›|assumption|omega):
  Inv X pins σ (upd H a o) { s with heap:=h',toks:=t' }:=I.un (Un.laid k hp (I.hok.fresh hp)) (I.hok.laid k hp new)
theorem Inv.write {x e:Addr} {o:HO} {t':Nat} (I:Inv X pins σ H s) (mu:Mut (H x)) (he:e=x \/ H e=some (.own x)) (k:∀ b u,b ≠ e->s.heap.get? b=some u->h'.get? b=some u) (heo:∃ u,h'.get? e=some u)
  (new:ObjOk X.prog X.w (upd H x o) h' x o) (ht:0 < t':=by first|exact Nat.succ_pos _|exact Inv.tk ‹_›|assumption|omega):Inv X pins σ (upd H x o) { s with heap:=h',toks:=t' }:=I.un (Un.write mu he k heo) (I.hok.write mu he k heo new)
theorem Inv.weak {σ':List (Option V)} (I:Inv X pins σ H s) (hl:σ'.length=σ.length) (w:∀ (i:Nat) v,σ'[i]?=some (some v)->σ[i]?=some (some v)):Inv X pins σ' H s:=
 ⟨I.ok,I.os,I.bare,I.base,let ⟨m,hn,hl'⟩:=I.loc;⟨m,hn,fun i x v e1 e2 e3=>hl' i x v e1 (w i v e2) e3⟩,I.cell,I.free,I.freeC,I.pin,I.hok,hl.trans I.len,I.tk⟩
theorem Inv.pins_of {pins':List (Addr × Obj)} (I:Inv X pins σ H s) (h:∀ p ∈ pins',s.heap.get? p.1=some p.2/\H p.1=none/\p.1 ≠ X.env.locals/\p.1 ∉ X.fs/\∀ v,p.2.data ≠ .cell v):Inv X pins' σ H s:=
 ⟨I.ok,I.os,I.bare,I.base,I.loc,I.cell,I.free,I.freeC,fun p hp=>(List.mem_append.mp hp).elim (fun z=>I.pin p (List.mem_append_left _ z)) (h p),I.hok,I.len,I.tk⟩
theorem z6Z {N:List Str} (hN:N.Nodup) {i j:Nat} {x:Str} (a:N[i]?=some x) (b:N[j]?=some x):i=j:=by
 obtain ⟨h1,e1⟩:=List.getElem?_eq_some_iff.mp a
 obtain ⟨h2,e2⟩:=List.getElem?_eq_some_iff.mp b
 exact (List.getElem_inj hN).mp (e1.trans e2.symm)
theorem z7g {M:Model} {A:Around} {E:Value->Shared->Prop} {i:Nat} {x:Str} {v:V} {u:Value} {Q:Unit->Shared->Prop} (I:Inv X pins σ H s) (hN:X.N.Nodup) (hi:X.N[i]?=some x) (hx:Loc X.env.scope x) (r:RelV v u)
  (h:∀ s',Inv X pins (σ.set i (some v)) H s'->(∃ a,Heap.SameBut a s.heap s'.heap/\(a=X.env.locals \/ X.env.cells.lookup x=some a))->Q () s') (hf:X.fn x=true \/ X.env.scope.names.lookup x=some .local:=by first|exact .inl rfl|exact .inr rfl|assumption):wpAny M A (storeName X.env x u) Q E s:=by
 obtain ⟨m,hn,hl⟩:=id I.loc
 have hcls:(X.env.scope.kind == .class || (X.env.scope.kind == .module && X.env.locals != X.env.globals))=false:=by rw [I.ok.kind];rfl
 have hiσ:i < σ.length:=by rw [I.len];exact (List.getElem?_eq_some_iff.mp hi).1
 have cne:=I.cne
 have tracked:∀ {a:Addr} {h':Heap},(∃ o,s.heap.get? a=some o/\H a=none)->Heap.SameBut a s.heap h'->HOk X.prog X.w H h':=fun {a h'} ha hs b ob e=>by
  obtain ⟨_,_,hfree⟩:=ha
  refine (I.hok b ob e).stay (fun c w' hc q=>(hs.2 c ?_).trans q) (fun _ q=>q) fun _ _ q=>q
  rintro rfl
  rcases hc with rfl|hc
  ·rw [hfree] at e;cases e
  ·rw [hfree] at hc;cases hc
 rcases hx with hk|hk
 ·refine wpAny_storeName_local hk hn (fun h' hn' hs=>?_) hcls
  obtain ⟨oL,_,_,hoL,_⟩:=id hn
  refine h _ ⟨I.ok,I.os,I.bare,⟨fun b o e n hb hx=>?_,fun b o e n hb hx=>?_,I.base.free,fun b o e hx=>?_,I.base.tups,I.base.frzs,I.base.tbls⟩,⟨_,hn',fun j y v' e1 e2 e3=>?_⟩,fun y c e=>?_,I.free,I.freeC,fun p hp=>?_,tracked ⟨oL,hoL,I.free⟩ hs,by simpa using I.len,Nat.succ_pos _⟩ ⟨_,hs,.inl rfl⟩
  ·exact (hs.2 b (Nat.ne_of_lt (Nat.lt_of_lt_of_le (Heap.lt_size e) I.ok.above))).trans (I.base.keep b o e n hb hx)
  ·obtain ⟨sl,e1⟩:=I.base.slot b o e n hb hx
   exact ⟨sl,(hs.2 b (Nat.ne_of_lt (Nat.lt_of_lt_of_le (Heap.lt_size e) I.ok.above))).trans e1⟩
  ·obtain ⟨o',e1⟩:=I.base.there b o e hx
   exact ⟨o',(hs.2 b (Nat.ne_of_lt (Nat.lt_of_lt_of_le (Heap.lt_size e) I.ok.above))).trans e1⟩
  ·by_cases hj:j=i
   ·subst hj
    rw [hi] at e1;cases e1
    rw [List.getElem?_set_self hiσ] at e2
    cases e2
    exact ⟨u,r,.inl ⟨hk,by simp⟩⟩
   ·rw [List.getElem?_set_ne (Ne.symm hj)] at e2
    obtain ⟨u',r',q⟩:=hl j y v' e1 e2 e3
    refine ⟨u',r',?_⟩
    rcases q with ⟨k,e⟩|⟨k,c,e,z⟩
    ·refine .inl ⟨k,?_⟩
     have:y ≠ x:=fun e=>hj (z6Z hN e1 (e ▸ hi))
     simp [this,e]
    ·exact .inr ⟨k,c,e,z.sameBut hs (cne y c e)⟩
  ·obtain ⟨w',z⟩:=I.cell y c e
   exact ⟨w',z.sameBut hs (cne y c e)⟩
  ·obtain ⟨e,n,ne,nf,d⟩:=I.pin p hp
   exact ⟨(hs.2 p.1 ne).trans e,n,ne,nf,d⟩
 ·have hfn:X.fn x=true:=by
   rcases hf with z|z
   ·exact z
   ·rw [z] at hk;cases hk
  obtain ⟨c,hc⟩:=I.ok.has x (.inl hk)
  obtain ⟨w',z⟩:=I.cell x c hc
  refine wpAny_storeName_cell I.ok.kind hk hc z (fun h' hc' hs=>?_)
  obtain ⟨oc,hoc,hocd⟩:=id z
  refine h { s with heap:=h' } ⟨I.ok,I.os,I.bare,⟨fun b o e n hb hx=>?_,fun b o e n hb hx=>?_,I.base.free,fun b o e hx=>?_,I.base.tups,I.base.frzs,I.base.tbls⟩,⟨m,hn.sameBut hs (Ne.symm (cne x c hc)),fun j y v' e1 e2 e3=>?_⟩,fun y c' e=>?_,I.free,I.freeC,fun p hp=>?_,tracked ⟨oc,hoc,I.freeC x c hc⟩ hs,by simpa using I.len,I.tk⟩ ⟨c,hs,.inr hc⟩
  ·exact (hs.2 b (Nat.ne_of_lt (Nat.lt_of_lt_of_le (Heap.lt_size e) (I.ok.cab x c hfn hc)))).trans (I.base.keep b o e n hb hx)
  ·obtain ⟨sl,e1⟩:=I.base.slot b o e n hb hx
   exact ⟨sl,(hs.2 b (Nat.ne_of_lt (Nat.lt_of_lt_of_le (Heap.lt_size e) (I.ok.cab x c hfn hc)))).trans e1⟩
  ·obtain ⟨o',e1⟩:=I.base.there b o e hx
   exact ⟨o',(hs.2 b (Nat.ne_of_lt (Nat.lt_of_lt_of_le (Heap.lt_size e) (I.ok.cab x c hfn hc)))).trans e1⟩
  ·by_cases hj:j=i
   ·subst hj
    rw [hi] at e1;cases e1
    rw [List.getElem?_set_self hiσ] at e2
    cases e2
    exact ⟨u,r,.inr ⟨.inl hk,c,hc,hc'⟩⟩
   ·rw [List.getElem?_set_ne (Ne.symm hj)] at e2
    obtain ⟨u',r',q⟩:=hl j y v' e1 e2 e3
    refine ⟨u',r',?_⟩
    rcases q with q|⟨k,c',e,z'⟩
    ·exact .inl q
    ·refine .inr ⟨k,c',e,z'.sameBut hs ?_⟩
     rintro rfl
     exact hj (z6Z hN e1 (I.ok.inj _ _ _ e hc ▸ hi))
  ·by_cases hcc:c'=c
   ·subst hcc;exact ⟨_,hc'⟩
   ·obtain ⟨w2,z2⟩:=I.cell y c' e
    exact ⟨w2,z2.sameBut hs hcc⟩
  ·obtain ⟨e,n,ne,nf,d⟩:=I.pin p hp
   refine ⟨(hs.2 p.1 ?_).trans e,n,ne,nf,d⟩
   intro q
   rw [q,hoc] at e
   have q':oc=p.2:=Option.some.inj e
   exact d w' (by rw [<- q'];exact hocd)
theorem z5q {M:Model} {A:Around} {E:Value->Shared->Prop} {i:Nat} {x:Str} {v:V} {u:Value} {Q:Unit->Shared->Prop} (I:Inv X pins σ H s) (hN:X.N.Nodup) (hi:X.N[i]?=some x) (hx:Loc X.env.scope x) (r:RelV v u)
  (h:∀ s',Inv X pins (σ.set i (some v)) H s'->Q () s') (hf:X.fn x=true \/ X.env.scope.names.lookup x=some .local:=by first|exact .inl rfl|exact .inr rfl|assumption):wpAny M A (storeName X.env x u) Q E s:=
 z7g I hN hi hx r (fun s' I' _=>h s' I') hf
theorem Inv.call' {s':Shared} {ch:List Addr} (I:Inv X pins σ H s) (ho:s'.os=s.os) (u:Un (frs X.stack) ch H H' s.heap s'.heap) (hok:HOk X.prog X.w H' s'.heap) (hg:AllBare s'.gens)
  (hch:∀ b ∈ ch,(b ∈ X.ex \/ X.s₀.heap.objs.size <= b)/\b ≠ X.env.locals/\(∀ x c,X.env.cells.lookup x=some c->c ≠ b)/\∀ p ∈ X.pn ++ pins,p.1 ≠ b) (ht:0 < s'.toks:=by first|exact Nat.succ_pos _|exact Inv.tk ‹_›|assumption|omega):Inv X pins σ H' s':=by
 obtain ⟨h',g',d',t',o'⟩:=s'
 have e:o'=s.os:=ho
 subst e
 exact I.call (g':=g') (t':=t') (d':=d') u hok hg hch
end
abbrev XK:=Value->Option Addr->Hp->Prop
abbrev St:=List (Option V)
abbrev VK:=V->Hp->Prop
abbrev TE:=St->Hp->VK->Prop
abbrev TT:=St->Hp->(Bool->Hp->Prop)->Prop
abbrev TA:=St->Hp->(List V->Hp->Prop)->Prop
structure za1 where
 nx:St->Hp->Prop
 rt:VK
 bk:St->Hp->Prop:=fun _ _=>False
 ct:St->Hp->Prop:=fun _ _=>False
abbrev TS:=za1->St->Hp->Prop
def EP (X:Cx) (pins:List (Addr × Obj)) (σ:St) (Q:VK) (u:Value) (s':Shared):Prop:=∃ v H',Inv X pins σ H' s'/\RelV v u/\Q v H'
def TP (X:Cx) (pins:List (Addr × Obj)) (σ:St) (Q:Bool->Hp->Prop) (b:Bool) (s':Shared):Prop:=∃ H',Inv X pins σ H' s'/\Q b H'
def AP (X:Cx) (pins:List (Addr × Obj)) (σ:St) (Q:List V->Hp->Prop) (us:List Value) (s':Shared):Prop:=∃ vs H',Inv X pins σ H' s'/\Vals vs us/\Q vs H'
def SP (X:Cx) (pins:List (Addr × Obj)) (D:za1) (f:Flow) (s':Shared):Prop:=
 match f with
 | .next=>∃ σ' H',Inv X pins σ' H' s'/\D.nx σ' H'
 | .brk=>∃ σ' H',Inv X pins σ' H' s'/\D.bk σ' H'
 | .cont=>∃ σ' H',Inv X pins σ' H' s'/\D.ct σ' H'
 | .ret u=>∃ v σ' H',Inv X pins σ' H' s'/\RelV v u/\D.rt v H'
def PE (X:Cx) (e:Expr) (t:TE):Prop:=
 ∀ (pins:List (Addr × Obj)) (s:Shared) (σ:St) (H:Hp) (Q:VK),Inv X pins σ H s->t σ H Q->wpAny (model X.prog X.w) X.A (eval e X.env) (EP X pins σ Q) X.xe s
def PT (X:Cx) (e:Expr) (t:TT):Prop:=
 ∀ (pins:List (Addr × Obj)) (s:Shared) (σ:St) (H:Hp) (Q:Bool->Hp->Prop),Inv X pins σ H s->t σ H Q->wpAny (model X.prog X.w) X.A (isTrue e X.env (eval e X.env)) (TP X pins σ Q) X.xe s
def PW (X:Cx) (e:Expr) (t:TT):Prop:=
 ∀ (whole:Sem Value) (pins:List (Addr × Obj)) (s:Shared) (σ:St) (H:Hp) (Q:Bool->Hp->Prop),Inv X pins σ H s->t σ H Q->wpAny (model X.prog X.w) X.A (isTrue e X.env whole) (TP X pins σ Q) X.xe s
theorem PW.pt {X:Cx} {e:Expr} {t:TT} (h:PW X e t):PT X e t:=h _
def PA (X:Cx) (es:List Expr) (t:TA):Prop:=
 ∀ (pos:Pos) (pins:List (Addr × Obj)) (s:Shared) (σ:St) (H:Hp) (Q:List V->Hp->Prop),Inv X pins σ H s->t σ H Q->wpAny (model X.prog X.w) X.A (spliced (backTo pos (starEach es X.env))) (AP X pins σ Q) X.xe s
def PS (X:Cx) (st:Stmt) (t:TS):Prop:=
 ∀ (pins:List (Addr × Obj)) (s:Shared) (σ:St) (H:Hp) (D:za1),Inv X pins σ H s->t D σ H->wpAny (model X.prog X.w) X.A (exec st X.env) (SP X pins D) X.xe s
def PSs (X:Cx) (st:List Stmt) (t:TS):Prop:=
 ∀ (pins:List (Addr × Obj)) (s:Shared) (σ:St) (H:Hp) (D:za1),Inv X pins σ H s->t D σ H->wpAny (model X.prog X.w) X.A (execs st X.env) (SP X pins D) X.xe s
theorem thn {α:Type} {t:Sem α} {Q Q':α->Shared->Prop} {M:Model} {A:Around} {E:Value->Shared->Prop} {s:Shared} (h:wpAny M A t Q E s) (hQ:∀ a s,Q a s->Q' a s):wpAny M A t Q' E s:=wpAny_mono h hQ fun _ _ x=>x
section
variable {X:Cx}
theorem bin {a b:Expr} {ta tb:TE} (ha:PE X a ta) (hb:PE X b tb) {pins:List (Addr × Obj)} {s:Shared} {σ:St} {H:Hp} {R:V->V->Hp->Prop} (I:Inv X pins σ H s) (h:ta σ H fun x H1=>tb σ H1 fun y H2=>R x y H2)
  {α:Type} {Q:α->Shared->Prop} {f:Value->Value->Sem α}
  (hf:∀ v u s2 x y H2,Inv X pins σ H2 s2->RelV x v->RelV y u->R x y H2->wpAny (model X.prog X.w) X.A (f v u) Q X.xe s2):
  wpAny (model X.prog X.w) X.A (eval a X.env) (fun v s₁=>wpAny (model X.prog X.w) X.A (eval b X.env) (fun u s₂=>wpAny (model X.prog X.w) X.A (f v u) Q X.xe s₂) X.xe s₁) X.xe s:=by
 refine thn (ha pins s σ H _ I h) fun v s1 ⟨x,H1,I1,r1,q1⟩=>?_
 refine thn (hb pins s1 σ H1 _ I1 q1) fun u s2 ⟨y,H2,I2,r2,q2⟩=>?_
 exact hf v u s2 x y H2 I2 r1 r2 q2
def zh2 (i:Nat):TE:=fun σ H Q=>∃ v,σ[i]?=some (some v)/\Q v H
def tC (v:V):TE:=fun _ H Q=>Q v H
theorem z55 {i:Nat} {x:Str} {pos:Pos} (hN:X.N[i]?=some x) (hv:Vis X.env.scope x) (hd:(x == ("__debug__":Str))=false:=by decide) (hcd:(x == ("__classdict__":Str))=false:=by decide):PE X (.Name x pos) (zh2 i):=by
 intro pins s σ H Q I h
 obtain ⟨v,e,h⟩:=h
 obtain ⟨m,hn,hl⟩:=I.loc
 obtain ⟨u,r,l⟩:=hl i x v hN e hv
 have fin:EP X pins σ Q u s:=⟨v,H,I,r,h⟩
 rcases l with ⟨hk,hm⟩|⟨hk,c,hc,hcell⟩
 ·exact wpAny_Name (wpAny_loadName_local I.ok.kind hk hn hm fin) hd
 ·rcases hk with hk|hk
  ·exact wpAny_Name (wpAny_loadName_cell I.ok.kind hk hc hcell fin) hd
  ·exact wpAny_Name (wpAny_loadName_free I.ok.kind hk hc hcell fin hcd) hd
theorem zhW {i j pos}:PE X (.Constant (.int i) j pos) (tC (.int i)):=fun _ _ _ H _ I h=>wpAny_Constant_int ⟨.int i,H,I.tok _,⟨_,rfl⟩,h⟩
theorem zjw {b j pos}:PE X (.Constant (.bool b) j pos) (tC (.bl b)):=fun _ _ _ H _ I h=>Constant_bool ⟨.bl b,H,I,rfl,h⟩
theorem zeG {j pos}:PE X (.Constant .none j pos) (tC .non):=fun _ _ _ H _ I h=>Constant_none ⟨.non,H,I,rfl,h⟩
theorem zi1 {x j pos}:PE X (.Constant (.str x) j pos) (tC (.str x)):=fun _ _ _ H _ I h=>Calls.Constant_str ⟨.str x,H,I.tok _,⟨_,rfl⟩,h⟩
def Gl (X:Cx) (x:Str):Prop:=X.env.kindOf x=some .globalImplicit
theorem z4P {E:Value->Shared->Prop} {pins:List (Addr × Obj)} {s:Shared} {σ:St} {H:Hp} {x:Str} {u:Value} {pos:Pos} {Q:Value->Shared->Prop} (I:Inv X pins σ H s) (hg:Gl X x) (hm:X.mg x=some u) (h:Q u s)
  (hd:(x == ("__debug__":Str))=false:=by decide):wpAny (model X.prog X.w) X.A (eval (.Name x pos) X.env) Q E s:=
 Calls.Name_function_global I.ok.kind hg (Calls.loadGlobal_global (by rw [I.ok.glob];exact I.mod.glob.keeps I.bk) hm h) hd
theorem z6n {E:Value->Shared->Prop} {pins:List (Addr × Obj)} {s:Shared} {σ:St} {H:Hp} {x:Str} {u:Value} {pos:Pos} {Q:Value->Shared->Prop} (I:Inv X pins σ H s) (hg:Gl X x) (hm:X.mg x=none) (hv:bootBuiltins x=some u) (h:Q u s)
  (hn:x ≠ "__name__":=by decide) (hd:(x == ("__debug__":Str))=false:=by decide):wpAny (model X.prog X.w) X.A (eval (.Name x pos) X.env) Q E s:=by
 obtain ⟨mb,h1,h2⟩:=I.mod.blt
 exact Calls.Name_function_global I.ok.kind hg (Calls.loadGlobal_builtin (by rw [I.ok.glob];exact I.mod.glob.keeps I.bk) hm (by rw [I.ok.blt];exact h1.keeps I.bk) ((h2 x hn).trans hv) h) hd
theorem z5N {x:Str} {v:V} {u:Value} {pos:Pos} (hg:Gl X x) (hm:X.mg x=some u) (r:RelV v u) (hd:(x == ("__debug__":Str))=false:=by decide):PE X (.Name x pos) (tC v):=
 fun _ _ _ H _ I h=>z4P I hg hm ⟨v,H,I,r,h⟩ hd
theorem z6L {x:Str} {v:V} {u:Value} {pos:Pos} (hg:Gl X x) (hm:X.mg x=none) (hv:bootBuiltins x=some u) (r:RelV v u) (hn:x ≠ "__name__":=by decide) (hd:(x == ("__debug__":Str))=false:=by decide):PE X (.Name x pos) (tC v):=
 fun _ _ _ H _ I h=>z6n I hg hm hv ⟨v,H,I,r,h⟩ hn hd
variable {a b:Expr} {ta tb:TE} {pos:Pos}
def PC (X:Cx) (op:CmpOp) (a b:Expr) (t:TE):Prop:=
 ∀ (pins:List (Addr × Obj)) (s:Shared) (σ:St) (H:Hp) (Q:VK),Inv X pins σ H s->t σ H Q->
  wpAny (model X.prog X.w) X.A (eval a X.env) (fun v s₁=>wpAny (model X.prog X.w) X.A (eval b X.env) (fun u s₂=>wpAny (model X.prog X.w) X.A (compareOp op v u) (EP X pins σ Q) X.xe s₂) X.xe s₁) X.xe s
theorem z9z (b:Expr) {op:CmpOp} (h:op ≠ .In) (h2:op ≠ .NotIn):behindInMarks op b=false:=by
 have e1:(op == CmpOp.In)=false:=by cases op <;> first|rfl|exact absurd rfl h
 have e2:(op == CmpOp.NotIn)=false:=by cases op <;> first|rfl|exact absurd rfl h2
 cases b <;> simp [behindInMarks,e1,e2]
def tB (t:TE):TT:=fun σ H Q=>t σ H fun x H1=>∃ c,x=.bl c/\Q c H1
theorem zhA {op:CmpOp} {t:TE} (h:PC X op a b t) (h1:behindInMarks op b=false:=by first|exact z9z _ (by decide) (by decide)|rfl):PE X (.Compare a [op] [b] pos) t:=fun pins s σ H Q I hw=>wpAny_Compare1 (h pins s σ H Q I hw) h1
theorem zhL {op:CmpOp} {t:TE} (h:PC X op a b t) (h1:behindInMarks op b=false:=by first|exact z9z _ (by decide) (by decide)|rfl):PT X (.Compare a [op] [b] pos) (tB t):=by
 intro pins s σ H Q I hw
 refine wpAny_isTrue_Compare1 (thn (h pins s σ H _ I hw) fun v s1 h1=>thn h1 fun u s2 h2=>thn h2 fun c s3 ⟨x,H1,I1,r1,q1⟩=>?_) h1
 obtain ⟨d,rfl,q⟩:=q1
 cases r1
 exact wpAny_truthy_bool ⟨H1,I1,q⟩
variable {tA tB':TT} {z2C:List Expr}
def zkE (t u:TT):TT:=fun σ H Q=>t σ H fun c H1=>if c=true then u σ H1 Q else Q false H1
def tOr (t u:TT):TT:=fun σ H Q=>t σ H fun c H1=>if c=true then Q true H1 else u σ H1 Q
def zku (t:TT):TT:=fun σ H Q=>t σ H fun c H1=>Q (!c) H1
theorem zgO (ha:PT X a tA):PW X (.BoolOp .And [a] pos) tA:=by
 intro wh pins s σ H Q I h
 refine isTrue_and (thn (ha pins s σ H Q I h) fun c s1 e=>?_)
 cases c with
 | true=>exact isTrue_and_nil e
 | false=>exact e
theorem zi8 (ha:PT X a tA):PW X (.BoolOp .Or [a] pos) tA:=by
 intro wh pins s σ H Q I h
 refine isTrue_or (thn (ha pins s σ H Q I h) fun c s1 e=>?_)
 cases c with
 | false=>exact isTrue_or_nil e
 | true=>exact e
theorem zhc (ha:PT X a tA) (hb:PW X (.BoolOp .And (b :: z2C) pos) tB'):PW X (.BoolOp .And (a :: b :: z2C) pos) (zkE tA tB'):=by
 intro wh pins s σ H Q I h
 refine isTrue_and (thn (ha pins s σ H _ I h) fun c s1 ⟨H1,I1,q1⟩=>?_)
 cases c with
 | true=>exact hb wh pins s1 σ H1 Q I1 q1
 | false=>exact ⟨H1,I1,q1⟩
theorem zju (ha:PT X a tA) (hb:PW X (.BoolOp .Or (b :: z2C) pos) tB'):PW X (.BoolOp .Or (a :: b :: z2C) pos) (tOr tA tB'):=by
 intro wh pins s σ H Q I h
 refine isTrue_or (thn (ha pins s σ H _ I h) fun c s1 ⟨H1,I1,q1⟩=>?_)
 cases c with
 | true=>exact ⟨H1,I1,q1⟩
 | false=>exact hb wh pins s1 σ H1 Q I1 q1
theorem zhN (ha:PT X a tA):PT X (.UnaryOp .Not a pos) (zku tA):=by
 intro pins s σ H Q I h
 exact isTrue_not (ha pins s σ H (fun c H1=>Q (!c) H1) I h)
def zjF (ta tb:TE):TE:=fun σ H Q=>ta σ H fun x H1=>∃ c,x=.bl c/\if c=true then tb σ H1 Q else Q (.bl false) H1
def zkG (ta tb:TE):TE:=fun σ H Q=>ta σ H fun x H1=>∃ c,x=.bl c/\if c=true then Q (.bl true) H1 else tb σ H1 Q
def zjv (ta:TE):TE:=fun σ H Q=>ta σ H fun x H1=>∃ c,x=.bl c/\Q (.bl (!c)) H1
theorem zhY {op} {t:TE} (h:PE X a t):PE X (.BoolOp op [a] pos) t:=fun pins s σ H Q I hw=>BoolOp_one (h pins s σ H Q I hw)
theorem zis (ha:PE X a ta) (hb:PE X (.BoolOp .And (b :: z2C) pos) tb):PE X (.BoolOp .And (a :: b :: z2C) pos) (zjF ta tb):=by
 intro pins s σ H Q I h
 refine BoolOp_and (thn (ha pins s σ H _ I h) fun v s1 ⟨x,H1,I1,r1,q1⟩=>?_)
 obtain ⟨c,rfl,q1⟩:=q1
 cases r1
 refine wpAny_truthy_bool ?_
 cases c with
 | true=>exact hb pins s1 σ H1 Q I1 q1
 | false=>exact ⟨.bl false,H1,I1,rfl,q1⟩
theorem zjR (ha:PE X a ta) (hb:PE X (.BoolOp .Or (b :: z2C) pos) tb):PE X (.BoolOp .Or (a :: b :: z2C) pos) (zkG ta tb):=by
 intro pins s σ H Q I h
 refine BoolOp_or (thn (ha pins s σ H _ I h) fun v s1 ⟨x,H1,I1,r1,q1⟩=>?_)
 obtain ⟨c,rfl,q1⟩:=q1
 cases r1
 refine wpAny_truthy_bool ?_
 cases c with
 | false=>exact hb pins s1 σ H1 Q I1 q1
 | true=>exact ⟨.bl true,H1,I1,rfl,q1⟩
theorem zio (ha:PE X a ta):PE X (.UnaryOp .Not a pos) (zjv ta):=by
 intro pins s σ H Q I h
 refine UnaryOp_ (thn (ha pins s σ H _ I h) fun v s1 ⟨x,H1,I1,r1,q1⟩=>?_)
 obtain ⟨c,rfl,q1⟩:=q1
 cases r1
 exact not_of (wpAny_truthy_bool ⟨.bl (!c),H1,I1,rfl,q1⟩)
def tIf (t:TT) (ta tb:TE):TE:=fun σ H Q=>t σ H fun c H1=>if c=true then ta σ H1 Q else tb σ H1 Q
theorem zdm {c:Expr} (hc:PT X c tA) (ha:PE X a ta) (hb:PE X b tb):PE X (.IfExp c a b pos) (tIf tA ta tb):=by
 intro pins s σ H Q I h
 refine wpAny_IfExp (thn (hc pins s σ H _ I h) fun d s1 ⟨H1,I1,q1⟩=>?_)
 cases d with
 | true=>exact ha pins s1 σ H1 Q I1 q1
 | false=>exact hb pins s1 σ H1 Q I1 q1
end
def SqL (K:PySem.W.Frag) (H:Hp) (a:Addr) (xs:List V):Prop:=
 Rd H a (.lst xs) \/
  ∃ (o:Obj) (its:Array Value) (n:Nat),K.lookup a=some o/\o.cls=.type "list"/\o.dict=none/\o.data=.seq its n/\its.size <= sizeLine/\Vals xs its.toList
def SqT (K:PySem.W.Frag) (H:Hp) (a:Addr) (xs:List V):Prop:=
 Rd H a (.tup xs) \/
  ∃ (o:Obj) (its:Array Value) (n:Nat),K.lookup a=some o/\o.cls=.type "tuple"/\o.data=.seq its n/\its.size <= sizeLine/\Vals xs its.toList
def zkB:Value->Option V
 | .none=>some .non
 | .bool b=>some (.bl b)
 | .int i _=>some (.int i)
 | .str x _=>some (.str x)
 | .bytes b _=>some (.byt b)
 | .float b _=>some (.flt b)
 | .ref a=>some (.ref a)
 | .type n=>some (.ty n)
 | _=>none
theorem RelV.abs {x:V} {u:Value} (r:RelV x u):zkB u=some x:=by
 cases x with
 | non=>cases r;rfl
 | bl _=>cases r;rfl
 | int _=>obtain ⟨t,rfl⟩:=r;rfl
 | str _=>obtain ⟨t,rfl⟩:=r;rfl
 | byt _=>obtain ⟨t,rfl⟩:=r;rfl
 | flt _=>obtain ⟨t,rfl⟩:=r;rfl
 | ref _=>cases r;rfl
 | ty _=>cases r;rfl
theorem RelV.inj {x y:V} {u:Value} (r:RelV x u) (q:RelV y u):x=y:=Option.some.inj (r.abs.symm.trans q.abs)
theorem Vals.inj:∀ {xs ys:List V} {us:List Value},Vals xs us->Vals ys us->xs=ys
 | _,_,_,.nil,.nil=>rfl
 | _,_,_,.cons r t,.cons r' t'=>by rw [r.inj r',Vals.inj t t']
section
variable {X:Cx} {pins:List (Addr × Obj)} {σ:St} {H:Hp} {s:Shared} {a:Addr} {xs ys:List V}
theorem SqL.of {K:PySem.W.Frag} (h:H a=some (.lst xs)):SqL K H a xs:=.inl (.inl h)
theorem SqT.of {K:PySem.W.Frag} (h:H a=some (.tup xs)):SqT K H a xs:=.inl (.inl h)
theorem Inv.list (I:Inv X pins σ H s) (h:SqL X.K H a xs):∃ its:List Value,Vals xs its/\PlainL s.heap a its.toArray/\xs.length <= sizeLine:=by
 rcases h with h|⟨o,its,n,hk,hc,hd,hs,hz,r⟩
 ·obtain ⟨z,its,n,r,e⟩:=h.ok I.hok
  exact ⟨its,r,⟨_,n,e,rfl,rfl,rfl⟩,z⟩
 ·refine ⟨its.toList,r,⟨o,n,I.kIn a o hk,hc,hd,by simpa using hs⟩,?_⟩
  have e:=r.length
  simp only [Array.length_toList] at e
  omega
theorem Inv.tuple (I:Inv X pins σ H s) (h:SqT X.K H a xs):∃ its:List Value,Vals xs its/\IsTup s.heap a its.toArray/\xs.length <= sizeLine:=by
 rcases h with h|⟨o,its,n,hk,hc,hs,hz,r⟩
 ·obtain ⟨z,its,r,p⟩:=h.ok I.hok
  exact ⟨its,r,p.tup,z⟩
 ·refine ⟨its.toList,r,⟨o,I.kIn a o hk,hc,n,by simpa using hs⟩,?_⟩
  have e:=r.length
  simp only [Array.length_toList] at e
  omega
theorem Inv.list_inj (I:Inv X pins σ H s) (h:SqL X.K H a xs) (h':SqL X.K H a ys):xs=ys:=by
 obtain ⟨its,r,⟨o,n,e,_,_,d⟩,_⟩:=I.list h
 obtain ⟨its',r',⟨o',n',e',_,_,d'⟩,_⟩:=I.list h'
 rw [e] at e';cases e'
 rw [d] at d'
 injection d' with d1 _
 have:its=its':=by simpa using congrArg Array.toList d1
 subst this
 exact r.inj r'
theorem Inv.tuple_inj (I:Inv X pins σ H s) (h:SqT X.K H a xs) (h':SqT X.K H a ys):xs=ys:=by
 obtain ⟨its,r,⟨o,e,_,n,d⟩,_⟩:=I.tuple h
 obtain ⟨its',r',⟨o',e',_,n',d'⟩,_⟩:=I.tuple h'
 rw [e] at e';cases e'
 rw [d] at d'
 injection d' with d1 _
 have:its=its':=by simpa using congrArg Array.toList d1
 subst this
 exact r.inj r'
end
abbrev Cx.wish (X:Cx) (E:Value->Shared->Prop):Cx:={ X with xe:=E }
abbrev Cx.nox (X:Cx):Cx:=X.wish fun _ _=>False
theorem Cx.Ok.wish {X:Cx} (ok:X.Ok) (E:Value->Shared->Prop):(X.wish E).Ok:=
 ⟨ok.mod,ok.kind,ok.glob,ok.blt,ok.above,ok.inj,ok.has,ok.cab,ok.hd,ok.frames,ok.stk,ok.exf,ok.bs,ok.bsz,ok.noex,ok.exfs,ok.funs,ok.frf⟩
theorem Cx.Ok.unwish {X:Cx} {E:Value->Shared->Prop} (ok:(X.wish E).Ok):X.Ok:=
 ⟨ok.mod,ok.kind,ok.glob,ok.blt,ok.above,ok.inj,ok.has,ok.cab,ok.hd,ok.frames,ok.stk,ok.exf,ok.bs,ok.bsz,ok.noex,ok.exfs,ok.funs,ok.frf⟩
section
variable {X:Cx} {pins:List (Addr × Obj)} {σ:St} {H:Hp} {s:Shared} {E:Value->Shared->Prop}
theorem Inv.wish (I:Inv X pins σ H s) (E:Value->Shared->Prop):Inv (X.wish E) pins σ H s:=⟨I.ok.wish E,I.os,I.bare,I.base,I.loc,I.cell,I.free,I.freeC,I.pin,I.hok,I.len,I.tk⟩
theorem Inv.unwish (I:Inv (X.wish E) pins σ H s):Inv X pins σ H s:=⟨I.ok.unwish,I.os,I.bare,I.base,I.loc,I.cell,I.free,I.freeC,I.pin,I.hok,I.len,I.tk⟩
theorem SP.unwish {D:za1} {f:Flow} {s':Shared} (h:SP (X.wish E) pins D f s'):SP X pins D f s':=by
 cases f with
 | next=>obtain ⟨σ',H',I,q⟩:=h;exact ⟨σ',H',I.unwish,q⟩
 | brk=>obtain ⟨σ',H',I,q⟩:=h;exact ⟨σ',H',I.unwish,q⟩
 | cont=>obtain ⟨σ',H',I,q⟩:=h;exact ⟨σ',H',I.unwish,q⟩
 | ret u=>obtain ⟨v,σ',H',I,r,q⟩:=h;exact ⟨v,σ',H',I.unwish,r,q⟩
theorem PE.nox {e:Expr} {t:TE} (h:PE X.nox e t):PE X e t:=fun pins s σ H Q I hw=>
 wpAny_mono (h pins s σ H Q (I.wish _) hw) (fun _ _ ⟨v,H',I',r,q⟩=>⟨v,H',I'.unwish,r,q⟩) fun _ _ z=>False.elim z
theorem PT.nox {e:Expr} {t:TT} (h:PT X.nox e t):PT X e t:=fun pins s σ H Q I hw=>
 wpAny_mono (h pins s σ H Q (I.wish _) hw) (fun _ _ ⟨H',I',q⟩=>⟨H',I'.unwish,q⟩) fun _ _ z=>False.elim z
theorem PSs.nox {st:List Stmt} {t:TS} (h:PSs X.nox st t):PSs X st t:=fun pins s σ H D I hw=>
 wpAny_mono (h pins s σ H D (I.wish _) hw) (fun _ _ q=>q.unwish) fun _ _ z=>False.elim z
end
section
variable {X:Cx} {st:Stmt} {z2C:List Stmt} {t u:TS} {e:Expr} {te:TE} {pos:Pos}
def zhF:TS:=fun D σ H=>D.nx σ H
def zkN (t u:TS):TS:=fun D σ H=>t { D with nx:=u D } σ H
theorem zc3:PSs X [] zhF:=fun _ _ σ H _ I h=>wpAny_execs_nil ⟨σ,H,I,h⟩
theorem z2S (h1:PS X st t) (h2:PSs X z2C u):PSs X (st :: z2C) (zkN t u):=by
 intro pins s σ H D I h
 refine wpAny_execs_cons (thn (h1 pins s σ H { D with nx:=u D } I h) fun f s1 q=>?_)
 cases f with
 | next=>
  obtain ⟨σ',H',I',q⟩:=q
  exact h2 pins s1 σ' H' D I' q
 | ret v=>exact q
 | brk=>exact q
 | cont=>exact q
theorem zcp (h1:PS X st t):PSs X [st] t:=by
 intro pins s σ H D I h
 refine wpAny_execs_cons (thn (h1 pins s σ H D I h) fun f s1 q=>?_)
 cases f with
 | next=>exact wpAny_execs_nil q
 | ret v=>exact q
 | brk=>exact q
 | cont=>exact q
theorem zfM:PS X (.Pass pos) zhF:=fun _ _ σ H _ I h=>wpAny_Pass ⟨σ,H,I,h⟩
theorem Inv.quiet {pins:List (Addr × Obj)} {σ:St} {H:Hp} {s:Shared} (I:Inv X pins σ H s):interactive X.env=false:=by simp [interactive,I.ok.kind]
def zct (te:TE):TS:=fun D σ H=>te σ H fun _ H1=>D.nx σ H1
theorem z67 (he:PE X e te) (hs:swapsWith e none pos.line X.env=pure false:=by rfl):PS X (.Expr e pos) (zct te):=by
 intro pins s σ H D I h
 exact wpAny_Expr_any (thn (he pins s σ H _ I h) fun v s1 ⟨x,H1,I1,r1,q1⟩=>⟨σ,H1,I1,q1⟩) I.quiet hs
def zkc (te:TE):TS:=fun D σ H=>te σ H D.rt
theorem zee (he:PE X e te):PS X (.Return (some e) pos) (zkc te):=by
 intro pins s σ H D I h
 exact wpAny_Return_some (thn (he pins s σ H _ I h) fun v s1 ⟨x,H1,I1,r1,q1⟩=>⟨x,σ,H1,I1,r1,q1⟩)
def zkH (c:TT) (t u:TS):TS:=fun D σ H=>c σ H fun b H1=>if b=true then t D σ H1 else u D σ H1
theorem zhD {c:Expr} {a b:List Stmt} {tc:TT} (hc:PT X c tc) (ha:PSs X a t) (hb:PSs X b u):PS X (.If c a b pos) (zkH tc t u):=by
 intro pins s σ H D I h
 refine wpAny_If (thn (hc pins s σ H _ I h) fun d s1 ⟨H1,I1,q1⟩=>?_)
 cases d with
 | true=>exact ha pins s1 σ H1 D I1 q1
 | false=>exact hb pins s1 σ H1 D I1 q1
def zh6:TS:=fun _ _ _=>False
theorem zb0 {sts:List Stmt}:PSs X sts zh6:=fun _ _ _ _ _ _ h=>h.elim
end
abbrev TG:=V->St->Hp->(St->Hp->Prop)->Prop
abbrev TGs:=List V->St->Hp->(St->Hp->Prop)->Prop
def PG (X:Cx) (target:Expr) (t:TG):Prop:=
 ∀ (pins:List (Addr × Obj)) (s:Shared) (σ:St) (H:Hp) (v:V) (u:Value) (Q:St->Hp->Prop),Inv X pins σ H s->RelV v u->t v σ H Q->
  wpAny (model X.prog X.w) X.A (assign target X.env u) (fun _ s'=>∃ σ' H',Inv X pins σ' H' s'/\Q σ' H') X.xe s
def PGs (X:Cx) (ts:List Expr) (t:TGs):Prop:=
 ∀ (pins:List (Addr × Obj)) (s:Shared) (σ:St) (H:Hp) (vs:List V) (us:List Value) (Q:St->Hp->Prop),Inv X pins σ H s->Vals vs us->t vs σ H Q->
  wpAny (model X.prog X.w) X.A (assignInOrder ((assignEach ts X.env).map (·.2)) us) (fun _ s'=>∃ σ' H',Inv X pins σ' H' s'/\Q σ' H') X.xe s
abbrev zjk:=V->V->V->Hp->(Hp->Prop)->Prop
def zk1 (X:Cx) (t:zjk):Prop:=
 ∀ (pins:List (Addr × Obj)) (s:Shared) (σ:St) (H:Hp) (o i v:V) (ov iv u:Value) (Q:Hp->Prop),Inv X pins σ H s->RelV o ov->RelV i iv->RelV v u->t o i v H Q->
  wpAny (model X.prog X.w) X.A (setItem ov iv u) (fun _ s'=>∃ H',Inv X pins σ H' s'/\Q H') X.xe s
section
variable {X:Cx} {pos:Pos}
def z93 (i:Nat):TG:=fun v σ H Q=>Q (σ.set i (some v)) H
theorem z6y {i:Nat} {x:Str} (hN:X.N.Nodup) (hi:X.N[i]?=some x) (hx:Loc X.env.scope x) (hf:X.fn x=true \/ X.env.scope.names.lookup x=some .local:=by first|exact .inl rfl|exact .inr rfl|assumption):PG X (.Name x pos) (z93 i):=by
 intro pins s σ H v u Q I r h
 exact wpAny_assign_Name (z5q I hN hi hx r (fun s' I'=>⟨_,H,I',h⟩) hf)
def zk4:TGs:=fun vs σ H Q=>vs=[]/\Q σ H
def zgM (t:TG) (u:TGs):TGs:=fun vs σ H Q=>∃ v r,vs=v :: r/\t v σ H fun σ' H'=>u r σ' H' Q
theorem zgS:PGs X [] zk4:=by
 intro pins s σ H vs us Q I r h
 obtain ⟨e,h⟩:=h
 subst e
 cases r
 exact assignInOrder_nil ⟨σ,H,I,h⟩
theorem z9I {e:Expr} {es:List Expr} {t:TG} {u:TGs} (h1:PG X e t) (h2:PGs X es u)
  (hs:(assignEach (e :: es) X.env).map (·.2)=assign e X.env :: (assignEach es X.env).map (·.2):=by rfl):PGs X (e :: es) (zgM t u):=by
 intro pins s σ H vs us Q I r h
 obtain ⟨v,vr,e1,h⟩:=h
 subst e1
 cases r with
 | cons r rr=>
  rw [hs]
  refine assignInOrder_cons (thn (h1 pins s σ H _ _ _ I r h) fun _ s1 ⟨σ1,H1,I1,q1⟩=>?_)
  exact h2 pins s1 σ1 H1 _ _ Q I1 rr q1
def zjX (K:PySem.W.Frag) (n:Nat) (t:TGs):TG:=fun v σ H Q=>∃ a xs,v=.ref a/\SqT K H a xs/\xs.length=n/\t xs σ H Q
theorem zhp {es:List Expr} {k:Nat} {t:TGs} {n:Nat} (hc:X.calm=true) (h:PGs X es t)
  (hn:(assignEach es X.env).length=n:=by rfl) (hst:(assignEach es X.env).findIdx? (·.1)=none:=by rfl):PG X (.Tuple es k pos) (zjX X.K n t):=by
 intro pins s σ H v u Q I r hw
 obtain ⟨a,xs,e1,hq,hl,hw⟩:=hw
 subst e1
 cases r
 obtain ⟨its,rv,ht,hz⟩:=I.tuple hq
 refine assign_Tuple_tuple (I.ok.hd hc) ht (by simp [hn,<- hl,rv.length]) hst fun h' hx=>?_
 have I1:Inv X pins σ H { s with heap:=h' }:=I.kept (t':=s.toks) fun b o e=>hx b o (Nat.ne_of_lt (Heap.lt_size e)) e
 exact h pins _ σ H xs _ Q I1 (by simpa using rv) hw
def zak (to ti:TE) (t:zjk):TG:=fun v σ H Q=>to σ H fun o H1=>ti σ H1 fun i H2=>t o i v H2 fun H3=>Q σ H3
theorem zie {o i:Expr} {to ti:TE} {t:zjk} (ho:PE X o to) (hi:PE X i ti) (hs:zk1 X t)
  (ha:∀ v,assign (.Subscript o i pos) X.env v=(do
   let ov <- holding [v] (eval o X.env)
   let iv <- holding [v,ov] (eval i X.env)
   standAt pos
   holding [v,ov,iv] (setItem ov iv v)
   release [v,ov,iv] []):=by intro _;rfl):PG X (.Subscript o i pos) (zak to ti t):=by
 intro pins s σ H v u Q I r h
 rw [ha]
 refine wpAny_bind (wpAny_holding (thn (ho pins s σ H _ I h) fun ov s1 ⟨x,H1,I1,r1,q1⟩=>?_))
 refine wpAny_bind (wpAny_holding (thn (hi pins s1 σ H1 _ I1 q1) fun iv s2 ⟨y,H2,I2,r2,q2⟩=>?_))
 refine wpAny_bind (wpAny_standAt (wpAny_bind (wpAny_holding (thn (hs pins s2 σ H2 x y v ov iv u _ I2 r1 r2 r q2) fun _ s3 ⟨H3,I3,q3⟩=>?_))))
 exact wpAny_release ⟨σ,H3,I3,q3⟩
def zj0 (te:TE) (g:TG):TS:=fun D σ H=>te σ H fun x H1=>g x σ H1 D.nx
theorem zez {tg e:Expr} {te:TE} {g:TG} (he:PE X e te) (hg:PG X tg g) (hs:swapsWithSole [tg] e pos.line X.env=pure false:=by rfl) (hw:swappedStores [tg] e X.env=pure none:=by rfl)
  (h1:(assignEach [tg] X.env).map (·.2)=[assign tg X.env]:=by rfl):PS X (.Assign [tg] e pos) (zj0 te g):=by
 intro pins s σ H D I h
 refine wpAny_Assign_stores (thn (he pins s σ H _ I h) fun v s1 ⟨x,H1,I1,r1,q1⟩=>?_) hs hw
 rw [h1]
 exact thn (hg pins s1 σ H1 x v _ I1 r1 q1) fun _ s2 q=>q
theorem z9m {i:Nat} {x:Str} {e:Expr} {te:TE} {pos':Pos} (hN:X.N.Nodup) (hi:X.N[i]?=some x) (hx:Loc X.env.scope x) (he:PE X e te) (hs:swapsWith e (some (.Name x pos')) pos.line X.env=pure false:=by rfl) (hf:X.fn x=true \/ X.env.scope.names.lookup x=some .local:=by first|exact .inl rfl|exact .inr rfl|assumption):
  PS X (.Assign [.Name x pos'] e pos) (zj0 te (z93 i)):=by
 intro pins s σ H D I h
 refine wpAny_Assign_Name (thn (he pins s σ H _ I h) fun v s1 ⟨y,H1,I1,r1,q1⟩=>?_) hs
 exact z5q I1 hN hi hx r1 (fun s2 I2=>⟨_,H1,I2,q1⟩) hf
end
section
end
structure It where
 go:Nat->Hp->Prop
 yld:Nat->Hp->V->Hp->Prop
 stop:Nat->Hp->Prop
def z7e (X:Cx) (pins:List (Addr × Obj)) (H:Hp) (b:Addr):Prop:=
 H b=none/\b ≠ X.env.locals/\b ∉ X.fs/\(b ∈ X.ex \/ X.s₀.heap.objs.size <= b)/\(∀ x c,X.env.cells.lookup x=some c->c ≠ b)/\∀ p ∈ X.pn ++ pins,p.1 ≠ b
theorem Inv.fpOk {X:Cx} {pins:List (Addr × Obj)} {σ:St} {H H':Hp} {s:Shared} {b:Addr} (I:Inv X pins σ H s) (hb:s.heap.objs.size <= b) (hn:H' b=none):z7e X pins H' b:=by
 refine ⟨hn,Nat.ne_of_gt (Nat.lt_of_lt_of_le I.lt hb),I.nofs hb,.inr (Nat.le_trans I.sz hb),fun x c e z=>?_,fun p hp z=>?_⟩
 ·obtain ⟨v,q⟩:=I.cell x c e
  exact absurd (Nat.lt_of_lt_of_le q.lt (by rw [z];exact hb)) (Nat.lt_irrefl _)
 ·exact absurd (Nat.lt_of_lt_of_le (Heap.lt_size (I.pin p hp).1) (by rw [z];exact hb)) (Nat.lt_irrefl _)
structure zbD (P:Program) (w:World) (K:PySem.W.Frag) (tg:Expr) (J:It) (fp:List Addr) (it:Addr) (tn:Nat->Heap->Prop):Prop where
 mem:it ∈ fp
 obj:∀ i h,tn i h->∀ b ∈ fp,∃ o,h.get? b=some o/\∀ v,o.data ≠ .cell v
 keep:∀ i h h',tn i h->(∀ b ∈ fp,∀ o,h.get? b=some o->h'.get? b=some o)->tn i h'
 item:∀ (X:Cx),X.prog=P->X.w=w->X.K=K->X.calm=true->∀ (i:Nat) (pins:List (Addr × Obj)) (s:Shared) (σ:St) (H:Hp) (E:Value->Shared->Prop),Inv X pins σ H s->(∀ b ∈ fp,z7e X pins H b)->tn i s.heap->J.go i H->
  wpAny (model P w) X.A (pyNext (.ref it)) (fun r s1=>∃ u,r=some u/\
   wpAny (model P w) X.A (letOwnedTupleGo tg (.ref it) u) (fun _ s2=>∃ x H',Inv X pins σ H' s2/\RelV x u/\J.yld i H x H'/\tn (i + 1) s2.heap/\∀ b ∈ fp,H' b=none) E s1) E s
 done:∀ (X:Cx),X.prog=P->X.w=w->X.K=K->X.calm=true->∀ (i:Nat) (pins:List (Addr × Obj)) (s:Shared) (σ:St) (H:Hp) (E:Value->Shared->Prop),Inv X pins σ H s->(∀ b ∈ fp,z7e X pins H b)->tn i s.heap->J.stop i H->
  wpAny (model P w) X.A (pyNext (.ref it)) (fun r s1=>r=none/\Inv X pins σ H s1) E s
 self:∀ (A:Around) (i:Nat) (s:Shared) (Q:Value->Shared->Prop) (E:Value->Shared->Prop),tn i s.heap->Q (.ref it) s->wpAny (model P w) A (pyIter (.ref it)) Q E s
abbrev TI:=St->Hp->(It->Hp->Prop)->Prop
def PIE (X:Cx) (pins:List (Addr × Obj)) (σ:St) (tg:Expr) (R:It->Hp->Prop) (itv:Value) (s2:Shared):Prop:=
 ∃ (it:Addr) (fp:List Addr) (tn:Nat->Heap->Prop) (J:It) (H':Hp),itv=.ref it/\Inv X pins σ H' s2/\zbD X.prog X.w X.K tg J fp it tn/\tn 0 s2.heap/\(∀ b ∈ fp,z7e X pins H' b)/\R J H'
def PI (X:Cx) (tg iter:Expr) (wi:TI):Prop:=
 ∀ (pins:List (Addr × Obj)) (s:Shared) (σ:St) (H:Hp) (R:It->Hp->Prop),Inv X pins σ H s->wi σ H R->
  wpAny (model X.prog X.w) X.A (eval iter X.env) (fun v s1=>wpAny (model X.prog X.w) X.A (pyIter v) (PIE X pins σ tg R) X.xe s1) X.xe s
theorem zcT {M:Model} {A:Around} {E:Value->Shared->Prop} {s:Shared} {tg:Expr} {it:Addr} {u:Value} {o:Obj} {n:String} {vs:Array Value} {Q:Unit->Shared->Prop} (ho:s.heap.get? it=some o) (hc:o.cls=.type n) (hd:o.data=.fields vs)
  (hn:["enumerate", "zip", "dict_itemiterator", "dict_reverseitemiterator", "odict_iterator", "itertools.zip_longest", "itertools.pairwise"].contains n=false) (hQ:Q () s):wpAny M A (letOwnedTupleGo tg (.ref it) u) Q E s:=by
 unfold letOwnedTupleGo
 cases tg <;> first
  | exact wpAny_pure hQ
  | (cases u <;> first
    | exact wpAny_pure hQ
    | (refine wpAny_bind (wpAny_load ho ?_)
       rw [hc,hd]
       show wpAny M A (if (["enumerate", "zip", "dict_itemiterator", "dict_reverseitemiterator", "odict_iterator", "itertools.zip_longest", "itertools.pairwise"].contains n && vs[0]? == some (rawInt _))=true then _ else _) Q E s
       rw [if_neg (by intro h;rw [hn,Bool.false_and] at h;cases h)]
       exact wpAny_pure hQ))
def Itl (K:PySem.W.Frag) (a:Addr):It:=
 ⟨fun i H=>∃ xs x,SqL K H a xs/\xs[i]?=some x,fun i H x H'=>H'=H/\∀ xs,SqL K H a xs->xs[i]?=some x,fun i H=>∃ xs,SqL K H a xs/\xs.length <= i⟩
def Itt (K:PySem.W.Frag) (a:Addr):It:=
 ⟨fun i H=>∃ xs x,SqT K H a xs/\xs[i]?=some x,fun i H x H'=>H'=H/\∀ xs,SqT K H a xs->xs[i]?=some x,fun i H=>∃ xs,SqT K H a xs/\xs.length <= i⟩
def Itr (lo:Int) (n:Nat):It:=⟨fun i _=>i < n,fun i H x H'=>H'=H/\x=.int (lo + i),fun i _=>n <= i⟩
theorem z7n {P:Program} {w:World} {K:PySem.W.Frag} {tg:Expr} (a it:Addr):zbD P w K tg (Itl K a) [it] it (fun i h=>h.IsListIter it a i) where
 mem:=by simp
 obj:=fun i h st b hb=>by
  have e:b=it:=by simpa using hb
  subst e
  obtain ⟨o,e,c,d⟩:=st
  exact ⟨o,e,fun v z=>by rw [d] at z;cases z⟩
 keep:=fun i h h' st k=>st.at fun o e=>k it (by simp) o e
 item:=by
  intro X hP hw hK hc i pins s σ H E I hf st hg
  subst hP hw hK
  obtain ⟨xs,x,hq,hx⟩:=hg
  obtain ⟨its,rv,p,hz⟩:=I.list hq
  obtain ⟨u,hu,ru⟩:=rv.get hx
  obtain ⟨f0,f1,f2,f3,f4,f5⟩:=hf it (by simp)
  refine wpAny_pyNext_list_item st p.isList (x:=u) (by simpa using hu) fun h' st' sb=>?_
  have I1:Inv X pins σ H { s with heap:=h' }:=I.turned (t':=s.toks) (fun b o hb e=>(sb.2 b hb).trans e) f0 f1 f3 f4 f5
  obtain ⟨o,e,c,d⟩:=id st'
  exact ⟨u,rfl,zcT (s:={ s with heap:=h' }) e c d (by decide) ⟨x,H,I1,ru,⟨rfl,fun ys hy=>by rw [I.list_inj hy hq];exact hx⟩,st',fun b hb=>(hf b hb).1⟩⟩
 done:=by
  intro X hP hw hK hc i pins s σ H E I hf st hg
  subst hP hw hK
  obtain ⟨xs,hq,hx⟩:=hg
  obtain ⟨its,rv,p,hz⟩:=I.list hq
  obtain ⟨f0,f1,f2,f3,f4,f5⟩:=hf it (by simp)
  have hl:=rv.length
  exact wpAny_pyNext_list_end (I.ok.hd hc) st p.isList (by simp;omega) fun h' eb=>⟨rfl,I.turned (t':=s.toks) (fun b o hb e=>eb b o hb e) f0 f1 f3 f4 f5⟩
 self:=fun _ _ _ _ _ st h=>wpAny_pyIter_listiter st h
theorem zaj {P:Program} {w:World} {K:PySem.W.Frag} {tg:Expr} (a it:Addr):zbD P w K tg (Itt K a) [it] it (fun i h=>h.IsTupleIter it a i) where
 mem:=by simp
 obj:=fun i h st b hb=>by
  have e:b=it:=by simpa using hb
  subst e
  obtain ⟨o,e,c,d⟩:=st
  exact ⟨o,e,fun v z=>by rw [d] at z;cases z⟩
 keep:=fun i h h' st k=>st.at fun o e=>k it (by simp) o e
 item:=by
  intro X hP hw hK hc i pins s σ H E I hf st hg
  subst hP hw hK
  obtain ⟨xs,x,hq,hx⟩:=hg
  obtain ⟨its,rv,p,hz⟩:=I.tuple hq
  obtain ⟨u,hu,ru⟩:=rv.get hx
  obtain ⟨f0,f1,f2,f3,f4,f5⟩:=hf it (by simp)
  refine wpAny_pyNext_tuple_item st (show s.heap.IsTuple a its.toArray from p) (x:=u) (by simpa using hu) fun h' st' sb=>?_
  have I1:Inv X pins σ H { s with heap:=h' }:=I.turned (t':=s.toks) (fun b o hb e=>(sb.2 b hb).trans e) f0 f1 f3 f4 f5
  obtain ⟨o,e,c,d⟩:=id st'
  exact ⟨u,rfl,zcT (s:={ s with heap:=h' }) e c d (by decide) ⟨x,H,I1,ru,⟨rfl,fun ys hy=>by rw [I.tuple_inj hy hq];exact hx⟩,st',fun b hb=>(hf b hb).1⟩⟩
 done:=by
  intro X hP hw hK hc i pins s σ H E I hf st hg
  subst hP hw hK
  obtain ⟨xs,hq,hx⟩:=hg
  obtain ⟨its,rv,p,hz⟩:=I.tuple hq
  obtain ⟨f0,f1,f2,f3,f4,f5⟩:=hf it (by simp)
  have hl:=rv.length
  exact wpAny_pyNext_tuple_end (I.ok.hd hc) st (show s.heap.IsTuple a its.toArray from p) (by simp;omega) fun h' eb=>⟨rfl,I.turned (t':=s.toks) (fun b o hb e=>eb b o hb e) f0 f1 f3 f4 f5⟩
 self:=fun _ _ _ _ _ st h=>wpAny_pyIter_tupleiter st h
theorem z9R {P:Program} {w:World} {K:PySem.W.Frag} {tg:Expr} (it:Addr) (lo:Int) (n:Nat):zbD P w K tg (Itr lo n) [it] it (fun i h=>IsRangeIter h it (lo + (i:Nat) * 1) ((n:Int) - (i:Nat)) 1) where
 mem:=by simp
 obj:=fun i h st b hb=>by
  have e:b=it:=by simpa using hb
  subst e
  exact ⟨_,st,fun v z=>by
   have z':Data.fields _=Data.cell v:=z
   cases z'⟩
 keep:=fun i h h' st k=>k it (by simp) _ st
 item:=by
  intro X hP hw hK hc i pins s σ H E I hf st hg
  subst hP hw hK
  obtain ⟨f0,f1,f2,f3,f4,f5⟩:=hf it (by simp)
  have W:=Walks.range (prog:=X.prog) (w:=X.w) (I.ok.hd hc) it lo 1 n
  refine wpAny_with_toks I.tk (W.item i s _ _ hg st fun v h' tk hv st' kk htk=>?_)
  have htk:0 < tk:=htk
  obtain ⟨t,rfl⟩:=hv
  have I1:Inv X pins σ H { s with heap:=h',toks:=tk }:=I.turned (fun b o hb e=>kk b o (by simpa using hb) e) f0 f1 f3 f4 f5
  refine ⟨_,rfl,zcT (s:={ s with heap:=h',toks:=tk }) (n := "range_iterator") st' rfl rfl (by decide) ⟨.int (lo + i),H,I1,⟨t,?_⟩,⟨rfl,rfl⟩,st',fun b hb=>(hf b hb).1⟩⟩
  rw [Int.mul_one]
 done:=by
  intro X hP hw hK hc i pins s σ H E I hf st hg
  subst hP hw hK
  obtain ⟨f0,f1,f2,f3,f4,f5⟩:=hf it (by simp)
  exact wpAny_pyNext_range_end (I.ok.hd hc) st (by have:n <= i:=hg;omega) fun h' eb=>⟨rfl,I.turned (t':=s.toks) (fun b o hb e=>eb b o hb e) f0 f1 f3 f4 f5⟩
 self:=fun _ _ _ _ _ st h=>wpAny_pyIter_rangeiter st h
section
variable {X:Cx} {tg:Expr}
theorem zdf {pins:List (Addr × Obj)} {σ:St} {H:Hp} {s:Shared} {R:It->Hp->Prop} {E:Value->Shared->Prop} {lo hi:Int} {t u v:Tok} {tk:Nat} (I:Inv X pins σ H s) (h1:-(2 ^ 62) <= lo) (h2:lo < 2 ^ 62) (h3:-(2 ^ 62) <= hi) (h4:hi < 2 ^ 62)
  (q:R (Itr lo (hi - lo).toNat) H) (htk:0 < tk):wpAny (model X.prog X.w) X.A (pyIter (.ref s.heap.objs.size)) (PIE X pins σ tg R) E { s with heap:=s.heap.push { cls:=.type "range",data:=.fields #[.int lo t,.int hi u,.int 1 v] },toks:=tk }:=by
 refine wpAny_pyIter_range (IsRange.new ..) (small_one h1 h2 h3 h4) ?_
 have I1:Inv X pins σ H { s with heap:=s.heap.push { cls:=.type "range",data:=.fields #[.int lo t,.int hi u,.int 1 v] },toks:=tk }:=I.kept fun b o e=>Heap.get?_push_of_some _ e
 refine ⟨(s.heap.push { cls:=.type "range",data:=.fields #[.int lo t,.int hi u,.int 1 v] }).objs.size,[(s.heap.push { cls:=.type "range",data:=.fields #[.int lo t,.int hi u,.int 1 v] }).objs.size],_,_,H,rfl,
  I1.kept (t':=tk) fun b o e=>Heap.get?_push_of_some _ e,z9R _ lo (hi - lo).toNat,?_,fun b hb=>?_,q⟩
 ·have e1:lo + ((0:Nat):Int) * 1=lo:=by simp
  have e2:(((hi - lo).toNat:Nat):Int) - ((0:Nat):Int)=Builtin.Range.rangeSize lo hi 1:=by rw [rangeSize_one];split <;> omega
  show IsRangeIter _ _ (lo + ((0:Nat):Int) * 1) ((((hi - lo).toNat:Nat):Int) - ((0:Nat):Int)) 1
  rw [e1,e2]
  exact Heap.get?_push_size _ rfl
 ·have e:b=(s.heap.push { cls:=.type "range",data:=.fields #[.int lo t,.int hi u,.int 1 v] }).objs.size:=by simpa using hb
  subst e
  exact I1.fpOk (Nat.le_refl _) (I1.hok.fresh (Nat.le_refl _))
def zjh (ta:TA):TI:=fun σ H R=>ta σ H fun vs H1=>∃ j:Int,vs=[.int j]/\-(2 ^ 62) <= j/\j < 2 ^ 62/\R (Itr 0 j.toNat) H1
theorem zbR {a:Expr} {ta:TA} {p pos:Pos} (hg:Gl X "range") (hm:X.mg "range" = none) (ha:PA X [a] ta) (hs:starEach [a] X.env=[(false,eval a X.env)]:=by rfl):PI X tg (.Call (.Name "range" p) [a] [] pos) (zjh ta):=by
 intro pins s σ H R I h
 refine Call_ (z6n I hg hm boot_range (PyProof.Rows.callWith_type1 (thn (ha pos pins s σ H _ I h) fun us s1 ⟨vs,H1,I1,r1,q1⟩=>?_) hs rfl))
 obtain ⟨j,e,q1,q2,q⟩:=q1
 subst e
 cases r1 with
 | cons r rr=>
  cases rr
  obtain ⟨t,rfl⟩:=r
  exact call_range_1 (zdf I1 (by omega) (by omega) q1 q2 (by simpa using q) (by first|exact Nat.succ_pos _|exact I1.tk))
def zkK (wi:TI) (g:TG) (tb:TS):TS:=fun D σ H=>wi σ H fun J H1=>∃ W:Nat->Nat->St->Hp->Prop,(∃ m,W 0 m σ H1)/\∀ i m σ H,W i m σ H->
 (J.stop i H/\D.nx σ H) \/ (J.go i H/\∃ N:St->Hp->Prop,(∀ σ' H',N σ' H'->∃ m',m' < m/\W (i + 1) m' σ' H')/\∀ x H',J.yld i H x H'->g x σ H' fun σ2 H2=>tb { D with nx:=N,ct:=N,bk:=D.nx } σ2 H2)
def z7M (fp:List Addr) (h:Heap):List (Addr × Obj):=fp.filterMap fun b=>(h.get? b).map fun o=>(b,o)
theorem z3V {fp:List Addr} {h:Heap} {b:Addr} {o:Obj} (hb:b ∈ fp) (e:h.get? b=some o):(b,o) ∈ z7M fp h:=List.mem_filterMap.mpr ⟨b,hb,by rw [e];rfl⟩
theorem zbm {fp:List Addr} {h:Heap} {p:Addr × Obj} (hp:p ∈ z7M fp h):p.1 ∈ fp/\h.get? p.1=some p.2:=by
 obtain ⟨b,hb,e⟩:=List.mem_filterMap.mp hp
 cases q:h.get? b with
 | none=>rw [q] at e;cases e
 | some o=>
  rw [q] at e
  have e':(b,o)=p:=Option.some.inj e
  subst e'
  exact ⟨hb,q⟩
theorem Inv.pinned {pins:List (Addr × Obj)} {σ:St} {H:Hp} {s:Shared} {fp:List Addr} (I:Inv X pins σ H s) (hf:∀ b ∈ fp,z7e X pins H b) (ho:∀ b ∈ fp,∃ o,s.heap.get? b=some o/\∀ v,o.data ≠ .cell v):Inv X (pins ++ z7M fp s.heap) σ H s:=
 I.pins_of fun p hp=>(List.mem_append.mp hp).elim (fun z=>I.pin p (List.mem_append_right _ z)) fun z=>by
  obtain ⟨hb,e⟩:=zbm z
  obtain ⟨f0,f1,f2,_⟩:=hf p.1 hb
  obtain ⟨o,e',d⟩:=ho p.1 hb
  rw [e] at e';cases e'
  exact ⟨e,f0,f1,f2,d⟩
theorem Inv.unpinned {pins pl:List (Addr × Obj)} {σ:St} {H:Hp} {s:Shared} (I:Inv X (pins ++ pl) σ H s):Inv X pins σ H s:=I.pins_of fun p hp=>I.pin p (List.mem_append_right _ (List.mem_append_left _ hp))
theorem zhj {iter:Expr} {body:List Stmt} {wi:TI} {g:TG} {tb:TS} {pos:Pos} (hp:PassesOwn (model X.prog X.w) X.A X.env X.xe) (hc:X.calm=true) (hi:PI X tg iter wi) (hg:PG X tg g) (hb:PSs X body tb)
  (hs:∀ x,foldedSetIterable iter X.env x=pure x:=by intro _;rfl):PS X (.For tg iter body [] pos) (zkK wi g tb):=by
 intro pins s σ H D I h
 refine wpAny_For (thn (hi pins s σ H _ I h) fun v s1 h1=>thn h1 fun itv s2 h2=>?_) hs
 obtain ⟨it,fp,tn,J,H2,e,I2,T,st2,f2,W,⟨m0,w0⟩,turn⟩:=h2
 subst e
 -- what stays true of the iterator's objects through the loop
 have stat:∀ {H':Hp},(∀ b ∈ fp,H' b=none)->∀ b ∈ fp,z7e X pins H' b:=fun hn b hb=>⟨hn b hb,(f2 b hb).2⟩
 refine codeAny_forLoop_any (fun n s'=>∃ i σ' H',Inv X pins σ' H' s'/\tn i s'.heap/\(∀ b ∈ fp,H' b=none)/\W i n σ' H') ?_ m0 ⟨0,σ,H2,I2,st2,fun b hb=>(f2 b hb).1,w0⟩
 rintro n s3 ⟨i,σ3,H3,I3,st3,fr3,w3⟩
 rcases turn i n σ3 H3 w3 with ⟨stop,qn⟩|⟨go,N,hN,step⟩
 ·refine wpAny_passesOwn hp (thn (T.done X rfl rfl rfl hc i pins s3 σ3 H3 X.xe I3 (stat fr3) st3 stop) fun r s4 ⟨hr,I4⟩=>?_)
  subst hr
  exact wpAny_execs_nil ⟨σ3,H3,I4,qn⟩
 ·refine wpAny_passesOwn hp (thn (T.item X rfl rfl rfl hc i pins s3 σ3 H3 X.xe I3 (stat fr3) st3 go) fun r s4 ⟨u,hr,h4⟩=>?_)
  subst hr
  refine wpAny_passesOwn hp (thn h4 fun _ s5 ⟨x,H5,I5,r5,y5,st5,fr5⟩=>?_)
  have I5':=I5.pinned (stat fr5) (T.obj _ _ st5)
  refine wpAny_passesOwn hp (thn (hg _ s5 σ3 H5 x u _ I5' r5 (step x H5 y5)) fun _ s6 ⟨σ6,H6,I6,q6⟩=>?_)
  refine wpAny_passesOwn hp (thn (hb _ s6 σ6 H6 _ I6 q6) fun f s7 q7=>?_)
  have again:∀ {σ7:St} {H7:Hp},Inv X (pins ++ z7M fp s5.heap) σ7 H7 s7->N σ7 H7->∃ m,m < n/\∃ i σ' H',Inv X pins σ' H' s7/\tn i s7.heap/\(∀ b ∈ fp,H' b=none)/\W i m σ' H':=fun {σ7 H7} I7 n7=>by
   obtain ⟨m',hm,w7⟩:=hN σ7 H7 n7
   refine ⟨m',hm,i + 1,σ7,H7,I7.unpinned,T.keep _ _ _ st5 fun b hb o e=>(I7.pin (b,o) (List.mem_append_right _ (List.mem_append_right _ (z3V hb e)))).1,fun b hb=>?_,w7⟩
   obtain ⟨o,e,d⟩:=T.obj _ _ st5 b hb
   exact (I7.pin (b,o) (List.mem_append_right _ (List.mem_append_right _ (z3V hb e)))).2.1
  cases f with
  | next=>obtain ⟨σ7,H7,I7,n7⟩:=q7;exact again I7 n7
  | cont=>obtain ⟨σ7,H7,I7,n7⟩:=q7;exact again I7 n7
  | brk=>obtain ⟨σ7,H7,I7,q7⟩:=q7;exact ⟨σ7,H7,I7.unpinned,q7⟩
  | ret v=>obtain ⟨x7,σ7,H7,I7,r7,q7⟩:=q7;exact ⟨x7,σ7,H7,I7.unpinned,r7,q7⟩
end
abbrev R2:=V->V->Hp->VK->Prop
def OpR (X:Cx) (f:Value->Value->Sem Value) (r:R2):Prop:=
 ∀ (pins:List (Addr × Obj)) (s:Shared) (σ:St) (H:Hp) (x y:V) (v u:Value) (Q:VK),Inv X pins σ H s->RelV x v->RelV y u->r x y H Q->
  wpAny (model X.prog X.w) X.A (f v u) (EP X pins σ Q) X.xe s
def UnR (X:Cx) (f:Value->Sem Value) (r:V->Hp->VK->Prop):Prop:=
 ∀ (pins:List (Addr × Obj)) (s:Shared) (σ:St) (H:Hp) (x:V) (v:Value) (Q:VK),Inv X pins σ H s->RelV x v->r x H Q->
  wpAny (model X.prog X.w) X.A (f v) (EP X pins σ Q) X.xe s
def CallR (X:Cx) (f:Value) (r:List V->Hp->VK->Prop):Prop:=
 ∀ (pins:List (Addr × Obj)) (s:Shared) (σ:St) (H:Hp) (xs:List V) (us:List Value) (Q:VK),Inv X pins σ H s->Vals xs us->r xs H Q->
  wpAny (model X.prog X.w) X.A (call f us) (EP X pins σ Q) X.xe s
def zkM (X:Cx) (r:V->Hp->(Bool->Hp->Prop)->Prop):Prop:=
 ∀ (pins:List (Addr × Obj)) (s:Shared) (σ:St) (H:Hp) (x:V) (v:Value) (Q:Bool->Hp->Prop),Inv X pins σ H s->RelV x v->r x H Q->
  wpAny (model X.prog X.w) X.A (truthy v) (TP X pins σ Q) X.xe s
def tOp (r:R2) (ta tb:TE):TE:=fun σ H Q=>ta σ H fun x H1=>tb σ H1 fun y H2=>r x y H2 Q
def tUn (r:V->Hp->VK->Prop) (ta:TE):TE:=fun σ H Q=>ta σ H fun x H1=>r x H1 Q
def rI (C:Int->Int->Prop) (g:Int->Int->V):R2:=fun x y H Q=>∃ i j,x=.int i/\y=.int j/\C i j/\Q (g i j) H
def rI0 (g:Int->Int->V):R2:=fun x y H Q=>∃ i j,x=.int i/\y=.int j/\Q (g i j) H
def rU (g:Int->V):V->Hp->VK->Prop:=fun x H Q=>∃ i,x=.int i/\Q (g i) H
section
variable {X:Cx} {a b:Expr} {ta tb:TE} {pos:Pos}
theorem zjz (ha:PE X a ta) (hb:PE X b tb) {pins:List (Addr × Obj)} {s:Shared} {σ:St} {H:Hp} {R:V->V->Hp->Prop} (I:Inv X pins σ H s)
  (h:ta σ H fun x H1=>tb σ H1 fun y H2=>R x y H2) {Q:Value->Shared->Prop} {f:Value->Value->Sem Value}
  (hf:∀ v u s2 x y H2,Inv X pins σ H2 s2->RelV x v->RelV y u->R x y H2->wpAny (model X.prog X.w) X.A (f v u) Q X.xe s2):
  wpAny (model X.prog X.w) X.A (eval a X.env) (fun v s₁=>wpAny (model X.prog X.w) X.A (eval b X.env) (fun u s₂=>wpAny (model X.prog X.w) X.A (f v u) Q X.xe s₂) X.xe s₁) X.xe s:=by
 refine thn (ha pins s σ H _ I h) fun v s1 ⟨x,H1,I1,r1,q1⟩=>?_
 refine thn (hb pins s1 σ H1 _ I1 q1) fun u s2 ⟨y,H2,I2,r2,q2⟩=>?_
 exact hf v u s2 x y H2 I2 r1 r2 q2
theorem zje {op:Operator} {r:R2} (ho:OpR X (binaryOp op) r) (ha:PE X a ta) (hb:PE X b tb):PE X (.BinOp a op b pos) (tOp r ta tb):=by
 intro pins s σ H Q I h
 exact wpAny_BinOp (zjz ha hb I h fun v u s2 x y H2 I2 rx ry q=>ho pins s2 σ H2 x y v u Q I2 rx ry q)
theorem zjB {op:UnaryOp} {r:V->Hp->VK->Prop} (ho:UnR X (unaryOp op) r) (ha:PE X a ta):PE X (.UnaryOp op a pos) (tUn r ta):=by
 intro pins s σ H Q I h
 exact UnaryOp_ (thn (ha pins s σ H _ I h) fun v s1 ⟨x,H1,I1,r1,q1⟩=>ho pins s1 σ H1 x v Q I1 r1 q1)
theorem opI {f:Value->Value->Sem Value} {C:Int->Int->Prop} {g:Int->Int->Int}
  (rule:∀ (i j:Int) (t u:Tok) (s:Shared) (Q:Value->Shared->Prop) (E:Value->Shared->Prop),C i j->Q (.int (g i j) s.toks) { s with toks:=s.toks + 1 }->wpAny (model X.prog X.w) X.A (f (.int i t) (.int j u)) Q E s):
  OpR X f (rI C fun i j=>.int (g i j)):=by
 intro pins s σ H x y v u Q I rx ry h
 obtain ⟨i,j,rfl,rfl,hc,q⟩:=h
 obtain ⟨t,rfl⟩:=rx
 obtain ⟨t',rfl⟩:=ry
 exact rule i j t t' s _ _ hc ⟨.int (g i j),H,I.tok _,⟨_,rfl⟩,q⟩
theorem zjf {f:Value->Value->Sem Value} {g:Int->Int->Int}
  (rule:∀ (i j:Int) (t u:Tok) (s:Shared) (Q:Value->Shared->Prop) (E:Value->Shared->Prop),Q (.int (g i j) s.toks) { s with toks:=s.toks + 1 }->wpAny (model X.prog X.w) X.A (f (.int i t) (.int j u)) Q E s):
  OpR X f (rI0 fun i j=>.int (g i j)):=by
 intro pins s σ H x y v u Q I rx ry h
 obtain ⟨i,j,rfl,rfl,q⟩:=h
 obtain ⟨t,rfl⟩:=rx
 obtain ⟨t',rfl⟩:=ry
 exact rule i j t t' s _ _ ⟨.int (g i j),H,I.tok _,⟨_,rfl⟩,q⟩
theorem zjS {f:Value->Value->Sem Value} {g:Int->Int->Bool}
  (rule:∀ (i j:Int) (t u:Tok) (s:Shared) (Q:Value->Shared->Prop) (E:Value->Shared->Prop),Q (.bool (g i j)) s->wpAny (model X.prog X.w) X.A (f (.int i t) (.int j u)) Q E s):
  OpR X f (rI0 fun i j=>.bl (g i j)):=by
 intro pins s σ H x y v u Q I rx ry h
 obtain ⟨i,j,rfl,rfl,q⟩:=h
 obtain ⟨t,rfl⟩:=rx
 obtain ⟨t',rfl⟩:=ry
 exact rule i j t t' s _ _ ⟨.bl (g i j),H,I,rfl,q⟩
def zk8 (i j:Int):Prop:=0 < j/\j < 1073741824
def zj7 (i j:Int):Prop:=0 <= j/\j <= 1000000/\i.natAbs < 2 ^ 64
def CMul (i j:Int):Prop:=(-(2 ^ 64) < i/\i < 2 ^ 64) \/ (-(2 ^ 64) < j/\j < 2 ^ 64)
theorem CMul.ok {i j:Int} (h:CMul i j):IntMulOk i j:=by
 rcases h with ⟨h1,h2⟩|⟨h1,h2⟩
 ·exact .of_left (intBits_le_64 h1 h2)
 ·exact .of_right (intBits_le_64 h1 h2)
theorem za3 (k:Nat):(0:Int) <= 2 ^ k:=by
 rw [two_pow_cast]
 exact Int.natCast_nonneg _
theorem zht:OpR X (binaryOp .Add) (rI0 fun i j=>.int (i + j)):=zjf fun _ _ _ _ _ _ _ q=>add_int q
theorem zho:OpR X (binaryOp .Sub) (rI0 fun i j=>.int (i - j)):=zjf fun _ _ _ _ _ _ _ q=>sub_int q
theorem zig:OpR X (binaryOp .Mult) (rI CMul fun i j=>.int (i * j)):=opI fun _ _ _ _ _ _ _ hc q=>mul_int q hc.ok
theorem zgP:OpR X (binaryOp .FloorDiv) (rI zk8 fun i j=>.int (i / j)):=opI fun i j _ _ _ _ _ hc q=>by
 have h1:(0:Int) < j:=hc.1
 have h2:j < 1073741824:=hc.2
 exact floordiv_int (by omega) (by rw [Int.fdiv_eq_ediv_of_nonneg i (by omega)];exact q) (.inl (PyProof.noPylong_small (by omega)))
theorem ziv:OpR X (binaryOp .Mod) (rI (fun _ j=>0 < j) fun i j=>.int (i % j)):=opI fun i j _ _ _ _ _ hc q=>by
 have h1:(0:Int) < j:=hc
 exact mod_int' (by omega) (by rw [Int.fmod_eq_emod_of_nonneg i (by omega)];exact q)
theorem zih:OpR X (binaryOp .Pow) (rI zj7 fun i j=>.int (i ^ j.toNat)):=opI fun _ _ _ _ _ _ _ hc q=>pow_int_small hc.1 hc.2.1 hc.2.2 q
theorem zhb:OpR X (binaryOp .LShift) (rI zj7 fun i j=>.int (i * 2 ^ j.toNat)):=opI fun _ _ _ _ _ _ _ hc q=>lshift_int_small hc.1 hc.2.1 hc.2.2 q
theorem ziH:OpR X (binaryOp .RShift) (rI (fun _ j=>0 <= j) fun i j=>.int (i / 2 ^ j.toNat)):=opI fun i j _ _ _ _ _ hc q=>
 rshift_int hc (by rw [Int.fdiv_eq_ediv_of_nonneg i (za3 _)];exact q)
theorem zhv:OpR X (binaryOp .BitAnd) (rI0 fun i j=>.int (Builtin.bitAnd i j)):=zjf fun _ _ _ _ _ _ _ q=>and_int q
theorem unI {f:Value->Sem Value} {g:Int->Int}
  (rule:∀ (i:Int) (t:Tok) (s:Shared) (Q:Value->Shared->Prop) (E:Value->Shared->Prop),Q (.int (g i) s.toks) { s with toks:=s.toks + 1 }->wpAny (model X.prog X.w) X.A (f (.int i t)) Q E s):
  UnR X f (rU fun i=>.int (g i)):=by
 intro pins s σ H x v Q I rx h
 obtain ⟨i,rfl,q⟩:=h
 obtain ⟨t,rfl⟩:=rx
 exact rule i t s _ _ ⟨.int (g i),H,I.tok _,⟨_,rfl⟩,q⟩
theorem zhB:UnR X (unaryOp .USub) (rU fun i=>.int (-i)):=unI fun _ _ _ _ _ q=>neg_int q
end
section
variable {X:Cx} {a b c:Expr} {ta tb tc:TE} {pos:Pos}
theorem z7p {pins:List (Addr × Obj)} {σ:St} {H:Hp} {s:Shared} {Q:VK} {k k':Bool} (I:Inv X pins σ H s) (q:Q (.bl k) H) (e:k=k'):EP X pins σ Q (.bool k') s:=by
 subst e
 exact ⟨.bl k,H,I,rfl,q⟩
theorem zfc:OpR X (compareOp .Lt) (rI0 fun i j=>.bl (decide (i < j))):=zjS fun _ _ _ _ _ _ _ q=>lt_int q
theorem zhZ:OpR X (compareOp .LtE) (rI0 fun i j=>.bl (decide (i <= j))):=zjS fun _ _ _ _ _ _ _ q=>le_int q
theorem zhJ:OpR X (compareOp .GtE) (rI0 fun i j=>.bl (decide (j <= i))):=zjS fun _ _ _ _ _ _ _ q=>ge_int q
theorem zbe:OpR X (compareOp .Lt) (fun x y H Q=>∃ i j,x=.str i/\y=.str j/\Q (.bl (decide (i.cps.toList < j.cps.toList))) H):=by
 intro pins s σ H x y v u Q I rx ry h
 obtain ⟨i,j,rfl,rfl,q⟩:=h
 obtain ⟨t,rfl⟩:=rx
 obtain ⟨t',rfl⟩:=ry
 exact lt_str (z7p I q rfl)
theorem zbP:OpR X (compareOp .In) (fun x y H Q=>∃ i j,x=.str i/\y=.str j/\Q (.bl (!(Builtin.Str.occurrences j i 0 j.length 1).isEmpty)) H):=by
 intro pins s σ H x y v u Q I rx ry h
 obtain ⟨i,j,rfl,rfl,q⟩:=h
 obtain ⟨t,rfl⟩:=rx
 obtain ⟨t',rfl⟩:=ry
 exact in_str (z7p I q rfl)
theorem zeJ:OpR X (compareOp .Is) (fun x y H Q=>y=.non/\Q (.bl (decide (x=.non))) H):=by
 intro pins s σ H x y v u Q I rx ry h
 obtain ⟨rfl,q⟩:=h
 cases ry
 refine is_none_gen (z7p I q ?_)
 cases x <;> first
  | (cases rx;rfl)
  | (obtain ⟨t,rfl⟩:=rx;rfl)
theorem zc1:OpR X (compareOp .IsNot) (fun x y H Q=>y=.non/\Q (.bl (!decide (x=.non))) H):=by
 intro pins s σ H x y v u Q I rx ry h
 obtain ⟨rfl,q⟩:=h
 cases ry
 refine isnot_none_gen (z7p I q ?_)
 cases x <;> first
  | (cases rx;rfl)
  | (obtain ⟨t,rfl⟩:=rx;rfl)
theorem z7Z:OpR X (compareOp .NotIn) (fun x y H Q=>∃ i j,x=.str i/\y=.str j/\Q (.bl (!(!(Builtin.Str.occurrences j i 0 j.length 1).isEmpty))) H):=by
 intro pins s σ H x y v u Q I rx ry h
 obtain ⟨i,j,rfl,rfl,q⟩:=h
 obtain ⟨t,rfl⟩:=rx
 obtain ⟨t',rfl⟩:=ry
 exact notIn_str (z7p I q rfl)
theorem OpR.or {f:Value->Value->Sem Value} {r r':R2} (h:OpR X f r) (h':OpR X f r'):OpR X f (fun x y H Q=>r x y H Q \/ r' x y H Q):=by
 intro pins s σ H x y v u Q I rx ry q
 rcases q with q|q
 ·exact h pins s σ H x y v u Q I rx ry q
 ·exact h' pins s σ H x y v u Q I rx ry q
theorem z2V (b:Expr) {op:CmpOp} (h:op ≠ .In:=by decide) (h2:op ≠ .NotIn:=by decide):behindInMarks op b=false:=by
 have e1:(op == CmpOp.In)=false:=by cases op <;> first|rfl|exact absurd rfl h
 have e2:(op == CmpOp.NotIn)=false:=by cases op <;> first|rfl|exact absurd rfl h2
 cases b <;> simp [behindInMarks,e1,e2]
theorem zbg {op:CmpOp} {r:R2} (ho:OpR X (compareOp op) r) (ha:PE X a ta) (hb:PE X b tb) (hm:behindInMarks op b=false):PE X (.Compare a [op] [b] pos) (tOp r ta tb):=by
 intro pins s σ H Q I h
 exact wpAny_Compare1 (zjz ha hb I h fun v u s2 x y H2 I2 rx ry q=>ho pins s2 σ H2 x y v u Q I2 rx ry q) hm
def zfR (t:TE):TT:=fun σ H Q=>t σ H fun x H'=>∃ k,x=.bl k/\Q k H'
theorem zcf {op:CmpOp} {r:R2} (ho:OpR X (compareOp op) r) (ha:PE X a ta) (hb:PE X b tb) (hm:behindInMarks op b=false):PT X (.Compare a [op] [b] pos) (zfR (tOp r ta tb)):=by
 intro pins s σ H Q I h
 refine wpAny_isTrue_Compare1 (thn (ha pins s σ H _ I h) fun v s1 ⟨x,H1,I1,r1,q1⟩=>thn (hb pins s1 σ H1 _ I1 q1) fun u s2 ⟨y,H2,I2,r2,q2⟩=>
  thn (ho pins s2 σ H2 x y v u _ I2 r1 r2 q2) fun c s3 ⟨z,H3,I3,r3,k,e,q3⟩=>?_) hm
 subst e
 cases r3
 exact wpAny_truthy_bool ⟨H3,I3,q3⟩
def zha (r r':R2) (ta tb tc:TE):TE:=fun σ H Q=>ta σ H fun x H1=>tb σ H1 fun y H2=>r x y H2 fun z H3=>∃ k,z=.bl k/\
 (if k=true then tc σ H3 fun w' H4=>r' y w' H4 Q else Q (.bl false) H3)
theorem zdZ {op op':CmpOp} {r r':R2} (ho:OpR X (compareOp op) r) (ho':OpR X (compareOp op') r') (ha:PE X a ta) (hb:PE X b tb) (hc:PE X c tc)
  (hm:lastMarks [op,op'] [b,c]=false:=by with_unfolding_all rfl):PE X (.Compare a [op,op'] [b,c] pos) (zha r r' ta tb tc):=by
 intro pins s σ H Q I h
 refine Compare_chain (thn (ha pins s σ H _ I h) fun v s1 ⟨x,H1,I1,r1,q1⟩=>chain_link (thn (hb pins s1 σ H1 _ I1 q1) fun u s2 ⟨y,H2,I2,r2,q2⟩=>
  thn (ho pins s2 σ H2 x y v u _ I2 r1 r2 q2) fun d s3 ⟨z,H3,I3,r3,k,e,q3⟩=>?_)) hm
 subst e
 cases r3
 refine wpAny_truthy_bool ?_
 cases k with
 | false=>exact ite_ff ⟨.bl false,H3,I3,rfl,q3⟩
 | true=>exact ite_tt (chain_last (thn (hc pins s3 σ H3 _ I3 q3) fun w' s4 ⟨z',H4,I4,r4,q4⟩=>ho' pins s4 σ H4 y z' u w' Q I4 r2 r4 q4))
def zjY (K:PySem.W.Frag) (x:V) (H:Hp) (k:Bool):Prop:=
 match x with
 | .non=>k=false
 | .bl b=>k=b
 | .int i=>k=(i != 0)
 | .str y=>y.length <= sizeLine/\k=((y.length:Int) != 0)
 | .byt y=>y.size <= sizeLine/\k=((y.size:Int) != 0)
 | .ref p=>(∃ xs,SqL K H p xs/\k = !xs.isEmpty) \/ (∃ xs,SqT K H p xs/\k = !xs.isEmpty) \/ ∃ kvs,H p=some (.dK kvs)/\k = !kvs.isEmpty
 | _=>False
theorem z9U {κ:Type} {kvs:List (κ × V)} {vs:List (κ × Value)} (r:KV kvs vs):(!vs.isEmpty) = !kvs.isEmpty:=by
 cases r <;> rfl
theorem z6c {xs:List V} {its:List Value} (r:Vals xs its):(!its.toArray.isEmpty) = !xs.isEmpty:=by
 cases r <;> simp
theorem z6u:(sizeLine:Nat) < 2 ^ 63:=by rw [sizeLine_eq];decide
theorem zi4:zkM X (fun x H Q=>∃ k,zjY X.K x H k/\Q k H):=by
 intro pins s σ H x v Q I rx h
 obtain ⟨k,e,q⟩:=h
 have hl:=z6u
 have hs:sizeLine=16777216:=sizeLine_eq
 cases x with
 | non=>
  cases rx
  have e':k=false:=e
  subst e'
  exact truthy_none ⟨H,I,q⟩
 | bl b=>
  cases rx
  have e':k=b:=e
  subst e'
  exact wpAny_truthy_bool ⟨H,I,q⟩
 | int i=>
  obtain ⟨t,rfl⟩:=rx
  have e':k=(i != 0):=e
  subst e'
  exact PySem.P.truthy_int ⟨H,I,q⟩
 | str y=>
  obtain ⟨t,rfl⟩:=rx
  obtain ⟨hy,e'⟩:y.length <= sizeLine/\k=((y.length:Int) != 0):=e
  subst e'
  exact PySem.P.truthy_str (by omega) ⟨H,I.tok _,q⟩
 | byt y=>
  obtain ⟨t,rfl⟩:=rx
  obtain ⟨hy,e'⟩:y.size <= sizeLine/\k=((y.size:Int) != 0):=e
  subst e'
  exact PySem.W.truthy_bytes (by omega) ⟨H,I.tok _,q⟩
 | ref p=>
  cases rx
  have e':(∃ xs,SqL X.K H p xs/\k = !xs.isEmpty) \/ (∃ xs,SqT X.K H p xs/\k = !xs.isEmpty) \/ ∃ kvs,H p=some (.dK kvs)/\k = !kvs.isEmpty:=e
  rcases e' with ⟨xs,hx,e'⟩|⟨xs,hx,e'⟩|⟨kvs,hx,e'⟩
  ·subst e'
   obtain ⟨its,r,pl,hz⟩:=I.list hx
   have hlen:=r.length
   exact wpAny_truthy_list pl.isList (by simp only [List.size_toArray];omega) ⟨H,I.tok _,by rw [z6c r];exact q⟩
  ·subst e'
   obtain ⟨its,r,pl,hz⟩:=I.tuple hx
   have hlen:=r.length
   exact truthy_tuple pl (by simp only [List.size_toArray];omega) ⟨H,I.tok _,by rw [z6c r];exact q⟩
  ·subst e'
   obtain ⟨hz,hS,vs,r,m⟩:kvs.length <= sizeLine/\(p == sysModules)=false/\∃ vs,KV kvs vs/\s.heap.DictOf (z8C X.prog X.w) p vs:=I.hok p _ hx
   have hlen:kvs.length=vs.length:=Paired.length r
   exact wpAny_truthy_dict hS m (by omega) ⟨H,I.tok _,by rw [z9U r];exact q⟩
 | _=>exact (show False from e).elim
theorem zdD (ha:PE X a ta) (he:∀ whole,isTrue a X.env whole=(do let v <- whole;standAt a.pos;holding [v] (truthy v))):
  PT X a (fun σ H Q=>ta σ H fun x H'=>∃ k,zjY X.K x H' k/\Q k H'):=by
 intro pins s σ H Q I h
 exact isTrue_plain (thn (ha pins s σ H _ I h) fun v s1 ⟨x,H1,I1,r1,q1⟩=>zi4 pins s1 σ H1 x v Q I1 r1 q1) (he _)
theorem z9V:OpR X (binaryOp .Add) (fun x y H Q=>∃ i j,x=.str i/\y=.str j/\i.length + j.length <= sizeLine/\Q (.str (i ++ j)) H):=by
 intro pins s σ H x y v u Q I rx ry h
 obtain ⟨i,j,rfl,rfl,hz,q⟩:=h
 obtain ⟨t,rfl⟩:=rx
 obtain ⟨t',rfl⟩:=ry
 exact wpAny_with_toks I.tk (add_str (fun t' tk htk=>⟨.str (i ++ j),H,I.tok _ htk,⟨_,rfl⟩,q⟩) hz)
theorem z4X {x:V} {us:List Value} (r:Vals [x] us):∃ u,us=[u]/\RelV x u:=by
 cases r with
 | cons r1 r2=>cases r2;exact ⟨_,rfl,r1⟩
theorem z8Z {x y:V} {us:List Value} (r:Vals [x,y] us):∃ u w',us=[u,w']/\RelV x u/\RelV y w':=by
 cases r with
 | cons r1 r2=>
  cases r2 with
  | cons r3 r4=>cases r4;exact ⟨_,_,rfl,r1,r3⟩
theorem zaF (hc:X.calm=true):CallR X (.builtin "max") (fun xs H Q=>∃ i j,xs=[.int i,.int j]/\Q (.int (if j > i then j else i)) H):=by
 intro pins s σ H xs us Q I r h
 obtain ⟨i,j,rfl,q⟩:=h
 obtain ⟨u,w',rfl,⟨t,rfl⟩,⟨t',rfl⟩⟩:=z8Z r
 refine wpAny_with_toks I.tk (max_two_ints (I.ok.hd hc) fun h' tk k htk=>⟨_,H,I.kept k htk,?_,q⟩)
 by_cases hj:j > i
 ·rw [if_pos hj,if_pos hj];exact ⟨_,rfl⟩
 ·rw [if_neg hj,if_neg hj];exact ⟨_,rfl⟩
theorem zbb (hc:X.calm=true):CallR X (.builtin "min") (fun xs H Q=>∃ i j,xs=[.int i,.int j]/\Q (.int (if j < i then j else i)) H):=by
 intro pins s σ H xs us Q I r h
 obtain ⟨i,j,rfl,q⟩:=h
 obtain ⟨u,w',rfl,⟨t,rfl⟩,⟨t',rfl⟩⟩:=z8Z r
 refine wpAny_with_toks I.tk (min_two_ints (I.ok.hd hc) fun h' tk k htk=>⟨_,H,I.kept k htk,?_,q⟩)
 by_cases hj:j < i
 ·rw [if_pos hj,if_pos hj];exact ⟨_,rfl⟩
 ·rw [if_neg hj,if_neg hj];exact ⟨_,rfl⟩
theorem zaX:CallR X (.type "int") (fun xs H Q=>(∃ i,xs=[.int i]/\Q (.int i) H) \/ ∃ k,xs=[.bl k]/\Q (.int (if k then 1 else 0)) H):=by
 intro pins s σ H xs us Q I r h
 rcases h with ⟨i,rfl,q⟩|⟨k,rfl,q⟩
 ·obtain ⟨u,rfl,t,rfl⟩:=z4X r
  exact call_int_int ⟨.int i,H,I,⟨_,rfl⟩,q⟩
 ·obtain ⟨u,rfl,r1⟩:=z4X r
  cases r1
  exact call_int_bool ⟨.int (if k then 1 else 0),H,I.tok _,⟨_,rfl⟩,q⟩
theorem z8c:CallR X (.type "str") (fun xs H Q=>∃ i,xs=[.int i]/\i.natAbs.log2 < 1920/\Q (.str (toString i)) H):=by
 intro pins s σ H xs us Q I r h
 obtain ⟨i,rfl,hz,q⟩:=h
 obtain ⟨u,rfl,t,rfl⟩:=z4X r
 exact PySem.P.str_of_int hz ⟨.str _,H,I.tok _,⟨_,rfl⟩,q⟩
def zkh (K:PySem.W.Frag) (x:V) (H:Hp) (n:Nat):Prop:=
 match x with
 | .str y=>y.length <= sizeLine/\n=y.length
 | .byt y=>y.size <= sizeLine/\n=y.size
 | .ref p=>(∃ xs,SqL K H p xs/\n=xs.length) \/ ∃ xs,SqT K H p xs/\n=xs.length
 | _=>False
theorem zd3:CallR X (.builtin "len") (fun xs H Q=>∃ x n,xs=[x]/\zkh X.K x H n/\Q (.int n) H):=by
 intro pins s σ H xs us Q I r h
 obtain ⟨x,n,rfl,e,q⟩:=h
 obtain ⟨u,rfl,rx⟩:=z4X r
 have hl:=z6u
 have hs:sizeLine=16777216:=sizeLine_eq
 cases x with
 | str y=>
  obtain ⟨t,rfl⟩:=rx
  obtain ⟨hy,e'⟩:y.length <= sizeLine/\n=y.length:=e
  subst e'
  exact len_str (by omega) ⟨.int _,H,I.tok _,⟨_,rfl⟩,q⟩
 | byt y=>
  obtain ⟨t,rfl⟩:=rx
  obtain ⟨hy,e'⟩:y.size <= sizeLine/\n=y.size:=e
  subst e'
  exact PySem.W.len_bytes (by omega) ⟨.int _,H,I.tok _,⟨_,rfl⟩,q⟩
 | ref p=>
  cases rx
  have e':(∃ xs,SqL X.K H p xs/\n=xs.length) \/ ∃ xs,SqT X.K H p xs/\n=xs.length:=e
  rcases e' with ⟨xs,hx,e'⟩|⟨xs,hx,e'⟩
  ·subst e'
   obtain ⟨its,r',pl,hz⟩:=I.list hx
   have hlen:=r'.length
   exact Calls.call_len_list pl.isList (by simp only [List.size_toArray];omega) ⟨.int xs.length,H,I.tok _,⟨_,by simp only [List.size_toArray];rw [hlen]⟩,q⟩
  ·subst e'
   obtain ⟨its,r',pl,hz⟩:=I.tuple hx
   have hlen:=r'.length
   exact len_tuple pl (by simp only [List.size_toArray];omega) ⟨.int xs.length,H,I.tok _,⟨_,by simp only [List.size_toArray];rw [hlen]⟩,q⟩
 | _=>exact (show False from e).elim
end
structure zkR (h:Heap) (x dx C:Addr) (mA:Str->Option Value):Prop where
 obj:h.get? x=some (PySem.W.instObj C dx)
 ns:h.Ns1 dx mA
 ne:dx ≠ x
section
end
structure Cls (K:PySem.W.Frag) (C:Addr):Prop where
 pg:PySem.W.plainGet K C Str.empty=true
 hd:PySem.W.hasDictIn K C=true
 po:PySem.W.plainOver K C=true
 sa:PySem.W.findIn K (.ref C) "__setattr__" = some (some (.builtin "object.__setattr__"))
theorem Cls.get {K:PySem.W.Frag} {C:Addr} (c:Cls K C) (f:Str):PySem.W.plainGet K C f=true:=c.pg
structure Con (K:PySem.W.Frag) (C:Addr) (f:Str) (v:V) (u:Value):Prop where
 at_:PySem.W.findIn K (.ref C) f=some (some u)
 rel:RelV v u
 get:PySem.W.specialIn K u "__get__" = some none
 cp:PySem.W.copiedNames.contains f=false
structure zkT (K:PySem.W.Frag) (C:Addr) (m:Str) (f:Addr):Prop where
 at_:PySem.W.findIn K (.ref C) m=some (some (.ref f))
 fn:PySem.W.isFn K (.ref f)=true
 kp:PySem.W.keepIn K (.ref f)=true
section
end
section
variable {H:Hp}
inductive zco (K:PySem.W.Frag) (H:Hp):V->Value->Prop where
 | non:zco K H .non (.type "NoneType")
 | bl (x:Bool):zco K H (.bl x) (.type "bool")
 | int (i:Int):zco K H (.int i) (.type "int")
 | str (x:Str):zco K H (.str x) (.type "str")
 | flt (x:UInt64):zco K H (.flt x) (.type "float")
 | lst {a:Addr} {xs:List V} (e:H a=some (.lst xs)):zco K H (.ref a) (.type "list")
 | frz {a:Addr} {o:Obj} {xs:List V} (e:H a=some (.frz o (.lst xs))):zco K H (.ref a) (.type "list")
 | tup {a:Addr} {xs:List V} (e:H a=some (.tup xs)):zco K H (.ref a) (.type "tuple")
 | dK {a:Addr} {kvs:List (Key × V)} (e:H a=some (.dK kvs)):zco K H (.ref a) (.type "dict")
 | dT {a:Addr} {kvs:List (List Key × V)} (e:H a=some (.dT kvs)):zco K H (.ref a) (.type "dict")
 | ins {a C dx:Addr} {fs:List (Str × V)} (e:H a=some (.ins C dx fs)) (cl:Cls K C) (ha:PySem.W.findIn K (.ref C) "__class__" = some (some (.builtin "object.__class__")))
   (hn:PySem.W.specialIn K (.builtin "object.__class__") "__get__" = some (some (.builtin "getset_descriptor.__get__"))) (htk:PySem.W.takesIn K (.builtin "object.__class__")=some true)
   (hm:PySem.W.mroIn K C (.type "object")=some true):zco K H (.ref a) (.ref C)
end
structure Room (k:Nat) (A:Around):Prop where
 hd:A.handled=none
 dp:A.depth + 3 * k + 5 < recursionLimit
 un:A.units + 16 * k + 200 < cLine
theorem Room.mono {j k:Nat} {A:Around} (r:Room k A) (h:j <= k):Room j A:=⟨r.hd,by have:=r.dp;omega,by have:=r.un;omega⟩
theorem Room.deeper {k:Nat} {A:Around} (r:Room (k + 1) A) (env:Env):Room k (A.deeper env):=
 ⟨r.hd,by have:=r.dp;show A.depth + 1 + 3 * k + 5 < _;omega,by have:=r.un;show A.units + 3 + 16 * k + 200 < _;omega⟩
theorem Room.depth {k:Nat} {A:Around} (r:Room k A):A.depth < recursionLimit:=by have:=r.dp;omega
theorem Room.units {k:Nat} {A:Around} (r:Room k A):A.units + 64 < cLine:=by have:=r.un;omega
def zgx:TA:=fun _ H Q=>Q [] H
def z8q (ta:TE) (tr:TA):TA:=fun σ H Q=>ta σ H fun x H1=>tr σ H1 fun xs H2=>Q (x :: xs) H2
section
variable {X:Cx} {e:Expr} {es:List Expr} {te:TE} {t:TA} {pos:Pos}
theorem z39:PA X [] zgx:=fun _ _ _ _ H Q I h=>Calls.spliced_nil ⟨[],H,I,.nil,h⟩
theorem z23 (ha:PE X e te) (hr:PA X es t) (hs:starEach (e :: es) X.env=(false,eval e X.env) :: starEach es X.env:=by rfl):PA X (e :: es) (z8q te t):=by
 intro pos pins s σ H Q I h
 rw [hs]
 show wpAny _ _ (spliced ((false,eval e X.env) :: backTo pos (starEach es X.env))) _ _ s
 refine Calls.spliced_cons (thn (ha pins s σ H _ I h) fun u s1 ⟨x,H1,I1,r1,q1⟩=>?_)
 exact thn (hr pos pins s1 σ H1 _ I1 q1) fun us s2 ⟨xs,H2,I2,r2,q2⟩=>⟨x :: xs,H2,I2,.cons r1 r2,q2⟩
def zkA (t:TA):TE:=fun σ H Q=>t σ H fun xs H1=>xs.length <= sizeLine/\∀ p,H1 p=none->Q (.ref p) (upd H1 p (.tup xs))
def zjr (t:TA):TE:=fun σ H Q=>t σ H fun xs H1=>xs.length <= sizeLine/\∀ p,H1 p=none->Q (.ref p) (upd H1 p (.lst xs))
theorem zei {x1} (h:PA X es t):PE X (.Tuple es x1 pos) (zkA t):=by
 intro pins s σ H Q I hq
 refine wpAny_Tuple_spliced (thn (h pos pins s σ H _ I hq) fun us s1 ⟨xs,H1,I1,r,z,q⟩=>⟨by rw [<- r.length];exact z,?_⟩)
 have hf:H1 s1.heap.objs.size=none:=I1.hok.fresh (Nat.le_refl _)
 refine ⟨.ref s1.heap.objs.size,upd H1 s1.heap.objs.size (.tup xs),I1.laid (t':=s1.toks) (fun b u e=>Heap.get?_push_of_some _ e) (Nat.le_refl _) ?_,rfl,q _ hf⟩
 exact ⟨z,us,r,IsTupD.new _ _⟩
theorem z9N (h:PA X es t):PE X (.List es pos) (zjr t):=by
 intro pins s σ H Q I hq
 refine wpAny_List_spliced (thn (h pos pins s σ H _ I hq) fun us s1 ⟨xs,H1,I1,r,z,q⟩=>⟨by rw [<- r.length];exact z,?_⟩)
 have hf:H1 s1.heap.objs.size=none:=I1.hok.fresh (Nat.le_refl _)
 refine ⟨.ref s1.heap.objs.size,upd H1 s1.heap.objs.size (.lst xs),I1.laid (t':=s1.toks) (fun b u e=>Heap.get?_push_of_some _ e) (Nat.le_refl _) ?_,rfl,q _ hf⟩
 exact ⟨z,us,0,r,Heap.get?_push_size _ rfl⟩
end
abbrev Sp:=List V->Hp->VK->XK->Prop
abbrev CXT:=List Env->Hp->Shared->XK->Value->Shared->Prop
structure zeS (P:Program) (w:World) (K:PySem.W.Frag) (mg:Str->Option Value) (base:Heap) (A:Around) (outer:List Env) (s:Shared) (H:Hp):Prop where
 frames:A.frames=some outer
 mod:Mod K mg base
 bs:∀ b o,base.get? b=some o->s.heap.get? b=some o/\H b=none
 bsz:base.objs.size <= s.heap.objs.size
 funs:s.heap.FunFrames base outer
 frf:∀ b ∈ frs outer,H b=none
 hok:HOk P w H s.heap
 bare:AllBare s.gens
 tk:0 < s.toks
def CE (outer:List Env) (P:Program) (w:World) (H:Hp) (s:Shared) (Q:VK) (u:Value) (s':Shared):Prop:=
 (∃ v H',s'.os=s.os/\AllBare s'.gens/\Un (frs outer) [] H H' s.heap s'.heap/\HOk P w H' s'.heap/\RelV v u/\Q v H')/\0 < s'.toks
def CR (CX:CXT) (outer:List Env) (P:Program) (w:World) (H:Hp) (s:Shared) (Q:VK) (E:XK) (r:Result) (s':Shared):Prop:=
 match r with
 | .ok (.ret u)=>CE outer P w H s Q u s'
 | .ok _=>False
 | .error e=>CX outer H s E e s'
structure FnOk (P:Program) (w:World) (K:PySem.W.Frag) (mg:Str->Option Value) (base:Heap) (CX:CXT) (k:Nat) (f:Addr) (fd:FuncData) (ps:List Str) (sp:Sp):Prop where
 len:∀ vs H Q E,sp vs H Q E->vs.length=ps.length
 run:∀ (A:Around) (outer:List Env) (s:Shared) (H:Hp) (args:Args) (us:List Value) (vs:List V) (Q:VK) (E:XK),Room k A->zeS P w K mg base A outer s H->BindsTo s fd args (ps.zip us)->Vals vs us->sp vs H Q E->
  codeAny (model P w) A (.call (.ref f) args) (CR CX outer P w H s Q E) s
theorem FnOk.mono {P:Program} {w:World} {K:PySem.W.Frag} {mg:Str->Option Value} {base:Heap} {CX:CXT} {j k:Nat} {f:Addr} {fd:FuncData} {ps:List Str} {sp:Sp} (F:FnOk P w K mg base CX j f fd ps sp) (h:j <= k):
  FnOk P w K mg base CX k f fd ps sp:=⟨F.len,fun A outer s H args us vs Q E hr=>F.run A outer s H args us vs Q E (hr.mono h)⟩
theorem FnOk.imp {P:Program} {w:World} {K:PySem.W.Frag} {mg:Str->Option Value} {base:Heap} {CX:CXT} {k:Nat} {f:Addr} {fd:FuncData} {ps:List Str} {sp sp':Sp} (F:FnOk P w K mg base CX k f fd ps sp)
  (h:∀ vs H Q E,sp' vs H Q E->sp vs H Q E):FnOk P w K mg base CX k f fd ps sp':=
 ⟨fun vs H Q E q=>F.len vs H Q E (h _ _ _ _ q),fun A outer s H args us vs Q E hr he hb hv hs=>F.run A outer s H args us vs Q E hr he hb hv (h _ _ _ _ hs)⟩
section
variable {X:Cx} {pins:List (Addr × Obj)} {σ:St} {H:Hp} {s s':Shared}
theorem Inv.env0 (I:Inv X pins σ H s):zeS X.prog X.w X.K X.mg X.base X.A X.stack s H:=
 ⟨I.ok.frames,I.ok.mod,I.bs,Nat.le_trans I.ok.bsz I.sz,I.stack,I.stkFree,I.hok,I.bare,I.tk⟩
theorem Inv.after {Q:VK} {u:Value} (I:Inv X pins σ H s) (h:CE X.stack X.prog X.w H s Q u s'):EP X pins σ Q u s':=by
 obtain ⟨⟨v,H',os,bare,un,hok,r,q⟩,htk⟩:=h
 obtain ⟨hh,g,d,t,os'⟩:=s'
 obtain rfl:os'=s.os:=os
 exact ⟨v,H',I.call (h':=hh) (g':=g) (d':=d) (t':=t) (ch:=[]) un hok bare (fun b z=>absurd z (by simp)) htk,r,q⟩
end
def zjo (sp:Sp) (dvs:List V) (E:XK) (t:TA):TE:=fun σ H Q=>t σ H fun vs H1=>sp (vs ++ dvs) H1 Q E
def Binds (K:PySem.W.Frag) (fd:FuncData) (ps:List Str) (ds:List Value):Prop:=
 ∀ (s:Shared) (us:List Value),K.In s.heap->(us ++ ds).length=ps.length->BindsTo s fd ⟨us,[]⟩ (ps.zip (us ++ ds))
theorem Binds.all {K:PySem.W.Frag} {fd:FuncData} {ps:List Str} (h:∀ us:List Value,us.length=ps.length->bindArgs fd ⟨us,[]⟩=pure (ps.zip us)):Binds K fd ps []:=fun s us _ hl=>by
 rw [List.append_nil] at hl ⊢
 exact .of_eq (h us hl)
def z5G (CX:CXT) (X:Cx) (E:XK):Prop:=∀ (pins:List (Addr × Obj)) (σ:St) (H:Hp) (s:Shared) (e:Value) (s':Shared),Inv X pins σ H s->CX X.stack H s E e s'->X.xe e s'
section
variable {X:Cx} {CX:CXT} {k:Nat} {f C:Addr} {fd:FuncData} {ps:List Str} {sp:Sp} {dvs:List V} {ds:List Value} {E:XK} {x:Str} {p pos:Pos} {e:Expr} {es:List Expr} {t:TA}
theorem ziM {pins:List (Addr × Obj)} {σ:St} {H:Hp} {s:Shared} {Q:VK} {us:List Value} {vs:List V} (F:FnOk X.prog X.w X.K X.mg X.base CX k f fd ps sp) (hr:Room k X.A) (hb:Binds X.K fd ps ds) (hd:Vals dvs ds) (hx:z5G CX X E)
  (I:Inv X pins σ H s) (r:Vals vs us) (h:sp (vs ++ dvs) H Q E):wpAny (model X.prog X.w) X.A (call (.ref f) us) (EP X pins σ Q) X.xe s:=by
 have r2:Vals (vs ++ dvs) (us ++ ds):=r.append hd
 have hl:(us ++ ds).length=ps.length:=by rw [<- r2.length];exact F.len _ _ _ _ h
 refine wpAny_call (codeAny_mono (F.run X.A X.stack s H ⟨us,[]⟩ (us ++ ds) (vs ++ dvs) Q E hr I.env0 (hb s us I.kIn hl) r2 h) fun r s' hq=>?_)
 cases r with
 | error e=>exact hx pins σ H s e s' I hq
 | ok fl=>
  cases fl with
  | ret u=>exact I.after hq
  | next=>exact False.elim hq
  | brk=>exact False.elim hq
  | cont=>exact False.elim hq
theorem zb3 (F:FnOk X.prog X.w X.K X.mg X.base CX k f fd ps sp) (hr:Room k X.A) (hg:Gl X x) (hm:X.mg x=some (.ref f)) (hk:PySem.W.keepIn X.K (.ref f)=true) (hb:Binds X.K fd ps ds) (hd:Vals dvs ds) (hx:z5G CX X E)
  (ha:PA X (e :: es) t) (hdb:(x == ("__debug__":Str))=false:=by decide) (he:starEach (e :: es) X.env=(false,eval e X.env) :: starEach es X.env:=by rfl) (hpl:(backTo pos (starEach es X.env)).any (·.1)=false:=by rfl):
  PE X (.Call (.Name x p) (e :: es) [] pos) (zjo sp dvs E t):=by
 intro pins s σ H Q I h
 refine wpAny_Call_Name_kw (z4P I hg hm ?_ hdb)
 refine PySem.W.callWith_K (h₀:=X.base) I.ok.mod.kin hk (thn (ha pos pins s σ H _ I h) fun us s1 ⟨vs,H1,I1,r,q⟩=>⟨I1.kIn,?_⟩) he hpl
 exact ziM F hr hb hd hx I1 r q
structure Mk (K:PySem.W.Frag) (C f:Addr):Prop where
 makes:PySem.W.makesIn K C=true
 init:PySem.W.findIn K (.ref C) "__init__" = some (some (.ref f))
 fn:PySem.W.isFn K (.ref f)=true
 kp:PySem.W.keepIn K (.ref C)=true
end
section
variable {fd:FuncData} {ps ks:List Str}
structure zkj (K:PySem.W.Frag) (fd:FuncData) (ps ks:List Str) (g:List Value->List Value->List Value) (gV:List V->List V->List V):Prop where
 to:∀ (s:Shared) (us ws:List Value),K.In s.heap->(g us ws).length=ps.length->BindsTo s fd ⟨us,ks.zip ws⟩ (ps.zip (g us ws))
 rel:∀ {vs:List V} {us:List Value} {zs:List V} {ws:List Value},Vals vs us->Vals zs ws->Vals (gV vs zs) (g us ws)
end
structure z1v (N P:List Str) (sc:Scope):Prop where
 kind:sc.kind=.function
 co:sc.isCoroutine=false
 gen:sc.isGenerator=false
 nd:N.Nodup
 pre:N.take P.length=P
 par:∀ x ∈ P,sc.names.lookup x=some .local \/ sc.names.lookup x=some .cell
 nofree:∀ y ∈ sc.names,y.2 ≠ .free
theorem z8f {kindOf:Str->Option NameKind} {x:Str}:∀ {binds:List (Str × Value)} {m:Str->Option Value},(∀ v,(x,v) ∉ binds)->bindL kindOf binds m x=m x
 | [],_,_=>rfl
 | (n,v) :: r,m,h=>by
  unfold bindL
  rw [z8f fun w hw=>h w (List.mem_cons_of_mem _ hw)]
  split
  ·have:x ≠ n:=by rintro rfl;exact h v List.mem_cons_self
   simp [this]
  ·rfl
theorem z7K {kindOf:Str->Option NameKind} {x:Str}:∀ {binds:List (Str × Value)} {m:Str->Option Value},(∀ v,(x,v) ∉ binds)->bindC kindOf binds m x=m x
 | [],_,_=>rfl
 | (n,v) :: r,m,h=>by
  unfold bindC
  rw [z7K fun w hw=>h w (List.mem_cons_of_mem _ hw)]
  split
  ·rfl
  ·have:x ≠ n:=by rintro rfl;exact h v List.mem_cons_self
   simp [this]
theorem z7R {kindOf:Str->Option NameKind} {x:Str} {v:Value}:∀ {P:List Str} {vs:List Value} {i:Nat} {m:Str->Option Value},P.Nodup->P[i]?=some x->vs[i]?=some v->kindOf x=some .local->
  bindL kindOf (P.zip vs) m x=some v
 | [],_,_,_,_,h,_,_=>by simp at h
 | _ :: _,[],_,_,_,_,h,_=>by simp at h
 | p :: P,w :: vs,0,m,nd,h1,h2,hk=>by
  simp at h1 h2;subst h1;subst h2
  show bindL kindOf ((p,w) :: P.zip vs) m p=_
  unfold bindL
  rw [z8f fun v hv=>(List.nodup_cons.mp nd).1 (List.of_mem_zip hv).1,if_pos hk]
  simp
 | p :: P,w :: vs,i + 1,m,nd,h1,h2,hk=>by
  show bindL kindOf ((p,w) :: P.zip vs) m x=_
  unfold bindL
  exact z7R (i:=i) (List.nodup_cons.mp nd).2 (by simpa using h1) (by simpa using h2) hk
theorem z87 {kindOf:Str->Option NameKind} {x:Str} {v:Value}:∀ {P:List Str} {vs:List Value} {i:Nat} {m:Str->Option Value},P.Nodup->P[i]?=some x->vs[i]?=some v->kindOf x ≠ some .local->
  bindC kindOf (P.zip vs) m x=some v
 | [],_,_,_,_,h,_,_=>by simp at h
 | _ :: _,[],_,_,_,_,h,_=>by simp at h
 | p :: P,w :: vs,0,m,nd,h1,h2,hk=>by
  simp at h1 h2;subst h1;subst h2
  show bindC kindOf ((p,w) :: P.zip vs) m p=_
  unfold bindC
  rw [z7K fun v hv=>(List.nodup_cons.mp nd).1 (List.of_mem_zip hv).1,if_neg hk]
  simp
 | p :: P,w :: vs,i + 1,m,nd,h1,h2,hk=>by
  show bindC kindOf ((p,w) :: P.zip vs) m x=_
  unfold bindC
  exact z87 (i:=i) (List.nodup_cons.mp nd).2 (by simpa using h1) (by simpa using h2) hk
def start (N:List Str) (vs:List V):St:=vs.map some ++ List.replicate (N.length - vs.length) none
def zdc (CX:CXT) (P:Program) (w:World) (K:PySem.W.Frag) (mg:Str->Option Value) (base:Heap) (N:List Str) (qual:Str) (scope:Scope) (f:Addr) (cd:Value) (A:Around) (outer:List Env) (s:Shared) (H:Hp) (E:XK):Cx where
 prog:=P
 w:=w
 K:=K
 mg:=mg
 base:=base
 A:=A.deeper (envOfC qual scope s.heap.objs.size f cd)
 N:=N
 s₀:=s
 H₀:=H
 env:=envOfC qual scope s.heap.objs.size f cd
 outer:=outer
 stack:=envOfC qual scope s.heap.objs.size f cd :: outer
 ex:=[]
 calm:=true
 fn:=fun _=>true
 pn:=[]
 xe:=fun e s'=>wpAny (model P w) (A.deeper (envOfC qual scope s.heap.objs.size f cd)) (leaving (envOfC qual scope s.heap.objs.size f cd) e) (fun _ s''=>CX outer H s E e s'') (fun e' s''=>CX outer H s E e' s'') s'
theorem z9g {sc:Scope} {n:Nat} {x:Str} (h:sc.names.lookup x=some .cell):∃ c,(cellsFrom n sc.names []).lookup x=some c:=by
 have q:=PySem.W.cellsFrom_some sc.names n [] (.inl h)
 exact Option.isSome_iff_exists.mp q
theorem z7s {CX:CXT} {P:Program} {w:World} {K:PySem.W.Frag} {mg:Str->Option Value} {base:Heap} {N ps:List Str} {qual:Str} {scope:Scope} {f:Addr} {cd:Value} {A:Around} {outer:List Env} {s s1:Shared} {H:Hp} {E:XK} {us:List Value} {vs:List V}
  (S:z1v N ps scope) (hd:A.handled=none) (e0:zeS P w K mg base A outer s H) (hl:vs.length=ps.length) (r:Vals vs us)
  (x:InCallC s s.heap.objs.size (bindL (envOfC qual scope s.heap.objs.size f cd).kindOf (ps.zip us) fun _=>none) (cellsFrom (s.heap.objs.size + 1) scope.names []) (bindC (envOfC qual scope s.heap.objs.size f cd).kindOf (ps.zip us) fun _=>none) s1) (htk:0 < s1.toks):
  Inv (zdc CX P w K mg base N qual scope f cd A outer s H E) [] (start N vs) H s1:=by
 have hpl:ps.length <= N.length:=by have:=congrArg List.length S.pre;rw [List.length_take] at this;omega
 obtain ⟨h1,tk,rfl,hk⟩:=x.done
 have noA:∀ b:Addr,b ∉ (zdc CX P w K mg base N qual scope f cd A outer s H E).ex:=fun b z=>absurd (show b ∈ ([]:List Addr) from z) (by simp)
 refine ⟨⟨e0.mod,S.kind,rfl,rfl,Nat.le_refl _,fun y z c h1 h2=>?_,fun y hy=>?_,fun y c _ h=>?_,fun _=>hd,Around.frames_deeper e0.frames,.inr ⟨rfl,rfl⟩,fun b z=>absurd z (noA b),e0.bs,e0.bsz,fun b _ _=>noA b,fun b z=>absurd z (noA b),e0.funs,e0.frf⟩,
  rfl,e0.bare,Un.kept hk,⟨_,x.toInCall.ns,fun i y v h1 h2 h3=>?_⟩,fun y c h=>⟨_,x.cell y c h⟩,e0.hok.fresh (Nat.le_refl _),fun y c h=>?_,fun p hp=>absurd (show p ∈ ([]:List (Addr × Obj)) from hp) (by simp),e0.hok.kept hk,?_,htk⟩
 ·exact name_of_addr x.apart (PySem.mem_of_lookup h1) (PySem.mem_of_lookup h2)
 ·have hy:scope.names.lookup y=some .cell \/ scope.names.lookup y=some .free:=hy
  rcases hy with hy|hy
  ·exact z9g hy
  ·exact absurd rfl (S.nofree _ (PySem.mem_of_lookup hy))
 ·exact Nat.le_of_lt (x.above y c (PySem.mem_of_lookup h))
 ·have hi:i < vs.length:=by
   unfold start at h2
   by_cases hi:i < vs.length
   ·exact hi
   ·rw [List.getElem?_append_right (by simpa using hi)] at h2
    rw [List.getElem?_replicate] at h2
    split at h2 <;> cases h2
  have ha:vs[i]?=some v:=by
   unfold start at h2
   rw [List.getElem?_append_left (by simpa using hi),List.getElem?_map] at h2
   cases e:vs[i]? with
   | none=>rw [e] at h2;cases h2
   | some a=>rw [e] at h2;cases h2;rfl
  obtain ⟨u,hu,rv⟩:=r.get ha
  have hp:ps[i]?=some y:=by
   rw [<- S.pre,List.getElem?_take_of_lt (by omega)];exact h1
  have ndP:ps.Nodup:=by rw [<- S.pre];exact S.nd.sublist (List.take_sublist _ _)
  refine ⟨u,rv,?_⟩
  rcases S.par y (List.mem_of_getElem? hp) with k|k
  ·exact .inl ⟨k,z7R ndP hp hu k⟩
  ·obtain ⟨c,e⟩:=z9g (n:=s.heap.objs.size + 1) k
   refine .inr ⟨.inl k,c,e,?_⟩
   have q:=x.cell y c e
   rw [z87 ndP hp hu (by show scope.names.lookup y ≠ _;rw [k];decide)] at q
   exact q
 ·exact e0.hok.fresh (Nat.le_of_lt (x.above y c (PySem.mem_of_lookup h)))
 ·unfold start
  show _=N.length
  rw [List.length_append,List.length_map,List.length_replicate]
  omega
theorem z1S {CX:CXT} {P:Program} {w:World} {K:PySem.W.Frag} {mg:Str->Option Value} {base:Heap} {k:Nat} {f:Addr} {name qual:Str} {params:Arguments} {body:List Stmt} {scope:Scope} {dV kV doc pm cdv ct oc:Value} {an od:Option Addr}
  {osl:Array (Option Value)} {N ps:List Str} {sp:Sp} (lk:K.lookup f=some ⟨oc,od,.func (PySem.W.fnOf name qual params body scope dV kV doc pm an cdv ct),osl⟩) (hcd:PySem.W.codeIn K cdv qual=true) (S:z1v N ps scope)
  (len:∀ vs H Q E,sp vs H Q E->vs.length=ps.length)
  (hbody:∀ (A:Around) (outer:List Env) (s:Shared) (H:Hp) (vs:List V) (Q:VK) (E:XK),Room k (A.deeper (envOfC qual scope s.heap.objs.size f cdv))->sp vs H Q E->
   ∃ t,PSs (zdc CX P w K mg base N qual scope f cdv A outer s H E) body t/\t { nx:=fun _ H'=>Q .non H',rt:=Q } (start N vs) H):
  FnOk P w K mg base CX (k + 1) f (PySem.W.fnOf name qual params body scope dV kV doc pm an cdv ct) ps sp:=by
 refine ⟨len,fun A outer s H args us vs Q E hr e0 hb r hsp=>?_⟩
 have hl:=len _ _ _ _ hsp
 have KX:K.In s.heap:=e0.mod.kin.keeps fun b o e=>(e0.bs b o e).1
 have lim:s.heap.NoLimit:=e0.mod.nolimit.keeps fun b o e=>(e0.bs b o e).1
 have hkind:∀ y ∈ ps.zip us,scope.names.lookup y.1=some .local \/ (scope.names.lookup y.1=some .cell/\((cellsFrom (s.heap.objs.size + 1) scope.names []).lookup y.1).isSome=true):=fun ⟨n,v⟩ hy=>by
  rcases S.par n (List.of_mem_zip hy).1 with q|q
  ·exact .inl q
  ·exact .inr ⟨q,PySem.W.cellsFrom_some _ _ _ (.inl q)⟩
 refine codeAny_call_function hr.depth (KX _ _ lk) rfl S.co S.gen rfl (PySem.W.codeRec_of KX hcd) (hb _ _ _ _ ?_)
 refine wpAny_with_toks e0.tk (wpAny_newFunctionEnv_cells S.kind hkind fun env he s1 x htk=>?_)
 subst he
 refine ⟨lim.keeps x.toInCall.keep,codeAny_func ?_⟩
 obtain ⟨t,ht,hq⟩:=hbody A outer s H vs Q E (hr.deeper _) hsp
 have I:Inv (zdc CX P w K mg base N qual scope f cdv A outer s H E) [] (start N vs) H s1:=z7s S hr.hd e0 hl r x htk
 refine wpAny_mono (ht [] s1 (start N vs) H _ I hq) (fun fl s' hs=>?_) fun e s' hs=>hs
 have fin:∀ {σ':St} {H':Hp} {v:V} {u:Value},Inv (zdc CX P w K mg base N qual scope f cdv A outer s H E) [] σ' H' s'->RelV v u->Q v H'->CE outer P w H s Q u s':=
  fun {σ' H' v u} J rv q=>⟨⟨v,H',J.os,J.bare,J.base,J.hok,rv,q⟩,J.tk⟩
 cases fl with
 | ret u=>
  obtain ⟨v,σ',H',J,rv,q⟩:=hs
  exact fin J rv q
 | next=>
  obtain ⟨σ',H',J,q⟩:=hs
  exact fin (v:=V.non) (u:=Value.none) J rfl q
 | brk=>
  obtain ⟨_,_,_,q⟩:=hs
  exact False.elim q
 | cont=>
  obtain ⟨_,_,_,q⟩:=hs
  exact False.elim q
section
variable {X:Cx} {x:Str} {p pos:Pos} {e:Expr} {es:List Expr} {t:TA} {id T:String} {r:List V->Hp->VK->Prop}
def tCB (r:List V->Hp->VK->Prop) (t:TA):TE:=fun σ H Q=>t σ H fun vs H1=>r vs H1 Q
theorem z3t (hc:CallR X (.builtin id) r) (hg:Gl X x) (hm:X.mg x=none) (hv:bootBuiltins x=some (.builtin id)) (ha:PA X (e :: es) t) (hn:x ≠ "__name__":=by decide) (hdb:(x == ("__debug__":Str))=false:=by decide)
  (he:starEach (e :: es) X.env=(false,eval e X.env) :: starEach es X.env:=by rfl) (hpl:(backTo pos (starEach es X.env)).any (·.1)=false:=by rfl):PE X (.Call (.Name x p) (e :: es) [] pos) (tCB r t):=by
 intro pins s σ H Q I h
 refine wpAny_Call_Name_kw (z6n I hg hm hv ?_ hn hdb)
 exact PyProof.Rows.callWith_builtin1 (thn (ha pos pins s σ H _ I h) fun us s1 ⟨vs,H1,I1,r1,q1⟩=>hc pins s1 σ H1 vs us Q I1 r1 q1) he hpl
theorem z7D (hc:CallR X (.type T) r) (hg:Gl X x) (hm:X.mg x=none) (hv:bootBuiltins x=some (.type T)) (ha:PA X (e :: es) t) (hn:x ≠ "__name__":=by decide) (hdb:(x == ("__debug__":Str))=false:=by decide)
  (he:starEach (e :: es) X.env=(false,eval e X.env) :: starEach es X.env:=by rfl) (hpl:(backTo pos (starEach es X.env)).any (·.1)=false:=by rfl):PE X (.Call (.Name x p) (e :: es) [] pos) (tCB r t):=by
 intro pins s σ H Q I h
 refine wpAny_Call_Name_kw (z6n I hg hm hv ?_ hn hdb)
 exact PyProof.Rows.callWith_type1 (thn (ha pos pins s σ H _ I h) fun us s1 ⟨vs,H1,I1,r1,q1⟩=>hc pins s1 σ H1 vs us Q I1 r1 q1) he hpl
end
end L2
namespace HT
open PySem PyProof.Rows
section
open PySem.SeqAt
open PySem.AutoSeq1 (wpAny_loadPart')
open PySem.MeetsSeq PySem.MeetsSeq2 PySem.MeetsSeq3
end
section
variable {prog:Program} {w:World} {A:Around} {E:Value->Shared->Prop} {s:Shared}
theorem cat_tup {t b:Addr} {vs ws:List Value} {Q:Value->Shared->Prop} (ht:IsTup s.heap t vs.toArray) (hb:IsTup s.heap b ws.toArray) (hv:vs ≠ [])
  (h1:ws=[]->Q (.ref t) s) (h2:ws ≠ []->Q (.ref s.heap.objs.size) { s with heap:=s.heap.push { cls:=.type "tuple",data:=.seq (vs ++ ws).toArray } })
  (hsz:vs.length + ws.length <= sizeLine):wpAny (model prog w) A (binaryOp .Add (.ref t) (.ref b)) Q E s:=by
 obtain ⟨⟨cls,dd,data,sl⟩,ho,hc,n,hd⟩:=id ht
 obtain ⟨⟨cls2,dd2,data2,sl2⟩,ho2,hc2,n2,hd2⟩:=id hb
 simp only at hc hd hc2 hd2
 subst hc hd hc2 hd2
 have e:vs.toArray ++ ws.toArray=(vs ++ ws).toArray:=by simp
 by_cases hw:ws=[]
 ·exact concat_meets ⟨_,ho,rfl⟩ ⟨_,ho2,rfl⟩ noFill_tuple_add seq_tuple_add PySem.F.slot_tuple_add PySem.F.entry_tuple_add (PySem.F.args_tuple_add_2 _ _)
   (tuple_addW1 t b vs.toArray ws.toArray n n2 dd dd2 sl sl2 (by simpa using hv) (by simp [hw])) ⟨ho,ho2,h1 hw⟩
 ·refine concat_meets ⟨_,ho,rfl⟩ ⟨_,ho2,rfl⟩ noFill_tuple_add seq_tuple_add PySem.F.slot_tuple_add PySem.F.entry_tuple_add (PySem.F.args_tuple_add_2 _ _)
   (tuple_addW2 t b vs.toArray ws.toArray n n2 dd dd2 sl sl2 (by simpa using hv) (by simpa using hw) (by rw [List.size_toArray,List.size_toArray];exact hsz)) ⟨ho,ho2,?_⟩
  rw [e]
  exact h2 hw
def sIx (n d:Nat):Option Int->Nat
 | none=>d
 | some v=>if v < 0 then (v + (n:Int)).toNat else min v.toNat n
theorem sIx_none (n d:Nat):sIx n d none=d:=rfl
theorem sIx_nat (n d k:Nat):sIx n d (some (k:Int))=min k n:=by
 show (if (k:Int) < 0 then ((k:Int) + (n:Int)).toNat else min (k:Int).toNat n)=min k n
 rw [if_neg (by omega),Int.toNat_natCast]
theorem zhU (n d:Nat) (hd:d <= n) (o:Option Int):sIx n d o <= n:=by
 cases o with
 | none=>exact hd
 | some v=>
  show (if v < 0 then (v + (n:Int)).toNat else min v.toNat n) <= n
  by_cases hv:v < 0
  ·rw [if_pos hv];omega
  ·rw [if_neg hv];exact Nat.min_le_right _ _
theorem zbl (v:Int) (n d:Nat):(if v < 0 then max (v + (n:Int)) 0 else min v (n:Int))=((sIx n d (some v):Nat):Int):=by
 show (if v < 0 then max (v + (n:Int)) 0 else min v (n:Int))=(((if v < 0 then (v + (n:Int)).toNat else min v.toNat n):Nat):Int)
 by_cases hv:v < 0
 ·simp only [if_pos hv];omega
 ·simp only [if_neg hv];omega
theorem z9Z (lo hi:Option Int) (n:Nat):Builtin.Slice.sliceAdjust lo hi 1 (n:Int)=(((sIx n 0 lo:Nat):Int),((sIx n n hi:Nat):Int)):=by
 have h1:¬ ((1:Int) < 0):=by omega
 unfold Builtin.Slice.sliceAdjust
 simp only [h1,if_false]
 refine Prod.ext ?_ ?_
 ·cases lo with
  | none=>rfl
  | some v=>exact zbl v n 0
 ·cases hi with
  | none=>rfl
  | some v=>exact zbl v n n
theorem z9Q (i j:Nat):Builtin.Slice.slicePlaces (i:Int) (j:Int) 1=j - i:=by
 unfold Builtin.Slice.slicePlaces
 have h1:(1:Int) > 0:=by omega
 simp only [h1,if_true,Int.ediv_one]
 split <;> omega
theorem slicePart_ {v:Value} {o:Option Int} {Q:Option Int->Shared->Prop} (p:IsPart v o) (h:Q o s):wpAny (model prog w) A (Builtin.Slice.slicePartIndex v) Q E s:=by
 cases p with
 | none=>exact slicePart_none h
 | int i t=>exact slicePart_int h
theorem sliceApplied_gen {sl:Addr} {vl vu:Value} {lo hi:Option Int} {n:Nat} {Q:Int × Int × Nat->Shared->Prop} (hs:s.heap.IsSliceOf sl vl vu .none) (pl:IsPart vl lo) (pu:IsPart vu hi)
  (h:Q (((sIx n 0 lo:Nat):Int),1,sIx n n hi - sIx n 0 lo) s):wpAny (model prog w) A (Builtin.Slice.sliceApplied (.ref sl) (pure (n:Int))) Q E s:=by
 obtain ⟨os,hos,hcs,hds⟩:=id hs
 unfold Builtin.Slice.sliceApplied Builtin.Slice.sliceFields
 refine wpAny_bind (wpAny_bind (wpAny_field hos hds (x:=vl) rfl (wpAny_bind (wpAny_field hos hds (x:=vu) rfl (wpAny_bind (wpAny_field hos hds (x:=.none) rfl (wpAny_pure ?_)))))))
 refine wpAny_bind (slicePart_none ?_)
 show wpAny _ _ (if ((1:Int) == 0)=true then _ else _) _ _ s
 rw [if_neg (by decide)]
 refine wpAny_bind (slicePart_ pl (wpAny_bind (slicePart_ pu (wpAny_bind (wpAny_pure ?_)))))
 show wpAny _ _ (match Builtin.Slice.sliceAdjust lo hi 1 (n:Int) with|(lo,hi)=>pure (lo,(1:Int),Builtin.Slice.slicePlaces lo hi 1)) _ _ s
 rw [z9Z lo hi n]
 show wpAny _ _ (pure (((sIx n 0 lo:Nat):Int),(1:Int),Builtin.Slice.slicePlaces ((sIx n 0 lo:Nat):Int) ((sIx n n hi:Nat):Int) 1)) _ _ s
 rw [z9Q]
 exact wpAny_pure h
theorem ze7 (xs:Array Value) (i k:Nat):((List.range k).filterMap fun (m:Nat)=>xs[((i:Int) + (m:Int) * 1).toNat]?).toArray=((xs.toList.drop i).take k).toArray:=by
 have e:(fun (m:Nat)=>xs[((i:Int) + (m:Int) * 1).toNat]?)=fun m=>xs[i + m]?:=by
  funext m
  have:((i:Int) + (m:Int) * 1).toNat=i + m:=by omega
  rw [this]
 rw [e]
 have:=pick_run xs i k
 rw [List.filterMap_map] at this
 have e2:((fun x=>xs[x]?) ∘ fun x=>i + x)=fun m=>xs[i + m]?:=rfl
 rw [e2] at this
 rw [this]
theorem getItem_tuple_cut {t sl:Addr} {items:Array Value} {vl vu:Value} {lo hi:Option Int} {Q:Value->Shared->Prop} (ht:IsTup s.heap t items) (hs:s.heap.IsSliceOf sl vl vu .none) (pl:IsPart vl lo) (pu:IsPart vu hi)
  (hw:¬ (sIx items.size 0 lo=0/\sIx items.size items.size hi=items.size))
  (h:Q (.ref s.heap.objs.size) { s with heap:=s.heap.push { cls:=.type "tuple",data:=.seq ((items.toList.drop (sIx items.size 0 lo)).take (sIx items.size items.size hi - sIx items.size 0 lo)).toArray } })
  (hsz:items.size <= sizeLine):wpAny (model prog w) A (getItem (.ref t) (.ref sl)) Q E s:=by
 have htake:sizeOk (.seq ((items.toList.drop (sIx items.size 0 lo)).take (sIx items.size items.size hi - sIx items.size 0 lo)).toArray):=by
  show ((items.toList.drop (sIx items.size 0 lo)).take (sIx items.size items.size hi - sIx items.size 0 lo)).toArray.size <= sizeLine
  rw [List.size_toArray,List.length_take,List.length_drop,Array.length_toList]
  omega
 have hj:sIx items.size items.size hi <= items.size:=zhU _ _ (Nat.le_refl _) hi
 obtain ⟨os,hos,hcs,hds⟩:=id hs
 have hTs:s.TypeIs (.ref sl) "slice":=⟨os,hos,hcs⟩
 unfold getItem
 try with_reducible refine wpAny_holding ?_
 first|refine wpAny_bind (wpAny_pure ?_)|skip
 refine wpAny_bind (wpAny_sequenceKey ht.typeIs (by decide) ?_)
 refine wpAny_bind (wpAny_callSpecial?_slot (name:=Str.ofString "__getitem__") ht.typeIs PyProof.Rows.slot_tuple_getitem
  (wpAny_call_entry PyProof.Rows.slot_tuple_getitem ht.typeIs entry_tuple_getitem ?_ (args_tuple_getitem _ _)))
 show wpAny _ _ (Builtin.Tuple.tupleItemsOf (.ref t) >>= _) _ _ s
 refine wpAny_bind (tupleItemsOf_ ht ?_)
 refine wpAny_bind (wpAny_typeOf hTs ?_)
 rw [if_pos (by decide)]
 refine wpAny_bind (sliceApplied_gen hs pl pu ?_)
 have hno:¬ ((((sIx items.size 0 lo:Nat):Int) == 0 && (1:Int) == 1 && (sIx items.size items.size hi - sIx items.size 0 lo) == items.size)=true):=by
  intro q
  rw [Bool.and_eq_true,Bool.and_eq_true] at q
  have q1:((sIx items.size 0 lo:Nat):Int)=0:=eq_of_beq q.1.1
  have q2:sIx items.size items.size hi - sIx items.size 0 lo=items.size:=eq_of_beq q.2
  exact hw ⟨by omega,by omega⟩
 show wpAny _ _ (if (((sIx items.size 0 lo:Nat):Int) == 0 && (1:Int) == 1 && (sIx items.size items.size hi - sIx items.size 0 lo) == items.size)=true then _ else _) _ _ s
 rw [if_neg hno,ze7]
 first
  | exact wpAny_bind (m:=Builtin.Tuple.tupleExact _) (wpAny_newObj_type (wpAny_pure ⟨_,rfl,wpAny_pure h⟩) htake)
  | exact wpAny_bind (m:=Builtin.Tuple.tupleExact _) (wpAny_newObj_type (wpAny_bind (wpAny_pure (wpAny_pure ⟨_,rfl,wpAny_pure h⟩))) htake)
  | exact wpAny_bind (wpAny_bind (m:=Builtin.Tuple.tupleExact _) (wpAny_newObj_type (wpAny_pure (wpAny_pure ⟨_,rfl,wpAny_pure h⟩)) htake))
  | exact wpAny_bind (wpAny_bind (m:=Builtin.Tuple.tupleExact _) (wpAny_newObj_type (wpAny_pure ⟨_,rfl,wpAny_pure h⟩) htake))
end
end HT
namespace L2
open PySem PySem.Spec PyProof.Rows
abbrev TO:=St->Hp->(Option Int->Hp->Prop)->Prop
def PO (X:Cx) (e:Option Expr) (t:TO):Prop:=
 ∀ (pins:List (Addr × Obj)) (s:Shared) (σ:St) (H:Hp) (Q:Option Int->Hp->Prop),Inv X pins σ H s->t σ H Q->
  wpAny (model X.prog X.w) X.A (evalPart e X.env) (fun u s'=>∃ o H',Inv X pins σ H' s'/\IsPart u o/\Q o H') X.xe s
def zgV:TO:=fun _ H Q=>Q none H
def zjK (t:TE):TO:=fun σ H Q=>t σ H fun x H1=>∃ i,x=.int i/\Q (some i) H1
section
variable {X:Cx} {e:Expr} {te:TE} {lo hi:Option Expr} {tl th:TO} {pos p2:Pos}
theorem zfn:PO X none zgV:=by
 intro pins s σ H Q I h
 rw [evalPart_none]
 exact wpAny_pure ⟨none,H,I,.none,h⟩
theorem zfz (h:PE X e te):PO X (some e) (zjK te):=by
 intro pins s σ H Q I hw
 rw [evalPart_some]
 refine thn (h pins s σ H _ I hw) fun u s1 ⟨x,H1,I1,r1,q1⟩=>?_
 obtain ⟨i,rfl,q⟩:=q1
 obtain ⟨t,rfl⟩:=r1
 exact ⟨some i,H1,I1,.int i t,q⟩
def SlR (X:Cx) (r:V->Option Int->Option Int->Hp->VK->Prop):Prop:=
 ∀ (pins:List (Addr × Obj)) (s:Shared) (σ:St) (H:Hp) (x:V) (v vl vu:Value) (lo hi:Option Int) (sl:Addr) (Q:VK),Inv X pins σ H s->RelV x v->s.heap.IsSliceOf sl vl vu .none->IsPart vl lo->IsPart vu hi->r x lo hi H Q->
  ∃ T id,typeLookup (.type T) "__getitem__" = pure (some (.builtin id))/\s.TypeIs v T/\wpAny (model X.prog X.w) X.A (getItem v (.ref sl)) (EP X pins σ Q) X.xe s
theorem SlR.or {r r':V->Option Int->Option Int->Hp->VK->Prop} (h:SlR X r) (h':SlR X r'):SlR X (fun x lo hi H Q=>r x lo hi H Q \/ r' x lo hi H Q):=by
 intro pins s σ H x v vl vu lo hi sl Q I rx hs pl pu q
 rcases q with q|q
 ·exact h pins s σ H x v vl vu lo hi sl Q I rx hs pl pu q
 ·exact h' pins s σ H x v vl vu lo hi sl Q I rx hs pl pu q
def tSl (r:V->Option Int->Option Int->Hp->VK->Prop) (te:TE) (tl th:TO):TE:=fun σ H Q=>te σ H fun x H1=>tl σ H1 fun l H2=>th σ H2 fun u H3=>r x l u H3 Q
theorem z9E {r:V->Option Int->Option Int->Hp->VK->Prop} (hr:SlR X r) (he:PE X e te) (hl:PO X lo tl) (hu:PO X hi th):PE X (.Subscript e (.Slice lo hi none p2) pos) (tSl r te tl th):=by
 intro pins s σ H Q I h
 refine Subscript_ (thn (he pins s σ H _ I h) fun v s1 ⟨x,H1,I1,r1,q1⟩=>?_)
 refine wpAny_Slice (thn (hl pins s1 σ H1 _ I1 q1) fun vl s2 ⟨l,H2,I2,pl,q2⟩=>thn (hu pins s2 σ H2 _ I2 q2) fun vu s3 ⟨u,H3,I3,pu,q3⟩=>?_)
 rw [evalPart_none]
 refine wpAny_pure ?_
 have I4:Inv X pins σ H3 { s3 with heap:=s3.heap.push { cls:=.type "slice",data:=.fields #[vl,vu,.none] } }:=I3.kept (t':=s3.toks) fun b ob q=>Heap.get?_push_of_some _ q
 obtain ⟨T,id,hT,ht,hg⟩:=hr pins { s3 with heap:=s3.heap.push { cls:=.type "slice",data:=.fields #[vl,vu,.none] } } σ H3 x v vl vu l u s3.heap.objs.size Q I4 r1 (Heap.IsSliceOf.new ..) pl pu q3
 show wpAny (model X.prog X.w) X.A (subscriptTail e (.Slice lo hi none p2) v (.ref s3.heap.objs.size)) (EP X pins σ Q) X.xe { s3 with heap:=s3.heap.push { cls:=.type "slice",data:=.fields #[vl,vu,.none] } }
 exact tail_any (ops:=[.ref s3.heap.objs.size,v]) ht hT hg (by with_unfolding_all rfl)
def zef (xs:List V) (lo hi:Option Int):List V:=(xs.drop (HT.sIx xs.length 0 lo)).take (HT.sIx xs.length xs.length hi - HT.sIx xs.length 0 lo)
theorem z5M (xs:List V) (lo hi:Option Int):(zef xs lo hi).length <= xs.length:=by
 unfold zef
 rw [List.length_take,List.length_drop]
 omega
def zko (K:PySem.W.Frag):V->Option Int->Option Int->Hp->VK->Prop:=fun x lo hi H Q=>∃ a xs,x=.ref a/\SqT K H a xs/\
 ¬ (HT.sIx xs.length 0 lo=0/\HT.sIx xs.length xs.length hi=xs.length)/\∀ p,H p=none->Q (.ref p) (upd H p (.tup (zef xs lo hi)))
theorem zem:SlR X (zko X.K):=by
 intro pins s σ H x v vl vu lo hi sl Q I rx hs pl pu h
 obtain ⟨a,xs,rfl,hx,hw,q⟩:=h
 cases rx
 obtain ⟨its,r,ht,hz⟩:=I.tuple hx
 have hlen:its.toArray.size=xs.length:=by rw [List.size_toArray];exact r.length.symm
 refine ⟨"tuple",_,PyProof.Rows.slot_tuple_getitem.lookup,ht.typeIs,?_⟩
 refine HT.getItem_tuple_cut ht hs pl pu (by rw [hlen];exact hw) ?_ (by rw [hlen];exact hz)
 rw [hlen]
 refine ⟨.ref s.heap.objs.size,_,I.laid (t':=s.toks) (o:=.tup (zef xs lo hi)) (fun b ob q=>Heap.get?_push_of_some _ q) (Nat.le_refl _) ?_,rfl,q _ (I.hok.fresh (Nat.le_refl _))⟩
 exact ⟨Nat.le_trans (z5M xs lo hi) hz,_,(r.drop (HT.sIx xs.length 0 lo)).take (HT.sIx xs.length xs.length hi - HT.sIx xs.length 0 lo),IsTupD.new _ _⟩
def ziP (K:PySem.W.Frag):R2:=fun x y H Q=>∃ a b xs ys,x=.ref a/\y=.ref b/\SqT K H a xs/\SqT K H b ys/\xs ≠ []/\xs.length + ys.length <= sizeLine/\
 (ys=[]->Q (.ref a) H)/\(ys ≠ []->∀ p,H p=none->Q (.ref p) (upd H p (.tup (xs ++ ys))))
theorem Vals.nil_iff {xs:List V} {us:List Value} (r:Vals xs us):us=[] ↔ xs=[]:=by
 cases r with
 | nil=>simp
 | cons _ _=>simp
theorem zfD:OpR X (binaryOp .Add) (ziP X.K):=by
 intro pins s σ H x y v u Q I rx ry h
 obtain ⟨a,b,xs,ys,rfl,rfl,ha,hb,hx,hz,q1,q2⟩:=h
 cases rx
 cases ry
 obtain ⟨its,r1,p1,_⟩:=I.tuple ha
 obtain ⟨its2,r2,p2,_⟩:=I.tuple hb
 refine HT.cat_tup p1 p2 (fun z=>hx (r1.nil_iff.mp z)) (fun z=>⟨.ref a,H,I,rfl,q1 (r2.nil_iff.mp z)⟩) (fun z=>?_) (by rw [<- r1.length,<- r2.length];exact hz)
 refine ⟨.ref s.heap.objs.size,_,I.laid (t':=s.toks) (o:=.tup (xs ++ ys)) (fun b ob q=>Heap.get?_push_of_some _ q) (Nat.le_refl _) ?_,rfl,q2 (fun w=>z (r2.nil_iff.mpr w)) _ (I.hok.fresh (Nat.le_refl _))⟩
 exact ⟨by rw [List.length_append];exact hz,_,r1.append r2,IsTupD.new _ _⟩
end
def ixN (n:Nat) (i:Int):Option Nat:=if 0 <= i then (if i < n then some i.toNat else none) else if -(n:Int) <= i then some (i + n).toNat else none
def atI {α:Type} (xs:List α) (i:Int):Option α:=(ixN xs.length i).bind fun j=>xs[j]?
theorem zaz {n:Nat} {i:Int} {j:Nat} (h:ixN n i=some j):seqIndex? i n=some j/\j < n/\-(n:Int) <= i/\i < n:=by
 unfold ixN at h
 by_cases h0:0 <= i
 ·rw [if_pos h0] at h
  by_cases h1:i < n
  ·rw [if_pos h1] at h
   have e:i.toNat=j:=Option.some.inj h
   exact ⟨by rw [seqIndex_of h0 h1,e],by omega,by omega,h1⟩
  ·rw [if_neg h1] at h;cases h
 ·rw [if_neg h0] at h
  by_cases h1:-(n:Int) <= i
  ·rw [if_pos h1] at h
   have e:(i + n).toNat=j:=Option.some.inj h
   exact ⟨by rw [seqIndex_neg (by omega) h1,e],by omega,h1,by omega⟩
  ·rw [if_neg h1] at h;cases h
theorem z8D {α:Type} {xs:List α} {i:Int} {v:α} (h:atI xs i=some v):∃ j,seqIndex? i xs.length=some j/\xs[j]?=some v/\j < xs.length/\-(xs.length:Int) <= i/\i < xs.length:=by
 unfold atI at h
 cases e:ixN xs.length i with
 | none=>rw [e] at h;cases h
 | some j=>
  rw [e] at h
  obtain ⟨h1,h2,h3,h4⟩:=zaz e
  exact ⟨j,h1,h,h2,h3,h4⟩
theorem atI_nat {α:Type} {xs:List α} {j:Nat} {v:α} (h:xs[j]?=some v):atI xs (j:Int)=some v:=by
 have hj:j < xs.length:=(List.getElem?_eq_some_iff.mp h).1
 have e:ixN xs.length (j:Int)=some j:=by
  unfold ixN
  rw [if_pos (by omega),if_pos (by omega)];simp
 unfold atI;rw [e];exact h
def zck (b:Expr):Prop:=∀ o i,subscripted b false o i=operate [o,i] (getItem o i)
def IxR (X:Cx) (r:R2):Prop:=
 ∀ (value slice:Expr) (pins:List (Addr × Obj)) (s:Shared) (σ:St) (H:Hp) (x y:V) (v u:Value) (Q:VK),Inv X pins σ H s->RelV x v->RelV y u->r x y H Q->
  subscripted slice false v u=operate [v,u] (getItem v u)->wpAny (model X.prog X.w) X.A (subscriptTail value slice v u) (EP X pins σ Q) X.xe s
def MtR (X:Cx) (id:String) (r:V->List V->Hp->VK->Prop):Prop:=
 ∀ (pins:List (Addr × Obj)) (s:Shared) (σ:St) (H:Hp) (x:V) (xs:List V) (v:Value) (us:List Value) (Q:VK),Inv X pins σ H s->RelV x v->Vals xs us->r x xs H Q->
  wpAny (model X.prog X.w) X.A (call (.builtin id) (v :: us)) (EP X pins σ Q) X.xe s
section
variable {X:Cx} {a b:Expr} {ta tb:TE} {pos:Pos}
theorem IxR.or {r r':R2} (h:IxR X r) (h':IxR X r'):IxR X (fun x y H Q=>r x y H Q \/ r' x y H Q):=by
 intro value slice pins s σ H x y v u Q I rx ry q hs
 rcases q with q|q
 ·exact h value slice pins s σ H x y v u Q I rx ry q hs
 ·exact h' value slice pins s σ H x y v u Q I rx ry q hs
theorem zjN {r:R2} (hr:IxR X r) (ha:PE X a ta) (hb:PE X b tb) (hs:zck b):PE X (.Subscript a b pos) (tOp r ta tb):=by
 intro pins s σ H Q I h
 exact Subscript_ (zjz ha hb I h fun v u s2 x y H2 I2 rx ry q=>hr a b pins s2 σ H2 x y v u Q I2 rx ry q (hs _ _))
def zk0 (K:PySem.W.Frag):R2:=fun x y H Q=>∃ p xs i v,x=.ref p/\y=.int i/\SqL K H p xs/\atI xs i=some v/\Q v H
def zk9 (K:PySem.W.Frag):R2:=fun x y H Q=>∃ p xs i v,x=.ref p/\y=.int i/\SqT K H p xs/\atI xs i=some v/\Q v H
def zkd:R2:=fun x y H Q=>∃ z i c,x=.str z/\y=.int i/\z.length <= sizeLine/\atI z.cps.toList i=some c/\Q (.str ⟨#[c]⟩) H
theorem ix_list:IxR X (zk0 X.K):=by
 intro value slice pins s σ H x y v u Q I rx ry h hs
 obtain ⟨p,xs,i,z,rfl,rfl,hq,he,q⟩:=h
 cases rx
 obtain ⟨t,rfl⟩:=ry
 obtain ⟨its,r,pl,hz⟩:=I.list hq
 obtain ⟨j,h1,h2,h3,h4,h5⟩:=z8D he
 obtain ⟨w,ew,rw'⟩:=r.get h2
 have hl:=r.length
 have hn:=z6u
 have fin:EP X pins σ Q w s:=⟨z,H,I,rw',q⟩
 by_cases h0:0 <= i
 ·have hj:i.toNat=j:=by
   rw [seqIndex_of h0 h5] at h1
   exact Option.some.inj h1
  exact item_listR pl.isList h0 (by omega) (by rw [hj];simpa using ew) fin hs
 ·have hj:(i + (its.toArray.size:Int)).toNat=j:=by
   rw [seqIndex_neg (by omega) h4] at h1
   rw [List.size_toArray,<- hl]
   exact Option.some.inj h1
  exact subscriptTail_builtinR (x:=w) pl.isList.typeIs slot_list_getitem.lookup
   (wpAny_getItem_list_neg (Q:=fun r s'=>r=w/\EP X pins σ Q r s') pl.isList (by omega) (by rw [List.size_toArray] <;> omega) (by omega) (by rw [hj];simpa using ew) ⟨rfl,fin⟩) hs
theorem ix_tup:IxR X (zk9 X.K):=by
 intro value slice pins s σ H x y v u Q I rx ry h hs
 obtain ⟨p,xs,i,z,rfl,rfl,hq,he,q⟩:=h
 cases rx
 obtain ⟨t,rfl⟩:=ry
 obtain ⟨its,r,pl,hz⟩:=I.tuple hq
 obtain ⟨j,h1,h2,h3,h4,h5⟩:=z8D he
 obtain ⟨w,ew,rw'⟩:=r.get h2
 have hl:=r.length
 have hn:=z6u
 have fin:EP X pins σ Q w s:=⟨z,H,I,rw',q⟩
 exact subscriptTail_builtinR (x:=w) pl.typeIs slot_tuple_getitem.lookup
  (getItem_tuple (j:=j) (Q:=fun r s'=>r=w/\EP X pins σ Q r s') pl (by omega) (by omega) (by rw [List.size_toArray,<- hl];exact h1) (by simpa using ew) ⟨rfl,fin⟩) hs
theorem zhw:IxR X zkd:=by
 intro value slice pins s σ H x y v u Q I rx ry h hs
 obtain ⟨z,i,c,rfl,rfl,hz,he,q⟩:=h
 obtain ⟨t,rfl⟩:=rx
 obtain ⟨t',rfl⟩:=ry
 obtain ⟨j,h1,h2,h3,h4,h5⟩:=z8D he
 have hl:z.cps.toList.length=z.length:=by simp [Str.length]
 rw [hl] at h1 h4 h5
 have hn:=z6u
 exact tail_any (typeIs_str s z t) slot_str_getitem.lookup (getItem_str (c:=c) (by
  have e1:decide (i < -(2 ^ 63:Int))=false:=decide_eq_false (by omega)
  have e2:decide (i ≥ 2 ^ 63)=false:=decide_eq_false (by omega)
  rw [e1,e2,Bool.or_false]) (by rw [h1];simpa using h2) ⟨.str ⟨#[c]⟩,H,I.tok _,⟨_,rfl⟩,q⟩) hs
def rIx (K:PySem.W.Frag):R2:=fun x y H Q=>zk0 K x y H Q \/ zk9 K x y H Q \/ zkd x y H Q
theorem ziK:IxR X (rIx X.K):=ix_list.or (ix_tup.or zhw)
theorem zae (its:List Value) (n j:Nat) (u:Value):Obj.mapSeq (·.setIfInBounds j u) { cls:=.type "list",data:=.seq its.toArray n } = { cls:=.type "list",data:=.seq (its.set j u).toArray n }:=by
 simp [Obj.mapSeq]
theorem Inv.lst {pins:List (Addr × Obj)} {σ:St} {H:Hp} {s:Shared} {p:Addr} {xs:List V} (I:Inv X pins σ H s) (h:H p=some (.lst xs)):
  ∃ (its:List Value) (n:Nat),Vals xs its/\s.heap.get? p=some { cls:=.type "list",data:=.seq its.toArray n }/\xs.length <= sizeLine:=by
 obtain ⟨z,its,n,r,e⟩:=I.hok p _ h
 exact ⟨its,n,r,e,z⟩
theorem Inv.lstUpd {pins:List (Addr × Obj)} {σ:St} {H:Hp} {s:Shared} {p:Addr} {xs ys:List V} {its its':List Value} {n n':Nat} {f:Obj->Obj} (I:Inv X pins σ H s) (h:H p=some (.lst xs))
  (ho:s.heap.get? p=some { cls:=.type "list",data:=.seq its.toArray n }) (hf:f { cls:=.type "list",data:=.seq its.toArray n } = { cls:=.type "list",data:=.seq its'.toArray n' }) (r:Vals ys its') (hz:ys.length <= sizeLine) (t:Nat) (ht:0 < t:=by first|exact Nat.succ_pos _|exact Inv.tk ‹_›|assumption|omega):
  Inv X pins σ (upd H p (.lst ys)) { s with heap:=s.heap.update p f,toks:=t }:=by
 have e:(s.heap.update p f).get? p=some { cls:=.type "list",data:=.seq its'.toArray n' }:=by
  rw [Heap.get?_update_self f ho (by rw [hf] <;> rfl),hf]
 refine I.write (x:=p) (e:=p) (by rw [h];trivial) (.inl rfl) (fun b u hb q=>(Heap.get?_update_other _ _ (Ne.symm hb)).trans q) ⟨_,e⟩ ?_
 exact ⟨hz,its',n',r,e⟩
def zjs:V->V->V->Hp->(Hp->Prop)->Prop:=fun o i v H Q=>∃ p xs k j,o=.ref p/\i=.int k/\H p=some (.lst xs)/\ixN xs.length k=some j/\Q (upd H p (.lst (xs.set j v)))
theorem zdq:zk1 X zjs:=by
 intro pins s σ H o i v ov iv u Q I ro ri rv h
 obtain ⟨p,xs,k,j,rfl,rfl,hp,hj,q⟩:=h
 cases ro
 obtain ⟨t,rfl⟩:=ri
 obtain ⟨its,n,r,ho,hz⟩:=I.lst hp
 obtain ⟨h1,h2,h3,h4⟩:=zaz hj
 have hl:=r.length
 have hn:=z6u
 have I':Inv X pins σ (upd H p (.lst (xs.set j v))) { s with heap:=s.heap.update p (Obj.mapSeq (·.setIfInBounds j u)) }:=
  I.lstUpd hp ho (zae its n j u) (r.set rv j) (by rw [List.length_set];exact hz) s.toks
 by_cases h0:0 <= k
 ·have hk:k.toNat=j:=by
   rw [seqIndex_of h0 h4] at h1
   exact Option.some.inj h1
  exact PySem.W.ki_setAt ho h0 (by omega) (by rw [List.size_toArray,<- hl];exact h4) (by rw [hk];exact ⟨_,I',q⟩)
 ·have hk:(k + (its.toArray.size:Int)).toNat=j:=by
   rw [seqIndex_neg (by omega) h3] at h1
   rw [List.size_toArray,<- hl]
   exact Option.some.inj h1
  exact PySem.W.ki_setBack ho (by omega) (by rw [List.size_toArray,<- hl];exact h3) (by omega) (by rw [hk];exact ⟨_,I',q⟩)
theorem z7A (lo hi:Option Int) (n:Nat):(sliceBounds lo hi none n).1=((HT.sIx n 0 lo:Nat):Int)/\(sliceBounds lo hi none n).2.1=((HT.sIx n n hi:Nat):Int)/\(sliceBounds lo hi none n).2.2=1:=by
 refine ⟨?_,?_,rfl⟩
 ·cases lo with
  | none=>simp [sliceBounds,HT.sIx]
  | some i=>
   simp only [sliceBounds,HT.sIx,Option.getD_none,show (1:Int) > 0 by decide,if_true]
   by_cases h:i < 0
   ·simp only [h,if_true] <;> omega
   ·simp only [h,if_false] <;> omega
 ·cases hi with
  | none=>simp [sliceBounds,HT.sIx]
  | some i=>
   simp only [sliceBounds,HT.sIx,Option.getD_none,show (1:Int) > 0 by decide,if_true]
   by_cases h:i < 0
   ·simp only [h,if_true] <;> omega
   ·simp only [h,if_false] <;> omega
theorem z7b (its:List Value) (lo hi:Option Int):slicePick its.toArray lo hi none=((its.drop (HT.sIx its.length 0 lo)).take (HT.sIx its.length its.length hi - HT.sIx its.length 0 lo)).toArray:=by
 obtain ⟨h1,h2,h3⟩:=z7A lo hi its.toArray.size
 unfold slicePick
 rw [h1,h2,h3]
 simp only [sliceRange_one,pick_run,List.size_toArray] <;> rfl
def zkb (K:PySem.W.Frag):V->Option Int->Option Int->Hp->VK->Prop:=fun x lo hi H Q=>∃ a xs,x=.ref a/\SqL K H a xs/\∀ p,H p=none->Q (.ref p) (upd H p (.lst (zef xs lo hi)))
theorem zaS:SlR X (zkb X.K):=by
 intro pins s σ H x v vl vu lo hi sl Q I rx hs pl pu h
 obtain ⟨a,xs,rfl,hx,q⟩:=h
 cases rx
 obtain ⟨its,r,ht,hz⟩:=I.list hx
 have hlen:=r.length
 refine ⟨"list",_,slot_list_getitem.lookup,ht.isList.typeIs,?_⟩
 refine wpAny_getItem_list_slice ht.isList hs pl pu .none (by simp) ?_ (by rw [List.size_toArray] <;> omega)
 rw [z7b,<- hlen]
 refine ⟨.ref s.heap.objs.size,_,I.laid (t':=s.toks) (o:=.lst (zef xs lo hi)) (fun b ob q=>Heap.get?_push_of_some _ q) (Nat.le_refl _) ?_,rfl,q _ (I.hok.fresh (Nat.le_refl _))⟩
 exact ⟨Nat.le_trans (z5M xs lo hi) hz,_,0,(r.drop (HT.sIx xs.length 0 lo)).take (HT.sIx xs.length xs.length hi - HT.sIx xs.length 0 lo),Heap.get?_push_size _ rfl⟩
theorem CallR.or {f:Value} {r r':List V->Hp->VK->Prop} (h:CallR X f r) (h':CallR X f r'):CallR X f (fun xs H Q=>r xs H Q \/ r' xs H Q):=by
 intro pins s σ H xs us Q I rs q
 rcases q with q|q
 ·exact h pins s σ H xs us Q I rs q
 ·exact h' pins s σ H xs us Q I rs q
theorem z7z:CallR X (.type "list") (fun xs H Q=>∃ p ys,xs=[.ref p]/\(SqL X.K H p ys \/ SqT X.K H p ys)/\∀ l,H l=none->Q (.ref l) (upd H l (.lst ys))):=by
 intro pins s σ H xs us Q I r h
 obtain ⟨p,ys,rfl,hq,q⟩:=h
 obtain ⟨u,rfl,rx⟩:=z4X r
 cases rx
 have fin:∀ (its:List Value),Vals ys its->ys.length <= sizeLine->∀ (h':Heap) (c':Nat),(∀ b o',s.heap.get? b=some o'->h'.get? b=some o')->
   h'.get? s.heap.objs.size=some { cls:=.type "list",dict:=none,data:=.seq its.toArray c',slots:=#[] }->EP X pins σ Q (.ref s.heap.objs.size) { s with heap:=h' }:=fun its r' hz h' c' kp e=>
  ⟨.ref s.heap.objs.size,_,I.laid (t':=s.toks) kp (Nat.le_refl _) (show ObjOk X.prog X.w _ h' _ (.lst ys) from ⟨hz,its,c',r',e⟩),rfl,q _ (I.hok.fresh (Nat.le_refl _))⟩
 rcases hq with hq|hq
 ·obtain ⟨its,r',pl,hz⟩:=I.list hq
  have hlen:=r'.length
  obtain ⟨o,ho,hc,n,hd⟩:=pl.isList
  exact call_list_seq p (.inl rfl) ho hc hd (fun h' c' kp e=>fin its r' hz h' c' kp e) (by simp only [List.size_toArray] <;> omega)
 ·obtain ⟨its,r',pl,hz⟩:=I.tuple hq
  have hlen:=r'.length
  obtain ⟨o,ho,hc,n,hd⟩:=pl
  exact call_list_seq p (.inr rfl) ho hc hd (fun h' c' kp e=>fin its r' hz h' c' kp e) (by simp only [List.size_toArray] <;> omega)
theorem z6W:CallR X (.type "tuple") (fun xs H Q=>∃ p ys,xs=[.ref p]/\((SqL X.K H p ys/\∀ l,H l=none->Q (.ref l) (upd H l (.tup ys))) \/ (SqT X.K H p ys/\Q (.ref p) H))):=by
 intro pins s σ H xs us Q I r h
 obtain ⟨p,ys,rfl,h⟩:=h
 obtain ⟨u,rfl,rx⟩:=z4X r
 cases rx
 rcases h with ⟨hq,q⟩|⟨hq,q⟩
 ·obtain ⟨its,r',pl,hz⟩:=I.list hq
  have hlen:=r'.length
  refine call_tuple_list pl.isList (fun h' kp=>?_) (by simp only [List.size_toArray] <;> omega)
  have I1:Inv X pins σ H { s with heap:=h' }:=I.kept (t':=s.toks) kp
  have I2:Inv X pins σ (upd H h'.objs.size (.tup ys)) { s with heap:=h'.push { cls:=.type "tuple",data:=.seq its.toArray } }:=
   I1.laid (t':=s.toks) (fun b o e=>Heap.get?_push_of_some _ e) (Nat.le_refl _) (show ObjOk X.prog X.w _ _ _ (.tup ys) from ⟨hz,its,r',IsTupD.new _ _⟩)
  exact ⟨.ref h'.objs.size,_,I2,rfl,q _ (I1.hok.fresh (Nat.le_refl _))⟩
 ·obtain ⟨its,r',pl,hz⟩:=I.tuple hq
  exact call_tuple_same pl ⟨.ref p,H,I,rfl,q⟩
def tyV (K:PySem.W.Frag) (T:String) (x:V) (H:Hp):Prop:=match x with
 | .str _=>T = "str"
 | .int _=>T = "int"
 | .ref p=>(T = "list"/\∃ xs,SqL K H p xs) \/ (T = "tuple"/\∃ o,K.lookup p=some o/\o.cls=.type "tuple"/\o.dict=none) \/
   (T = "dict"/\((∃ kvs,H p=some (.dK kvs)) \/ ∃ kvs,H p=some (.dT kvs))) \/ (T = "set"/\∃ S n,H p=some (.set S n))
 | _=>False
theorem ziS {pins:List (Addr × Obj)} {σ:St} {H:Hp} {s:Shared} {T:String} {x:V} {v:Value} (I:Inv X pins σ H s) (r:RelV x v) (ty:tyV X.K T x H):
  s.TypeIs v T/\∀ a,v=.ref a->∃ ob,s.heap.get? a=some ob/\ob.dict=none:=by
 cases x with
 | str z=>
  obtain ⟨t,rfl⟩:=r
  cases (show T = "str" from ty)
  exact ⟨typeIs_str s z t,fun _ e=>nomatch e⟩
 | int i=>
  obtain ⟨t,rfl⟩:=r
  cases (show T = "int" from ty)
  exact ⟨typeIs_int s i t,fun _ e=>nomatch e⟩
 | ref p=>
  cases r
  rcases ty with ⟨rfl,xs,hq⟩|⟨rfl,o,hk,hc,hd⟩|⟨rfl,hk⟩|⟨rfl,S,n,hk⟩
  ·obtain ⟨its,_,pl,_⟩:=I.list hq
   refine ⟨pl.isList.typeIs,fun a e=>?_⟩
   cases e
   obtain ⟨o,n,e,c,hd,_⟩:=pl
   exact ⟨o,e,hd⟩
  ·refine ⟨⟨o,I.kIn p o hk,hc⟩,fun a e=>?_⟩
   cases e
   exact ⟨o,I.kIn _ o hk,hd⟩
  ·have z:∃ o,s.heap.get? p=some o/\o.ExactDict:=by
    rcases hk with ⟨kvs,hk⟩|⟨kvs,hk⟩
    ·obtain ⟨_,_,_,_,o,_,_,e,ex,_⟩:=I.hok p _ hk
     exact ⟨o,e,ex⟩
    ·obtain ⟨_,_,_,_,o,_,_,e,ex,_⟩:=I.hok p _ hk
     exact ⟨o,e,ex⟩
   obtain ⟨o,e,ex⟩:=z
   refine ⟨⟨o,e,ex.1⟩,fun a e2=>?_⟩
   cases e2
   exact ⟨o,e,ex.2.1⟩
  ·obtain ⟨o,_,_,_,e,ex,_⟩:=I.hok p _ hk
   refine ⟨⟨o,e,ex.1⟩,fun a e2=>?_⟩
   cases e2
   exact ⟨o,e,ex.2.1⟩
 | _=>exact False.elim ty
def tBM (K:PySem.W.Frag) (T:String) (r:V->List V->Hp->VK->Prop) (to:TE) (t:TA):TE:=fun σ H Q=>to σ H fun x H1=>tyV K T x H1/\t σ H1 fun xs H2=>r x xs H2 Q
variable {o e:Expr} {es:List Expr} {to:TE} {t:TA} {name:Str} {apos cpos:Pos} {T id:String} {r:V->List V->Hp->VK->Prop}
theorem z8w (pa:PlainAttrs T) (slot:Slot T name id) (hty:typeOf (.builtin id)=pure (.type "method_descriptor")) (hm:MtR X id r) (ho:PE X o to) (ha:PA X (e :: es) t)
  (hbase:attributeBase o name X.env (eval o X.env)=eval o X.env:=by rfl)
  (hfew:((backTo cpos (starEach (e :: es) X.env)).all (fun x=>!x.1) && (backToKw cpos (keywordEach [] X.env)).all (fun x=>x.1.isSome)
   && decide ((e :: es).length + ([]:List Keyword).length + (if ([]:List Keyword).isEmpty then 0 else 1) < 30))=true:=by rfl)
  (hline:(apos.endLine == cpos.line)=true:=by rfl) (hs:starEach (e :: es) X.env=(false,eval e X.env) :: starEach es X.env:=by rfl) (hplain:(backTo cpos (starEach es X.env)).any (·.1)=false:=by rfl):
  PE X (.Call (.Attribute o name apos) (e :: es) [] cpos) (tBM X.K T r to t):=by
 intro pins s σ H Q I h
 refine wpAny_Call_method_late hbase hfew hline rfl (thn (ho pins s σ H _ I h) fun v s1 ⟨x,H1,I1,r1,ty,q1⟩=>?_)
 obtain ⟨h1,h2⟩:=ziS I1 r1 ty
 refine ⟨T,id,pa,slot,hty,h1,h2,?_⟩
 have hA:=ha cpos pins s1 σ H1 _ I1 q1
 rw [hs] at hA ⊢
 refine Calls.callWith_builtin (by show (false || (backTo cpos (starEach es X.env)).any (·.1))=false;rw [hplain] <;> rfl) (Calls.evalArgs_plain ?_)
 exact thn hA fun us s2 ⟨vs,H2,I2,r2,q2⟩=>hm pins s2 σ H2 x vs v us Q I2 r1 r2 q2
end
def MtM (X:Cx) (id:String) (r:V->List V->Hp->VK->Prop):Prop:=
 ∀ (pins:List (Addr × Obj)) (s:Shared) (σ:St) (H:Hp) (x:V) (xs:List V) (v:Value) (us:List Value) (Q:VK),Inv X pins σ H s->RelV x v->Vals xs us->r x xs H Q->
  wpAny (model X.prog X.w) X.A (call (.builtin id) (v :: us)) (EP X pins σ Q) X.xe s
theorem Vals.one:∀ {x:V} {us:List Value},Vals [x] us->∃ u,us=[u]/\RelV x u
 | _,_,.cons r .nil=>⟨_,rfl,r⟩
section
variable {X:Cx} {pins:List (Addr × Obj)} {σ:St} {H:Hp} {s:Shared} {l:Addr} {xs ys:List V}
theorem Inv.lset {its its':List Value} {n:Nat} {f:Array Value->Array Value} {t':Nat} (I:Inv X pins σ H s) (hH:H l=some (.lst xs))
  (e:s.heap.get? l=some { cls:=.type "list",data:=.seq its.toArray n }) (hf:f its.toArray=its'.toArray) (hv:Vals ys its') (hz:ys.length <= sizeLine) (ht:0 < t':=by first|exact Nat.succ_pos _|exact Inv.tk ‹_›|assumption|omega):
  Inv X pins σ (upd H l (.lst ys)) { s with heap:=s.heap.update l (Obj.mapSeq f),toks:=t' }:=by
 have q:=PySem.IsL.update e f
 rw [hf] at q
 refine I.write (x:=l) (e:=l) (by rw [hH];exact trivial) (.inl rfl) (fun b' u hb hu=>(Heap.get?_update_other s.heap (Obj.mapSeq f) (Ne.symm hb)).trans hu) ⟨_,q⟩ ?_
 exact ⟨hz,its',_,hv,q⟩
theorem Inv.lnew {its:List Value} {t':Nat} (I:Inv X pins σ H s) (hv:Vals ys its) (hz:ys.length <= sizeLine) (ht:0 < t':=by first|exact Nat.succ_pos _|exact Inv.tk ‹_›|assumption|omega):
  Inv X pins σ (upd H s.heap.objs.size (.lst ys)) { s with heap:=s.heap.push { cls:=.type "list",data:=.seq its.toArray },toks:=t' }:=
 I.laid (fun _ _ q=>Heap.get?_push_of_some _ q) (Nat.le_refl _) ⟨hz,its,0,hv,Heap.get?_push_size _ rfl⟩
theorem Inv.fresh (I:Inv X pins σ H s):H s.heap.objs.size=none:=I.hok.fresh (Nat.le_refl _)
theorem Inv.lstM (I:Inv X pins σ H s) (hH:H l=some (.lst xs)):xs.length <= sizeLine/\∃ (its:List Value) (n:Nat),Vals xs its/\xs.length=its.length/\s.heap.get? l=some { cls:=.type "list",data:=.seq its.toArray n }:=by
 obtain ⟨z,its,n,r,e⟩:=I.hok l _ hH
 exact ⟨z,its,n,r,r.length,e⟩
theorem zcP {n:Nat} (h:n <= sizeLine):Builtin.List.listTooLong n=false:=by
 unfold Builtin.List.listTooLong
 exact decide_eq_false (by omega)
end
section
variable {X:Cx}
def z5U:V->List V->Hp->VK->Prop:=fun x vs H Q=>∃ l xs y,x=.ref l/\vs=[y]/\H l=some (.lst xs)/\xs.length < sizeLine/\Q .non (upd H l (.lst (xs ++ [y])))
theorem z3e:MtM X "list.append" z5U:=by
 intro pins s σ H x vs v us Q I rx rv h
 obtain ⟨l,xs,y,rfl,rfl,hH,hz,q⟩:=h
 cases rx
 obtain ⟨u,rfl,ru⟩:=rv.one
 obtain ⟨z,its,n,r,hl,e⟩:=I.lstM hH
 refine call_meets F.slot_list_append ⟨_,e,rfl⟩ F.entry_list_append (F.args_list_append_2 _ _) (PySem.list_append l its.toArray n u (by rw [List.size_toArray];omega)) ⟨e,?_⟩
 refine ⟨.non,_,I.lset (its':=its ++ [u]) hH e (by simp) (r.append (.cons ru .nil)) ?_,rfl,q⟩
 rw [List.length_append,List.length_singleton]
 omega
end
section
end
end L2
namespace Att
open PySem PySem.W PySem.Calls PyProof.Rows
theorem z5w {P:Params} {h:Heap}:∀ (ns:List Int) (vs:List Value),WellAll P h vs (ns.map WData.int)->IntsAre vs ns:=by
 intro ns
 induction ns with
 | nil=>
  intro vs w
  rw [List.map_nil] at w
  cases w
  exact .nil
 | cons n ns ih=>
  intro vs w
  rw [List.map_cons] at w
  cases w with
  | cons a b=>
   cases a
   exact .cons _ _ (ih _ b)
theorem zcF {l:OpenLaw} {n:Nat} (hn:l.most=some n) {P:Params} {h:Heap} {args:List WData} {vals:List Value}
  (hpre:l.row.toRowW.claim.pre args=true) (hwl:WellAll P h vals args):
  ∃ a vs ns,vals=[Value.ref a]/\args=[WData.list (ns.map WData.int)]/\h.get? a=some { cls:=.type "list",data:=.seq vs.toArray }/\IntsAre vs ns/\ns.length <= n:=by
 have hsh:WShape.hasAll [] args [.list .int]=true:=(pre_splitW hpre).1
 have hc:l.pre.holds [] { args:=args } = true:=(pre_splitW hpre).2
 obtain ⟨d,r,rfl,h1,h2⟩:=hasAllW_cons hsh
 obtain rfl:=hasAllW_nil h2
 obtain ⟨xs,rfl,h3⟩:=hasW_list h1
 obtain ⟨ns,rfl⟩:=items_int h3
 have hlen:ns.length <= n:=by
  unfold OpenLaw.pre at hc
  have h4:(WTm.not (.lt (.lit (.int (n:Int))) (.len (.arg 0)))).holds [] { args:=[.list (ns.map .int)] } = true:=by
   have h4:=(holds_andW hc).1
   rw [hn] at h4
   exact h4
  have h5:=condW_of h4 (w_not (w_lt w_lit (w_len_list (w_arg rfl))))
  rw [List.length_map] at h5
  refine Nat.le_of_not_lt fun q=>?_
  have q':(n:Int) < ((ns.length:Nat):Int):=by omega
  first
   | (rw [decide_eq_true q'] at h5;exact absurd h5 (by decide))
   | (simp at h5;omega)
 cases hwl with
 | cons w1 w2=>
  cases w2
  cases w1 with
  | list ho hall=>exact ⟨_,_,ns,rfl,rfl,ho,z5w ns _ hall,hlen⟩
theorem zcj (l:OpenLaw) (args:List WData):l.row.toRowW.claim.post args (.bool true) args=true:=
 postW_of (r:=l.row.toRowW) (X:=(true == true))
  (show WShape.has [] (.bool true) .bool=true by first|rfl|decide|simp [WShape.has,WShape.arms,WShape.armsAll])
  (show (WTm.eq .res (.lit (.bool true))).value [] { args:=args,res:=some (.bool true),after:=args } = some (.bool (true == true)) from w_eq_bool (w_res rfl) w_lit) rfl
theorem z6e:∀ ns:List Int,PySem.W.ofPys (ns.map PyData.int)=ns.map WData.int
 | []=>by simp [PySem.W.ofPys]
 | n :: ns=>by simp only [List.map_cons,PySem.W.ofPys,PySem.W.ofPy];rw [z6e ns]
theorem attach_call {l:OpenLaw} {n:Nat} {q:Program} {loose:List Str} {XP:(Str->Option Value)->Heap->Prop} {YP:World->Heap->Prop} {d:DefRec} {α:Type} {Yf:Shared->α} {Ya:World->α}
  (hn:l.most=some n) (hdf:d.params.defaults=[]) (hYf:∀ w s,Yf s=Ya w->YP w s.heap) (hYk:∀ w h h',YP w h->(∀ b o,h.get? b=some o->h'.get? b=some o)->YP w h')
  (call:∀ (w:World) (s₀ s₁:Shared) (mg mb:Str->Option Value) (fa:Addr) (o:Obj) (pm cd doc:Value) (a:Addr) (vs:List Value) (ns:List Int),
   Ground q loose [] XP w s₀ mg mb s₁.heap->YP w s₁.heap->
   s₁.heap.get? fa=some o->o.data=.func (docDef d.name d.params d.body d.scope pm cd doc)->s₁.heap.CodeRec cd d.name->mg d.name=some (.ref fa)->
   s₁.heap.get? a=some { cls:=.type "list",data:=.seq vs.toArray }->IntsAre vs ns->ns.length <= n->s₁.gens = #[]->0 < s₁.toks->
   codeAny (model l.prog w) callerA (.call (.ref fa) ⟨[.ref a],[]⟩) (fun r s'=>r=.ok (.ret (.bool true))/\OldK s₁.heap s'.heap/\s'.os=s₁.os/\AllBare s'.gens) s₁):
  WalkX q loose XP (fun s=>(Yf s,decide (0 < s.toks))) (fun w=>(Ya w,true)) l.row.toRowW d [] (fun f vs=>PySem.call f vs):=by
 intro w s₀ s₁ mg mb G Y fa o pm cd doc dV kV ho hd hcd hD hmg hg args vals as L hpre hlay hrd hwl hlo
 obtain rfl:dV=.none:=Dflts.none hD hdf
 obtain rfl:kV=.none:=Dflts.noKw hD
 have Y1:Yf s₀=Ya w:=congrArg Prod.fst Y
 have Y2:0 < s₀.toks:=of_decide_eq_true (congrArg Prod.snd Y)
 obtain ⟨a,vs,ns,rfl,rfl,hobj,hints,hlen⟩:=zcF hn hpre hwl
 have L':Laid l.row.toRowW.records w s₀ s₁ [PySem.W.ofPy (PyData.list (ns.map PyData.int))] [.ref a] as:=by
  rw [PySem.W.ofPy,z6e];exact L
 have htk:0 < s₁.toks:=Nat.lt_of_lt_of_le Y2 (PySem.W.X.script_toks L' rfl)
 refine enter_call (codeAny_mono (call w s₀ s₁ mg mb fa o pm cd doc a vs ns G (hYk _ _ _ (hYf w s₀ Y1) L.keeps) ho (fd_plain hd) hcd hmg hobj hints hlen hg htk) fun r s' hq=>?_)
 obtain ⟨rfl,h2,h3,h4⟩:=hq
 exact ⟨.inl ⟨.bool true,.bool true,[],rfl,fun _=>rfl,.bool true,zcj l _,fun _=>⟨List.Pairwise.nil,fun _ hm=>(nomatch hm)⟩⟩,h2,h3,h4⟩
section
end
end Att
namespace L2
open PySem PySem.Spec PyProof.Rows
theorem z8d:∀ {vs:List Value} {ns:List Int},IntsAre vs ns->Vals (ns.map V.int) vs
 | _,_,.nil=>.nil
 | _,_,.cons n t h=>.cons ⟨t,rfl⟩ (z8d h)
def z2x (s:Stmt):Arguments:=match s with
 | .FunctionDef _ a _ _ _ _ _ _ _ _=>a
 | _=>{ posonlyargs:=[],args:=[],vararg:=none,kwonlyargs:=[],kw_defaults:=[],kwarg:=none,defaults:=[] }
def z1U (s:Stmt):List Stmt:=match s with
 | .FunctionDef _ _ b _ _ _ _ _ _ _=>b
 | _=>[]
def z1o (s:Stmt):Scope:=match s with
 | .FunctionDef _ _ _ _ _ _ sc _ _ _=>sc
 | _=>{ kind:=.function,names:=[],isGenerator:=false,isCoroutine:=false }
abbrev CX0:CXT:=fun _ _ _ _ _ _=>False
abbrev E0:XK:=fun _ _ _=>False
structure Fun (K:PySem.W.Frag) (x qual:Str) (st:Stmt) (f:Addr) (fd:FuncData):Prop where
 ex:∃ (oc:Value) (od:Option Addr) (kV doc pm:Value) (an:Option Addr) (cdv ct:Value) (osl:Array (Option Value)),
  fd=PySem.W.fnOf x qual (z2x st) (z1U st) (z1o st) .none kV doc pm an cdv ct/\K.lookup f=some ⟨oc,od,.func fd,osl⟩/\PySem.W.codeIn K cdv qual=true
 kp:PySem.W.keepIn K (.ref f)=true
section
variable {P:Program} {w:World} {K:PySem.W.Frag} {mg:Str->Option Value} {base:Heap}
theorem Fun.ok {x qual:Str} {st:Stmt} {f:Addr} {fd:FuncData} {N ps:List Str} {k:Nat} {sp:Sp} (F:Fun K x qual st f fd) (S:z1v N ps (z1o st)) (len:∀ vs H Q E,sp vs H Q E->vs.length=ps.length)
  (hbody:∀ (cdv:Value) (A:Around) (outer:List Env) (s:Shared) (H:Hp) (vs:List V) (Q:VK) (E:XK),Room k (A.deeper (envOfC qual (z1o st) s.heap.objs.size f cdv))->sp vs H Q E->
   ∃ t,PSs (zdc CX0 P w K mg base N qual (z1o st) f cdv A outer s H E).nox (z1U st) t/\t { nx:=fun _ H'=>Q .non H',rt:=Q } (start N vs) H):FnOk P w K mg base CX0 (k + 1) f fd ps sp:=by
 obtain ⟨oc,od,kV,doc,pm,an,cdv,ct,osl,rfl,lk,hcd⟩:=F.ex
 refine z1S lk hcd S len fun A outer s H vs Q E hr hsp=>?_
 obtain ⟨t,h,q⟩:=hbody cdv A outer s H vs Q E hr hsp
 exact ⟨t,h.nox,q⟩
theorem Fun.binds {x qual:Str} {st:Stmt} {f:Addr} {fd:FuncData} {ps:List Str} (F:Fun K x qual st f fd)
  (h:∀ (kV doc pm:Value) (an:Option Addr) (cdv ct:Value) (us:List Value),us.length=ps.length->bindArgs (PySem.W.fnOf x qual (z2x st) (z1U st) (z1o st) .none kV doc pm an cdv ct) ⟨us,[]⟩=pure (ps.zip us)):Binds K fd ps []:=by
 obtain ⟨oc,od,kV,doc,pm,an,cdv,ct,osl,rfl,lk,hcd⟩:=F.ex
 exact .all (h kV doc pm an cdv ct)
theorem zcm {x qual:Str} {st:Stmt} {f:Addr} {oc:Value} {od an:Option Addr} {osl:Array (Option Value)} {kV doc pm cdv ct:Value} (l:K.lookup f=some ⟨oc,od,.func (PySem.W.fnOf x qual (z2x st) (z1U st) (z1o st) .none kV doc pm an cdv ct),osl⟩)
  (c:PySem.W.codeIn K cdv qual=true) (k:PySem.W.keepIn K (.ref f)=true):Fun K x qual st f (PySem.W.fnOf x qual (z2x st) (z1U st) (z1o st) .none kV doc pm an cdv ct):=⟨⟨oc,od,kV,doc,pm,an,cdv,ct,osl,rfl,l,c⟩,k⟩
end
section
variable {X:Cx}
theorem pv (i:Nat) {x:Str} {pos:Pos} (hN:X.N[i]?=some x:=by rfl) (hv:Vis X.env.scope x:=by first|exact Or.inl rfl|exact Or.inr (Or.inl rfl)|exact Or.inr (Or.inr rfl)) (hd:(x == ("__debug__":Str))=false:=by decide)
  (hcd:(x == ("__classdict__":Str))=false:=by decide):PE X (.Name x pos) (zh2 i):=z55 hN hv hd hcd
end
def Same (H H':Hp):Prop:=∀ b o,H b=some o->H' b=some o
theorem Same.refl (H:Hp):Same H H:=fun _ _ h=>h
theorem Same.trans {H H1 H2:Hp} (a:Same H H1) (b:Same H1 H2):Same H H2:=fun c o h=>b c o (a c o h)
theorem Same.free {H H':Hp} (e:Same H H') {l:Addr} (h:H' l=Option.none):H l=Option.none:=by
 cases q:H l with
 | none=>rfl
 | some o=>
  rw [e l o q] at h
  cases h
section
variable {κ:Type} [DecidableEq κ]
theorem KV.any {kvs:List (κ × V)} {vs:List (κ × Value)} (r:KV kvs vs) (k:κ):(kvs.any fun kv=>decide (kv.1=k))=vs.any fun kv=>decide (kv.1=k):=by
 unfold KV at r
 induction r with
 | nil=>rfl
 | cons h t ih=>rw [List.any_cons,List.any_cons,ih,h.1]
theorem KV.length {kvs:List (κ × V)} {vs:List (κ × Value)} (r:KV kvs vs):kvs.length=vs.length:=Paired.length r
end
section
variable {X:Cx} {pins:List (Addr × Obj)} {σ:St} {H:Hp} {s:Shared}
theorem Inv.big (I:Inv X pins σ H s):sysModules < s.heap.objs.size:=by
 have h:mainGlobals < s.heap.objs.size:=(I.mod.glob.keeps I.bk).lt
 exact Nat.lt_trans (by decide) h
end
section
end
def zki (i:Expr):Prop:=∀ ov iv,subscripted i false ov iv=operate [ov,iv] (getItem ov iv)
theorem zgX {prog:Program} {w:World} {A:Around} {E:Value->Shared->Prop} {s:Shared} {env:Env} {value slice:Expr} {pos:Pos} {T id:String} {Q:Value->Shared->Prop}
  (hl:typeLookup (.type T) "__getitem__" = pure (some (.builtin id))) (hs:zki slice)
  (h:wpAny (model prog w) A (eval value env) (fun o s₁=>wpAny (model prog w) A (eval slice env) (fun i s₂=>s₂.TypeIs o T/\wpAny (model prog w) A (getItem o i) Q E s₂) E s₁) E s):
  wpAny (model prog w) A (eval (.Subscript value slice pos) env) Q E s:=by
 refine Subscript_ (wpAny_mono h (fun o s₁ h₁=>wpAny_mono h₁ (fun i s₂ h₂=>?_) fun _ _ x=>x) fun _ _ x=>x)
 obtain ⟨hT,h₂⟩:=h₂
 unfold subscriptTail
 refine wpAny_bind ?_
 rw [getitemInPython_of_ne hT.not_modules]
 refine wpAny_bind (wpAny_specialOf hT hl ?_)
 have fin:wpAny (model prog w) A (subscripted slice false o i) (fun r s₃=>wpAny (model prog w) A (letTemporaryGo value o r >>= fun _=>pure r) Q E s₃) E s₂:=by
  rw [hs o i]
  exact wpAny_operating (wpAny_mono h₂ (fun r s₃ h₃=>wpAny_bind (wpAny_letTemporaryGo (wpAny_pure h₃))) fun _ _ x=>x)
 first
  | exact wpAny_pure (wpAny_bind fin)
  | exact wpAny_bind (wpAny_pure (wpAny_bind fin))
  | exact wpAny_bind fin
theorem zdy {P:Program} {w:World} {H:Hp} (h:Heap) (hb:sysModules < h.objs.size):ObjOk P w H (h.push { cls:=.type "dict",data:=.dict #[] }) h.objs.size (.dK []):=
 ⟨Nat.zero_le _,beq_eq_false_iff_ne.mpr (Ne.symm (Nat.ne_of_lt hb)),[],.nil,Heap.DictOf.new h⟩
def zhT:TE:=fun _ H Q=>∀ p,H p=none->Q (.ref p) (upd H p (.dK []))
section
variable {X:Cx} {pos:Pos}
theorem zdn:PE X (.Dict [] [] pos) zhT:=fun pins s σ H Q I h=>
 wpAny_Dict_empty ⟨.ref s.heap.objs.size,_,I.laid (a:=s.heap.objs.size) (o:=.dK []) (t':=s.toks) (fun _ _ q=>Heap.get?_push_of_some _ q) (Nat.le_refl _) (zdy s.heap I.big),rfl,h _ (I.hok.fresh (Nat.le_refl _))⟩
end
structure M1 (X:Cx) (o:Expr) (m:Str) (apos:Pos) (e:Expr) (cpos:Pos):Prop where
 base:attributeBase o m X.env (eval o X.env)=eval o X.env
 few:((backTo cpos (starEach [e] X.env)).all (fun x=>!x.1) && (backToKw cpos (keywordEach [] X.env)).all (fun x=>x.1.isSome)
  && decide (([e]:List Expr).length + ([]:List Keyword).length + (if ([]:List Keyword).isEmpty then 0 else 1) < 30))=true
 line:(apos.endLine == cpos.line)=true
 trees:backTo cpos (starEach [e] X.env)=[(false,eval e X.env)]
structure M2 (X:Cx) (o:Expr) (m:Str) (apos:Pos) (e f:Expr) (cpos:Pos):Prop where
 base:attributeBase o m X.env (eval o X.env)=eval o X.env
 few:((backTo cpos (starEach [e,f] X.env)).all (fun x=>!x.1) && (backToKw cpos (keywordEach [] X.env)).all (fun x=>x.1.isSome)
  && decide (([e,f]:List Expr).length + ([]:List Keyword).length + (if ([]:List Keyword).isEmpty then 0 else 1) < 30))=true
 line:(apos.endLine == cpos.line)=true
 trees:backTo cpos (starEach [e,f] X.env)=[(false,eval e X.env),(false,eval f X.env)]
section
end
section
end
end L2
namespace DL
open PySem L2
theorem wT {X:Cx} {pins:List (Addr × Obj)} {σv:St} {H:Hp} {s:Shared} {α:Type} {M:Model} {A:Around} {m:Sem α} {Q:α->Shared->Prop} {E:Value->Shared->Prop} (I:L2.Inv X pins σv H s) (h:wpAny M A m (fun a s'=>0 < s'.toks->Q a s') (fun e s'=>0 < s'.toks->E e s') s):wpAny M A m Q E s:=wpAny_with_toks I.tk h
structure XcK (K:PySem.W.Frag) (C:Addr):Prop where
 ga:PySem.W.findIn K (.ref C) "__getattribute__" = some (some (.builtin "BaseException.__getattribute__"))
 nh:PySem.W.findIn K (.ref C) "__getattr__" = some none
 cl:∃ cd,PySem.W.clsIn K C=some cd
 at_:PySem.W.findIn K (.ref C) "__class__" = some (some (.builtin "object.__class__"))
 gt:PySem.W.specialIn K (.builtin "object.__class__") "__get__" = some (some (.builtin "getset_descriptor.__get__"))
 tk:PySem.W.takesIn K (.builtin "object.__class__")=some true
 ob:PySem.W.mroIn K C (.type "object")=some true
 bx:PySem.W.mroIn K C (.type "BaseException")=some true
 kit:∀ c ∈ (["int", "bool", "str", "list", "tuple", "dict"]:List String),PySem.W.kitOne K (.ref C) (.type c)=some false
section
open PySem.W
variable {prog:Program} {w:World} {A:Around} {E:Value->Shared->Prop} {s:Shared} {K:PySem.W.Frag} {x C:Addr} {ox:Obj}
theorem zgz {M:Model} {nameV:Value} {Q:Unit->Shared->Prop} (X:K.In s.heap) (k:XcK K C) (I:PySem.W.InstAt s.heap x ox C none) (hq:Q () s):wpAny M A (checkBuiltinCall "BaseException.__getattribute__" ⟨[.ref x,nameV],[]⟩) Q E s:=by
 have hk:builtinKind "BaseException.__getattribute__" = some .slot:=by decide +kernel
 have hsplit:splitId "BaseException.__getattribute__" = some ("BaseException", "__getattribute__"):=by decide +kernel
 have ha:=F.args_bexc_ga (.ref x) nameV
 have L0:=I.type (M:=M)
 have L1:=looks_mroIn (M:=M) X k.bx
 have LI:Looks M s.heap (isInstance (.ref x) (.type "BaseException")) true:=L0.andThen L1
 simp only [checkBuiltinCall,hk,hsplit]
 refine wpAny_bind (LI.at ?_)
 repeat (first|wp_step|exact hq)
theorem zfk {Q:Option Value->Shared->Prop} (X:K.In s.heap) (k:XcK K C) (I:PySem.W.InstAt s.heap x ox C none) (h:Q (some (.ref C)) { s with toks:=s.toks + 1 }):wpAny (model prog w) A (getAttr? (.ref x) "__class__") Q E s:=by
 obtain ⟨cd,hcd⟩:=k.cl
 have hf:findObj K C none "__class__" = some (.bind (.builtin "getset_descriptor.__get__") (.builtin "object.__class__")):=by
  unfold findObj
  rw [hcd,k.at_]
  simp only [Option.bind_some,k.gt,k.tk]
 have L0:=I.type (M:=model prog w)
 have L1:=looks_findIn (M:=model prog w) X k.ga
 have L2:=looks_findIn (M:=model prog w) X k.nh
 have LF:=looks_find (M:=model prog w) X I hf
 unfold getAttr? getAttrBy? getAttrBy
 refine wpAny_bind (wpAny_mkText (wpAny_bind (wpAny_attempt (wpAny_holding (wpAny_bind (L0.at (wpAny_bind (L1.at ?_))))))))
 have hx1:(onTheHeap (Value.ref C) && Value.builtin "BaseException.__getattribute__" == Value.builtin "object.__getattribute__")=false:=by
  rw [show (Value.builtin "BaseException.__getattribute__" == Value.builtin "object.__getattribute__")=false from by decide +kernel];rfl
 show wpAny _ _ (if (onTheHeap (Value.ref C) && Value.builtin "BaseException.__getattribute__" == Value.builtin "object.__getattribute__")=true then _ else _) _ _ _
 rw [if_neg (by rw [hx1];decide)]
 unfold getAttrByItsOwn hookBefore
 rw [if_pos (by rfl)]
 refine wpAny_bind (L2.at (wpAny_bind (wpAny_attempt (wpAny_holding ?_))))
 unfold callGetattribute boundAndCalled
 rw [if_neg (by decide)]
 rw [F.attr_ValueError.ga.bind (.ref x)]
 refine wpAny_bind (wpAny_pure (wpAny_call ?_))
 refine codeAny_call_builtin F.attr_ValueError.ga.plain F.entry_bexc_ga (zgz (s:={ s with toks:=s.toks + 1 }) X k I ?_)
 unfold Builtin.«object.__getattribute__»
 refine wpAny_bind (wpAny_pure (wpAny_bind (wpAny_pure (wpAny_bind (L0.at (wpAny_bind (LF.at ?_)))))))
 show wpAny _ _ (Builtin.ObjectAttr.bindTo _ _ _ _) _ _ _
 unfold Builtin.ObjectAttr.bindTo
 refine wpAny_bind (wpAny_holding (wpAny_call (class_get (s:={ s with toks:=s.toks + 1 }) X I k.ob ?_)))
 exact wpAny_pure (wpAny_pure (wpAny_pure h))
theorem zeN (k:XcK K C):KitX K (.ref x) (.ref C) (fun h=>∃ ox,PySem.W.InstAt h x ox C none) where
 ty:=fun _ _ _ ⟨ox,I⟩=>I.type
 it:=fun _ _ X _=>by
  obtain ⟨cd,hcd⟩:=k.cl
  unfold clsIn at hcd
  split at hcd
  ·rename_i c' d' cd' sl' ho
   intro A' Q' E' s' kp q
   unfold isType loadHead
   exact wpAny_bind (wpAny_loadPart (kp _ _ (X _ _ ho)) (wpAny_pure q))
  ·cases hcd
 ne:=fun h tp dd its n sl X htp=>by
  obtain ⟨cd,hcd⟩:=k.cl
  refine Bool.eq_false_iff.mpr fun q=>?_
  have e:C=tp:=Value.ref.inj (beq_iff_eq.mp q)
  subst e
  unfold clsIn at hcd
  split at hcd
  ·rename_i c' d' cd' sl' ho
   have z:=(X _ _ ho).symm.trans htp
   cases z
  ·cases hcd
 ca:=fun X ⟨ox,I⟩ q=>zfk X k I q
end
end DL
namespace DL
open PySem L2
inductive D where
 | non
 | bl (b:Bool)
 | int (i:Int)
 | str (cs:List Nat)
 | lst (xs:List D)
 | tup (xs:List D)
 | own (k:Nat)
 | dct
 | exn (C:Nat)
 | tab (P:Nat)
 | map (ks:List (Sum Int (List Nat))) (ds:List D)
 | adr (a:Nat)
 deriving Repr,BEq,Inhabited
abbrev Ow:=List (List D)
inductive R (α:Type) where
 | ok (a:α) (O:Ow)
 | exc (c:Nat) (O:Ow)
 | bad
 deriving Repr,BEq,Inhabited
def R.bnd {α β:Type} (r:R α) (k:α->Ow->R β):R β:=match r with
 | .ok a O=>k a O
 | .exc c O=>.exc c O
 | .bad=>.bad
abbrev Sg:=List (Option D)
abbrev DE:=Sg->Ow->R D
abbrev DT:=Sg->Ow->R Bool
abbrev DA:=Sg->Ow->R (List D)
section
variable (K:PySem.W.Frag) (H:Hp) (hid μ:List Addr)
def zkQ (K:PySem.W.Frag) (a:Addr) (xs:List V):Prop:=∃ (o:Obj) (its:Array Value) (n:Nat),K.lookup a=some o/\o.cls=.type "list"/\o.dict=none/\o.data=.seq its n/\its.size <= sizeLine/\Vals xs its.toList
def zkL (K:PySem.W.Frag) (a:Addr) (xs:List V):Prop:=∃ (o:Obj) (its:Array Value) (n:Nat),K.lookup a=some o/\o.cls=.type "tuple"/\o.data=.seq its n/\its.size <= sizeLine/\Vals xs its.toList
def LstAt (a:Addr) (vs:List V):Prop:=(Rd H a (.lst vs)/\a ∉ hid/\a ∉ μ) \/ zkQ K a vs
def TupAt (a:Addr) (vs:List V):Prop:=(Rd H a (.tup vs)/\a ∉ hid/\a ∉ μ) \/ zkL K a vs/\∃ o,K.lookup a=some o/\o.dict=none
end
def kD:Sum Int (List Nat)->Key
 | .inl i=>.inl i
 | .inr cs=>.inr ⟨cs.toArray⟩
def Tidy (H:Hp) (P:Addr):Prop:=∃ ps,H P=some (.tbl ps)/\TriplesOk ps.toList/\∀ pos cv,codeAmong pos ps.toList=some cv->∃ c φ,cv=.ref c/\H c=some (.ext φ)/\∀ h:Heap,φ h->∃ q,h.CodeRec (.ref c) q
def zah (o:HO):Prop:=∀ ps,o ≠ .tbl ps
section
variable (K:PySem.W.Frag) (H:Hp) (hid μ:List Addr)
mutual
def Dat:D->V->Prop
 | .non,v=>v=.non
 | .bl b,v=>v=.bl b
 | .int i,v=>v=.int i
 | .str cs,v=>v=.str ⟨cs.toArray⟩
 | .lst ds,v=>∃ a vs,v=.ref a/\LstAt K H hid μ a vs/\Dats ds vs
 | .tup ds,v=>∃ a vs,v=.ref a/\TupAt K H hid μ a vs/\Dats ds vs
 | .own k,v=>∃ a,v=.ref a/\μ[k]?=some a
 | .dct,v=>∃ a,v=.ref a/\Rd H a (.dK [])/\a ∉ hid/\a ∉ μ
 | .exn C,v=>∃ a φ,v=.ref a/\(XcK K C/\∀ h:Heap,φ h->∃ ox,PySem.W.InstAt h a ox C none)/\Rd H a (.ext φ)/\a ∉ hid/\a ∉ μ
 | .tab P,v=>v=.bl false/\Tidy H P
 | .map ks ds,v=>∃ a vs,v=.ref a/\Rd H a (.dK ((ks.map kD).zip vs))/\a ∉ hid/\a ∉ μ/\ks.length=vs.length/\Dats ds vs
 | .adr a,v=>v=.ref a
def Dats:List D->List V->Prop
 | [],vs=>vs=[]
 | d :: ds,vs=>∃ v r,vs=v :: r/\Dat d v/\Dats ds r
end
structure Cells (O:Ow):Prop where
 len:μ.length=O.length
 nd:μ.Nodup
 nh:∀ a ∈ μ,a ∉ hid
 ht:∀ a ∈ hid,H a ≠ none
 at_:∀ (k:Nat) a,μ[k]?=some a->∃ ds vs,O[k]?=some ds/\H a=some (.lst vs)/\Dats K H hid μ ds vs
structure EnvOk (σ:Sg) (σv:St):Prop where
 len:σ.length=σv.length
 at_:∀ (i:Nat) d,σ[i]?=some (some d)->∃ v,σv[i]?=some (some v)/\Dat K H hid μ d v
end
structure Ext (H:Hp) (μ:List Addr) (H':Hp) (μ':List Addr):Prop where
 pre:∃ ν,μ'=μ ++ ν
 kept:∀ b o,H b=some o->b ∉ μ->zah o->H' b=some o
 fresh:∀ b ∈ μ',b ∈ μ \/ H b=none
 there:∀ b,H b ≠ none->H' b ≠ none
 tab:∀ P,Tidy H P->Tidy H' P
structure Mv (H:Hp) (hid μ:List Addr) (H':Hp) (hid' μ':List Addr):Prop where
 pre:∃ ν,μ'=μ ++ ν
 kept:∀ b o,H b=some o->b ∉ μ->b ∉ hid->zah o->H' b=some o
 fresh:∀ b ∈ μ',b ∈ μ \/ H b=none
 hids:∀ b ∈ hid',b ∈ hid \/ H b=none
 there:∀ b,H b ≠ none->H' b ≠ none
 tab:∀ P,Tidy H P->Tidy H' P
section
variable {K:PySem.W.Frag} {H H' H1 H2:Hp} {hid hid' hid1 hid2 μ μ' μ1 μ2:List Addr}
theorem Ext.keep (e:Ext H μ H' μ') (b:Addr) (o:HO) (h:H b=some o) (n:b ∉ μ) (ht:zah o:=by intro ps z;cases z):H' b=some o:=e.kept b o h n ht
theorem Tidy.upd {P p:Addr} {o:HO} (t:Tidy H P) (hp:H p=none \/ ∃ vs,H p=some (.lst vs)):Tidy (L2.upd H p o) P:=by
 obtain ⟨ps,h1,h2,h3⟩:=t
 have n1:P ≠ p:=by
  rintro rfl
  rcases hp with z|⟨vs,z⟩ <;> (rw [z] at h1;cases h1)
 refine ⟨ps,by rw [z1q n1];exact h1,h2,fun pos cv e=>?_⟩
 obtain ⟨c,φ,rfl,hc,hf⟩:=h3 pos cv e
 have n2:c ≠ p:=by
  rintro rfl
  rcases hp with z|⟨vs,z⟩ <;> (rw [z] at hc;cases hc)
 exact ⟨c,φ,rfl,by rw [z1q n2];exact hc,hf⟩
theorem Ext.refl:Ext H μ H μ:=⟨⟨[],by simp⟩,fun _ _ h _ _=>h,fun _ h=>.inl h,fun _ h=>h,fun _ t=>t⟩
theorem Ext.trans (a:Ext H μ H1 μ1) (b:Ext H1 μ1 H2 μ2):Ext H μ H2 μ2:=by
 refine ⟨?_,fun c o h n ht=>?_,fun c h=>?_,fun c h=>b.there c (a.there c h),fun P t=>b.tab P (a.tab P t)⟩
 ·obtain ⟨x,rfl⟩:=a.pre
  obtain ⟨y,rfl⟩:=b.pre
  exact ⟨x ++ y,by simp⟩
 ·refine b.kept c o (a.kept c o h n ht) (fun m=>?_) ht
  rcases a.fresh c m with z|z
  ·exact n z
  ·rw [z] at h;cases h
 ·rcases b.fresh c h with z|z
  ·exact a.fresh c z
  ·by_cases hm:c ∈ μ
   ·exact .inl hm
   ·cases e:H c with
    | none=>exact .inr rfl
    | some o=>exact absurd z (a.there c (by rw [e];simp))
theorem Ext.mv (a:Ext H μ H' μ'):Mv H hid μ H' hid μ':=⟨a.pre,fun b o h n _ ht=>a.kept b o h n ht,a.fresh,fun _ h=>.inl h,a.there,a.tab⟩
theorem Mv.refl:Mv H hid μ H hid μ:=Ext.refl.mv
theorem Mv.trans (a:Mv H hid μ H1 hid1 μ1) (b:Mv H1 hid1 μ1 H2 hid2 μ2):Mv H hid μ H2 hid2 μ2:=by
 have nn:∀ c,H1 c=none->H c=none:=fun c h=>by
  cases e:H c with
  | none=>rfl
  | some o=>exact absurd h (a.there c (by rw [e];simp))
 refine ⟨?_,fun c o h n1 n2 ht=>?_,fun c h=>?_,fun c h=>?_,fun c h=>b.there c (a.there c h),fun P t=>b.tab P (a.tab P t)⟩
 ·obtain ⟨x,rfl⟩:=a.pre
  obtain ⟨y,rfl⟩:=b.pre
  exact ⟨x ++ y,by simp⟩
 ·refine b.kept c o (a.kept c o h n1 n2 ht) (fun m=>?_) (fun m=>?_) ht
  ·rcases a.fresh c m with z|z
   ·exact n1 z
   ·rw [z] at h;cases h
  ·rcases a.hids c m with z|z
   ·exact n2 z
   ·rw [z] at h;cases h
 ·rcases b.fresh c h with z|z
  ·exact a.fresh c z
  ·exact .inr (nn c z)
 ·rcases b.hids c h with z|z
  ·exact a.hids c z
  ·exact .inr (nn c z)
theorem Mv.hide {b:Addr} (h:H b=none):Mv H hid μ H (b :: hid) μ:=⟨⟨[],by simp⟩,fun _ _ h _ _ _=>h,fun _ m=>.inl m,fun c m=>(List.mem_cons.mp m).elim (fun e=>.inr (by rw [e];exact h)) .inl,fun _ h=>h,fun _ t=>t⟩
theorem Mv.unhide {b:Addr}:Mv H (b :: hid) μ H hid μ:=⟨⟨[],by simp⟩,fun _ _ h _ _ _=>h,fun _ m=>.inl m,fun _ m=>.inl (List.mem_cons_of_mem _ m),fun _ h=>h,fun _ t=>t⟩
theorem Rd.mv {a:Addr} {u:HO} (r:Rd H a u) (e:Mv H hid μ H' hid' μ') (n1:a ∉ hid) (n2:a ∉ μ) (ht:zah u:=by intro ps z;cases z):Rd H' a u/\a ∉ hid'/\a ∉ μ':=by
 have out:∀ o,H a=some o->a ∉ hid'/\a ∉ μ':=by
  intro o h
  constructor
  ·intro m
   rcases e.hids a m with z|z
   ·exact n1 z
   ·rw [z] at h;cases h
  ·intro m
   rcases e.fresh a m with z|z
   ·exact n2 z
   ·rw [z] at h;cases h
 rcases r with r|⟨o,r⟩
 ·exact ⟨.inl (e.kept _ _ r n2 n1 ht),out _ r⟩
 ·exact ⟨.inr ⟨o,e.kept _ _ r n2 n1 (by intro ps z;cases z)⟩,out _ r⟩
theorem LstAt.mv {a:Addr} {vs:List V} (h:LstAt K H hid μ a vs) (e:Mv H hid μ H' hid' μ'):LstAt K H' hid' μ' a vs:=
 h.imp (fun z=>Rd.mv z.1 e z.2.1 z.2.2) id
theorem TupAt.mv {a:Addr} {vs:List V} (h:TupAt K H hid μ a vs) (e:Mv H hid μ H' hid' μ'):TupAt K H' hid' μ' a vs:=
 h.imp (fun z=>Rd.mv z.1 e z.2.1 z.2.2) id
theorem LstAt.sq {a:Addr} {vs:List V} (h:LstAt K H hid μ a vs):SqL K H a vs:=h.elim (fun z=>.inl z.1) .inr
theorem TupAt.sq {a:Addr} {vs:List V} (h:TupAt K H hid μ a vs):SqT K H a vs:=h.elim (fun z=>.inl z.1) fun z=>.inr z.1
mutual
theorem Dat.mv (e:Mv H hid μ H' hid' μ'):∀ {d:D} {v:V},Dat K H hid μ d v->Dat K H' hid' μ' d v
 | .non,_,h=>h
 | .bl _,_,h=>h
 | .int _,_,h=>h
 | .str _,_,h=>h
 | .lst ds,v,h=>by
  unfold Dat at h ⊢
  obtain ⟨a,vs,r,l,q⟩:=h
  exact ⟨a,vs,r,l.mv e,Dats.mv e q⟩
 | .tup ds,v,h=>by
  unfold Dat at h ⊢
  obtain ⟨a,vs,r,l,q⟩:=h
  exact ⟨a,vs,r,l.mv e,Dats.mv e q⟩
 | .own k,v,h=>by
  unfold Dat at h ⊢
  obtain ⟨a,r,q⟩:=h
  obtain ⟨x,rfl⟩:=e.pre
  exact ⟨a,r,by rw [List.getElem?_append_left (List.getElem?_eq_some_iff.mp q).1];exact q⟩
 | .dct,v,h=>by
  unfold Dat at h ⊢
  obtain ⟨a,r,q,n1,n2⟩:=h
  exact ⟨a,r,Rd.mv q e n1 n2⟩
 | .exn C,v,h=>by
  unfold Dat at h ⊢
  obtain ⟨a,φ,r,g,q,n1,n2⟩:=h
  exact ⟨a,φ,r,g,Rd.mv q e n1 n2⟩
 | .tab P,v,h=>by
  unfold Dat at h ⊢
  exact ⟨h.1,e.tab _ h.2⟩
 | .map ks ds,v,h=>by
  unfold Dat at h ⊢
  obtain ⟨a,vs,r,q,n1,n2,hl,d⟩:=h
  obtain ⟨r1,r2,r3⟩:=Rd.mv q e n1 n2
  exact ⟨a,vs,r,r1,r2,r3,hl,Dats.mv e d⟩
 | .adr _,_,h=>h
theorem Dats.mv (e:Mv H hid μ H' hid' μ'):∀ {ds:List D} {vs:List V},Dats K H hid μ ds vs->Dats K H' hid' μ' ds vs
 | [],_,h=>h
 | d :: ds,vs,h=>by
  unfold Dats at h ⊢
  obtain ⟨v,r,e1,h1,h2⟩:=h
  exact ⟨v,r,e1,Dat.mv e h1,Dats.mv e h2⟩
end
theorem Dat.ext (e:Ext H μ H' μ') {d:D} {v:V} (h:Dat K H hid μ d v):Dat K H' hid μ' d v:=h.mv e.mv
theorem Dats.ext (e:Ext H μ H' μ') {ds:List D} {vs:List V} (h:Dats K H hid μ ds vs):Dats K H' hid μ' ds vs:=h.mv e.mv
theorem EnvOk.mv {σ:Sg} {σv:St} (h:EnvOk K H hid μ σ σv) (e:Mv H hid μ H' hid' μ'):EnvOk K H' hid' μ' σ σv:=
 ⟨h.len,fun i d q=>let ⟨v,a,b⟩:=h.at_ i d q;⟨v,a,b.mv e⟩⟩
theorem EnvOk.ext {σ:Sg} {σv:St} (h:EnvOk K H hid μ σ σv) (e:Ext H μ H' μ'):EnvOk K H' hid μ' σ σv:=h.mv e.mv
theorem EnvOk.set {σ:Sg} {σv:St} (h:EnvOk K H hid μ σ σv) {d:D} {v:V} (q:Dat K H hid μ d v) (i:Nat):EnvOk K H hid μ (σ.set i (some d)) (σv.set i (some v)):=by
 refine ⟨by simp [h.len],fun j x e=>?_⟩
 by_cases hj:i=j
 ·subst hj
  have hi:i < σ.length:=by have:=(List.getElem?_eq_some_iff.mp e).1;simpa using this
  rw [List.getElem?_set_self hi] at e
  cases e
  exact ⟨v,by rw [List.getElem?_set_self (by rw [<- h.len];exact hi)],q⟩
 ·rw [List.getElem?_set_ne hj] at e
  obtain ⟨w,a,b⟩:=h.at_ j x e
  exact ⟨w,by rw [List.getElem?_set_ne hj];exact a,b⟩
theorem Dats.length:∀ {ds:List D} {vs:List V},Dats K H hid μ ds vs->ds.length=vs.length
 | [],_,h=>by unfold Dats at h;subst h;rfl
 | d :: ds,vs,h=>by
  unfold Dats at h
  obtain ⟨v,r,rfl,_,h2⟩:=h
  simp [Dats.length h2]
theorem Dats.nil:Dats K H hid μ [] []:=by unfold Dats;rfl
theorem Dats.cons {d:D} {v:V} {ds:List D} {vs:List V} (h:Dat K H hid μ d v) (t:Dats K H hid μ ds vs):Dats K H hid μ (d :: ds) (v :: vs):=by
 unfold Dats;exact ⟨v,vs,rfl,h,t⟩
theorem Dats.append:∀ {ds es:List D} {vs ws:List V},Dats K H hid μ ds vs->Dats K H hid μ es ws->Dats K H hid μ (ds ++ es) (vs ++ ws)
 | [],_,_,_,h,t=>by unfold Dats at h;subst h;exact t
 | d :: ds,es,vs,ws,h,t=>by
  unfold Dats at h
  obtain ⟨v,r,rfl,h1,h2⟩:=h
  exact .cons h1 (Dats.append h2 t)
theorem Dats.get:∀ {ds:List D} {vs:List V} {i:Nat} {d:D},Dats K H hid μ ds vs->ds[i]?=some d->∃ v,vs[i]?=some v/\Dat K H hid μ d v
 | [],_,_,_,_,e=>by simp at e
 | d :: ds,vs,0,x,h,e=>by
  unfold Dats at h
  obtain ⟨v,r,rfl,h1,h2⟩:=h
  simp at e;subst e
  exact ⟨v,by simp,h1⟩
 | d :: ds,vs,i + 1,x,h,e=>by
  unfold Dats at h
  obtain ⟨v,r,rfl,h1,h2⟩:=h
  obtain ⟨z,a,b⟩:=Dats.get (i:=i) h2 (by simpa using e)
  exact ⟨z,by simpa using a,b⟩
theorem Dats.take:∀ {ds:List D} {vs:List V} (n:Nat),Dats K H hid μ ds vs->Dats K H hid μ (ds.take n) (vs.take n)
 | _,_,0,_=>by simpa using Dats.nil
 | [],_,n + 1,h=>by unfold Dats at h;subst h;simpa using Dats.nil
 | d :: ds,vs,n + 1,h=>by
  unfold Dats at h
  obtain ⟨v,r,rfl,h1,h2⟩:=h
  simpa using Dats.cons h1 (Dats.take n h2)
theorem Dats.drop:∀ {ds:List D} {vs:List V} (n:Nat),Dats K H hid μ ds vs->Dats K H hid μ (ds.drop n) (vs.drop n)
 | _,_,0,h=>by simpa using h
 | [],_,n + 1,h=>by unfold Dats at h;subst h;simpa using Dats.nil
 | d :: ds,vs,n + 1,h=>by
  unfold Dats at h
  obtain ⟨v,r,rfl,h1,h2⟩:=h
  simpa using Dats.drop n h2
theorem Dats.set {d:D} {v:V} (q:Dat K H hid μ d v):∀ {ds:List D} {vs:List V} (i:Nat),Dats K H hid μ ds vs->Dats K H hid μ (ds.set i d) (vs.set i v)
 | [],_,i,h=>by unfold Dats at h;subst h;simpa using Dats.nil
 | x :: ds,vs,0,h=>by
  unfold Dats at h
  obtain ⟨w,r,rfl,h1,h2⟩:=h
  simpa using Dats.cons q h2
 | x :: ds,vs,i + 1,h=>by
  unfold Dats at h
  obtain ⟨w,r,rfl,h1,h2⟩:=h
  simpa using Dats.cons h1 (Dats.set q i h2)
theorem Dats.rev:∀ {ds:List D} {vs:List V},Dats K H hid μ ds vs->Dats K H hid μ ds.reverse vs.reverse
 | [],_,h=>by unfold Dats at h;subst h;simpa using Dats.nil
 | d :: ds,vs,h=>by
  unfold Dats at h
  obtain ⟨v,r,rfl,h1,h2⟩:=h
  simpa using Dats.append (Dats.rev h2) (.cons h1 .nil)
theorem z27 {p:Addr} {o:HO} (b:Addr) (h:H b ≠ none):upd H p o b ≠ none:=by
 by_cases e:b=p
 ·subst e;rw [z1z];simp
 ·rw [z1q e];exact h
theorem Ext.laid {p:Addr} {o:HO} (h:H p=none):Ext H μ (upd H p o) μ:=
 ⟨⟨[],by simp⟩,fun b u e _ _=>by rw [z1q (z1r e h)];exact e,fun _ m=>.inl m,z27,fun _ t=>t.upd (.inl h)⟩
theorem Cells.laid {p:Addr} {o:HO} {O:Ow} (c:Cells K H hid μ O) (h:H p=none):Cells K (upd H p o) hid μ O:=by
 refine ⟨c.len,c.nd,c.nh,fun a m=>?_,fun k a e=>?_⟩
 ·by_cases q:a=p
  ·subst q;rw [z1z];simp
  ·rw [z1q q];exact c.ht a m
 ·obtain ⟨ds,vs,h1,h2,h3⟩:=c.at_ k a e
  exact ⟨ds,vs,h1,by rw [z1q (z1r h2 h)];exact h2,h3.ext (.laid h)⟩
theorem Cells.not_in {O:Ow} (c:Cells K H hid μ O) {p:Addr} (h:H p=none):p ∉ hid/\p ∉ μ:=by
 refine ⟨fun m=>c.ht p m h,fun m=>?_⟩
 obtain ⟨k,hk,e⟩:=List.mem_iff_getElem.mp m
 obtain ⟨ds,vs,_,h2,_⟩:=c.at_ k p (by rw [List.getElem?_eq_some_iff];exact ⟨hk,e⟩)
 rw [h] at h2;cases h2
theorem Dat.newL {O:Ow} {p:Addr} {vs:List V} {ds:List D} (c:Cells K H hid μ O) (h:H p=none) (q:Dats K H hid μ ds vs):Dat K (upd H p (.lst vs)) hid μ (.lst ds) (.ref p):=by
 unfold Dat
 exact ⟨p,vs,rfl,.inl ⟨.inl z1z,c.not_in h⟩,q.ext (.laid h)⟩
theorem Dat.newT {O:Ow} {p:Addr} {vs:List V} {ds:List D} (c:Cells K H hid μ O) (h:H p=none) (q:Dats K H hid μ ds vs):Dat K (upd H p (.tup vs)) hid μ (.tup ds) (.ref p):=by
 unfold Dat
 exact ⟨p,vs,rfl,.inl ⟨.inl z1z,c.not_in h⟩,q.ext (.laid h)⟩
theorem Ext.cell {p:Addr} {o:HO} (h:H p=none):Ext H μ (upd H p o) (μ ++ [p]):=
 ⟨⟨[p],rfl⟩,fun b u e _ _=>by rw [z1q (z1r e h)];exact e,fun b m=>by
  rcases List.mem_append.mp m with m|m
  ·exact .inl m
  ·have:b=p:=by simpa using m
   subst this;exact .inr h,z27,fun _ t=>t.upd (.inl h)⟩
theorem Cells.cell {O:Ow} {p:Addr} {vs:List V} {ds:List D} (c:Cells K H hid μ O) (h:H p=none) (q:Dats K H hid μ ds vs):Cells K (upd H p (.lst vs)) hid (μ ++ [p]) (O ++ [ds]):=by
 have ni:=c.not_in h
 refine ⟨by simp [c.len],?_,fun a m=>?_,fun a m=>?_,fun k a e=>?_⟩
 ·rw [List.nodup_append]
  refine ⟨c.nd,by simp,fun a ha b hb=>?_⟩
  have:b=p:=by simpa using hb
  subst this
  rintro rfl
  exact ni.2 ha
 ·rcases List.mem_append.mp m with m|m
  ·exact c.nh a m
  ·have:a=p:=by simpa using m
   subst this;exact ni.1
 ·by_cases q:a=p
  ·subst q;rw [z1z];simp
  ·rw [z1q q];exact c.ht a m
 ·by_cases hk:k < μ.length
  ·rw [List.getElem?_append_left hk] at e
   obtain ⟨ds',vs',h1,h2,h3⟩:=c.at_ k a e
   exact ⟨ds',vs',by rw [List.getElem?_append_left (by rw [<- c.len];exact hk)];exact h1,by rw [z1q (z1r h2 h)];exact h2,h3.ext (.cell h)⟩
  ·rw [List.getElem?_append_right (by omega)] at e
   have e0:k - μ.length=0:=by
    have:=(List.getElem?_eq_some_iff.mp e).1
    simp at this;omega
   rw [e0] at e
   simp at e;subst e
   refine ⟨ds,vs,?_,z1z,q.ext (.cell h)⟩
   have:k=O.length:=by have:=c.len;omega
   subst this;simp
theorem Ext.put {p:Addr} {o:HO} (h:p ∈ μ) (hl:∃ vs,H p=some (.lst vs)):Ext H μ (upd H p o) μ:=
 ⟨⟨[],by simp⟩,fun b u e n _=>by rw [z1q (by rintro rfl;exact n h)];exact e,fun _ m=>.inl m,z27,fun _ t=>t.upd (.inr hl)⟩
theorem Cells.put {O:Ow} {p:Addr} {k:Nat} {vs:List V} {ds:List D} (c:Cells K H hid μ O) (hk:μ[k]?=some p) (q:Dats K H hid μ ds vs):Cells K (upd H p (.lst vs)) hid μ (O.set k ds):=by
 have hm:p ∈ μ:=List.mem_of_getElem? hk
 have hl:∃ vs,H p=some (.lst vs):=let ⟨_,vs,_,h2,_⟩:=c.at_ k p hk;⟨vs,h2⟩
 refine ⟨by simp [c.len],c.nd,c.nh,fun a m=>?_,fun j a e=>?_⟩
 ·by_cases q:a=p
  ·subst q;rw [z1z];simp
  ·rw [z1q q];exact c.ht a m
 ·by_cases hj:j=k
  ·subst hj
   rw [hk] at e;cases e
   refine ⟨ds,vs,?_,z1z,q.ext (.put hm hl)⟩
   rw [List.getElem?_set_self (by rw [<- c.len];exact (List.getElem?_eq_some_iff.mp hk).1)]
  ·have ne:a ≠ p:=by
    rintro rfl
    obtain ⟨h1,e1⟩:=List.getElem?_eq_some_iff.mp e
    obtain ⟨h2,e2⟩:=List.getElem?_eq_some_iff.mp hk
    exact hj ((List.getElem_inj c.nd).mp (e1.trans e2.symm))
   obtain ⟨ds',vs',h1,h2,h3⟩:=c.at_ j a e
   exact ⟨ds',vs',by rw [List.getElem?_set_ne (Ne.symm hj)];exact h1,by rw [z1q ne];exact h2,h3.ext (.put hm hl)⟩
end
section
variable (Ex:Nat->Hp->Prop) (K:PySem.W.Frag)
def post {α β:Type} (rel:Hp->List Addr->α->β->Prop) (H:Hp) (hid μ:List Addr) (r:R α) (Q:β->Hp->Prop):Prop:=match r with
 | .ok d O'=>∀ v H' μ',Ext H μ H' μ'->Cells K H' hid μ' O'->rel H' μ' d v->Q v H'
 | .exc c O'=>∀ H' μ',Ext H μ H' μ'->Cells K H' hid μ' O'->Ex c H'
 | .bad=>False
abbrev z1I (H:Hp) (hid μ:List Addr) (r:R D) (Q:VK):Prop:=post Ex K (fun H' μ' d v=>Dat K H' hid μ' d v) H hid μ r Q
abbrev z5i (H:Hp) (hid μ:List Addr) (r:R Bool) (Q:Bool->Hp->Prop):Prop:=post Ex K (fun _ _ d v=>d=v) H hid μ r Q
abbrev zhr (H:Hp) (hid μ:List Addr) (r:R (List D)) (Q:List V->Hp->Prop):Prop:=post Ex K (fun H' μ' d v=>Dats K H' hid μ' d v) H hid μ r Q
def rd (t:DE):TE:=fun σv H Q=>∃ hid μ σ O,EnvOk K H hid μ σ σv/\Cells K H hid μ O/\z1I Ex K H hid μ (t σ O) Q
def rdT (t:DT):TT:=fun σv H Q=>∃ hid μ σ O,EnvOk K H hid μ σ σv/\Cells K H hid μ O/\z5i Ex K H hid μ (t σ O) Q
def rdA (t:DA):TA:=fun σv H Q=>∃ hid μ σ O,EnvOk K H hid μ σ σv/\Cells K H hid μ O/\zhr Ex K H hid μ (t σ O) Q
end
section
variable {Ex:Nat->Hp->Prop} {K:PySem.W.Frag} {H H1:Hp} {hid μ μ1:List Addr}
theorem post.ext {α β:Type} {rel:Hp->List Addr->α->β->Prop} {r:R α} {Q:β->Hp->Prop} (h:post Ex K rel H hid μ r Q) (e:Ext H μ H1 μ1):post Ex K rel H1 hid μ1 r Q:=by
 cases r with
 | ok d O'=>exact fun v H' μ' e' c q=>h v H' μ' (e.trans e') c q
 | exc c O'=>exact fun H' μ' e' c=>h H' μ' (e.trans e') c
 | bad=>exact h
theorem post.bnd {α β α' β':Type} {rel:Hp->List Addr->α->β->Prop} {rel':Hp->List Addr->α'->β'->Prop} {r:R α} {k:α->Ow->R α'} {Q:β'->Hp->Prop} {Q1:β->Hp->Prop}
  (h:post Ex K rel' H hid μ (r.bnd k) Q)
  (hk:∀ d O1 v H1 μ1,Ext H μ H1 μ1->Cells K H1 hid μ1 O1->rel H1 μ1 d v->post Ex K rel' H1 hid μ1 (k d O1) Q->Q1 v H1):post Ex K rel H hid μ r Q1:=by
 cases r with
 | ok d O'=>exact fun v H' μ' e c q=>hk d O' v H' μ' e c q (post.ext (show post Ex K rel' H hid μ (k d O') Q from h) e)
 | exc c O'=>exact h
 | bad=>exact h
theorem post.ok {α β:Type} {rel:Hp->List Addr->α->β->Prop} {d:α} {O:Ow} {Q:β->Hp->Prop} {v:β} (h:post Ex K rel H hid μ (.ok d O) Q) {H':Hp} {μ':List Addr} (e:Ext H μ H' μ') (c:Cells K H' hid μ' O) (q:rel H' μ' d v):Q v H':=h v H' μ' e c q
theorem post.here {α β:Type} {rel:Hp->List Addr->α->β->Prop} {d:α} {O:Ow} {Q:β->Hp->Prop} {v:β} (h:post Ex K rel H hid μ (.ok d O) Q) (c:Cells K H hid μ O) (q:rel H μ d v):Q v H:=h v H μ .refl c q
end
structure PD (X:Cx) (Ex:Nat->Hp->Prop) (e:Expr) (t:DE):Prop where
 out:PE X e (rd Ex X.K t)
structure PDT (X:Cx) (Ex:Nat->Hp->Prop) (e:Expr) (t:DT):Prop where
 out:PT X e (rdT Ex X.K t)
structure PDA (X:Cx) (Ex:Nat->Hp->Prop) (es:List Expr) (t:DA):Prop where
 out:PA X es (rdA Ex X.K t)
theorem PE.imp {X:Cx} {e:Expr} {t t':TE} (h:PE X e t) (f:∀ σ H Q,t' σ H Q->t σ H Q):PE X e t':=fun pins s σ H Q I q=>h pins s σ H Q I (f σ H Q q)
theorem PT.imp {X:Cx} {e:Expr} {t t':TT} (h:PT X e t) (f:∀ σ H Q,t' σ H Q->t σ H Q):PT X e t':=fun pins s σ H Q I q=>h pins s σ H Q I (f σ H Q q)
theorem PA.imp {X:Cx} {e:List Expr} {t t':TA} (h:PA X e t) (f:∀ σ H Q,t' σ H Q->t σ H Q):PA X e t':=fun pos pins s σ H Q I q=>h pos pins s σ H Q I (f σ H Q q)
theorem PW.imp {X:Cx} {e:Expr} {t t':TT} (h:PW X e t) (f:∀ σ H Q,t' σ H Q->t σ H Q):PW X e t':=fun w pins s σ H Q I q=>h w pins s σ H Q I (f σ H Q q)
end DL
namespace DL
open PySem L2
def z1n (i:Nat):DE:=fun σ O=>match σ[i]? with
 | some (some d)=>.ok d O
 | _=>.bad
def dC (d:D):DE:=fun _ O=>.ok d O
section
variable {X:Cx} {Ex:Nat->Hp->Prop} {pos:Pos} {a b c:Expr} {ta tb tc:DE}
theorem z2a {e:Expr} {t:TE} {t':DE} (h:PE X e t) (f:∀ hid μ σ O σv H Q,EnvOk X.K H hid μ σ σv->Cells X.K H hid μ O->z1I Ex X.K H hid μ (t' σ O) Q->t σv H Q):PD X Ex e t':=
 ⟨PE.imp h fun σv H Q ⟨hid,μ,σ,O,e1,c1,q⟩=>f hid μ σ O σv H Q e1 c1 q⟩
theorem z9D {e:Expr} {t:TT} {t':DT} (h:PT X e t) (f:∀ hid μ σ O σv H Q,EnvOk X.K H hid μ σ σv->Cells X.K H hid μ O->z5i Ex X.K H hid μ (t' σ O) Q->t σv H Q):PDT X Ex e t':=
 ⟨PT.imp h fun σv H Q ⟨hid,μ,σ,O,e1,c1,q⟩=>f hid μ σ O σv H Q e1 c1 q⟩
theorem zeh {e:List Expr} {t:TA} {t':DA} (h:PA X e t) (f:∀ hid μ σ O σv H Q,EnvOk X.K H hid μ σ σv->Cells X.K H hid μ O->zhr Ex X.K H hid μ (t' σ O) Q->t σv H Q):PDA X Ex e t':=
 ⟨PA.imp h fun σv H Q ⟨hid,μ,σ,O,e1,c1,q⟩=>f hid μ σ O σv H Q e1 c1 q⟩
theorem rd.go {α' β':Type} {rel':Hp->List Addr->α'->β'->Prop} {t:DE} {hid μ:List Addr} {σ:Sg} {O:Ow} {σv:St} {H:Hp} {Q1:VK} {k:D->Ow->R α'} {Q:β'->Hp->Prop} (e1:EnvOk X.K H hid μ σ σv) (c1:Cells X.K H hid μ O)
  (q:post Ex X.K rel' H hid μ ((t σ O).bnd k) Q)
  (f:∀ d O1 v H1 μ1,EnvOk X.K H1 hid μ1 σ σv->Ext H μ H1 μ1->Cells X.K H1 hid μ1 O1->Dat X.K H1 hid μ1 d v->post Ex X.K rel' H1 hid μ1 (k d O1) Q->Q1 v H1):rd Ex X.K t σv H Q1:=
 ⟨hid,μ,σ,O,e1,c1,post.bnd q fun d O1 v H1 μ1 x c r p=>f d O1 v H1 μ1 (e1.ext x) x c r p⟩
theorem rdT.go {α' β':Type} {rel':Hp->List Addr->α'->β'->Prop} {t:DT} {hid μ:List Addr} {σ:Sg} {O:Ow} {σv:St} {H:Hp} {Q1:Bool->Hp->Prop} {k:Bool->Ow->R α'} {Q:β'->Hp->Prop} (e1:EnvOk X.K H hid μ σ σv) (c1:Cells X.K H hid μ O)
  (q:post Ex X.K rel' H hid μ ((t σ O).bnd k) Q)
  (f:∀ v O1 H1 μ1,EnvOk X.K H1 hid μ1 σ σv->Ext H μ H1 μ1->Cells X.K H1 hid μ1 O1->post Ex X.K rel' H1 hid μ1 (k v O1) Q->Q1 v H1):rdT Ex X.K t σv H Q1:=
 ⟨hid,μ,σ,O,e1,c1,post.bnd q fun d O1 v H1 μ1 x c r p=>by
  have r:d=v:=r
  subst r
  exact f d O1 H1 μ1 (e1.ext x) x c p⟩
theorem rdA.go {α' β':Type} {rel':Hp->List Addr->α'->β'->Prop} {t:DA} {hid μ:List Addr} {σ:Sg} {O:Ow} {σv:St} {H:Hp} {Q1:List V->Hp->Prop} {k:List D->Ow->R α'} {Q:β'->Hp->Prop} (e1:EnvOk X.K H hid μ σ σv) (c1:Cells X.K H hid μ O)
  (q:post Ex X.K rel' H hid μ ((t σ O).bnd k) Q)
  (f:∀ d O1 v H1 μ1,EnvOk X.K H1 hid μ1 σ σv->Ext H μ H1 μ1->Cells X.K H1 hid μ1 O1->Dats X.K H1 hid μ1 d v->post Ex X.K rel' H1 hid μ1 (k d O1) Q->Q1 v H1):rdA Ex X.K t σv H Q1:=
 ⟨hid,μ,σ,O,e1,c1,post.bnd q fun d O1 v H1 μ1 x c r p=>f d O1 v H1 μ1 (e1.ext x) x c r p⟩
theorem zeA {i:Nat} {x:Str} (hN:X.N[i]?=some x) (hv:Vis X.env.scope x) (hd:(x == ("__debug__":Str))=false:=by decide) (hcd:(x == ("__classdict__":Str))=false:=by decide):PD X Ex (.Name x pos) (z1n i):=
 z2a (z55 hN hv hd hcd) fun hid μ σ O σv H Q e1 c1 q=>by
  unfold z1n at q
  split at q
  ·rename_i d hd
   obtain ⟨v,h1,h2⟩:=e1.at_ i d hd
   exact ⟨v,h1,post.here q c1 h2⟩
  ·exact False.elim q
theorem zhl {i j}:PD X Ex (.Constant (.int i) j pos) (dC (.int i)):=z2a zhW fun hid μ σ O σv H Q e1 c1 q=>post.here q c1 (by unfold Dat;rfl)
theorem zjx {i j}:PD X Ex (.Constant (.bool i) j pos) (dC (.bl i)):=z2a zjw fun hid μ σ O σv H Q e1 c1 q=>post.here q c1 (by unfold Dat;rfl)
theorem zhk {j}:PD X Ex (.Constant .none j pos) (dC .non):=z2a zeG fun hid μ σ O σv H Q e1 c1 q=>post.here q c1 (by unfold Dat;rfl)
theorem zh9 {x:Str} {j} (cs:List Nat) (h:x=⟨cs.toArray⟩):PD X Ex (.Constant (.str x) j pos) (dC (.str cs)):=z2a zi1 fun hid μ σ O σv H Q e1 c1 q=>post.here q c1 (by unfold Dat;rw [h])
theorem zdF {x:Str} {y:Str} {t:Tok} (cs:List Nat) (hg:Gl X x) (hm:X.mg x=some (.str y t)) (h:y=⟨cs.toArray⟩) (hd:(x == ("__debug__":Str))=false:=by decide):PD X Ex (.Name x pos) (dC (.str cs)):=
 z2a (z5N (v:=.str y) hg hm ⟨t,rfl⟩ hd) fun hid μ σ O σv H Q e1 c1 q=>post.here q c1 (by unfold Dat;rw [h])
def dOp (f:Ow->D->D->R D) (ta tb:DE):DE:=fun σ O=>(ta σ O).bnd fun x O1=>(tb σ O1).bnd fun y O2=>f O2 x y
def OpD (X:Cx) (Ex:Nat->Hp->Prop) (r:R2) (f:Ow->D->D->R D):Prop:=∀ (H:Hp) (hid μ:List Addr) (O:Ow) (x y:D) (v w:V) (Q:VK),Cells X.K H hid μ O->Dat X.K H hid μ x v->Dat X.K H hid μ y w->z1I Ex X.K H hid μ (f O x y) Q->r v w H Q
theorem z9k {r:R2} {f:Ow->D->D->R D} (h:OpD X Ex r f) (hid μ:List Addr) (σ:Sg) (O:Ow) (σv:St) (H:Hp) (Q:VK) (e1:EnvOk X.K H hid μ σ σv) (c1:Cells X.K H hid μ O) (q:z1I Ex X.K H hid μ (dOp f ta tb σ O) Q):
  tOp r (rd Ex X.K ta) (rd Ex X.K tb) σv H Q:=
 rd.go e1 c1 q fun x O1 v H1 μ1 e2 x2 c2 d2 q2=>rd.go e2 c2 q2 fun y O2 w H2 μ2 e3 x3 c3 d3 q3=>h H2 hid μ2 O2 x y v w Q c3 (d2.ext x3) d3 q3
theorem z5j {op:Operator} {r:R2} {f:Ow->D->D->R D} (ho:OpR X (binaryOp op) r) (h:OpD X Ex r f) (ha:PD X Ex a ta) (hb:PD X Ex b tb):PD X Ex (.BinOp a op b pos) (dOp f ta tb):=
 z2a (zje ho ha.out hb.out) (z9k h)
theorem z4D {op:CmpOp} {r:R2} {f:Ow->D->D->R D} (ho:OpR X (compareOp op) r) (h:OpD X Ex r f) (ha:PD X Ex a ta) (hb:PD X Ex b tb) (hm:behindInMarks op b=false):PD X Ex (.Compare a [op] [b] pos) (dOp f ta tb):=
 z2a (zbg ho ha.out hb.out hm) (z9k h)
def z2w (t:DE):DT:=fun σ O=>(t σ O).bnd fun x O1=>match x with
 | .bl k=>.ok k O1
 | _=>.bad
theorem z9e {t:TE} {td:DE} (f:∀ hid μ σ O σv H Q,EnvOk X.K H hid μ σ σv->Cells X.K H hid μ O->z1I Ex X.K H hid μ (td σ O) Q->t σv H Q) (hid μ:List Addr) (σ:Sg) (O:Ow) (σv:St) (H:Hp) (Q:Bool->Hp->Prop)
  (e1:EnvOk X.K H hid μ σ σv) (c1:Cells X.K H hid μ O) (q:z5i Ex X.K H hid μ (z2w td σ O) Q):zfR t σv H Q:=by
 refine f hid μ σ O σv H _ e1 c1 ?_
 refine post.bnd q fun d O1 v H1 μ1 x c r p=>?_
 cases d with
 | bl k=>
  have r:v=.bl k:=by unfold Dat at r;exact r
  exact ⟨k,r,post.here p c rfl⟩
 | _=>exact False.elim p
theorem z3H {op:CmpOp} {r:R2} {f:Ow->D->D->R D} (ho:OpR X (compareOp op) r) (h:OpD X Ex r f) (ha:PD X Ex a ta) (hb:PD X Ex b tb) (hm:behindInMarks op b=false):PDT X Ex (.Compare a [op] [b] pos) (z2w (dOp f ta tb)):=
 z9D (zcf ho ha.out hb.out hm) (z9e (z9k h))
def zk2 (O:Ow):D->R Bool
 | .non=>.ok false O
 | .bl b=>.ok b O
 | .int i=>.ok (i != 0) O
 | .str cs=>if cs.length <= 100000 then .ok (!cs.isEmpty) O else .bad
 | .lst ds=>.ok (!ds.isEmpty) O
 | .tup ds=>.ok (!ds.isEmpty) O
 | .own k=>match O[k]? with
  | some ds=>.ok (!ds.isEmpty) O
  | none=>.bad
 | .dct=>.bad
 | .exn _=>.bad
 | .tab _=>.bad
 | .map _ _=>.bad
 | .adr _=>.bad
def z3d (t:DE):DT:=fun σ O=>(t σ O).bnd fun x O1=>zk2 O1 x
theorem z1O {n:Nat} (h:n <= 100000):n <= sizeLine:=Nat.le_trans h (by decide)
theorem z2Z {K:PySem.W.Frag} {H:Hp} {hid μ:List Addr} {ds:List D} {vs:List V} (h:Dats K H hid μ ds vs):(!ds.isEmpty) = !vs.isEmpty:=by
 have e:=h.length
 cases ds <;> cases vs <;> simp_all
theorem zgE (ha:PD X Ex a ta) (he:∀ whole,isTrue a X.env whole=(do let v <- whole;standAt a.pos;holding [v] (truthy v))):PDT X Ex a (z3d ta):=
 z9D (zdD ha.out he) fun hid μ σ O σv H Q e1 c1 q=>rd.go e1 c1 q fun d O1 v H1 μ1 e2 x c r p=>by
  cases d with
  | non=>unfold Dat at r;subst r;exact ⟨_,rfl,post.here p c rfl⟩
  | bl b=>unfold Dat at r;subst r;exact ⟨_,rfl,post.here p c rfl⟩
  | int b=>unfold Dat at r;subst r;exact ⟨_,rfl,post.here p c rfl⟩
  | str cs=>
   unfold Dat at r;subst r
   by_cases hl:cs.length <= 100000
   ·have p':z5i Ex X.K H1 hid μ1 (.ok (!cs.isEmpty) O1) Q:=by
     have p2:z5i Ex X.K H1 hid μ1 (if cs.length <= 100000 then .ok (!cs.isEmpty) O1 else .bad) Q:=p
     rw [if_pos hl] at p2;exact p2
    refine ⟨_,⟨?_,rfl⟩,?_⟩
    ·show cs.toArray.size <= _
     rw [List.size_toArray];exact z1O hl
    ·have e:(((⟨cs.toArray⟩:Str).length:Int) != 0) = !cs.isEmpty:=by
      show ((cs.toArray.size:Int) != 0)=_
      rw [List.size_toArray]
      cases cs <;> simp [bne]
      omega
     rw [e];exact post.here p' c rfl
   ·have p2:z5i Ex X.K H1 hid μ1 (if cs.length <= 100000 then .ok (!cs.isEmpty) O1 else .bad) Q:=p
    rw [if_neg hl] at p2;exact False.elim p2
  | lst ds=>
   unfold Dat at r
   obtain ⟨a,vs,rfl,l,q⟩:=r
   exact ⟨_,.inl ⟨vs,l.sq,rfl⟩,by rw [<- z2Z q];exact post.here p c rfl⟩
  | tup ds=>
   unfold Dat at r
   obtain ⟨a,vs,rfl,l,q⟩:=r
   exact ⟨_,.inr (.inl ⟨vs,l.sq,rfl⟩),by rw [<- z2Z q];exact post.here p c rfl⟩
  | own k=>
   unfold Dat at r
   obtain ⟨a,rfl,hk⟩:=r
   obtain ⟨ds,vs,h1,h2,h3⟩:=c.at_ k a hk
   have p':z5i Ex X.K H1 hid μ1 (.ok (!ds.isEmpty) O1) Q:=by
    have p2:z5i Ex X.K H1 hid μ1 (match O1[k]? with|some ds=>.ok (!ds.isEmpty) O1|none=>.bad) Q:=p
    rw [h1] at p2;exact p2
   exact ⟨_,.inl ⟨vs,.of h2,rfl⟩,by rw [<- z2Z h3];exact post.here p' c rfl⟩
  | dct=>exact False.elim p
  | exn _=>exact False.elim p
  | tab _=>exact False.elim p
  | map _ _=>exact False.elim p
  | adr _=>exact False.elim p
def fI (g:Int->Int->Option D):Ow->D->D->R D:=fun O x y=>match x,y with
 | .int i,.int j=>match g i j with
  | some d=>.ok d O
  | none=>.bad
 | _,_=>.bad
theorem z4H {C:Int->Int->Prop} {gv:Int->Int->V} {g:Int->Int->Option D} (h:∀ i j d,g i j=some d->C i j/\∀ K H hid μ,Dat K H hid μ d (gv i j)):OpD X Ex (rI C gv) (fI g):=by
 intro H hid μ O x y v w Q c dx dy q
 unfold fI at q
 split at q
 ·rename_i i j
  unfold Dat at dx dy
  subst dx;subst dy
  split at q
  ·rename_i d hd
   obtain ⟨h1,h2⟩:=h i j d hd
   exact ⟨i,j,rfl,rfl,h1,post.here q c (h2 _ _ _ _)⟩
  ·exact False.elim q
 ·exact False.elim q
theorem z4w {gv:Int->Int->V} {g:Int->Int->Option D} (h:∀ i j d,g i j=some d->∀ K H hid μ,Dat K H hid μ d (gv i j)):OpD X Ex (rI0 gv) (fI g):=by
 intro H hid μ O x y v w Q c dx dy q
 unfold fI at q
 split at q
 ·rename_i i j
  unfold Dat at dx dy
  subst dx;subst dy
  split at q
  ·rename_i d hd
   exact ⟨i,j,rfl,rfl,post.here q c (h i j d hd _ _ _ _)⟩
  ·exact False.elim q
 ·exact False.elim q
theorem z1T {K H hid μ} {i:Int}:Dat K H hid μ (.int i) (.int i):=by unfold Dat;rfl
theorem z2r {K H hid μ} {i:Bool}:Dat K H hid μ (.bl i) (.bl i):=by unfold Dat;rfl
theorem z4U {K H hid μ}:Dat K H hid μ .non .non:=by unfold Dat;rfl
theorem z8X {K H hid μ} {cs:List Nat}:Dat K H hid μ (.str cs) (.str ⟨cs.toArray⟩):=by unfold Dat;rfl
def gB (p:Int->Int->Bool):Int->Int->Option D:=fun i j=>some (.bl (p i j))
def gI (p:Int->Int->Int):Int->Int->Option D:=fun i j=>some (.int (p i j))
def zak:Int->Int->Option D:=gI fun i j=>i - j
def z88:Int->Int->Option D:=fun i j=>if (-1000000000000000 < i/\i < 1000000000000000) \/ (-1000000000000000 < j/\j < 1000000000000000) then some (.int (i * j)) else none
def zau:Int->Int->Option D:=fun i j=>if 0 < j/\j < 1073741824 then some (.int (i / j)) else none
def z6t:Int->Int->Option D:=fun i j=>if 0 < j then some (.int (i % j)) else none
def z9d:Int->Int->Option D:=fun i j=>if 0 <= j/\j <= 1000000/\i.natAbs < 2 ^ 64 then some (.int (i ^ j.toNat)) else none
def zfF:Int->Int->Option D:=fun i j=>if 0 <= j/\j <= 1000000/\i.natAbs < 2 ^ 64 then some (.int (i * 2 ^ j.toNat)) else none
theorem zfW:OpD X Ex (rI0 fun i j=>.int (i - j)) (fI zak):=z4w fun i j d h _ _ _ _=>by cases h;exact z1T
theorem zgr:OpD X Ex (rI CMul fun i j=>.int (i * j)) (fI z88):=z4H fun i j d h=>by
 unfold z88 at h;split at h
 ·rename_i hc;cases h;exact ⟨hc.imp (fun z=>⟨by omega,by omega⟩) fun z=>⟨by omega,by omega⟩,fun _ _ _ _=>z1T⟩
 ·cases h
theorem zge:OpD X Ex (rI zk8 fun i j=>.int (i / j)) (fI zau):=z4H fun i j d h=>by
 unfold zau at h;split at h
 ·rename_i hc;cases h;exact ⟨hc,fun _ _ _ _=>z1T⟩
 ·cases h
theorem zfp:OpD X Ex (rI (fun _ j=>0 < j) fun i j=>.int (i % j)) (fI z6t):=z4H fun i j d h=>by
 unfold z6t at h;split at h
 ·rename_i hc;cases h;exact ⟨hc,fun _ _ _ _=>z1T⟩
 ·cases h
theorem zgY:OpD X Ex (rI zj7 fun i j=>.int (i ^ j.toNat)) (fI z9d):=z4H fun i j d h=>by
 unfold z9d at h;split at h
 ·rename_i hc;cases h;exact ⟨hc,fun _ _ _ _=>z1T⟩
 ·cases h
theorem zfg:OpD X Ex (rI zj7 fun i j=>.int (i * 2 ^ j.toNat)) (fI zfF):=z4H fun i j d h=>by
 unfold zfF at h;split at h
 ·rename_i hc;cases h;exact ⟨hc,fun _ _ _ _=>z1T⟩
 ·cases h
def fLt:Ow->D->D->R D:=fI (gB fun i j=>decide (i < j))
def fLe:Ow->D->D->R D:=fI (gB fun i j=>decide (i <= j))
def fGe:Ow->D->D->R D:=fI (gB fun i j=>decide (j <= i))
theorem zcL:OpD X Ex (rI0 fun i j=>.bl (decide (i < j))) fLt:=z4w fun i j d h _ _ _ _=>by cases h;exact z2r
theorem zeP:OpD X Ex (rI0 fun i j=>.bl (decide (i <= j))) fLe:=z4w fun i j d h _ _ _ _=>by cases h;exact z2r
theorem zeC:OpD X Ex (rI0 fun i j=>.bl (decide (j <= i))) fGe:=z4w fun i j d h _ _ _ _=>by cases h;exact z2r
def zbI:D->Bool
 | .non=>true
 | _=>false
def zhn:Ow->D->D->R D:=fun O x y=>match y with
 | .non=>.ok (.bl (zbI x)) O
 | _=>.bad
def zdz:Ow->D->D->R D:=fun O x y=>match y with
 | .non=>.ok (.bl (!zbI x)) O
 | _=>.bad
theorem zbZ {K H hid μ} {x:D} {v:V} (h:Dat K H hid μ x v):decide (v=.non)=zbI x:=by
 cases x with
 | non=>unfold Dat at h;subst h;rfl
 | bl _=>unfold Dat at h;subst h;rfl
 | int _=>unfold Dat at h;subst h;rfl
 | str _=>unfold Dat at h;subst h;rfl
 | lst _=>unfold Dat at h;obtain ⟨_,_,rfl,_⟩:=h;rfl
 | tup _=>unfold Dat at h;obtain ⟨_,_,rfl,_⟩:=h;rfl
 | own _=>unfold Dat at h;obtain ⟨_,rfl,_⟩:=h;rfl
 | dct=>unfold Dat at h;obtain ⟨_,rfl,_⟩:=h;rfl
 | exn _=>unfold Dat at h;obtain ⟨_,_,rfl,_⟩:=h;rfl
 | tab _=>unfold Dat at h;obtain ⟨rfl,_⟩:=h;rfl
 | map _ _=>unfold Dat at h;obtain ⟨_,_,rfl,_⟩:=h;rfl
 | adr _=>unfold Dat at h;subst h;rfl
theorem zaY:OpD X Ex (fun x y H Q=>y=.non/\Q (.bl (decide (x=.non))) H) zhn:=by
 intro H hid μ O x y v w Q c dx dy q
 cases y with
 | non=>
  unfold Dat at dy;subst dy
  refine ⟨rfl,?_⟩
  rw [zbZ dx]
  exact post.here (show z1I Ex X.K H hid μ (.ok (.bl (zbI x)) O) Q from q) c z2r
 | _=>exact False.elim q
theorem z9K:OpD X Ex (fun x y H Q=>y=.non/\Q (.bl (!decide (x=.non))) H) zdz:=by
 intro H hid μ O x y v w Q c dx dy q
 cases y with
 | non=>
  unfold Dat at dy;subst dy
  refine ⟨rfl,?_⟩
  rw [zbZ dx]
  exact post.here (show z1I Ex X.K H hid μ (.ok (.bl (!zbI x)) O) Q from q) c z2r
 | _=>exact False.elim q
def zas (t u:DE):DE:=fun σ O=>(t σ O).bnd fun x O1=>match x with
 | .bl true=>u σ O1
 | .bl false=>.ok (.bl false) O1
 | _=>.bad
def dOr (t u:DE):DE:=fun σ O=>(t σ O).bnd fun x O1=>match x with
 | .bl true=>.ok (.bl true) O1
 | .bl false=>u σ O1
 | _=>.bad
def zj9 (t:DE):DE:=fun σ O=>(t σ O).bnd fun x O1=>match x with
 | .bl b=>.ok (.bl (!b)) O1
 | _=>.bad
def zav (t u:DT):DT:=fun σ O=>(t σ O).bnd fun x O1=>if x=true then u σ O1 else .ok false O1
def za8 (t u:DT):DT:=fun σ O=>(t σ O).bnd fun x O1=>if x=true then .ok true O1 else u σ O1
def z2Q (t:DT):DT:=fun σ O=>(t σ O).bnd fun x O1=>.ok (!x) O1
def dIf (t:DT) (u v:DE):DE:=fun σ O=>(t σ O).bnd fun x O1=>if x=true then u σ O1 else v σ O1
theorem ziU {op} (ha:PD X Ex a ta):PD X Ex (.BoolOp op [a] pos) ta:=⟨zhY ha.out⟩
theorem zhI {z2C:List Expr} (ha:PD X Ex a ta) (hb:PD X Ex (.BoolOp .And (b :: z2C) pos) tb):PD X Ex (.BoolOp .And (a :: b :: z2C) pos) (zas ta tb):=
 z2a (zis ha.out hb.out) fun hid μ σ O σv H Q e1 c1 q=>rd.go e1 c1 q fun d O1 v H1 μ1 e2 x c r p=>by
  cases d with
  | bl k=>
   unfold Dat at r;subst r
   refine ⟨k,rfl,?_⟩
   cases k with
   | true=>rw [if_pos rfl];exact ⟨hid,μ1,σ,O1,e2,c,p⟩
   | false=>rw [if_neg Bool.false_ne_true];exact post.here p c z2r
  | _=>exact False.elim p
theorem zjy {z2C:List Expr} (ha:PD X Ex a ta) (hb:PD X Ex (.BoolOp .Or (b :: z2C) pos) tb):PD X Ex (.BoolOp .Or (a :: b :: z2C) pos) (dOr ta tb):=
 z2a (zjR ha.out hb.out) fun hid μ σ O σv H Q e1 c1 q=>rd.go e1 c1 q fun d O1 v H1 μ1 e2 x c r p=>by
  cases d with
  | bl k=>
   unfold Dat at r;subst r
   refine ⟨k,rfl,?_⟩
   cases k with
   | true=>rw [if_pos rfl];exact post.here p c z2r
   | false=>rw [if_neg Bool.false_ne_true];exact ⟨hid,μ1,σ,O1,e2,c,p⟩
  | _=>exact False.elim p
theorem zhs (ha:PD X Ex a ta):PD X Ex (.UnaryOp .Not a pos) (zj9 ta):=
 z2a (zio ha.out) fun hid μ σ O σv H Q e1 c1 q=>rd.go e1 c1 q fun d O1 v H1 μ1 e2 x c r p=>by
  cases d with
  | bl k=>unfold Dat at r;subst r;exact ⟨k,rfl,post.here p c z2r⟩
  | _=>exact False.elim p
structure PDW (X:Cx) (Ex:Nat->Hp->Prop) (e:Expr) (t:DT):Prop where
 out:PW X e (rdT Ex X.K t)
theorem PDW.pt {e:Expr} {t:DT} (h:PDW X Ex e t):PDT X Ex e t:=⟨L2.PW.pt h.out⟩
theorem zej {e:Expr} {t:TT} {t':DT} (h:PW X e t) (f:∀ hid μ σ O σv H Q,EnvOk X.K H hid μ σ σv->Cells X.K H hid μ O->z5i Ex X.K H hid μ (t' σ O) Q->t σv H Q):PDW X Ex e t':=
 ⟨PW.imp h fun σv H Q ⟨hid,μ,σ,O,e1,c1,q⟩=>f hid μ σ O σv H Q e1 c1 q⟩
theorem zfS {z2C:List Expr} {tA tB:DT} (ha:PDT X Ex a tA) (hb:PDW X Ex (.BoolOp .And (b :: z2C) pos) tB):PDW X Ex (.BoolOp .And (a :: b :: z2C) pos) (zav tA tB):=
 zej (zhc ha.out hb.out) fun hid μ σ O σv H Q e1 c1 q=>rdT.go e1 c1 q fun k O1 H1 μ1 e2 x c p=>by
  cases k with
  | true=>rw [if_pos rfl];exact ⟨hid,μ1,σ,O1,e2,c,p⟩
  | false=>rw [if_neg Bool.false_ne_true];exact post.here p c rfl
theorem ziA {z2C:List Expr} {tA tB:DT} (ha:PDT X Ex a tA) (hb:PDW X Ex (.BoolOp .Or (b :: z2C) pos) tB):PDW X Ex (.BoolOp .Or (a :: b :: z2C) pos) (za8 tA tB):=
 zej (zju ha.out hb.out) fun hid μ σ O σv H Q e1 c1 q=>rdT.go e1 c1 q fun k O1 H1 μ1 e2 x c p=>by
  cases k with
  | true=>rw [if_pos rfl];exact post.here p c rfl
  | false=>rw [if_neg Bool.false_ne_true];exact ⟨hid,μ1,σ,O1,e2,c,p⟩
theorem zdg {tA:DT} (ha:PDT X Ex a tA):PDW X Ex (.BoolOp .And [a] pos) tA:=⟨zgO ha.out⟩
theorem zgc {tA:DT} (ha:PDT X Ex a tA):PDW X Ex (.BoolOp .Or [a] pos) tA:=⟨zi8 ha.out⟩
theorem zgH {tA:DT} (ha:PDT X Ex a tA):PDT X Ex (.UnaryOp .Not a pos) (z2Q tA):=
 z9D (zhN ha.out) fun hid μ σ O σv H Q e1 c1 q=>rdT.go e1 c1 q fun k O1 H1 μ1 e2 x c p=>post.here p c rfl
theorem zdE {tA:DT} (hc:PDT X Ex c tA) (ha:PD X Ex a ta) (hb:PD X Ex b tb):PD X Ex (.IfExp c a b pos) (dIf tA ta tb):=
 z2a (zdm hc.out ha.out hb.out) fun hid μ σ O σv H Q e1 c1 q=>rdT.go e1 c1 q fun k O1 H1 μ1 e2 x c p=>by
  cases k with
  | true=>rw [if_pos rfl];exact ⟨hid,μ1,σ,O1,e2,c,p⟩
  | false=>rw [if_neg Bool.false_ne_true];exact ⟨hid,μ1,σ,O1,e2,c,p⟩
def zaL (f g:Ow->D->D->R D) (ta tb tc:DE):DE:=fun σ O=>(ta σ O).bnd fun x O1=>(tb σ O1).bnd fun y O2=>(f O2 x y).bnd fun z O3=>match z with
 | .bl true=>(tc σ O3).bnd fun w O4=>g O4 y w
 | .bl false=>.ok (.bl false) O3
 | _=>.bad
theorem zdA {op op':CmpOp} {r r':R2} {f g:Ow->D->D->R D} (ho:OpR X (compareOp op) r) (h:OpD X Ex r f) (ho':OpR X (compareOp op') r') (h':OpD X Ex r' g) (ha:PD X Ex a ta) (hb:PD X Ex b tb) (hc:PD X Ex c tc)
  (hm:lastMarks [op,op'] [b,c]=false:=by with_unfolding_all rfl):PD X Ex (.Compare a [op,op'] [b,c] pos) (zaL f g ta tb tc):=
 z2a (zdZ ho ho' ha.out hb.out hc.out hm) fun hid μ σ O σv H Q e1 c1 q=>rd.go e1 c1 q fun x O1 v H1 μ1 e2 x2 c2 d2 q2=>rd.go e2 c2 q2 fun y O2 w H2 μ2 e3 x3 c3 d3 q3=>
  h H2 hid μ2 O2 x y v w _ c3 (d2.ext x3) d3 (post.bnd q3 fun z O3 u H3 μ3 x4 c4 r4 p=>by
   cases z with
   | bl k=>
    unfold Dat at r4;subst r4
    refine ⟨k,rfl,?_⟩
    cases k with
    | true=>rw [if_pos rfl];exact rd.go (e3.ext x4) c4 p fun w2 O4 v4 H4 μ4 e5 x5 c5 d5 q5=>h' H4 hid μ4 O4 y w2 w v4 Q c5 ((d3.ext x4).ext x5) d5 q5
    | false=>rw [if_neg Bool.false_ne_true];exact post.here p c4 z2r
   | _=>exact False.elim p)
def z1s:DA:=fun _ O=>.ok [] O
def z1m (t:DE) (u:DA):DA:=fun σ O=>(t σ O).bnd fun x O1=>(u σ O1).bnd fun xs O2=>.ok (x :: xs) O2
theorem zfQ:PDA X Ex [] z1s:=zeh z39 fun hid μ σ O σv H Q e1 c1 q=>post.here q c1 .nil
theorem zdW {es:List Expr} {t:DA} (ha:PD X Ex a ta) (hr:PDA X Ex es t) (hs:starEach (a :: es) X.env=(false,eval a X.env) :: starEach es X.env:=by rfl):PDA X Ex (a :: es) (z1m ta t):=
 zeh (z23 ha.out hr.out hs) fun hid μ σ O σv H Q e1 c1 q=>rd.go e1 c1 q fun x O1 v H1 μ1 e2 x2 c2 d2 q2=>rdA.go e2 c2 q2 fun y O2 w H2 μ2 e3 x3 c3 d3 q3=>post.here q3 c3 (.cons (d2.ext x3) d3)
def z8M (t:DA):DE:=fun σ O=>(t σ O).bnd fun xs O1=>if xs.length <= 100000 then .ok (.tup xs) O1 else .bad
def z3F (t:DA):DE:=fun σ O=>(t σ O).bnd fun xs O1=>if xs.length <= 100000 then .ok (.lst xs) O1 else .bad
def z5B (t:DA):DE:=fun σ O=>(t σ O).bnd fun xs O1=>if xs.length <= 100000 then .ok (.own O1.length) (O1 ++ [xs]) else .bad
theorem post.iteN {α β:Type} {K:PySem.W.Frag} {H:Hp} {hid μ:List Addr} {rel:Hp->List Addr->α->β->Prop} {Q:β->Hp->Prop} {b:Bool} {r:R α} (h:post Ex K rel H hid μ (if b=true then .bad else r) Q):b=false/\post Ex K rel H hid μ r Q:=by
 cases b with
 | true=>exact False.elim h
 | false=>exact ⟨rfl,h⟩
theorem post.ite {α β:Type} {K:PySem.W.Frag} {H:Hp} {hid μ:List Addr} {rel:Hp->List Addr->α->β->Prop} {Q:β->Hp->Prop} {c:Prop} [Decidable c] {r:R α} (h:post Ex K rel H hid μ (if c then r else .bad) Q):c/\post Ex K rel H hid μ r Q:=by
 by_cases hc:c
 ·rw [if_pos hc] at h;exact ⟨hc,h⟩
 ·rw [if_neg hc] at h;exact False.elim h
theorem zia {es:List Expr} {t:DA} {x1} (h:PDA X Ex es t):PD X Ex (.Tuple es x1 pos) (z8M t):=
 z2a (zei h.out) fun hid μ σ O σv H Q e1 c1 q=>rdA.go e1 c1 q fun xs O1 vs H1 μ1 e2 x2 c2 d2 q2=>by
  obtain ⟨hl,q2⟩:=post.ite q2
  exact ⟨by rw [<- d2.length];exact z1O hl,fun p hp=>post.ok q2 (.laid hp) (c2.laid hp) (Dat.newT c2 hp d2)⟩
theorem zhg {es:List Expr} {t:DA} (h:PDA X Ex es t):PD X Ex (.List es pos) (z3F t):=
 z2a (z9N h.out) fun hid μ σ O σv H Q e1 c1 q=>rdA.go e1 c1 q fun xs O1 vs H1 μ1 e2 x2 c2 d2 q2=>by
  obtain ⟨hl,q2⟩:=post.ite q2
  exact ⟨by rw [<- d2.length];exact z1O hl,fun p hp=>post.ok q2 (.laid hp) (c2.laid hp) (Dat.newL c2 hp d2)⟩
theorem z2d {K:PySem.W.Frag} {H:Hp} {hid μ:List Addr} {p:Addr} {n:Nat} (h:μ.length=n):Dat K H hid (μ ++ [p]) (.own n) (.ref p):=by
 unfold Dat
 exact ⟨p,rfl,by rw [<- h];simp⟩
theorem zg7 {es:List Expr} {t:DA} (h:PDA X Ex es t):PD X Ex (.List es pos) (z5B t):=
 z2a (z9N h.out) fun hid μ σ O σv H Q e1 c1 q=>rdA.go e1 c1 q fun xs O1 vs H1 μ1 e2 x2 c2 d2 q2=>by
  obtain ⟨hl,q2⟩:=post.ite q2
  exact ⟨by rw [<- d2.length];exact z1O hl,fun p hp=>post.ok q2 (.cell hp) (c2.cell hp d2) (z2d c2.len)⟩
end
inductive Src where
 | val (ds:List D)
 | own (k:Nat)
 | zip (a b:Src)
 deriving Repr,Inhabited
def Src.get:Src->Ow->Nat->Option D
 | .val ds,_,i=>ds[i]?
 | .own k,O,i=>match O[k]? with
  | some ds=>ds[i]?
  | none=>none
 | .zip a b,O,i=>match a.get O i,b.get O i with
  | some x,some y=>some (.tup [x,y])
  | _,_=>none
def Src.size:Src->Ow->Nat
 | .val ds,_=>ds.length
 | .own k,O=>match O[k]? with
  | some ds=>ds.length
  | none=>0
 | .zip a b,O=>min (a.size O) (b.size O)
abbrev DI:=Sg->Ow->R Src
def SrcAt (K:PySem.W.Frag) (J:It) (src:Src) (H:Hp) (hid μ:List Addr):Prop:=∀ hid' H' μ' O',Mv H hid μ H' hid' μ'->Cells K H' hid' μ' O'->∀ i,
 match src.get O' i with
 | some d=>J.go i H'/\∀ x H'',J.yld i H' x H''->Ext H' μ' H'' μ'/\Cells K H'' hid' μ' O'/\Dat K H'' hid' μ' d x
 | none=>J.stop i H'
def rdI (Ex:Nat->Hp->Prop) (K:PySem.W.Frag) (t:DI):TI:=fun σv H Rr=>∃ hid μ σ O,EnvOk K H hid μ σ σv/\Cells K H hid μ O/\post Ex K (fun H' μ' s J=>SrcAt K J s H' hid μ') H hid μ (t σ O) Rr
structure PDI (X:Cx) (Ex:Nat->Hp->Prop) (tg iter:Expr) (t:DI):Prop where
 out:PI X tg iter (rdI Ex X.K t)
theorem SrcAt.mv {K:PySem.W.Frag} {J:It} {src:Src} {H H1:Hp} {hid hid1 μ μ1:List Addr} (h:SrcAt K J src H hid μ) (e:Mv H hid μ H1 hid1 μ1):SrcAt K J src H1 hid1 μ1:=
 fun hid' H' μ' O' m c=>h hid' H' μ' O' (e.trans m) c
theorem SrcAt.val {K:PySem.W.Frag} {H:Hp} {hid μ:List Addr} {ds:List D} {vs:List V} {a:Addr} (l:LstAt K H hid μ a vs) (q:Dats K H hid μ ds vs):SrcAt K (Itl K a) (.val ds) H hid μ:=by
 intro hid' H' μ' O' m c i
 have sq:=(l.mv m).sq
 have q':=q.mv m
 show match ds[i]? with|some d=>_|none=>_
 cases e:ds[i]? with
 | some d=>
  obtain ⟨v,h1,h2⟩:=q'.get e
  refine ⟨⟨vs,v,sq,h1⟩,fun x H'' y=>?_⟩
  obtain ⟨rfl,y⟩:=y
  have:=y vs sq
  rw [h1] at this;cases this
  exact ⟨.refl,c,h2⟩
 | none=>
  refine ⟨vs,sq,?_⟩
  have:=List.getElem?_eq_none_iff.mp e
  rw [<- q.length];exact this
theorem SrcAt.tup {K:PySem.W.Frag} {H:Hp} {hid μ:List Addr} {ds:List D} {vs:List V} {a:Addr} (l:TupAt K H hid μ a vs) (q:Dats K H hid μ ds vs):SrcAt K (Itt K a) (.val ds) H hid μ:=by
 intro hid' H' μ' O' m c i
 have sq:=(l.mv m).sq
 have q':=q.mv m
 show match ds[i]? with|some d=>_|none=>_
 cases e:ds[i]? with
 | some d=>
  obtain ⟨v,h1,h2⟩:=q'.get e
  refine ⟨⟨vs,v,sq,h1⟩,fun x H'' y=>?_⟩
  obtain ⟨rfl,y⟩:=y
  have:=y vs sq
  rw [h1] at this;cases this
  exact ⟨.refl,c,h2⟩
 | none=>
  refine ⟨vs,sq,?_⟩
  have:=List.getElem?_eq_none_iff.mp e
  rw [<- q.length];exact this
theorem SrcAt.own {K:PySem.W.Frag} {H:Hp} {hid μ:List Addr} {k:Nat} {a:Addr} (hk:μ[k]?=some a):SrcAt K (Itl K a) (.own k) H hid μ:=by
 intro hid' H' μ' O' m c i
 obtain ⟨ν,rfl⟩:=m.pre
 have hk':(μ ++ ν)[k]?=some a:=by rw [List.getElem?_append_left (List.getElem?_eq_some_iff.mp hk).1];exact hk
 obtain ⟨ds,vs,h1,h2,h3⟩:=c.at_ k a hk'
 have sq:SqL K H' a vs:=.of h2
 show match (match O'[k]? with|some ds=>ds[i]?|none=>none) with|some d=>_|none=>_
 rw [h1]
 show match ds[i]? with|some d=>_|none=>_
 cases e:ds[i]? with
 | some d=>
  obtain ⟨v,g1,g2⟩:=h3.get e
  refine ⟨⟨vs,v,sq,g1⟩,fun x H'' y=>?_⟩
  obtain ⟨rfl,y⟩:=y
  have:=y vs sq
  rw [g1] at this;cases this
  exact ⟨.refl,c,g2⟩
 | none=>
  refine ⟨vs,sq,?_⟩
  have:=List.getElem?_eq_none_iff.mp e
  rw [<- h3.length];exact this
def Its (x:Str):It:=⟨fun i _=>i < x.cps.size,fun i H v H'=>H'=H/\∃ c,x.cps[i]?=some c/\v=.str ⟨#[c]⟩,fun i _=>x.cps.size <= i⟩
theorem SrcAt.str {K:PySem.W.Frag} {H:Hp} {hid μ:List Addr} {cs:List Nat}:SrcAt K (Its ⟨cs.toArray⟩) (.val (cs.map fun c=>.str [c])) H hid μ:=by
 intro hid' H' μ' O' m c i
 show match (cs.map fun c=>D.str [c])[i]? with|some d=>_|none=>_
 rw [List.getElem?_map]
 cases e:cs[i]? with
 | some d=>
  have hi:=(List.getElem?_eq_some_iff.mp e).1
  refine ⟨by show i < cs.toArray.size;simpa using hi,fun x H'' y=>?_⟩
  obtain ⟨rfl,z,h1,rfl⟩:=y
  have h1':cs.toArray[i]?=some z:=h1
  rw [List.getElem?_toArray,e] at h1'
  cases h1'
  refine ⟨.refl,c,?_⟩
  unfold Dat
  rfl
 | none=>
  have:=List.getElem?_eq_none_iff.mp e
  show cs.toArray.size <= i
  simpa using this
theorem SrcAt.rng {K:PySem.W.Frag} {H:Hp} {hid μ:List Addr} {lo:Int} {n:Nat}:SrcAt K (Itr lo n) (.val ((List.range n).map fun i=>.int (lo + (i:Nat)))) H hid μ:=by
 intro hid' H' μ' O' m c i
 show match ((List.range n).map fun i=>D.int (lo + (i:Nat)))[i]? with|some d=>_|none=>_
 rw [List.getElem?_map]
 by_cases hi:i < n
 ·rw [List.getElem?_range hi]
  refine ⟨hi,fun x H'' y=>?_⟩
  obtain ⟨rfl,rfl⟩:=y
  exact ⟨.refl,c,z1T⟩
 ·rw [List.getElem?_eq_none_iff.mpr (by simpa using hi)]
  exact Nat.not_lt.mp hi
theorem zdH {P:Program} {w:World} {K:PySem.W.Frag} {tg:Expr} (x:Str) (t:Tok) (it:Addr):zbD P w K tg (Its x) [it] it (fun i h=>h.IsStrIter it (strIterType x) x t i) where
 mem:=by simp
 obj:=fun i h st b hb=>by
  have e:b=it:=by simpa using hb
  subst e
  obtain ⟨o,e,c,d⟩:=st
  exact ⟨o,e,fun v z=>by rw [d] at z;cases z⟩
 keep:=fun i h h' st k=>by
  obtain ⟨o,e,c,d⟩:=st
  exact ⟨o,k it (by simp) o e,c,d⟩
 item:=by
  intro X hP hw hK hc i pins s σ H E I hf st hg
  subst hP hw hK
  obtain ⟨f0,f1,f2,f3,f4,f5⟩:=hf it (by simp)
  obtain ⟨ch,hx⟩:∃ c,x.cps[i]?=some c:=⟨_,Array.getElem?_eq_getElem (show i < x.cps.size from hg)⟩
  have go:∀ (ty:String),(["enumerate", "zip", "dict_itemiterator", "dict_reverseitemiterator", "odict_iterator", "itertools.zip_longest", "itertools.pairwise"].contains ty=false)->strIterType x=ty->∀ h',h'.IsStrIter it ty x t (i + 1)->Heap.SameBut it s.heap h'->
    ∃ u,some (Value.str ⟨#[ch]⟩ s.toks)=some u/\wpAny (model X.prog X.w) X.A (letOwnedTupleGo tg (.ref it) u) (fun _ s2=>∃ y H',Inv X pins σ H' s2/\RelV y u/\(Its x).yld i H y H'/\s2.heap.IsStrIter it (strIterType x) x t (i + 1)/\∀ b ∈ [it],H' b=none) E { s with heap:=h',toks:=s.toks + 1 }:=by
   intro ty hn et h' st' sb
   have I1:Inv X pins σ H { s with heap:=h',toks:=s.toks + 1 }:=I.turned (t':=s.toks + 1) (fun b o hb e=>(sb.2 b hb).trans e) f0 f1 f3 f4 f5
   obtain ⟨o,e,c,d⟩:=id st'
   refine ⟨_,rfl,zcT (s:={ s with heap:=h',toks:=s.toks + 1 }) e c d hn ⟨.str ⟨#[ch]⟩,H,I1,⟨_,rfl⟩,⟨rfl,_,hx,rfl⟩,?_,fun b hb=>(hf b hb).1⟩⟩
   rw [et];exact st'
  unfold strIterType at st go ⊢
  split at st
  ·rename_i ha
   exact wpAny_pyNext_ascii_item st hx fun h' st' sb=>go "str_ascii_iterator" (by decide) (by rw [if_pos ha]) h' st' sb
  ·rename_i ha
   exact wpAny_pyNext_wide_item st hx fun h' st' sb=>go "str_iterator" (by decide) (by rw [if_neg ha]) h' st' sb
 done:=by
  intro X hP hw hK hc i pins s σ H E I hf st hg
  subst hP hw hK
  obtain ⟨f0,f1,f2,f3,f4,f5⟩:=hf it (by simp)
  have hx:x.cps[i]?=none:=by
   have:x.cps.size <= i:=hg
   simp [this]
  unfold strIterType at st
  split at st
  ·exact wpAny_pyNext_ascii_end (I.ok.hd hc) st hx fun h' eb=>⟨rfl,I.turned (t':=s.toks) (fun b o hb e=>eb b o hb e) f0 f1 f3 f4 f5⟩
  ·exact wpAny_pyNext_wide_end (I.ok.hd hc) st hx fun h' eb=>⟨rfl,I.turned (t':=s.toks) (fun b o hb e=>eb b o hb e) f0 f1 f3 f4 f5⟩
 self:=fun _ _ s _ _ st h=>by
  unfold strIterType at st
  split at st
  ·exact wpAny_pyIter_striter_ascii st h
  ·exact wpAny_pyIter_striter_wide st h
section
variable {X:Cx} {Ex:Nat->Hp->Prop} {pos:Pos} {a b c tg:Expr} {ta:DE}
def ziV (O:Ow):D->R Src
 | .lst ds=>.ok (.val ds) O
 | .tup ds=>.ok (.val ds) O
 | .str cs=>.ok (.val (cs.map fun c=>.str [c])) O
 | .own k=>.ok (.own k) O
 | _=>.bad
def dIt (t:DE):DI:=fun σ O=>(t σ O).bnd fun x O1=>ziV O1 x
theorem zaV (ha:PD X Ex a ta):PDI X Ex tg a (dIt ta):=by
 refine ⟨?_⟩
 rintro pins s σv H Rr I ⟨hid,μ,σ,O,e1,c1,q⟩
 refine thn (ha.out pins s σv H _ I (rd.go e1 c1 q (Q1:=fun v H1=>∃ hid μ1 O1 d,Cells X.K H1 hid μ1 O1/\Dat X.K H1 hid μ1 d v/\post Ex X.K (fun H' μ' s J=>SrcAt X.K J s H' hid μ') H1 hid μ1 (ziV O1 d) Rr)
  fun d O1 v H1 μ1 e2 x c r p=>⟨hid,μ1,O1,d,c,r,p⟩)) fun u s1 ⟨v,H1,I1,ru,hid,μ1,O1,d,c,r,p⟩=>?_
 have new:∀ (b:Addr),b ∈ [s1.heap.objs.size]->z7e X pins H1 b:=fun b hb=>by
  have e:b=s1.heap.objs.size:=by simpa using hb
  subst e
  exact I1.fpOk (Nat.le_refl _) (I1.hok.fresh (Nat.le_refl _))
 cases d with
 | lst ds=>
  unfold Dat at r
  obtain ⟨a,vs,rfl,l,q⟩:=r
  cases ru
  obtain ⟨its,rv,p1,hz⟩:=I1.list l.sq
  refine wpAny_pyIter_list p1.isList ?_
  exact ⟨s1.heap.objs.size,[s1.heap.objs.size],_,_,H1,rfl,I1.kept (t':=s1.toks) fun b o e=>Heap.get?_push_of_some _ e,z7n a _,⟨_,Heap.get?_push_size _ rfl,rfl,rfl⟩,new,post.here p c (.val l q)⟩
 | tup ds=>
  unfold Dat at r
  obtain ⟨a,vs,rfl,l,q⟩:=r
  cases ru
  obtain ⟨its,rv,p1,hz⟩:=I1.tuple l.sq
  refine wpAny_pyIter_tuple (show s1.heap.IsTuple a its.toArray from p1) ?_
  exact ⟨s1.heap.objs.size,[s1.heap.objs.size],_,_,H1,rfl,I1.kept (t':=s1.toks) fun b o e=>Heap.get?_push_of_some _ e,zaj a _,⟨_,Heap.get?_push_size _ rfl,rfl,rfl⟩,new,post.here p c (.tup l q)⟩
 | str cs=>
  unfold Dat at r
  subst r
  obtain ⟨t,rfl⟩:=ru
  refine wpAny_pyIter_strU ?_
  exact ⟨s1.heap.objs.size,[s1.heap.objs.size],_,_,H1,rfl,I1.kept (t':=s1.toks) fun b o e=>Heap.get?_push_of_some _ e,zdH ⟨cs.toArray⟩ t _,⟨_,Heap.get?_push_size _ rfl,rfl,rfl⟩,new,post.here p c .str⟩
 | own k=>
  unfold Dat at r
  obtain ⟨a,rfl,hk⟩:=r
  cases ru
  obtain ⟨ds,vs,h1,h2,h3⟩:=c.at_ k a hk
  obtain ⟨its,rv,p1,hz⟩:=I1.list (.of h2)
  refine wpAny_pyIter_list p1.isList ?_
  exact ⟨s1.heap.objs.size,[s1.heap.objs.size],_,_,H1,rfl,I1.kept (t':=s1.toks) fun b o e=>Heap.get?_push_of_some _ e,z7n a _,⟨_,Heap.get?_push_size _ rfl,rfl,rfl⟩,new,post.here p c (.own hk)⟩
 | _=>exact False.elim p
def zeR (lo hi:Int):Src:=.val ((List.range (hi - lo).toNat).map fun i=>.int (lo + (i:Nat)))
def z41 (t:DA):DI:=fun σ O=>(t σ O).bnd fun xs O1=>match xs with
 | [.int j]=>if -1000000 <= j/\j <= 1000000 then .ok (zeR 0 j) O1 else .bad
 | _=>.bad
theorem PI.imp {iter:Expr} {t t':TI} (h:PI X tg iter t) (f:∀ σ H Q,t' σ H Q->t σ H Q):PI X tg iter t':=fun pins s σ H Q I q=>h pins s σ H Q I (f σ H Q q)
theorem z42 {K:PySem.W.Frag} {H:Hp} {hid μ:List Addr} {d:D} {vs:List V} (h:Dats K H hid μ [d] vs):∃ v,vs=[v]/\Dat K H hid μ d v:=by
 unfold Dats at h
 obtain ⟨v,r,rfl,h1,h2⟩:=h
 unfold Dats at h2
 subst h2
 exact ⟨v,rfl,h1⟩
theorem zaB {K:PySem.W.Frag} {H:Hp} {hid μ:List Addr} {d e:D} {vs:List V} (h:Dats K H hid μ [d,e] vs):∃ v w,vs=[v,w]/\Dat K H hid μ d v/\Dat K H hid μ e w:=by
 unfold Dats at h
 obtain ⟨v,r,rfl,h1,h2⟩:=h
 obtain ⟨w,rfl,h3⟩:=z42 h2
 exact ⟨v,w,rfl,h1,h3⟩
theorem zaa {t:DA} {p pos:Pos} (hg:Gl X "range") (hm:X.mg "range" = none) (ha:PDA X Ex [a] t) (hs:starEach [a] X.env=[(false,eval a X.env)]:=by rfl):PDI X Ex tg (.Call (.Name "range" p) [a] [] pos) (z41 t):=
 PDI.mk <| PI.imp (zbR hg hm ha.out hs) fun σv H Q ⟨hid,μ,σ,O,e1,c1,q⟩=>rdA.go e1 c1 q fun d O1 vs H1 μ1 e2 x c r p=>by
  split at p
  ·rename_i j
   obtain ⟨⟨h1,h2⟩,p⟩:=post.ite p
   obtain ⟨v,rfl,hv⟩:=z42 r
   unfold Dat at hv;subst hv
   refine ⟨j,rfl,by omega,by omega,?_⟩
   have:=post.here p c (SrcAt.rng (lo:=0) (n:=(j - 0).toNat))
   simpa using this
  ·exact False.elim p
end
inductive RS where
 | nx (σ:Sg) (O:Ow)
 | rt (d:D) (O:Ow)
 | bk (σ:Sg) (O:Ow)
 | ct (σ:Sg) (O:Ow)
 | exc (c:Nat) (O:Ow)
 | bad
 deriving Repr,Inhabited
abbrev DS:=Sg->Ow->RS
def R.bnS {α:Type} (r:R α) (k:α->Ow->RS):RS:=match r with
 | .ok a O=>k a O
 | .exc c O=>.exc c O
 | .bad=>.bad
section
variable (Ex:Nat->Hp->Prop) (K:PySem.W.Frag)
def postS (H:Hp) (hid μ:List Addr) (r:RS) (E:za1):Prop:=match r with
 | .nx σ O=>∀ σv H' μ',Ext H μ H' μ'->EnvOk K H' hid μ' σ σv->Cells K H' hid μ' O->E.nx σv H'
 | .rt d O=>∀ v H' μ',Ext H μ H' μ'->Cells K H' hid μ' O->Dat K H' hid μ' d v->E.rt v H'
 | .bk σ O=>∀ σv H' μ',Ext H μ H' μ'->EnvOk K H' hid μ' σ σv->Cells K H' hid μ' O->E.bk σv H'
 | .ct σ O=>∀ σv H' μ',Ext H μ H' μ'->EnvOk K H' hid μ' σ σv->Cells K H' hid μ' O->E.ct σv H'
 | .exc c O=>∀ H' μ',Ext H μ H' μ'->Cells K H' hid μ' O->Ex c H'
 | .bad=>False
def rds (t:DS):TS:=fun E σv H=>∃ hid μ σ O,EnvOk K H hid μ σ σv/\Cells K H hid μ O/\postS Ex K H hid μ (t σ O) E
end
structure PDS (X:Cx) (Ex:Nat->Hp->Prop) (st:Stmt) (t:DS):Prop where
 out:PS X st (rds Ex X.K t)
structure z51 (X:Cx) (Ex:Nat->Hp->Prop) (st:List Stmt) (t:DS):Prop where
 out:PSs X st (rds Ex X.K t)
theorem PS.imp {X:Cx} {st:Stmt} {t t':TS} (h:PS X st t) (f:∀ E σ H,t' E σ H->t E σ H):PS X st t':=fun pins s σ H D I q=>h pins s σ H D I (f D σ H q)
theorem PSs.imp {X:Cx} {st:List Stmt} {t t':TS} (h:PSs X st t) (f:∀ E σ H,t' E σ H->t E σ H):PSs X st t':=fun pins s σ H D I q=>h pins s σ H D I (f D σ H q)
section
variable {Ex:Nat->Hp->Prop} {K:PySem.W.Frag} {H H1:Hp} {hid μ μ1:List Addr}
theorem postS.ext {r:RS} {E:za1} (h:postS Ex K H hid μ r E) (e:Ext H μ H1 μ1):postS Ex K H1 hid μ1 r E:=by
 cases r with
 | nx σ O=>exact fun σv H' μ' e' a b=>h σv H' μ' (e.trans e') a b
 | bk σ O=>exact fun σv H' μ' e' a b=>h σv H' μ' (e.trans e') a b
 | ct σ O=>exact fun σv H' μ' e' a b=>h σv H' μ' (e.trans e') a b
 | rt d O=>exact fun v H' μ' e' a b=>h v H' μ' (e.trans e') a b
 | exc c O=>exact fun H' μ' e' a=>h H' μ' (e.trans e') a
 | bad=>exact h
theorem postS.bnS {α β:Type} {rel:Hp->List Addr->α->β->Prop} {r:R α} {k:α->Ow->RS} {E:za1} {Q1:β->Hp->Prop} (h:postS Ex K H hid μ (r.bnS k) E)
  (hk:∀ d O1 v H1 μ1,Ext H μ H1 μ1->Cells K H1 hid μ1 O1->rel H1 μ1 d v->postS Ex K H1 hid μ1 (k d O1) E->Q1 v H1):post Ex K rel H hid μ r Q1:=by
 cases r with
 | ok d O'=>exact fun v H' μ' e c q=>hk d O' v H' μ' e c q (postS.ext (show postS Ex K H hid μ (k d O') E from h) e)
 | exc c O'=>exact h
 | bad=>exact h
end
section
variable {X:Cx} {Ex:Nat->Hp->Prop} {pos:Pos} {a b c e tg:Expr} {tb tc te:DE}
theorem z5z {st:Stmt} {t:TS} {t':DS} (h:PS X st t) (f:∀ hid μ σ O E σv H,EnvOk X.K H hid μ σ σv->Cells X.K H hid μ O->postS Ex X.K H hid μ (t' σ O) E->t E σv H):PDS X Ex st t':=
 ⟨PS.imp h fun E σv H ⟨hid,μ,σ,O,e1,c1,q⟩=>f hid μ σ O E σv H e1 c1 q⟩
theorem z8H {st:List Stmt} {t:TS} {t':DS} (h:PSs X st t) (f:∀ hid μ σ O E σv H,EnvOk X.K H hid μ σ σv->Cells X.K H hid μ O->postS Ex X.K H hid μ (t' σ O) E->t E σv H):z51 X Ex st t':=
 ⟨PSs.imp h fun E σv H ⟨hid,μ,σ,O,e1,c1,q⟩=>f hid μ σ O E σv H e1 c1 q⟩
theorem rd.goS {t:DE} {hid μ:List Addr} {σ:Sg} {O:Ow} {σv:St} {H:Hp} {Q1:VK} {k:D->Ow->RS} {E:za1} (e1:EnvOk X.K H hid μ σ σv) (c1:Cells X.K H hid μ O)
  (q:postS Ex X.K H hid μ ((t σ O).bnS k) E)
  (f:∀ d O1 v H1 μ1,EnvOk X.K H1 hid μ1 σ σv->Ext H μ H1 μ1->Cells X.K H1 hid μ1 O1->Dat X.K H1 hid μ1 d v->postS Ex X.K H1 hid μ1 (k d O1) E->Q1 v H1):rd Ex X.K t σv H Q1:=
 ⟨hid,μ,σ,O,e1,c1,postS.bnS q fun d O1 v H1 μ1 x c r p=>f d O1 v H1 μ1 (e1.ext x) x c r p⟩
theorem rdT.goS {t:DT} {hid μ:List Addr} {σ:Sg} {O:Ow} {σv:St} {H:Hp} {Q1:Bool->Hp->Prop} {k:Bool->Ow->RS} {E:za1} (e1:EnvOk X.K H hid μ σ σv) (c1:Cells X.K H hid μ O)
  (q:postS Ex X.K H hid μ ((t σ O).bnS k) E)
  (f:∀ v O1 H1 μ1,EnvOk X.K H1 hid μ1 σ σv->Ext H μ H1 μ1->Cells X.K H1 hid μ1 O1->postS Ex X.K H1 hid μ1 (k v O1) E->Q1 v H1):rdT Ex X.K t σv H Q1:=
 ⟨hid,μ,σ,O,e1,c1,postS.bnS q fun d O1 v H1 μ1 x c r p=>by
  have r:d=v:=r
  subst r
  exact f d O1 H1 μ1 (e1.ext x) x c p⟩
def z2T:DS:=fun σ O=>.nx σ O
def z1P (t u:DS):DS:=fun σ O=>match t σ O with
 | .nx σ' O'=>u σ' O'
 | r=>r
theorem z9C:z51 X Ex [] z2T:=z8H zc3 fun hid μ σ O E σv H e1 c1 q=>q σv H μ .refl e1 c1
theorem z1p {st:Stmt} {z2C:List Stmt} {t u:DS} (h1:PDS X Ex st t) (h2:z51 X Ex z2C u):z51 X Ex (st :: z2C) (z1P t u):=
 z8H (z2S h1.out h2.out) fun hid μ σ O E σv H e1 c1 q=>by
  refine ⟨hid,μ,σ,O,e1,c1,?_⟩
  unfold z1P at q
  cases ht:t σ O with
  | nx σ' O'=>
   rw [ht] at q
   exact fun σv' H' μ' e2 a b=>⟨hid,μ',σ',O',a,b,q.ext e2⟩
  | rt d O'=>rw [ht] at q;exact q
  | bk σ' O'=>rw [ht] at q;exact q
  | ct σ' O'=>rw [ht] at q;exact q
  | exc c O'=>rw [ht] at q;exact q
  | bad=>rw [ht] at q;exact q
theorem z1w {st:Stmt} {t:DS} (h1:PDS X Ex st t):z51 X Ex [st] t:=⟨zcp h1.out⟩
def z22 (t:DE):DS:=fun σ O=>(t σ O).bnS fun d O1=>.rt d O1
theorem zff (he:PD X Ex e te):PDS X Ex (.Return (some e) pos) (z22 te):=
 z5z (zee he.out) fun hid μ σ O E σv H e1 c1 q=>rd.goS e1 c1 q fun d O1 v H1 μ1 e2 x c r p=>p v H1 μ1 .refl c r
def sIf (c:DT) (t u:DS):DS:=fun σ O=>(c σ O).bnS fun b O1=>if b=true then t σ O1 else u σ O1
theorem zhP {c:Expr} {x y:List Stmt} {tc:DT} {t u:DS} (hc:PDT X Ex c tc) (ha:z51 X Ex x t) (hb:z51 X Ex y u):PDS X Ex (.If c x y pos) (sIf tc t u):=
 z5z (zhD hc.out ha.out hb.out) fun hid μ σ O E σv H e1 c1 q=>rdT.goS e1 c1 q fun k O1 H1 μ1 e2 x c p=>by
  cases k with
  | true=>rw [if_pos rfl];exact ⟨hid,μ1,σ,O1,e2,c,p⟩
  | false=>rw [if_neg Bool.false_ne_true];exact ⟨hid,μ1,σ,O1,e2,c,p⟩
def zjV:DS:=fun _ _=>.bad
theorem zdl {st:List Stmt}:z51 X Ex st zjV:=z8H zb0 fun hid μ σ O E σv H e1 c1 q=>q
def z4b (t:DE):DS:=fun σ O=>(t σ O).bnS fun _ O1=>.nx σ O1
theorem zdI (he:PD X Ex e te) (hs:swapsWith e none pos.line X.env=pure false:=by rfl):PDS X Ex (.Expr e pos) (z4b te):=
 z5z (z67 he.out hs) fun hid μ σ O E σv H e1 c1 q=>rd.goS e1 c1 q fun d O1 v H1 μ1 e2 x c r p=>p σv H1 μ1 .refl e2 c
def z2U (i:Nat) (t:DE):DS:=fun σ O=>(t σ O).bnS fun d O1=>.nx (σ.set i (some d)) O1
theorem zbW {i:Nat} {x:Str} {pos':Pos} (hN:X.N.Nodup) (hi:X.N[i]?=some x) (hx:Loc X.env.scope x) (he:PD X Ex e te) (hs:swapsWith e (some (.Name x pos')) pos.line X.env=pure false:=by rfl)
  (hf:X.fn x=true \/ X.env.scope.names.lookup x=some .local:=by first|exact .inl rfl|exact .inr rfl):PDS X Ex (.Assign [.Name x pos'] e pos) (z2U i te):=
 z5z (z9m hN hi hx he.out hs hf) fun hid μ σ O E σv H e1 c1 q=>rd.goS e1 c1 q fun d O1 v H1 μ1 e2 x c r p=>p (σv.set i (some v)) H1 μ1 .refl (e2.set r i) c
inductive Tg where
 | one (i:Nat)
 | two (i j:Nat)
def Tg.put:Tg->D->Sg->Option Sg
 | .one i,d,σ=>some (σ.set i (some d))
 | .two i j,d,σ=>match d with
  | .tup [x,y]=>some ((σ.set i (some x)).set j (some y))
  | _=>none
def Tg.rd (K:PySem.W.Frag):Tg->TG
 | .one i=>z93 i
 | .two i j=>zjX K 2 (zgM (z93 i) (zgM (z93 j) zk4))
def Tg.slots:Tg->List Nat
 | .one i=>[i]
 | .two i j=>[i,j]
theorem Tg.ok2 {K:PySem.W.Frag} {H:Hp} {hid μ:List Addr} {σ σ':Sg} {σv:St} {d:D} {v:V} {Q:St->Hp->Prop} (g:Tg) (e1:EnvOk K H hid μ σ σv) (q:Dat K H hid μ d v) (h:g.put d σ=some σ')
  (k:∀ σv',EnvOk K H hid μ σ' σv'->(∀ i,i ∉ g.slots->σv'[i]?=σv[i]?)->Q σv' H):g.rd K v σv H Q:=by
 cases g with
 | one i=>
  cases h
  exact k _ (e1.set q i) fun j hj=>List.getElem?_set_ne (fun e=>hj (by simp [Tg.slots,e]))
 | two i j=>
  unfold Tg.put at h
  dsimp only at h
  split at h
  ·rename_i x y
   cases h
   unfold Dat at q
   obtain ⟨a,vs,rfl,l,q⟩:=q
   obtain ⟨u,w,rfl,q1,q2⟩:=zaB q
   refine ⟨a,[u,w],rfl,l.sq,rfl,u,[w],rfl,w,[],rfl,rfl,k _ ((e1.set q1 i).set q2 j) fun m hm=>?_⟩
   rw [List.getElem?_set_ne (fun e=>hm (by simp [Tg.slots,e])),List.getElem?_set_ne (fun e=>hm (by simp [Tg.slots,e]))]
  ·cases h
theorem Tg.ok {K:PySem.W.Frag} {H:Hp} {hid μ:List Addr} {σ σ':Sg} {σv:St} {d:D} {v:V} {Q:St->Hp->Prop} (g:Tg) (e1:EnvOk K H hid μ σ σv) (q:Dat K H hid μ d v) (h:g.put d σ=some σ') (k:∀ σv',EnvOk K H hid μ σ' σv'->Q σv' H):g.rd K v σv H Q:=by
 cases g with
 | one i=>cases h;exact k _ (e1.set q i)
 | two i j=>
  unfold Tg.put at h
  dsimp only at h
  split at h
  ·rename_i x y
   cases h
   unfold Dat at q
   obtain ⟨a,vs,rfl,l,q⟩:=q
   obtain ⟨u,w,rfl,q1,q2⟩:=zaB q
   exact ⟨a,[u,w],rfl,l.sq,rfl,u,[w],rfl,w,[],rfl,rfl,k _ ((e1.set q1 i).set q2 j)⟩
  ·cases h
theorem zer {i:Nat} {x:Str} (hN:X.N.Nodup) (hi:X.N[i]?=some x) (hx:Loc X.env.scope x) (hf:X.fn x=true \/ X.env.scope.names.lookup x=some .local:=by first|exact .inl rfl|exact .inr rfl|assumption):PG X (.Name x pos) ((Tg.one i).rd X.K):=z6y hN hi hx hf
def z3I (src:Src) (step:D->Sg->Ow->RS):Nat->Nat->Sg->Ow->RS
 | 0,i,σ,O=>match src.get O i with
  | none=>.nx σ O
  | some _=>.bad
 | f + 1,i,σ,O=>match src.get O i with
  | none=>.nx σ O
  | some d=>match step d σ O with
   | .nx σ' O'=>z3I src step f (i + 1) σ' O'
   | .ct σ' O'=>z3I src step f (i + 1) σ' O'
   | .bk σ' O'=>.nx σ' O'
   | r=>r
def z8s (it:DI) (g:Tg) (body:DS):DS:=fun σ O=>(it σ O).bnS fun src O1=>z3I src (fun d σ O=>match g.put d σ with|some σ'=>body σ' O|none=>.bad) (src.size O1) 0 σ O1
theorem zgp {iter:Expr} {body:List Stmt} {it:DI} {g:Tg} {tb:DS} (hp:PassesOwn (model X.prog X.w) X.A X.env X.xe) (hc:X.calm=true) (hi:PDI X Ex tg iter it) (hg:PG X tg (g.rd X.K)) (hb:z51 X Ex body tb)
  (hs:∀ x,foldedSetIterable iter X.env x=pure x:=by intro _;rfl):PDS X Ex (.For tg iter body [] pos) (z8s it g tb):=
 z5z (zhj hp hc hi.out hg hb.out hs) fun hid μ σ O E σv H e1 c1 q=>by
  refine ⟨hid,μ,σ,O,e1,c1,postS.bnS q fun src O1 J H1 μ1 x1 c2 sa p=>?_⟩
  generalize hst:(fun (d:D) (σ:Sg) (O:Ow)=>match g.put d σ with|some σ'=>tb σ' O|none=>RS.bad)=step at p
  refine ⟨fun i m σv' H'=>∃ μ' σ' O',Ext H1 μ1 H' μ'/\EnvOk X.K H' hid μ' σ' σv'/\Cells X.K H' hid μ' O'/\postS Ex X.K H' hid μ' (z3I src step m i σ' O') E,⟨_,μ1,σ,O1,.refl,e1.ext x1,c2,p⟩,?_⟩
  rintro i m σv2 H2 ⟨μ2,σ2,O2,x2,e2,c3,p2⟩
  have sa2:=sa hid H2 μ2 O2 x2.mv c3 i
  cases hget:src.get O2 i with
  | none=>
   rw [hget] at sa2
   refine .inl ⟨sa2,?_⟩
   cases m with
   | zero=>
    have p3:postS Ex X.K H2 hid μ2 (match src.get O2 i with|none=>.nx σ2 O2|some _=>.bad) E:=p2
    rw [hget] at p3
    exact p3 σv2 H2 μ2 .refl e2 c3
   | succ f=>
    unfold z3I at p2
    rw [hget] at p2
    exact p2 σv2 H2 μ2 .refl e2 c3
  | some d=>
   rw [hget] at sa2
   obtain ⟨go,yl⟩:=sa2
   cases m with
   | zero=>
    have p3:postS Ex X.K H2 hid μ2 (match src.get O2 i with|none=>.nx σ2 O2|some _=>.bad) E:=p2
    rw [hget] at p3
    exact False.elim p3
   | succ f=>
    refine .inr ⟨go,fun σv' H'=>∃ μ' σ' O',Ext H1 μ1 H' μ'/\EnvOk X.K H' hid μ' σ' σv'/\Cells X.K H' hid μ' O'/\postS Ex X.K H' hid μ' (z3I src step f (i + 1) σ' O') E,fun σ' H' h=>⟨f,Nat.lt_succ_self f,h⟩,fun v H3 y=>?_⟩
    obtain ⟨x3,c4,r⟩:=yl v H3 y
    unfold z3I at p2
    rw [hget] at p2
    have p3:postS Ex X.K H3 hid μ2 (match step d σ2 O2 with
     | .nx σ' O'=>z3I src step f (i + 1) σ' O'
     | .ct σ' O'=>z3I src step f (i + 1) σ' O'
     | .bk σ' O'=>.nx σ' O'
     | r=>r) E:=postS.ext p2 x3
    cases hput:g.put d σ2 with
    | none=>
     rw [<- hst] at p3
     simp only [hput] at p3
     exact False.elim p3
    | some σ3=>
     refine Tg.ok g (e2.ext x3) r hput fun σv3 e3=>⟨hid,μ2,σ3,O2,e3,c4,?_⟩
     have hs1:step d σ2 O2=tb σ3 O2:=by rw [<- hst];simp only [hput]
     rw [hs1] at p3
     have x4:=x2.trans x3
     cases ht:tb σ3 O2 with
     | nx σ4 O4=>rw [ht] at p3;exact fun σv' H' μ' e5 a b=>⟨μ',σ4,O4,x4.trans e5,a,b,p3.ext e5⟩
     | ct σ4 O4=>rw [ht] at p3;exact fun σv' H' μ' e5 a b=>⟨μ',σ4,O4,x4.trans e5,a,b,p3.ext e5⟩
     | bk σ4 O4=>rw [ht] at p3;exact p3
     | rt d4 O4=>rw [ht] at p3;exact p3
     | exc c4 O4=>rw [ht] at p3;exact p3
     | bad=>rw [ht] at p3;exact p3
end
structure Cl where
 it:DI
 g:Tg
 ifs:List DT
def z1t:List Cl->List Nat
 | []=>[]
 | c :: cs=>c.g.slots ++ z1t cs
def clr {α:Type} (σ:List (Option α)):List Nat->List (Option α)
 | []=>σ
 | i :: r=>clr (σ.set i none) r
def z6K:List DT->DT
 | []=>fun _ O=>.ok true O
 | c :: cs=>fun σ O=>(c σ O).bnd fun b O1=>if b=true then z6K cs σ O1 else .ok false O1
def z1M (src:Src) (step:D->Ow->List D->R (List D)):Nat->Nat->Ow->List D->R (List D)
 | 0,i,O,acc=>match src.get O i with
  | none=>.ok acc O
  | some _=>.bad
 | f + 1,i,O,acc=>match src.get O i with
  | none=>.ok acc O
  | some d=>(step d O acc).bnd fun acc' O'=>z1M src step f (i + 1) O' acc'
def z3E:List Cl->DE->Sg->Ow->List D->R (List D)
 | [],elt,σ,O,acc=>(elt σ O).bnd fun v O1=>if acc.length < 100000 then .ok (acc ++ [v]) O1 else .bad
 | c :: cs,elt,σ,O,acc=>(c.it σ O).bnd fun src O1=>z1M src (fun d O2 acc=>match c.g.put d (clr σ (z1t (c :: cs))) with
   | some σ1=>(z6K c.ifs σ1 O2).bnd fun b O3=>if b=true then z3E cs elt σ1 O3 acc else .ok acc O3
   | none=>.bad) (src.size O1) 0 O1 acc
def z4c (c:Cl) (cs:List Cl) (elt:DE) (σ:Sg):D->Ow->List D->R (List D):=fun d O2 acc=>match c.g.put d (clr σ (z1t (c :: cs))) with
   | some σ1=>(z6K c.ifs σ1 O2).bnd fun b O3=>if b=true then z3E cs elt σ1 O3 acc else .ok acc O3
   | none=>.bad
abbrev Em:=Sg->Ow->List D->R (List D)
def emL (te:DE):Em:=fun σ O acc=>(te σ O).bnd fun v O1=>if acc.length < 100000 then .ok (acc ++ [v]) O1 else .bad
def z3D:List Cl->Em->Sg->Ow->List D->R (List D)
 | [],em,σ,O,acc=>em σ O acc
 | c :: cs,em,σ,O,acc=>(c.it σ O).bnd fun src O1=>z1M src (fun d O2 acc=>match c.g.put d (clr σ (z1t (c :: cs))) with
   | some σ1=>(z6K c.ifs σ1 O2).bnd fun b O3=>if b=true then z3D cs em σ1 O3 acc else .ok acc O3
   | none=>.bad) (src.size O1) 0 O1 acc
def z3K (c:Cl) (cs:List Cl) (em:Em) (σ:Sg):D->Ow->List D->R (List D):=fun d O2 acc=>match c.g.put d (clr σ (z1t (c :: cs))) with
   | some σ1=>(z6K c.ifs σ1 O2).bnd fun b O3=>if b=true then z3D cs em σ1 O3 acc else .ok acc O3
   | none=>.bad
theorem zcB (te:DE):∀ cls:List Cl,z3D cls (emL te)=z3E cls te
 | []=>by funext σ O acc;unfold z3D z3E emL;rfl
 | c :: cs=>by funext σ O acc;unfold z3D z3E;rw [zcB te cs]
theorem zg9 (c:Cl) (cs:List Cl) (te:DE):z3K c cs (emL te)=z4c c cs te:=by
 funext σ d O acc;unfold z3K z4c;rw [zcB te cs]
theorem z5Q {α:Type}:∀ (l:List Nat) (σ:List (Option α)),(clr σ l).length=σ.length
 | [],_=>rfl
 | i :: r,σ=>by unfold clr;rw [z5Q r];simp
theorem z8L {α:Type}:∀ (l:List Nat) (σ:List (Option α)) (i:Nat),i ∉ l->(clr σ l)[i]?=σ[i]?
 | [],σ,i,h=>rfl
 | j :: r,σ,i,h=>by
  unfold clr
  rw [z8L r _ i fun z=>h (List.mem_cons_of_mem _ z),List.getElem?_set_ne fun z=>h (by simp [z])]
theorem z6H {α:Type}:∀ (l:List Nat) (σ:List (Option α)) (i:Nat) (d:α),(clr σ l)[i]?=some (some d)->σ[i]?=some (some d)/\i ∉ l
 | [],σ,i,d,h=>⟨h,by simp⟩
 | j :: r,σ,i,d,h=>by
  unfold clr at h
  obtain ⟨h1,h2⟩:=z6H r _ i d h
  by_cases e:j=i
  ·subst e
   by_cases hl:j < σ.length
   ·rw [List.getElem?_set_self hl] at h1;cases h1
   ·rw [List.getElem?_eq_none_iff.mpr (by simp;omega)] at h1;cases h1
  ·rw [List.getElem?_set_ne e] at h1
   exact ⟨h1,by simp [h2];exact fun z=>e z.symm⟩
structure Ea (A:Addr) (H:Hp) (μ:List Addr) (H':Hp) (μ':List Addr):Prop where
 pre:∃ ν,μ'=μ ++ ν
 kept:∀ b o,H b=some o->b ∉ μ->b ≠ A->zah o->H' b=some o
 fresh:∀ b ∈ μ',b ∈ μ \/ H b=none
 there:∀ b,H b ≠ none->H' b ≠ none
 tab:∀ P,Tidy H P->Tidy H' P
section
variable {K:PySem.W.Frag} {A:Addr} {H H' H1 H2:Hp} {hid μ μ' μ1 μ2:List Addr}
theorem Ext.ea (e:Ext H μ H' μ'):Ea A H μ H' μ':=⟨e.pre,fun b o h n _ ht=>e.kept b o h n ht,e.fresh,e.there,e.tab⟩
theorem Ea.refl:Ea A H μ H μ:=Ext.refl.ea
theorem Ea.trans (a:Ea A H μ H1 μ1) (b:Ea A H1 μ1 H2 μ2):Ea A H μ H2 μ2:=by
 have nn:∀ c,H1 c=none->H c=none:=fun c h=>by
  cases e:H c with
  | none=>rfl
  | some o=>exact absurd h (a.there c (by rw [e];simp))
 refine ⟨?_,fun c o h n1 n2 ht=>?_,fun c h=>?_,fun c h=>b.there c (a.there c h),fun P t=>b.tab P (a.tab P t)⟩
 ·obtain ⟨x,rfl⟩:=a.pre
  obtain ⟨y,rfl⟩:=b.pre
  exact ⟨x ++ y,by simp⟩
 ·refine b.kept c o (a.kept c o h n1 n2 ht) (fun m=>?_) n2 ht
  rcases a.fresh c m with z|z
  ·exact n1 z
  ·rw [z] at h;cases h
 ·rcases b.fresh c h with z|z
  ·exact a.fresh c z
  ·exact .inr (nn c z)
theorem Ea.mv (e:Ea A H μ H' μ'):Mv H (A :: hid) μ H' (A :: hid) μ':=⟨e.pre,fun b o h n1 n2 ht=>e.kept b o h n1 (fun z=>n2 (by simp [z])) ht,e.fresh,fun _ m=>.inl m,e.there,e.tab⟩
theorem Ea.putX {o:HO} (ht:∀ P,Tidy H P->Tidy (upd H A o) P):Ea A H μ (upd H A o) μ:=⟨⟨[],by simp⟩,fun b u h _ n _=>by rw [z1q n];exact h,fun _ m=>.inl m,z27,ht⟩
theorem Cells.putX {o:HO} {O:Ow} (c:Cells K H (A :: hid) μ O) (ht:∀ P,Tidy H P->Tidy (upd H A o) P):Cells K (upd H A o) (A :: hid) μ O:=by
 refine ⟨c.len,c.nd,c.nh,fun a m=>z27 a (c.ht a m),fun k a e=>?_⟩
 obtain ⟨ds,vs,h1,h2,h3⟩:=c.at_ k a e
 have ne:a ≠ A:=fun z=>c.nh a (List.mem_of_getElem? e) (by simp [z])
 exact ⟨ds,vs,h1,by rw [z1q ne];exact h2,h3.mv (Ea.putX (A:=A) ht).mv⟩
theorem Ea.put {o:HO} (hl:∃ vs,H A=some (.lst vs)):Ea A H μ (upd H A o) μ:=.putX fun _ t=>t.upd (.inr hl)
theorem Cells.putA {o:HO} {O:Ow} (c:Cells K H (A :: hid) μ O) (hl:∃ vs,H A=some (.lst vs)):Cells K (upd H A o) (A :: hid) μ O:=c.putX fun _ t=>t.upd (.inr hl)
theorem Cells.unhide (c:Cells K H (A :: hid) μ O):Cells K H hid μ O:=
 ⟨c.len,c.nd,fun a m z=>c.nh a m (List.mem_cons_of_mem _ z),fun a m=>c.ht a (List.mem_cons_of_mem _ m),fun k a e=>
  let ⟨ds,vs,h1,h2,h3⟩:=c.at_ k a e
  ⟨ds,vs,h1,h2,h3.mv .unhide⟩⟩
end
abbrev Ex0:Nat->Hp->Prop:=fun _ _=>False
inductive ClsOk (X:Cx):List Comprehension->List Cl->Prop where
 | nil:ClsOk X [] []
 | cons {tg iter:Expr} {ifs:List Expr} {gs:List Comprehension} {c:Cl} {cs:List Cl} (hi:PDI X Ex0 tg iter c.it) (hs:∀ x,foldedSetIterable iter X.env x=pure x) (hg:PG X tg (c.g.rd X.K))
   (hf:PySem.Paired (fun e t=>PDT X Ex0 e t) ifs c.ifs) (r:ClsOk X gs cs):ClsOk X (⟨tg,iter,ifs,0⟩ :: gs) (c :: cs)
section
variable {X:Cx}
theorem z2F {α:Type} {M:Model} {A:Around} {t:Sem α} {Q Q':α->Shared->Prop} {E:Value->Shared->Prop} {s:Shared} (hx:X.xe=fun _ _=>False) (h:wpAny M A t Q X.xe s) (k:∀ a s',Q a s'->Q' a s'):wpAny M A t Q' E s:=
 wpAny_mono h k fun e s' z=>by rw [hx] at z;exact z.elim
theorem z5I {env:Env} {M:Model} {A:Around} {E:Value->Shared->Prop} {s:Shared} {Q:Bool->Shared->Prop} (h:Q false s):∀ (ifs:List Expr),wpAny M A (forIn ifs false fun c r=>if r=true then do let ok <- isTrue c env (eval c env);pure (ForInStep.yield ok) else pure (ForInStep.yield r)) Q E s
 | []=>wpAny_pure h
 | c :: cs=>by
  simp only [List.forIn_cons,Bool.false_eq_true,if_false]
  exact wpAny_bind (wpAny_pure (z5I h cs))
theorem z9q {E:Value->Shared->Prop} {hid:List Addr} (hx:X.xe=fun _ _=>False):∀ {ifs:List Expr} {ts:List DT},PySem.Paired (fun e t=>PDT X Ex0 e t) ifs ts->∀ (pins:List (Addr × Obj)) (s:Shared) (σv:St) (H:Hp) (μ:List Addr) (σ:Sg) (O:Ow) (Q:Bool->Shared->Prop),
  L2.Inv X pins σv H s->EnvOk X.K H hid μ σ σv->Cells X.K H hid μ O->
  z5i Ex0 X.K H hid μ (z6K ts σ O) (fun b H'=>∀ s',L2.Inv X pins σv H' s'->Q b s')->
  wpAny (model X.prog X.w) X.A (forIn ifs true fun c r=>if r=true then do let ok <- isTrue c X.env (eval c X.env);pure (ForInStep.yield ok) else pure (ForInStep.yield r)) Q E s
 | _,_,.nil,pins,s,σv,H,μ,σ,O,Q,I,e1,c1,q=>wpAny_pure (post.here (v:=true) q c1 rfl s I)
 | _ :: ifs,_ :: ts,.cons hc hr,pins,s,σv,H,μ,σ,O,Q,I,e1,c1,q=>by
  simp only [List.forIn_cons,if_true]
  refine wpAny_bind (wpAny_bind (z2F hx (hc.out pins s σv H _ I (rdT.go e1 c1 q (Q1:=fun b H1=>∃ μ1 O1,EnvOk X.K H1 hid μ1 σ σv/\Cells X.K H1 hid μ1 O1/\z5i Ex0 X.K H1 hid μ1 (if b=true then z6K ts σ O1 else .ok false O1) (fun b H'=>∀ s',L2.Inv X pins σv H' s'->Q b s'))
   fun b O1 H1 μ1 e2 x c p=>⟨μ1,O1,e2,c,p⟩)) fun b s1 ⟨H1,I1,μ1,O1,e2,c2,p⟩=>wpAny_pure ?_))
  show wpAny _ _ (forIn ifs b _) _ _ _
  cases b with
  | true=>rw [if_pos rfl] at p;exact z9q hx hr pins s1 σv H1 μ1 σ O1 Q I1 e2 c2 p
  | false=>rw [if_neg Bool.false_ne_true] at p;exact z5I (post.here (v:=false) p c2 rfl s1 I1) ifs
structure z9s where
 ex:List Comprehension->Scope->Pos->Expr
 emit:Value->Env->Sem Unit
 new:Sem Value
 ho:Program->World->Addr->HO
 G:PySem.W.Frag->Program->World->Addr->List Addr->Hp->List Addr->List D->Prop
structure Bs (X:Cx) (C:z9s) (A:Addr) (hid:List Addr) (pins:List (Addr × Obj)) (s:Shared) (σv:St) (H:Hp) (μ:List Addr) (σ:Sg) (O:Ow) (acc:List D):Prop where
 inv:L2.Inv X pins σv H s
 env:EnvOk X.K H (A :: hid) μ σ σv
 cells:Cells X.K H (A :: hid) μ O
 grown:C.G X.K X.prog X.w A hid H μ acc
def zhR (X:Cx) (C:z9s) (A:Addr) (hid:List Addr) (pins:List (Addr × Obj)) (σv:St) (H:Hp) (μ:List Addr) (sl:List Nat) (acc:List D) (O:Ow) (Q:Shared->Prop):Prop:=
 ∀ s' σv' H' μ',L2.Inv X pins σv' H' s'->Ea A H μ H' μ'->Cells X.K H' (A :: hid) μ' O->C.G X.K X.prog X.w A hid H' μ' acc->σv'.length=σv.length->(∀ i,i ∉ sl->σv'[i]?=σv[i]?)->Q s'
def z4A (X:Cx) (C:z9s) (A:Addr) (hid:List Addr) (pins:List (Addr × Obj)) (σv:St) (H:Hp) (μ:List Addr) (sl:List Nat) (r:R (List D)) (Q:Shared->Prop):Prop:=match r with
 | .ok acc O=>zhR X C A hid pins σv H μ sl acc O Q
 | _=>False
def z8A (e:Expr) (em:Value->Env->Sem Unit) (gens:List Comprehension) (k:Nat) (acc:Value) (env:Env):Sem Unit:=match gens[k]? with
 | some g'=>do
  let x <- eval g'.iter env
  standAt g'.iter.pos
  let x <- if g'.is_async != 0 then foldedIterable g'.iter x else foldedSetIterable g'.iter env x
  let _ <- runOwn (.compStart e k (<- holding [x] (if g'.is_async != 0 then asyncIter x else pyIter x)) acc env) env
 | none=>em acc env
def ziz (C:z9s):Prop:=∀ (gens:List Comprehension) (scope:Scope) (pos:Pos) (k:Nat) (it acc:Value) (env:Env) {tg iter:Expr} {ifs:List Expr},gens[k]?=some ⟨tg,iter,ifs,0⟩->
  (gens[k + 1]?=none \/ ∃ tg' iter' ifs',gens[k + 1]?=some ⟨tg',iter',ifs',0⟩)->
  compTurn (C.ex gens scope pos) k it acc env=(do
   standAt iter.pos
   match <- pyNext it with
   | none=>pure (.done .next)
   | some v=>
    letOwnedTupleGo tg it v
    assign tg env v
    let mut ok:=true
    for c in ifs do
     if ok then ok <- isTrue c env (eval c env)
    if ok then z8A (C.ex gens scope pos) C.emit gens (k + 1) acc env
    again (.compLoop (C.ex gens scope pos) k it acc env))
structure z5C (C:z9s):Prop where
 cl:∀ gens scope pos,clausesOf (C.ex gens scope pos)=gens
 turn:ziz C
 keep:∀ {K P w A hid H μ acc H' μ'},C.G K P w A hid H μ acc->A ∉ μ->Ext H μ H' μ'->C.G K P w A hid H' μ' acc
 new:∀ {P:Program} {w:World} {A:Around} {E:Value->Shared->Prop} {Q:Value->Shared->Prop} {s:Shared},(∀ o:Obj,o.isFreed=false->(∀ (H:Hp) (h:Heap) (a:Addr),sysModules < a->h.get? a=some o->ObjOk P w (upd H a (C.ho P w a)) h a (C.ho P w a))->Q (.ref s.heap.objs.size) { s with heap:=s.heap.push o })->wpAny (model P w) A C.new Q E s
 g0:∀ {K P w a hid H μ},C.G K P w a hid (upd H a (C.ho P w a)) μ []
 q1:∀ gens scope pos k it acc env,(Code.compLoop (C.ex gens scope pos) k it acc env).quiet=true
 u1:∀ (A:Around) gens scope pos k it acc env,A.under (Code.compLoop (C.ex gens scope pos) k it acc env)=A
 d1:∀ P w gens scope pos k it acc env,(model P w).den (Code.compLoop (C.ex gens scope pos) k it acc env)=(compTurn (C.ex gens scope pos) k it acc env).onRaise (fun x=>do noteFrame x env;theTreesLotGoes x)
 u2:∀ (A:Around) gens scope pos k it acc env,A.under (Code.compStart (C.ex gens scope pos) k it acc env)=A
 d2:∀ P w gens scope pos k it acc env,(model P w).den (Code.compStart (C.ex gens scope pos) k it acc env)=(compStart (C.ex gens scope pos) k it acc env).onRaise (fun x=>do noteFrame x env;standAt theWindowsPlace)
def z8S (elt:Expr):z9s where
 ex:=fun gens scope pos=>.ListComp elt gens scope pos
 emit:=fun acc env=>do let _ <- call (.builtin "list.append") [acc,<- eval elt env]
 new:=newList []
 ho:=fun _ _ _=>.lst []
 G:=fun K _ _ A hid H μ acc=>∃ vs,H A=some (.lst vs)/\Dats K H (A :: hid) μ acc vs
theorem z74 (elt:Expr):z5C (z8S elt) where
 cl:=fun _ _ _=>rfl
 turn:=fun gens scope pos k it acc env tg iter ifs hk hn=>by
  show compTurn (.ListComp elt gens scope pos) k it acc env=_
  unfold compTurn z8A
  rcases hn with hn|⟨tg',iter',ifs',hn⟩
  ·simp only [hk,hn]
   rfl
  ·simp only [hk,hn,bne_self_eq_false,Bool.false_eq_true,if_false,bind_assoc,pure_bind]
   first|rfl|congr 1
 keep:=fun ⟨vs,hA,dA⟩ nA x=>⟨vs,x.keep _ _ hA nA,dA.ext x⟩
 new:=fun h=>wpAny_newObj_type (h _ rfl fun H h a _ e=>⟨Nat.zero_le _,[],0,.nil,e⟩)
 g0:=⟨[],z1z,.nil⟩
 q1:=fun _ _ _ _ _ _ _=>rfl
 u1:=fun _ _ _ _ _ _ _ _=>rfl
 d1:=fun _ _ _ _ _ _ _ _ _=>rfl
 u2:=fun _ _ _ _ _ _ _ _=>rfl
 d2:=fun _ _ _ _ _ _ _ _ _=>rfl
def rdZ (Z:St->Hp->List Addr->Prop) (K:PySem.W.Frag) (hid:List Addr) (t:DE):TE:=fun σv H Q=>∃ μ σ O,Z σv H μ/\EnvOk K H hid μ σ σv/\Cells K H hid μ O/\z1I Ex0 K H hid μ (t σ O) Q
theorem PD.z {X:Cx} {Z:St->Hp->List Addr->Prop} {hid:List Addr} {e:Expr} {t:DE} (h:PD X Ex0 e t):PE X e (rdZ Z X.K hid t):=fun pins s σv H Q I ⟨μ,σ,O,_,e1,c1,q⟩=>h.out pins s σv H Q I ⟨hid,μ,σ,O,e1,c1,q⟩
section
variable {C:z9s} {Z:St->Hp->List Addr->Prop} {A:Addr} {hid:List Addr} {elt:Expr} {gens:List Comprehension} {scope:Scope} {pos:Pos} {te:DE} {em:Em}
def z57 (X:Cx) (Z:St->Hp->List Addr->Prop) (C:z9s) (A:Addr) (hid:List Addr) (e:Expr) (gens:List Comprehension) (em:Em) (k:Nat) (cls:List Cl):Prop:=∀ (pins:List (Addr × Obj)) (s:Shared) (σv:St) (H:Hp) (μ:List Addr) (σ:Sg) (O:Ow) (acc:List D) (Q:Shared->Prop) (E:Value->Shared->Prop),
 Z σv H μ->Bs X C A hid pins s σv H μ σ O acc->z4A X C A hid pins σv H μ (z1t cls) (z3D cls em σ O acc) Q->wpAny (model X.prog X.w) X.A (z8A e C.emit gens k (.ref A) X.env) (fun _ s'=>Q s') E s
theorem z9O {k:Nat} {e:Expr} (hx:X.xe=fun _ _=>False) (he:PE X elt (rdZ Z X.K (A :: hid) te)) (hk:gens[k]?=none):z57 X Z (z8S elt) A hid e gens (emL te) k []:=by
 intro pins s σv H μ σ O acc Q E z B q
 unfold z8A
 rw [hk]
 show wpAny _ _ (do let _ <- call (.builtin "list.append") [.ref A,<- eval elt X.env]) _ _ s
 obtain ⟨vs,hA,dA⟩:=B.grown
 cases hte:te σ O with
 | ok d O1=>
  have q2:z4A X (z8S elt) A hid pins σv H μ (z1t []) (if acc.length < 100000 then .ok (acc ++ [d]) O1 else .bad) Q:=by
   have:=q
   unfold z3D emL at this
   rw [hte] at this
   exact this
  by_cases hl:acc.length < 100000
  ·rw [if_pos hl] at q2
   refine wpAny_bind (z2F hx (he pins s σv H (fun v H1=>∃ μ1,Ext H μ H1 μ1/\Cells X.K H1 (A :: hid) μ1 O1/\Dat X.K H1 (A :: hid) μ1 d v) B.inv ⟨μ,σ,O,z,B.env,B.cells,by rw [hte];exact fun v H' μ' x c r=>⟨μ',x,c,r⟩⟩)
    fun u s1 ⟨v,H1,I1,ru,μ1,x,c,r⟩=>?_)
   have nA:A ∉ μ:=fun m=>B.cells.nh A m (by simp)
   have hA1:H1 A=some (.lst vs):=x.keep A _ hA nA
   have dA1:=dA.ext x
   refine wpAny_bind (z2F hx (z3e pins s1 σv H1 (.ref A) [v] (.ref A) [u] (fun _ H2=>H2=upd H1 A (.lst (vs ++ [v]))) I1 rfl (.cons ru .nil)
    ⟨A,vs,v,rfl,rfl,hA1,Nat.lt_of_lt_of_le (by rw [<- dA1.length];exact hl) (by decide),rfl⟩) fun u2 s2 ⟨v2,H2,I2,r2,e2⟩=>?_)
   subst e2
   refine wpAny_pure (q2 s2 σv _ μ1 I2 (x.ea.trans (.put ⟨_,hA1⟩)) (c.putA ⟨_,hA1⟩) ⟨_,z1z,?_⟩ rfl fun _ _=>rfl)
   exact (dA1.append (.cons r .nil)).mv (Ea.put ⟨_,hA1⟩).mv
  ·rw [if_neg hl] at q2;exact q2.elim
 | exc c O1=>
  unfold z3D emL at q;rw [hte] at q;exact q.elim
 | bad=>
  unfold z3D emL at q;rw [hte] at q;exact q.elim
theorem zaP (co:z5C C) {k:Nat} {tg iter:Expr} {ifs:List Expr} {c:Cl} {cs:List Cl} (hx:X.xe=fun _ _=>False) (hcalm:X.calm=true) (hk:gens[k]?=some ⟨tg,iter,ifs,0⟩) (hg:PG X tg (c.g.rd X.K)) (hf:PySem.Paired (fun e t=>PDT X Ex0 e t) ifs c.ifs)
  (hZ:∀ (σ1 σ2:St) H1 μ1 H2 μ2,Z σ1 H1 μ1->(∀ j,j ∉ z1t (c :: cs)->σ2[j]?=σ1[j]?)->Ea A H1 μ1 H2 μ2->Z σ2 H2 μ2) (hb:z57 X Z C A hid (C.ex gens scope pos) gens em (k + 1) cs) (hn:gens[k + 1]?=none \/ ∃ tg' iter' ifs',gens[k + 1]?=some ⟨tg',iter',ifs',0⟩) {it:Addr} {fp:List Addr} {tn:Nat->Heap->Prop} {J:It} {src:Src} (T:zbD X.prog X.w X.K tg J fp it tn)
  (pins:List (Addr × Obj)) (s:Shared) (σv:St) (H:Hp) (μ:List Addr) (σ:Sg) (O:Ow) (acc:List D) (n:Nat) (Q:Shared->Prop) (st:tn 0 s.heap) (hfp:∀ b ∈ fp,z7e X pins H b) (sa:SrcAt X.K J src H (A :: hid) μ)
  (z0:Z σv H μ) (B:Bs X C A hid pins s σv H μ σ O acc) (q:z4A X C A hid pins σv H μ (z1t (c :: cs)) (z1M src (z3K c cs em σ) n 0 O acc) Q):
  codeAny (model X.prog X.w) X.A (.compLoop (C.ex gens scope pos) k (.ref it) (.ref A) X.env) (fun r s'=>∃ f,r=.ok f/\Q s') s:=by
 have stat:∀ {H':Hp},(∀ b ∈ fp,H' b=none)->∀ b ∈ fp,z7e X pins H' b:=fun hn b hb=>⟨hn b hb,(hfp b hb).2⟩
 let P:Nat->Shared->Prop:=fun m s'=>∃ i σv' H' μ' O' acc',L2.Inv X pins σv' H' s'/\tn i s'.heap/\(∀ b ∈ fp,H' b=none)/\Ea A H μ H' μ'/\Cells X.K H' (A :: hid) μ' O'/\C.G X.K X.prog X.w A hid H' μ' acc'/\
  σv'.length=σv.length/\(∀ i,i ∉ z1t (c :: cs)->σv'[i]?=σv[i]?)/\z4A X C A hid pins σv H μ (z1t (c :: cs)) (z1M src (z3K c cs em σ) m i O' acc') Q
 refine codeAny_loop (co.q1 _ _ _ _ _ _ _) P (fun m s1 hP=>?_) n ⟨0,σv,H,μ,O,acc,B.inv,st,fun b hb=>(hfp b hb).1,.refl,B.cells,B.grown,rfl,fun _ _=>rfl,q⟩
 rw [co.u1,co.d1]
 refine wpAny_noted ?_
 rw [co.turn _ _ _ _ _ _ _ hk hn]
 obtain ⟨i,σv1,H1,μ1,O1,acc1,I1,st1,fr1,x1,c1,g1,l1,k1,q1⟩:=hP
 have sa1:=sa (A :: hid) H1 μ1 O1 x1.mv c1 i
 -- the names that stand
 have env1:EnvOk X.K H1 (A :: hid) μ1 (clr σ (z1t (c :: cs))) σv1:=by
  refine ⟨by rw [z5Q,B.env.len,l1],fun j d hj=>?_⟩
  obtain ⟨h1,h2⟩:=z6H _ _ _ _ hj
  obtain ⟨v,h3,h4⟩:=B.env.at_ j d h1
  exact ⟨v,by rw [k1 j h2];exact h3,h4.mv x1.mv⟩
 cases hget:src.get O1 i with
 | none=>
  rw [hget] at sa1
  have q2:zhR X C A hid pins σv H μ (z1t (c :: cs)) acc1 O1 Q:=by
   cases m with
   | zero=>unfold z1M at q1;rw [hget] at q1;exact q1
   | succ f=>unfold z1M at q1;rw [hget] at q1;exact q1
  refine wpAny_bind (wpAny_standAt (wpAny_bind (thn (T.done X rfl rfl rfl hcalm i pins s1 σv1 H1 _ I1 (stat fr1) st1 sa1) fun r s2 ⟨hr,I2⟩=>?_)))
  subst hr
  exact wpAny_pure ⟨_,rfl,q2 s2 σv1 H1 μ1 I2 x1 c1 g1 l1 k1⟩
 | some d=>
  rw [hget] at sa1
  obtain ⟨go,yl⟩:=sa1
  cases m with
  | zero=>
   unfold z1M at q1;rw [hget] at q1;exact q1.elim
  | succ f=>
   have q2:z4A X C A hid pins σv H μ (z1t (c :: cs)) ((z3K c cs em σ d O1 acc1).bnd fun acc' O'=>z1M src (z3K c cs em σ) f (i + 1) O' acc') Q:=by
    have:=q1
    unfold z1M at this
    rw [hget] at this
    exact this
   refine wpAny_bind (wpAny_standAt (wpAny_bind (thn (T.item X rfl rfl rfl hcalm i pins s1 σv1 H1 _ I1 (stat fr1) st1 go) fun r s2 ⟨u,hr,h2⟩=>?_)))
   subst hr
   refine wpAny_bind (thn h2 fun _ s3 ⟨v,H3,I3,r3,y3,st3,fr3⟩=>?_)
   obtain ⟨x3,c3,d3⟩:=yl v H3 y3
   have I3':=I3.pinned (stat fr3) (T.obj _ _ st3)
   cases hput:c.g.put d (clr σ (z1t (c :: cs))) with
   | none=>
    unfold z3K at q2;rw [hput] at q2;exact q2.elim
   | some σ3=>
    have hstep:z3K c cs em σ d O1 acc1=((z6K c.ifs σ3 O1).bnd fun b O3=>if b=true then z3D cs em σ3 O3 acc1 else .ok acc1 O3):=by
     unfold z3K;rw [hput]
    rw [hstep] at q2
    refine wpAny_bind (z2F hx (hg _ s3 σv1 H3 v u (fun σv4 H4=>H4=H3/\EnvOk X.K H3 (A :: hid) μ1 σ3 σv4/\∀ j,j ∉ c.g.slots->σv4[j]?=σv1[j]?) I3' r3 (Tg.ok2 c.g (env1.ext x3) d3 hput fun σv4 e4 k4=>⟨rfl,e4,k4⟩)) fun _ s4 ⟨σv4,H4,I4,e4,env4,k4⟩=>?_)
    subst e4
    have l4:σv4.length=σv.length:=by rw [I4.len,<- I3.len,l1]
    have k4':∀ j,j ∉ z1t (c :: cs)->σv4[j]?=σv[j]?:=fun j hj=>by
     rw [k4 j fun z=>hj (List.mem_append_left _ z)];exact k1 j hj
    have nA:A ∉ μ1:=fun m=>c1.nh A m (by simp)
    have x13:Ea A H μ H4 μ1:=x1.trans x3.ea
    have g3:=co.keep g1 nA x3
    -- behind the step: the next turn
    have again:∀ {s':Shared} {σv':St} {H':Hp} {μ':List Addr} {O':Ow} {acc':List D},L2.Inv X (pins ++ z7M fp s3.heap) σv' H' s'->Ea A H μ H' μ'->Cells X.K H' (A :: hid) μ' O'->C.G X.K X.prog X.w A hid H' μ' acc'->σv'.length=σv.length->
      (∀ i,i ∉ z1t (c :: cs)->σv'[i]?=σv[i]?)->z4A X C A hid pins σv H μ (z1t (c :: cs)) (z1M src (z3K c cs em σ) f (i + 1) O' acc') Q->∃ m,m < f + 1/\P m s':=by
     intro s' σv' H' μ' O' acc' I' x' c' g' l' k' p'
     refine ⟨f,Nat.lt_succ_self f,i + 1,σv',H',μ',O',acc',I'.unpinned,T.keep _ _ _ st3 fun b hb o e=>(I'.pin (b,o) (List.mem_append_right _ (List.mem_append_right _ (z3V hb e)))).1,fun b hb=>?_,x',c',g',l',k',p'⟩
     obtain ⟨o,e,d⟩:=T.obj _ _ st3 b hb
     exact (I'.pin (b,o) (List.mem_append_right _ (List.mem_append_right _ (z3V hb e)))).2.1
    cases hall:z6K c.ifs σ3 O1 with
    | exc c' O'=>rw [hall] at q2;exact q2.elim
    | bad=>rw [hall] at q2;exact q2.elim
    | ok b O3=>
     rw [hall] at q2
     have q3:z4A X C A hid pins σv H μ (z1t (c :: cs)) ((if b=true then z3D cs em σ3 O3 acc1 else .ok acc1 O3).bnd fun acc' O'=>z1M src (z3K c cs em σ) f (i + 1) O' acc') Q:=q2
     refine wpAny_bind (z9q (hid:=A :: hid) hx hf _ s4 σv4 H4 μ1 σ3 O1 _ I4 env4 c3 ?_)
     rw [hall]
     intro b' H5 μ5 x5 c5 eb s5 I5
     have eb:b=b':=eb
     subst eb
     have g5:=co.keep g3 nA x5
     have x15:Ea A H μ H5 μ5:=x13.trans x5.ea
     cases b with
     | false=>
      rw [if_neg Bool.false_ne_true] at q3
      exact wpAny_pure ⟨rfl,again I5 x15 c5 g5 l4 k4' q3⟩
     | true=>
      rw [if_pos rfl] at q3
      refine wpAny_bind (hb _ s5 σv4 H5 μ5 σ3 O3 acc1 _ _ (hZ _ _ _ _ _ _ z0 k4' x15) ⟨I5,env4.ext x5,c5,g5⟩ ?_)
      cases hcd:z3D cs em σ3 O3 acc1 with
      | exc c' O'=>rw [hcd] at q3;exact q3.elim
      | bad=>rw [hcd] at q3;exact q3.elim
      | ok acc6 O6=>
       rw [hcd] at q3
       intro s6 σv6 H6 μ6 I6 x6 c6 g6 l6 k6
       refine wpAny_pure ⟨rfl,again I6 (x15.trans x6) c6 g6 (l6.trans l4) (fun j hj=>?_) q3⟩
       rw [k6 j fun z=>hj (List.mem_append_right _ z)]
       exact k4' j hj
end
end
section
variable {X:Cx} {Z:St->Hp->List Addr->Prop} {C:z9s} {A:Addr} {hid:List Addr} {gens:List Comprehension} {scope:Scope} {pos:Pos} {em:Em}
theorem z9i (co:z5C C) {k:Nat} {tg iter:Expr} {ifs:List Expr} {it:Addr} {fp:List Addr} {tn:Nat->Heap->Prop} {J:It} {env:Env} {P:Result->Shared->Prop} {s:Shared} {acc:Value} (hk:gens[k]?=some ⟨tg,iter,ifs,0⟩) (T:zbD X.prog X.w X.K tg J fp it tn) (i:Nat) (st:tn i s.heap)
  (h:codeAny (model X.prog X.w) X.A (.compLoop (C.ex gens scope pos) k (.ref it) acc env) P s):
  codeAny (model X.prog X.w) X.A (.compStart (C.ex gens scope pos) k (.ref it) acc env) P s:=by
 refine codeAny_of_tree ?_
 rw [co.u2,co.d2]
 refine wpAny_notedAt ?_
 unfold compStart
 have hcl:clausesOf (C.ex gens scope pos)=gens:=co.cl _ _ _
 simp only [hcl,hk,Option.elim,bne_self_eq_false,Bool.false_eq_true,if_false]
 refine wpAny_bind (wpAny_askSetting (wpAny_ite ?_))
 split
 ·exact wpAny_pure (And.intro (co.q1 _ _ _ _ _ _ _) h)
 ·refine wpAny_bind (wpAny_rule ?_)
  exact wpAny_bind (wpAny_standAt (wpAny_bind (T.self _ i s _ _ st (wpAny_pure (And.intro (co.q1 _ _ _ _ _ _ _) h)))))
theorem zcd (co:z5C C) (hx:X.xe=fun _ _=>False) (hcalm:X.calm=true) {sl:List Nat} (hZ:∀ (σ1 σ2:St) H1 μ1 H2 μ2,Z σ1 H1 μ1->(∀ j,j ∉ sl->σ2[j]?=σ1[j]?)->Ea A H1 μ1 H2 μ2->Z σ2 H2 μ2) (he:∀ k,gens[k]?=none->z57 X Z C A hid (C.ex gens scope pos) gens em k []):∀ {z2C:List Comprehension} {cls:List Cl},ClsOk X z2C cls->(∀ j ∈ z1t cls,j ∈ sl)->∀ k,gens.drop k=z2C->z57 X Z C A hid (C.ex gens scope pos) gens em k cls
 | _,_,.nil,_,k,hd=>he k (by
   have:=congrArg List.length hd
   simp at this
   exact List.getElem?_eq_none_iff.mpr (by omega))
 | ⟨tg,iter,ifs,_⟩ :: gs,c :: cs,.cons hi hs hg hf r,hsl,k,hd=>by
  have hk:gens[k]?=some ⟨tg,iter,ifs,0⟩:=by
   have:(gens.drop k)[0]?=some ⟨tg,iter,ifs,0⟩:=by rw [hd];rfl
   simpa using this
  have hd':gens.drop (k + 1)=gs:=by
   have:=congrArg (List.drop 1) hd
   simpa [List.drop_drop,Nat.add_comm] using this
  have hb:=zcd co hx hcalm hZ he r (fun j m=>hsl j (List.mem_append_right _ m)) (k + 1) hd'
  have hn:gens[k + 1]?=none \/ ∃ tg' iter' ifs',gens[k + 1]?=some ⟨tg',iter',ifs',0⟩:=by
   have e:gens[k + 1]?=gs[0]?:=by rw [<- hd'];simp
   cases r with
   | nil=>exact .inl (by rw [e];rfl)
   | cons _ _ _ _ _=>exact .inr ⟨_,_,_,by rw [e];rfl⟩
  intro pins s σv H μ σ O acc Q E z B q
  unfold z8A
  rw [hk]
  simp only [bne_self_eq_false,Bool.false_eq_true,if_false]
  cases hit:c.it σ O with
  | exc c' O'=>unfold z3D at q;rw [hit] at q;exact q.elim
  | bad=>unfold z3D at q;rw [hit] at q;exact q.elim
  | ok src O1=>
   have q1:z4A X C A hid pins σv H μ (z1t (c :: cs)) (z1M src (z3K c cs em σ) (src.size O1) 0 O1 acc) Q:=by
    have:=q
    unfold z3D at this
    rw [hit] at this
    exact this
   refine wpAny_bind (z2F hx (hi.out pins s σv H (fun J H1=>∃ μ1,Ext H μ H1 μ1/\Cells X.K H1 (A :: hid) μ1 O1/\SrcAt X.K J src H1 (A :: hid) μ1) B.inv ⟨A :: hid,μ,σ,O,B.env,B.cells,by rw [hit];exact fun J H1 μ1 x c sa=>⟨μ1,x,c,sa⟩⟩) fun v s1 h1=>?_)
   refine wpAny_bind (wpAny_standAt ?_)
   refine wpAny_bind (wpAny_of_eq (hs v) ?_)
   refine wpAny_bind (wpAny_holding (z2F hx h1 fun itv s2 h2=>?_))
   obtain ⟨it,fp,tn,J,H2,e,I2,T,st2,f2,μ2,x2,c2,sa⟩:=h2
   subst e
   refine wpAny_bind (wpAny_runOwn (h:=none) ?_)
   show codeAny _ X.A _ _ _
   have nA:A ∉ μ:=fun m=>B.cells.nh A m (by simp)
   refine z9i co hk T 0 st2 ?_
   refine codeAny_mono (zaP co (A:=A) (hid:=hid) (em:=em) (c:=c) (cs:=cs) hx hcalm hk hg hf (fun σ1 σ2 H1 μ1 H2 μ2 z1 k1 x1=>hZ σ1 σ2 H1 μ1 H2 μ2 z1 (fun j hj=>k1 j fun m=>hj (hsl j m)) x1) hb hn T pins s2 σv H2 μ2 σ O1 acc (src.size O1) (fun s'=>Q s') st2 f2 sa (hZ _ _ _ _ _ _ z (fun _ _=>rfl) x2.ea) ⟨I2,B.env.ext x2,c2,co.keep B.grown nA x2⟩ ?_) fun r s' hr=>?_
   ·cases hw:z1M src (z3K c cs em σ) (src.size O1) 0 O1 acc with
    | exc c' O'=>rw [hw] at q1;exact q1.elim
    | bad=>rw [hw] at q1;exact q1.elim
    | ok acc' O'=>
     rw [hw] at q1
     exact fun s' σv' H' μ' I' x' c' g' l' k'=>q1 s' σv' H' μ' I' (x2.ea.trans x') c' g' l' k'
   ·obtain ⟨f,rfl,hq⟩:=hr
    exact wpAny_pure hq
end
def cxB (X:Cx) (N':List Str) (scope:Scope) (cells:List (Str × Addr)) (C:Addr) (s:Shared) (H:Hp) (fp:List Addr):Cx:=
 { X with
  N:=N',s₀:=s,H₀:=H
  env:={ scope:=relabel scope X.env,locals:=C,globals:=X.env.globals,cells:=cells,qual:=X.env.qual,func:=none,code:=X.env.code,frame:=X.env.frame,builtins:=X.env.builtins }
  outer:=X.stack,ex:=fp,fn:=fun x=>scope.names.lookup x == some .cell,pn:=[],xe:=fun _ _=>False }
structure BOk (sc scope:Scope) (N':List Str) (sl:List Nat):Prop where
 kind:scope.kind=.function
 nd:(scope.names.map (·.1)).Nodup
 frees:∀ y ∈ scope.names,y.2=.free->sc.names.lookup y.1=some .cell \/ sc.names.lookup y.1=some .free
 own:∀ (i:Nat) x,N'[i]?=some x->(x,NameKind.local) ∈ scope.names \/ (x,NameKind.cell) ∈ scope.names->i ∈ sl
theorem z21 {β:Type}:∀ {l:List (Str × β)} {x:Str} {b:β},(l.map (·.1)).Nodup->(x,b) ∈ l->l.lookup x=some b
 | [],_,_,_,h=>by cases h
 | (y,c) :: r,x,b,nd,h=>by
  obtain ⟨n1,n2⟩:=List.nodup_cons.mp nd
  rcases List.mem_cons.mp h with e|h
  ·cases e;simp [List.lookup_cons]
  ·have ne:x ≠ y:=fun e=>n1 (List.mem_map.mpr ⟨(x,b),h,e⟩)
   rw [List.lookup_cons]
   have:(x == y)=false:=by simpa using ne
   rw [this]
   exact z21 n2 h
theorem z3c (env:Env) (x:Str):∀ (names:List (Str × NameKind)),(names.map fun (n,k)=>if (k == NameKind.free && env.scope.kind == .function && env.kindOf n == some .cell) then (n,NameKind.cell) else (n,k)).lookup x =
  (names.lookup x).map fun k=>if (k == NameKind.free && env.scope.kind == .function && env.kindOf x == some .cell) then NameKind.cell else k
 | []=>rfl
 | (n,k) :: r=>by
  show List.lookup x ((if (k == NameKind.free && env.scope.kind == .function && env.kindOf n == some .cell)=true then (n,NameKind.cell) else (n,k)) :: _)=_
  cases hx:x == n with
  | true=>
   have e:x=n:=by simpa using hx
   subst e
   simp only [List.lookup_cons,hx,Option.map_some]
   split
   ·rename_i h;simp [List.lookup_cons,h]
   ·rename_i h;simp [List.lookup_cons,h]
  | false=>
   have ih:=z3c env x r
   simp only [List.lookup_cons,hx]
   rw [<- ih]
   split <;> simp only [List.lookup_cons,hx]
theorem z65 {scope:Scope} {env:Env} {x:Str} (h:Vis (relabel scope env) x):(x,NameKind.local) ∈ scope.names \/ (x,NameKind.cell) ∈ scope.names \/ (x,NameKind.free) ∈ scope.names:=by
 unfold Vis relabel at h
 simp only [z3c] at h
 cases e:scope.names.lookup x with
 | none=>rw [e] at h;simp at h
 | some k=>
  have m:=PySem.mem_of_lookup e
  cases k with
  | «local»=>exact .inl m
  | cell=>exact .inr (.inl m)
  | free=>exact .inr (.inr m)
  | _=>rw [e] at h;simp at h
def z1L (cells:List (Str × Addr)):List (Str × NameKind)->List (Str × Addr)->List (Str × Addr)
 | [],acc=>acc
 | (n,k) :: r,acc=>if k == .free then z1L cells r ((n,(cells.lookup n).getD 0) :: acc) else z1L cells r acc
theorem z3p {scope:Scope} {env:Env} (h:∀ y ∈ scope.names,y.2=.free->∃ c,env.cells.lookup y.1=some c):closureFor scope env=pure (z1L env.cells scope.names []):=by
 have key:∀ (names:List (Str × NameKind)) (acc:List (Str × Addr)),(∀ y ∈ names,y.2=.free->∃ c,env.cells.lookup y.1=some c)->
   (forIn names acc fun (x:Str × NameKind) (cs:List (Str × Addr))=>(if x.2 == .free then (do let a <- cellOf env x.1;pure (ForInStep.yield ((x.1,a) :: cs))) else pure (ForInStep.yield cs):Sem _))=pure (z1L env.cells names acc):=by
  intro names
  induction names with
  | nil=>intro acc _;rfl
  | cons y r ih=>
   intro acc hn
   obtain ⟨n,k⟩:=y
   rw [List.forIn_cons]
   unfold z1L
   by_cases hk:(k == NameKind.free)=true
   ·obtain ⟨c,hc⟩:=hn (n,k) List.mem_cons_self (by simpa using hk)
    have e1:cellOf env n=pure c:=by unfold cellOf;rw [hc]
    simp only [hk,if_true,e1,pure_bind,hc,Option.getD_some]
    exact ih _ fun y hy=>hn y (List.mem_cons_of_mem _ hy)
   ·simp only [hk,if_false,pure_bind,Bool.false_eq_true]
    exact ih _ fun y hy=>hn y (List.mem_cons_of_mem _ hy)
 have:=key scope.names [] h
 unfold closureFor
 refine Eq.trans ?_ (congrArg (fun m=>m >>= fun cs=>pure cs) this)
 congr 1
theorem z3g {cells:List (Str × Addr)} {x:Str} {c:Addr}:∀ (names:List (Str × NameKind)) (acc:List (Str × Addr)),(x,c) ∈ z1L cells names acc->(x,c) ∈ acc \/ ((x,NameKind.free) ∈ names/\c=(cells.lookup x).getD 0)
 | [],acc,h=>.inl h
 | (n,k) :: r,acc,h=>by
  unfold z1L at h
  by_cases hk:(k == NameKind.free)=true
  ·rw [if_pos hk] at h
   rcases z3g r _ h with m|⟨m,e⟩
   ·rcases List.mem_cons.mp m with m|m
    ·cases m
     have:k=.free:=by simpa using hk
     subst this
     exact .inr ⟨List.mem_cons_self,rfl⟩
    ·exact .inl m
   ·exact .inr ⟨List.mem_cons_of_mem _ m,e⟩
  ·rw [if_neg hk] at h
   rcases z3g r _ h with m|⟨m,e⟩
   ·exact .inl m
   ·exact .inr ⟨List.mem_cons_of_mem _ m,e⟩
theorem z4S {cells:List (Str × Addr)} {p:Str × Addr}:∀ (names:List (Str × NameKind)) (acc:List (Str × Addr)),p ∈ acc->p ∈ z1L cells names acc
 | [],acc,h=>h
 | (n,k) :: r,acc,h=>by
  unfold z1L
  split
  ·exact z4S r _ (List.mem_cons_of_mem _ h)
  ·exact z4S r _ h
theorem z3f {cells:List (Str × Addr)} {x:Str}:∀ (names:List (Str × NameKind)) (acc:List (Str × Addr)),(x,NameKind.free) ∈ names->(x,(cells.lookup x).getD 0) ∈ z1L cells names acc
 | (n,k) :: r,acc,h=>by
  unfold z1L
  rcases List.mem_cons.mp h with e|h
  ·cases e
   rw [if_pos (by decide)]
   exact z4S r _ List.mem_cons_self
  ·split
   ·exact z3f r _ h
   ·exact z3f r _ h
theorem zaJ {x:Str} {c:Addr}:∀ (names:List (Str × NameKind)) (n:Nat) (acc:List (Str × Addr)),(x,c) ∈ cellsFrom n names acc->(x,c) ∈ acc \/ ((x,NameKind.cell) ∈ names/\n <= c)
 | [],n,acc,h=>.inl h
 | (y,k) :: r,n,acc,h=>by
  unfold cellsFrom at h
  by_cases hk:(k == NameKind.cell)=true
  ·rw [if_pos hk] at h
   rcases zaJ r _ _ h with m|⟨m,e⟩
   ·rcases List.mem_cons.mp m with m|m
    ·cases m
     have:k=.cell:=by simpa using hk
     subst this
     exact .inr ⟨List.mem_cons_self,Nat.le_refl _⟩
    ·exact .inl m
   ·exact .inr ⟨List.mem_cons_of_mem _ m,Nat.le_of_succ_le e⟩
  ·rw [if_neg hk] at h
   rcases zaJ r _ _ h with m|⟨m,e⟩
   ·exact .inl m
   ·exact .inr ⟨List.mem_cons_of_mem _ m,e⟩
theorem zcn {p:Str × Addr}:∀ (names:List (Str × NameKind)) (n:Nat) (acc:List (Str × Addr)),p ∈ acc->p ∈ cellsFrom n names acc
 | [],_,_,h=>h
 | (y,k) :: r,n,acc,h=>by
  unfold cellsFrom
  split
  ·exact zcn r _ _ (List.mem_cons_of_mem _ h)
  ·exact zcn r _ _ h
theorem z6v:∀ (names:List (Str × NameKind)) (n:Nat) (acc:List (Str × Addr)),(acc.Pairwise fun x y=>x.2 ≠ y.2)->(∀ p ∈ acc,p.2 < n)->(cellsFrom n names acc).Pairwise fun x y=>x.2 ≠ y.2
 | [],_,_,h,_=>h
 | (y,k) :: r,n,acc,h,hl=>by
  unfold cellsFrom
  split
  ·refine z6v r (n + 1) _ (List.pairwise_cons.mpr ⟨fun p hp=>?_,h⟩) fun p hp=>?_
   ·exact fun e=>absurd (hl p hp) (by show ¬ p.2 < n;rw [<- e];exact Nat.lt_irrefl _)
   ·rcases List.mem_cons.mp hp with rfl|hp
    ·exact Nat.lt_succ_self _
    ·exact Nat.lt_succ_of_lt (hl p hp)
  ·exact z6v r n acc h hl
theorem z79:∀ (names:List (Str × NameKind)) (n:Nat) (acc:List (Str × Addr)),((names.map (·.1)).Nodup)->(acc.map (·.1)).Nodup->(∀ p ∈ acc,∀ k,(p.1,k) ∈ names->k ≠ NameKind.cell)->((cellsFrom n names acc).map (·.1)).Nodup
 | [],_,_,_,h,_=>h
 | (y,k) :: r,n,acc,nd,h,hl=>by
  obtain ⟨n1,n2⟩:=List.nodup_cons.mp nd
  unfold cellsFrom
  by_cases hk:(k == NameKind.cell)=true
  ·rw [if_pos hk]
   have hk':k=.cell:=by simpa using hk
   refine z79 r (n + 1) _ n2 (List.nodup_cons.mpr ⟨fun m=>?_,h⟩) fun p hp k' hk2=>?_
   ·obtain ⟨p,hp,e⟩:=List.mem_map.mp m
    exact hl p hp k (by rw [e];exact List.mem_cons_self) hk'
   ·rcases List.mem_cons.mp hp with rfl|hp
    ·exact absurd (List.mem_map.mpr ⟨(y,k'),hk2,rfl⟩) n1
    ·exact hl p hp k' (List.mem_cons_of_mem _ hk2)
  ·rw [if_neg hk]
   exact z79 r n acc n2 h fun p hp k' hk2=>hl p hp k' (List.mem_cons_of_mem _ hk2)
theorem z2J {cells:List (Str × Addr)}:∀ (names:List (Str × NameKind)) (acc:List (Str × Addr)),((names.map (·.1)).Nodup)->(acc.map (·.1)).Nodup->(∀ p ∈ acc,p.1 ∉ names.map (·.1))->((z1L cells names acc).map (·.1)).Nodup
 | [],_,_,h,_=>h
 | (y,k) :: r,acc,nd,h,hl=>by
  obtain ⟨n1,n2⟩:=List.nodup_cons.mp nd
  unfold z1L
  split
  ·refine z2J r _ n2 (List.nodup_cons.mpr ⟨fun m=>?_,h⟩) fun p hp=>?_
   ·obtain ⟨p,hp,e⟩:=List.mem_map.mp m
    exact hl p hp (by rw [e];simp)
   ·rcases List.mem_cons.mp hp with rfl|hp
    ·exact n1
    ·exact fun m=>hl p hp (List.mem_cons_of_mem _ m)
  ·exact z2J r acc n2 h fun p hp m=>hl p hp (List.mem_cons_of_mem _ m)
theorem z8t {x:Str} {c:Addr}:∀ (names:List (Str × NameKind)) (h:Heap) (acc:List (Str × Addr)),(x,c) ∈ cellsFrom h.objs.size names acc->(x,c) ∈ acc \/ (pushCells h names).IsCell c none
 | [],_,_,m=>.inl m
 | (y,k) :: r,h,acc,m=>by
  unfold cellsFrom at m
  unfold pushCells
  by_cases hk:(k == NameKind.cell)=true
  ·rw [if_pos hk] at m ⊢
   have e:h.objs.size + 1=(h.push { cls:=.type "cell",data:=.cell none }).objs.size:=(Heap.size_push ..).symm
   rw [e] at m
   rcases z8t r _ _ m with m|m
   ·rcases List.mem_cons.mp m with m|m
    ·cases m
     exact .inr ⟨_,pushCells_keeps _ _ _ _ (Heap.get?_push_size _ rfl),rfl⟩
    ·exact .inl m
   ·exact .inr m
  ·rw [if_neg hk] at m ⊢
   exact z8t r _ _ m
theorem z7Y {l:List (Str × Addr)} (nd:(l.map (·.1)).Nodup) (inj:∀ p ∈ l,∀ q ∈ l,p.2=q.2->p.1=q.1):l.Pairwise fun x y=>x.2 ≠ y.2:=by
 induction l with
 | nil=>exact .nil
 | cons p r ih=>
  obtain ⟨n1,n2⟩:=List.nodup_cons.mp nd
  refine List.pairwise_cons.mpr ⟨fun q hq e=>n1 ?_,ih n2 fun a ha b hb=>inj a (List.mem_cons_of_mem _ ha) b (List.mem_cons_of_mem _ hb)⟩
  exact List.mem_map.mpr ⟨q,hq,(inj p List.mem_cons_self q (List.mem_cons_of_mem _ hq) e).symm⟩
abbrev z8k:Obj:={ cls:=.type "dict",data:=.dict #[] }
section
variable {X:Cx} {pins:List (Addr × Obj)} {σv:St} {H:Hp} {s:Shared}
abbrev zdx (ob:Obj) (h:Heap) (names:List (Str × NameKind)):Heap:=pushCells ((h.push ob).push z8k) names
theorem z5E (ob:Obj) (h:Heap) (names:List (Str × NameKind)) (b:Addr) (o:Obj) (e:h.get? b=some o):(zdx ob h names).get? b=some o:=pushCells_keeps _ _ _ _ (Heap.get?_push_of_some _ (Heap.get?_push_of_some _ e))
theorem zjc (ob:Obj) (h:Heap):((h.push ob).push z8k).objs.size=h.objs.size + 2:=by rw [Heap.size_push,Heap.size_push]
theorem zc0 {scope:Scope} {ext:List Str} {sl:List Nat} {fp:List Addr} (I:L2.Inv X pins σv H s) (hfp:∀ b ∈ fp,z7e X pins H b) (hlt:∀ b ∈ fp,b < s.heap.objs.size) (hb:BOk X.env.scope scope (X.N ++ ext) sl) {ob:Obj} {u:HO} (hfr:ob.isFreed=false) (hob:∀ h:Heap,h.get? s.heap.objs.size=some ob->ObjOk X.prog X.w (upd H s.heap.objs.size u) h s.heap.objs.size u):
  L2.Inv (cxB X (X.N ++ ext) scope (cellsFrom (s.heap.objs.size + 2) scope.names (z1L X.env.cells scope.names [])) (s.heap.objs.size + 1) s H fp) [] (clr (σv ++ List.replicate ext.length none) sl)
   (upd H s.heap.objs.size u) { s with heap:=zdx ob s.heap scope.names }:=by
 have hclt:∀ x c,X.env.cells.lookup x=some c->c < s.heap.objs.size:=fun x c e=>by
  obtain ⟨v,z⟩:=I.cell x c e
  exact z.lt
 -- a free name of the block has its cell around
 have hfree:∀ x,(x,NameKind.free) ∈ scope.names->∃ c,X.env.cells.lookup x=some c:=fun x hx=>I.ok.has x (hb.frees _ hx rfl)
 have hcl:∀ x c,(x,c) ∈ z1L X.env.cells scope.names []->(x,NameKind.free) ∈ scope.names/\X.env.cells.lookup x=some c:=fun x c hm=>by
  rcases z3g _ _ hm with m|⟨m,e⟩
  ·cases m
  ·obtain ⟨c',hc'⟩:=hfree x m
   rw [hc'] at e
   exact ⟨m,by rw [e];exact hc'⟩
 have hlc:∀ x,(x,NameKind.free) ∈ scope.names->∀ c,X.env.cells.lookup x=some c->(x,c) ∈ z1L X.env.cells scope.names []:=fun x hx c e=>by
  have:=z3f (cells:=X.env.cells) scope.names [] hx
  rw [e] at this
  exact this
 have ndcl:((z1L X.env.cells scope.names []).map (·.1)).Nodup:=z2J _ _ hb.nd (by simp) (by intro p hp;cases hp)
 have ndc:((cellsFrom (s.heap.objs.size + 2) scope.names (z1L X.env.cells scope.names [])).map (·.1)).Nodup:=z79 _ _ _ hb.nd ndcl fun p hp k hk e=>by
  subst e
  have h1:=(hcl p.1 p.2 hp).1
  have:=z21 hb.nd h1
  rw [z21 hb.nd hk] at this
  cases this
 have apart:(cellsFrom (s.heap.objs.size + 2) scope.names (z1L X.env.cells scope.names [])).Pairwise fun x y=>x.2 ≠ y.2:=by
  refine z6v _ _ _ (z7Y ndcl fun p hp q hq e=>?_) fun p hp=>Nat.lt_of_lt_of_le (hclt _ _ (hcl p.1 p.2 hp).2) (Nat.le_add_right _ _)
  refine I.ok.inj p.1 q.1 p.2 (hcl p.1 p.2 hp).2 ?_
  rw [e];exact (hcl q.1 q.2 hq).2
 have hsplit:∀ x c,(cellsFrom (s.heap.objs.size + 2) scope.names (z1L X.env.cells scope.names [])).lookup x=some c->((x,NameKind.free) ∈ scope.names/\X.env.cells.lookup x=some c) \/ ((x,NameKind.cell) ∈ scope.names/\s.heap.objs.size + 2 <= c):=fun x c e=>by
  rcases zaJ _ _ _ (PySem.mem_of_lookup e) with m|m
  ·exact .inl (hcl x c m)
  ·exact .inr m
 have fresh:∀ a,s.heap.objs.size <= a->H a=none:=fun a ha=>I.hok.fresh ha
 have kp:=z5E ob s.heap scope.names
 have oldc:∀ x,(x,NameKind.free) ∈ scope.names->∀ c,X.env.cells.lookup x=some c->(cellsFrom (s.heap.objs.size + 2) scope.names (z1L X.env.cells scope.names [])).lookup x=some c:=fun x hx c e=>
  z21 ndc (zcn _ _ _ (hlc x hx c e))
 refine ⟨⟨I.ok.mod,hb.kind,I.ok.glob,I.ok.blt,Nat.le_succ _,fun x y c h1 h2=>name_of_addr apart (PySem.mem_of_lookup h1) (PySem.mem_of_lookup h2),fun x hx=>?_,fun x c hx h=>?_,I.ok.hd,I.ok.frames,.inl rfl,fun b hbm=>⟨?_,fun x c e=>?_⟩,I.bs,?_,fun b o e hbm=>?_,fun b hbm z=>?_,I.stack,I.stkFree⟩,
  rfl,I.bare,Un.laid kp (Nat.le_refl _) (fresh _ (Nat.le_refl _)),?_,fun x c e=>?_,?_,fun x c e=>?_,fun p hp=>absurd (show p ∈ ([]:List (Addr × Obj)) from hp) (by simp),I.hok.laid kp (Nat.le_refl _) ?_,?_,I.tk⟩
 ·-- has
  have hx:Vis (relabel scope X.env) x:=.inr hx
  rcases z65 hx with m|m|m
  ·exfalso
   have e:=z21 hb.nd m
   have e2:(relabel scope X.env).names.lookup x=some .local:=lookup_relabel_local e
   rcases (show (relabel scope X.env).names.lookup x=some .cell \/ (relabel scope X.env).names.lookup x=some .free by rename_i h0;exact h0) with q|q
   ·rw [e2] at q;cases q
   ·rw [e2] at q;cases q
  ·exact Option.isSome_iff_exists.mp (PySem.W.cellsFrom_some scope.names _ _ (.inl (z21 hb.nd m)))
  ·obtain ⟨c,hc⟩:=hfree x m
   exact ⟨c,oldc x m c hc⟩
 ·-- cab
  have hx:(scope.names.lookup x == some .cell)=true:=hx
  rcases hsplit x c h with ⟨m,_⟩|⟨_,m⟩
  ·rw [z21 hb.nd m] at hx;cases hx
  ·exact Nat.le_trans (Nat.le_add_right _ _) m
 ·exact Nat.ne_of_lt (Nat.lt_succ_of_lt (hlt b hbm))
 ·rcases hsplit x c e with ⟨_,m⟩|⟨_,m⟩
  ·exact (hfp b hbm).2.2.2.2.1 x c m
  ·have h0:b < s.heap.objs.size:=hlt b hbm
   exact fun z=>by
    rw [z] at m
    exact absurd (Nat.lt_of_lt_of_le h0 (Nat.le_trans (Nat.le_add_right _ 2) m)) (Nat.lt_irrefl _)
 ·exact Nat.le_trans I.ok.bsz I.sz
 ·rcases (hfp b hbm).2.2.2.1 with z|z
  ·exact I.ok.noex b o e z
  ·exact absurd (Nat.lt_of_lt_of_le (Heap.lt_size e) (Nat.le_trans I.ok.bsz z)) (Nat.lt_irrefl _)
 ·rcases List.mem_cons.mp (I.stkSub b z) with q|q
  ·exact (hfp b hbm).2.1 q
  ·exact (hfp b hbm).2.2.1 q
 ·-- loc
  refine ⟨fun _=>none,?_,fun i x v h1 h2 h3=>?_⟩
  ·have z:=(Heap.Ns.new (s.heap.push ob) (.type "dict")).keeps (pushCells_keeps scope.names _)
   rw [Heap.size_push] at z
   exact z
  ·obtain ⟨g1,g2⟩:=z6H _ _ _ _ h2
   have hi:i < σv.length:=by
    by_cases hi:i < σv.length
    ·exact hi
    ·rw [List.getElem?_append_right (by omega),List.getElem?_replicate] at g1
     split at g1 <;> cases g1
   rw [List.getElem?_append_left hi] at g1
   have hxN:X.N[i]?=some x:=by
    have h1:(X.N ++ ext)[i]?=some x:=h1
    rw [List.getElem?_append_left (by rw [<- I.len];exact hi)] at h1
    exact h1
   rcases z65 h3 with m|m|m
   ·exact absurd (hb.own i x h1 (.inl m)) g2
   ·exact absurd (hb.own i x h1 (.inr m)) g2
   ·obtain ⟨m0,hn,hl⟩:=I.loc
    have kx:=hb.frees _ m rfl
    obtain ⟨u,ru,lk⟩:=hl i x v hxN g1 (.inr kx)
    refine ⟨u,ru,?_⟩
    rcases lk with ⟨q,_⟩|⟨q,c,hc,z⟩
    ·exfalso
     have q:X.env.scope.names.lookup x=some .local:=q
     rcases kx with k|k <;> (rw [q] at k;cases k)
    ·refine .inr ⟨?_,c,oldc x m c hc,z.keeps kp⟩
     have e:=z21 hb.nd m
     show (relabel scope X.env).names.lookup x=some .cell \/ (relabel scope X.env).names.lookup x=some .free
     unfold relabel
     simp only [z3c,e,Option.map_some]
     split
     ·exact .inl rfl
     ·exact .inr rfl
 ·-- cell
  rcases z8t scope.names ((s.heap.push ob).push z8k) (z1L X.env.cells scope.names []) (x:=x) (c:=c) (by rw [zjc];exact PySem.mem_of_lookup e) with m|m
  ·obtain ⟨v,z⟩:=I.cell x c (hcl x c m).2
   exact ⟨v,z.keeps kp⟩
  ·exact ⟨none,m⟩
 ·show upd H s.heap.objs.size u (s.heap.objs.size + 1)=none
  rw [z1q (Nat.ne_of_gt (Nat.lt_succ_self _))]
  exact fresh _ (Nat.le_succ _)
 ·rcases hsplit x c e with ⟨_,m⟩|⟨_,m⟩
  ·rw [z1q (Nat.ne_of_lt (hclt x c m))]
   exact I.freeC x c m
  ·have ne:c ≠ s.heap.objs.size:=fun z=>by
    rw [z] at m
    exact absurd m (by omega)
   rw [z1q ne]
   exact fresh c (Nat.le_trans (Nat.le_add_right _ 2) m)
 ·exact hob _ (pushCells_keeps _ _ _ _ (Heap.get?_push_of_some _ (Heap.get?_push_size _ hfr)))
 ·show _=(X.N ++ ext).length
  rw [z5Q,List.length_append,List.length_replicate,List.length_append,I.len]
end
def noX {α:Type}:R α->R α
 | .ok a O=>.ok a O
 | _=>.bad
def z37 (ext:Nat) (it0:DI) (g:Tg) (ts:List DT) (cs:List Cl) (em:Em):Sg->Ow->R (List D):=fun σ O=>(it0 σ O).bnd fun src O1=>
 noX (z1M src (z3K ⟨it0,g,ts⟩ cs em (clr (σ ++ List.replicate ext none) (z1t (⟨it0,g,ts⟩ :: cs)))) (src.size O1) 0 O1 [])
def z3r (ext:Nat) (it0:DI) (g:Tg) (ts:List DT) (cs:List Cl) (te:DE):Sg->Ow->R (List D):=fun σ O=>(it0 σ O).bnd fun src O1=>
 noX (z1M src (z4c ⟨it0,g,ts⟩ cs te (clr (σ ++ List.replicate ext none) (z1t (⟨it0,g,ts⟩ :: cs)))) (src.size O1) 0 O1 [])
theorem z4R (ext:Nat) (it0:DI) (g:Tg) (ts:List DT) (cs:List Cl) (te:DE):z37 ext it0 g ts cs (emL te)=z3r ext it0 g ts cs te:=by
 funext σ O;unfold z37 z3r;rw [zg9]
def ZB (σv:St) (n:Nat) (sl:List Nat) (A:Addr) (H0:Hp):St->Hp->List Addr->Prop:=fun σ H μ=>(∀ j,j ∉ sl->σ[j]?=(σv ++ List.replicate n none)[j]?)/\H0 A=none/\∃ μ0 o,Ea A (upd H0 A o) μ0 H μ/\∀ a ∈ μ0,∃ vs,H0 a=some (.lst vs)
section
variable {C:z9s} {em:Em}
variable {X:Cx} {M:Model} {A:Around} {E:Value->Shared->Prop} {s:Shared}
theorem z7m {scope:Scope} {globals:Addr} {cl:List (Str × Addr)} {qual:Str} {env:Env} {Q:Env->Shared->Prop}
  (h:Q { scope,locals:=s.heap.objs.size,globals,cells:=cellsFrom (s.heap.objs.size + 1) scope.names cl,qual,func:=none,code:=env.code,frame:=env.frame,builtins:=env.builtins } { s with heap:=pushCells (s.heap.push z8k) scope.names }):
  wpAny M A (newFunctionEnv scope globals cl [] qual none .none (some env)) Q E s:=by
 simp only [newFunctionEnv,Option.isSome_some,if_true]
 refine wpAny_bind (wpAny_alloc ?_)
 refine wpAny_bind (wpAny_layCells _ (fun name kind cells=>by cases hkc:kind == NameKind.cell <;> simp [hkc]) _ _ _ _ ?_)
 rw [show ({ s with heap:=s.heap.push z8k }:Shared).heap.objs.size=s.heap.objs.size + 1 from Heap.size_push ..]
 simp only [List.forIn_nil,pure_bind]
 exact wpAny_pure h
structure zex (X:Cx) (C:z9s) (pins:List (Addr × Obj)) (σv:St) (H:Hp) (hid μ:List Addr) (L Cn:Addr) (acc:List D) (O:Ow) (s':Shared):Prop where
 inv:∃ H' μ',L2.Inv X pins σv H' s'/\Ext H μ H' μ'/\Cells X.K H' (L :: hid) μ' O/\H L=none/\H' Cn=none/\C.G X.K X.prog X.w L hid H' μ' acc
 ns:∃ m,s'.heap.Ns Cn m
 loc:Cn ≠ X.env.locals
 young:X.s₀.heap.objs.size <= Cn
 cel:∀ x c,X.env.cells.lookup x=some c->c ≠ Cn
 pns:∀ p ∈ X.pn ++ pins,p.1 ≠ Cn
theorem Inv.bare {pins:List (Addr × Obj)} {σv:St} {H:Hp} {s':Shared} {C:Addr} {h':Heap} (I:L2.Inv X pins σv H s') (hs:Heap.SameBut C s'.heap h') (hn:H C=none) (loc:C ≠ X.env.locals) (young:X.s₀.heap.objs.size <= C) (cel:∀ x c,X.env.cells.lookup x=some c->c ≠ C)
  (pns:∀ p ∈ X.pn ++ pins,p.1 ≠ C):L2.Inv X pins σv H { s' with heap:=h' }:=I.turned (t':=s'.toks) (fun b o hb e=>(hs.2 b hb).trans e) hn loc (.inr young) cel pns
theorem zam (co:z5C C) {tg iter:Expr} {ifs:List Expr} {gs:List Comprehension} {scope:Scope} {pos:Pos} {ext:List Str} {it0:DI} {g:Tg} {ts:List DT} {cs:List Cl} {pins:List (Addr × Obj)} {σv:St} {H:Hp} {hid μ:List Addr} {σ:Sg} {O:Ow} {src:Src} {acc:List D} {O2:Ow}
  {it:Addr} {fp:List Addr} {tn:Nat->Heap->Prop} {J:It} {RR:Value->Addr->Result->Shared->Prop}
  (hcalm:X.calm=true) (hb:BOk X.env.scope scope (X.N ++ ext) (z1t (⟨it0,g,ts⟩ :: cs)))
  (blk:∀ cells Cn,PG (cxB X (X.N ++ ext) scope cells Cn s H fp) tg (g.rd X.K)/\PySem.Paired (fun e t=>PDT (cxB X (X.N ++ ext) scope cells Cn s H fp) Ex0 e t) ifs ts/\ClsOk (cxB X (X.N ++ ext) scope cells Cn s H fp) gs cs/\∀ A hid k,(⟨tg,iter,ifs,0⟩ :: gs:List Comprehension)[k]?=none->z57 (cxB X (X.N ++ ext) scope cells Cn s H fp) (ZB σv ext.length (z1t (⟨it0,g,ts⟩ :: cs)) A H) C A hid (C.ex (⟨tg,iter,ifs,0⟩ :: gs) scope pos) (⟨tg,iter,ifs,0⟩ :: gs) em k [])
  (I:L2.Inv X pins σv H s) (e1:EnvOk X.K H hid μ σ σv) (c1:Cells X.K H hid μ O) (T:zbD X.prog X.w X.K tg J fp it tn) (st:tn 0 s.heap) (hfp:∀ b ∈ fp,z7e X pins H b) (sa:SrcAt X.K J src H hid μ)
  (hw:z1M src (z3K ⟨it0,g,ts⟩ cs em (clr (σ ++ List.replicate ext.length none) (z1t (⟨it0,g,ts⟩ :: cs)))) (src.size O) 0 O []=.ok acc O2)
  (hRR:∀ f s',zex X C pins σv H hid μ s.heap.objs.size (s.heap.objs.size + 1) acc O2 s'->RR (.ref s.heap.objs.size) (s.heap.objs.size + 1) (.ok f) s'):
  wpAny (model X.prog X.w) X.A C.new (fun ac s₃=>wpAny (model X.prog X.w) X.A (newFunctionEnv scope X.env.globals (z1L X.env.cells scope.names []) [] X.env.qual none .none (some X.env)) (fun cenv s₄=>
   codeAny (model X.prog X.w) X.A (.compStart (C.ex (⟨tg,iter,ifs,0⟩ :: gs) scope pos) 0 (.ref it) ac { cenv with scope:=relabel scope X.env }) (RR ac cenv.locals) s₄) E s₃) E s:=by
 refine co.new fun ob hfr hob=>?_
 refine z7m ?_
 have hsz:(s.heap.push ob).objs.size=s.heap.objs.size + 1:=Heap.size_push ..
 have hlt:∀ b ∈ fp,b < s.heap.objs.size:=fun b hb=>by
  obtain ⟨o,ho,_⟩:=T.obj 0 _ st b hb
  exact Heap.lt_size ho
 have IB:=zc0 (u:=C.ho X.prog X.w s.heap.objs.size) I hfp hlt hb hfr (fun h=>hob H h _ I.big)
 have nL:H s.heap.objs.size=none:=I.hok.fresh (Nat.le_refl _)
 have hne:∀ b ∈ fp,b ≠ s.heap.objs.size:=fun b hb=>Nat.ne_of_lt (hlt b hb)
 obtain ⟨b1,b2,b3,b4⟩:=blk (cellsFrom (s.heap.objs.size + 2) scope.names (z1L X.env.cells scope.names [])) (s.heap.objs.size + 1)
 generalize hX':cxB X (X.N ++ ext) scope (cellsFrom (s.heap.objs.size + 2) scope.names (z1L X.env.cells scope.names [])) (s.heap.objs.size + 1) s H fp=X' at IB b1 b2 b3 b4
 have eP:X'.prog=X.prog:=by rw [<- hX'];rfl
 have eW:X'.w=X.w:=by rw [<- hX'];rfl
 have eK:X'.K=X.K:=by rw [<- hX'];rfl
 have eA:X'.A=X.A:=by rw [<- hX'];rfl
 have ex:X'.xe=fun _ _=>False:=by rw [<- hX'];rfl
 have ec:X'.calm=true:=by rw [<- hX'];exact hcalm
 have eenv:X'.env={ scope:=relabel scope X.env,locals:=s.heap.objs.size + 1,globals:=X.env.globals,cells:=cellsFrom (s.heap.objs.size + 2) scope.names (z1L X.env.cells scope.names []),qual:=X.env.qual,func:=none,code:=X.env.code,frame:=X.env.frame,builtins:=X.env.builtins }:=by rw [<- hX'];rfl
 have eenv2:({ ({ scope,locals:=(s.heap.push ob).objs.size,globals:=X.env.globals,cells:=cellsFrom ((s.heap.push ob).objs.size + 1) scope.names (z1L X.env.cells scope.names []),qual:=X.env.qual,func:=none,code:=X.env.code,frame:=X.env.frame,builtins:=X.env.builtins }:Env) with scope:=relabel scope X.env }:Env)=X'.env:=by
  rw [eenv,hsz]
 show codeAny _ _ (.compStart _ 0 _ _ ({ ({ scope,locals:=(s.heap.push ob).objs.size,globals:=X.env.globals,cells:=cellsFrom ((s.heap.push ob).objs.size + 1) scope.names (z1L X.env.cells scope.names []),qual:=X.env.qual,func:=none,code:=X.env.code,frame:=X.env.frame,builtins:=X.env.builtins }:Env) with scope:=relabel scope X.env }:Env)) (RR _ (s.heap.push ob).objs.size) _
 rw [eenv2,hsz]
 have mv0:Mv H hid μ (upd H s.heap.objs.size (C.ho X.prog X.w s.heap.objs.size)) (s.heap.objs.size :: hid) μ:=(Mv.hide nL).trans ⟨⟨[],by simp⟩,fun b o h _ n2 _=>by rw [z1q (fun z=>n2 (by simp [z]))];exact h,fun _ m=>.inl m,fun _ m=>.inl m,z27,fun _ t=>t.upd (.inl nL)⟩
 have c2:Cells X.K (upd H s.heap.objs.size (C.ho X.prog X.w s.heap.objs.size)) (s.heap.objs.size :: hid) μ O:=by
  refine ⟨c1.len,c1.nd,fun a m z=>?_,fun a m=>?_,fun k a e=>?_⟩
  ·rcases List.mem_cons.mp z with rfl|z
   ·exact (c1.not_in nL).2 m
   ·exact c1.nh a m z
  ·rcases List.mem_cons.mp m with rfl|m
   ·rw [z1z];simp
   ·exact z27 a (c1.ht a m)
  ·obtain ⟨ds,vs,h1,h2,h3⟩:=c1.at_ k a e
   exact ⟨ds,vs,h1,by rw [z1q (z1r h2 nL)];exact h2,h3.mv mv0⟩
 have e2:EnvOk X.K (upd H s.heap.objs.size (C.ho X.prog X.w s.heap.objs.size)) (s.heap.objs.size :: hid) μ (clr (σ ++ List.replicate ext.length none) (z1t (⟨it0,g,ts⟩ :: cs))) (clr (σv ++ List.replicate ext.length none) (z1t (⟨it0,g,ts⟩ :: cs))):=by
  refine ⟨by rw [z5Q,z5Q,List.length_append,List.length_append,e1.len];simp,fun i d h=>?_⟩
  obtain ⟨g1,g2⟩:=z6H _ _ _ _ h
  have hi:i < σ.length:=by
   by_cases hi:i < σ.length
   ·exact hi
   ·rw [List.getElem?_append_right (by omega),List.getElem?_replicate] at g1
    split at g1 <;> cases g1
  rw [List.getElem?_append_left hi] at g1
  obtain ⟨v,h1,h2⟩:=e1.at_ i d g1
  exact ⟨v,by rw [z8L _ _ _ g2,List.getElem?_append_left (by rw [<- e1.len];exact hi)];exact h1,h2.mv mv0⟩
 have hfp':∀ b ∈ fp,z7e X' [] (upd H s.heap.objs.size (C.ho X.prog X.w s.heap.objs.size)) b:=fun b hbm=>by
  obtain ⟨f0,f1,f2,f3,f4,f5⟩:=hfp b hbm
  have h1:=IB.ok.exf
  refine ⟨by rw [z1q (hne b hbm)];exact f0,?_,?_,.inl ?_,?_,?_⟩
  ·exact (h1 b (by rw [<- hX'];exact hbm)).1
  ·rw [<- hX']
   exact fun z=>IB.ok.exfs b (by rw [<- hX'];exact hbm) (by rw [<- hX'];exact z)
  ·rw [<- hX'];exact hbm
  ·exact (h1 b (by rw [<- hX'];exact hbm)).2
  ·rw [<- hX']
   exact fun p hp=>absurd (show p ∈ ([]:List (Addr × Obj)) from hp) (by simp)
 have st':tn 0 (zdx ob s.heap scope.names):=T.keep _ _ _ st fun b _ o e=>z5E _ _ _ _ _ e
 have T':zbD X'.prog X'.w X'.K tg J fp it tn:=by rw [eP,eW,eK];exact T
 have hZB:∀ (σ1 σ2:St) H1 μ1 H2 μ2,ZB σv ext.length (z1t (⟨it0,g,ts⟩ :: cs)) s.heap.objs.size H σ1 H1 μ1->(∀ j,j ∉ z1t (⟨it0,g,ts⟩ :: cs)->σ2[j]?=σ1[j]?)->Ea s.heap.objs.size H1 μ1 H2 μ2->ZB σv ext.length (z1t (⟨it0,g,ts⟩ :: cs)) s.heap.objs.size H σ2 H2 μ2:=
  fun σ1 σ2 H1 μ1 H2 μ2 ⟨z1,z2,μ0,o,z3,z4⟩ k1 x1=>⟨fun j hj=>(k1 j hj).trans (z1 j hj),z2,μ0,o,z3.trans x1,z4⟩
 have key:=zaP (X:=X') co (A:=s.heap.objs.size) (hid:=hid) (gens:=⟨tg,iter,ifs,0⟩ :: gs) (scope:=scope) (pos:=pos) (em:=em) (k:=0) (c:=⟨it0,g,ts⟩) (cs:=cs) ex ec rfl (by rw [eK];exact b1) b2 hZB (zcd co ex ec (sl:=z1t (⟨it0,g,ts⟩ :: cs)) hZB (b4 _ _) b3 (fun j m=>List.mem_append_right _ m) 1 rfl) (by
   cases b3 with
   | nil=>exact .inl rfl
   | cons _ _ _ _ _=>exact .inr ⟨_,_,_,rfl⟩) T' [] { s with heap:=zdx ob s.heap scope.names } (clr (σv ++ List.replicate ext.length none) (z1t (⟨it0,g,ts⟩ :: cs))) (upd H s.heap.objs.size (C.ho X.prog X.w s.heap.objs.size)) μ (clr (σ ++ List.replicate ext.length none) (z1t (⟨it0,g,ts⟩ :: cs))) O [] (src.size O)
   (fun s'=>zex X C pins σv H hid μ s.heap.objs.size (s.heap.objs.size + 1) acc O2 s') st' hfp' (by rw [eK];exact sa.mv mv0) ⟨fun j hj=>z8L _ _ _ hj,nL,μ,_,.refl,fun a m=>by
    obtain ⟨k,e⟩:=List.getElem?_of_mem m
    obtain ⟨_,vs,_,h2,_⟩:=c1.at_ k a e
    exact ⟨vs,h2⟩⟩ ⟨IB,by rw [eK];exact e2,by rw [eK];exact c2,by rw [eK,eP,eW];exact co.g0⟩ ?_
 ·have key2:=z9i (X:=X') co (gens:=⟨tg,iter,ifs,0⟩ :: gs) (scope:=scope) (pos:=pos) (env:=X'.env) rfl T' 0 st' key
  rw [eP,eW,eA] at key2
  exact codeAny_mono key2 fun r s' ⟨f,hr,q⟩=>by subst hr;exact hRR f s' q
 ·rw [hw]
  intro s' σv' H' μ' I' x' c' g' l' k'
  rw [eK] at c'
  rw [eK,eP,eW] at g'
  have xe:Ext H μ H' μ':=⟨x'.pre,fun b o h n ht=>x'.kept b o (by rw [z1q (z1r h nL)];exact h) n (z1r h nL) ht,fun b m=>(x'.fresh b m).imp id fun z=>by
   by_cases q:b=s.heap.objs.size
   ·rw [q];exact nL
   ·rw [z1q q] at z;exact z,fun b h=>x'.there b (z27 b h),fun P t=>x'.tab P (t.upd (.inl nL))⟩
  have un:Un (frs X.stack) fp H H' s.heap s'.heap:=by
   have:=I'.base
   rw [<- hX'] at this
   exact this
  have os:s'.os=s.os:=by
   have:=I'.os
   rw [<- hX'] at this
   exact this
  have hok:HOk X.prog X.w H' s'.heap:=by
   have:=I'.hok
   rw [eP,eW] at this
   exact this
  have IX:L2.Inv X pins σv H' s':=I.call' os un hok I'.bare fun b hbm=>by
   obtain ⟨f0,f1,f2,f3,f4,f5⟩:=hfp b hbm
   exact ⟨f3,f1,f4,f5⟩
  have big:∀ b,b < s.heap.objs.size->b ≠ s.heap.objs.size + 1:=fun b h=>Nat.ne_of_lt (Nat.lt_succ_of_lt h)
  refine ⟨⟨H',μ',IX,xe,c',nL,?_,g'⟩,?_,?_,?_,fun x c e=>?_,fun p hp=>?_⟩
  ·have:=I'.free
   rw [eenv] at this
   exact this
  ·obtain ⟨m,hn,_⟩:=I'.loc
   rw [eenv] at hn
   exact ⟨m,hn⟩
  ·exact (big _ I.lt).symm
  ·exact Nat.le_trans I.sz (Nat.le_succ _)
  ·obtain ⟨v,z⟩:=I.cell x c e
   exact big _ z.lt
  ·exact big _ (Heap.lt_size (I.pin p hp).1)
end
section
variable {X:Cx} {Ex:Nat->Hp->Prop}
theorem zir {α:Type} {r:R α} {a:α} {O:Ow} (h:noX r=.ok a O):r=.ok a O:=by
 cases r with
 | ok _ _=>exact h
 | exc _ _=>cases h
 | bad=>cases h
theorem zfv {α:Type} {r:R α} {c:Nat} {O:Ow} (h:noX r=.exc c O):False:=by
 cases r <;> cases h
def zbN (C:z9s) (Ex:Nat->Hp->Prop) (K:PySem.W.Frag) (P:Program) (w:World) (H:Hp) (hid μ:List Addr) (r:R (List D)) (Q:Addr->Hp->Prop):Prop:=match r with
 | .ok acc O'=>∀ L H' μ',H L=none->Ext H μ H' μ'->Cells K H' (L :: hid) μ' O'->C.G K P w L hid H' μ' acc->Q L H'
 | .exc c O'=>∀ H' μ',Ext H μ H' μ'->Cells K H' hid μ' O'->Ex c H'
 | .bad=>False
theorem Ext.none {H H':Hp} {μ μ':List Addr} (e:Ext H μ H' μ') {L:Addr} (h:H' L=Option.none):H L=Option.none:=by
 cases q:H L with
 | none=>rfl
 | some o=>exact absurd h (e.there L (by rw [q];simp))
theorem z5p {C:z9s} (co:z5C C) {em:Em} {tg iter:Expr} {ifs:List Expr} {gs:List Comprehension} {scope:Scope} {pos cpos:Pos} {ext:List Str} {it0:DI} {g:Tg} {ts:List DT} {cs:List Cl} {pins:List (Addr × Obj)} {σv:St} {H:Hp} {s:Shared} {hid μ:List Addr} {σ:Sg} {O:Ow}
  {use:Option (Value->Sem Unit)} {Q:Value->Shared->Prop} (hcalm:X.calm=true) (hi:PDI X Ex tg iter it0) (hb:BOk X.env.scope scope (X.N ++ ext) (z1t (⟨it0,g,ts⟩ :: cs)))
  (blk:∀ cells Cn s' H' fp,L2.Inv X pins σv H' s'->(∀ b ∈ fp,z7e X pins H' b)->(∃ μ',Ext H μ H' μ')->PG (cxB X (X.N ++ ext) scope cells Cn s' H' fp) tg (g.rd X.K)/\PySem.Paired (fun e t=>PDT (cxB X (X.N ++ ext) scope cells Cn s' H' fp) Ex0 e t) ifs ts/\ClsOk (cxB X (X.N ++ ext) scope cells Cn s' H' fp) gs cs/\∀ A hid k,(⟨tg,iter,ifs,0⟩ :: gs:List Comprehension)[k]?=none->z57 (cxB X (X.N ++ ext) scope cells Cn s' H' fp) (ZB σv ext.length (z1t (⟨it0,g,ts⟩ :: cs)) A H') C A hid (C.ex (⟨tg,iter,ifs,0⟩ :: gs) scope pos) (⟨tg,iter,ifs,0⟩ :: gs) em k [])
  (hs:∀ x,foldedSetIterable iter X.env x=pure x) (I:L2.Inv X pins σv H s) (e1:EnvOk X.K H hid μ σ σv) (c1:Cells X.K H hid μ O)
  (q:zbN C Ex X.K X.prog X.w H hid μ (z37 ext.length it0 g ts cs em σ O)
   (fun (L:Addr) H'=>∀ s' Cn,L2.Inv X pins σv H' s'->(∃ m,s'.heap.Ns Cn m)->H' Cn=none->Cn ≠ X.env.locals->X.s₀.heap.objs.size <= Cn->(∀ x c,X.env.cells.lookup x=some c->c ≠ Cn)->(∀ p ∈ X.pn ++ pins,p.1 ≠ Cn)->
    compPost (model X.prog X.w) X.A X.xe use Q (.ref L) Cn (.ok .next) s')):
  wpAny (model X.prog X.w) X.A (comprehension (C.ex (⟨tg,iter,ifs,0⟩ :: gs) scope pos) scope X.env cpos C.new false (eval iter X.env) use) Q X.xe s:=by
 have hfree:∀ y ∈ scope.names,y.2=.free->∃ c,X.env.cells.lookup y.1=some c:=fun y hy hf=>by
  obtain ⟨n,k⟩:=y
  subst hf
  exact I.ok.has n (hb.frees _ hy rfl)
 refine wpAny_comprehension_free (g:=⟨tg,iter,ifs,0⟩) (gs:=gs) (co.cl _ _ _) hs (z3p hfree) hb.kind (fun x hx hl=>?_) ?_
 ·obtain ⟨n,k⟩:=x
  subst hl
  exact z21 hb.nd hx
 unfold z37 at q
 cases hit:it0 σ O with
 | bad=>rw [hit] at q;exact False.elim q
 | exc c' O'=>
  rw [hit] at q
  refine thn (hi.out pins s σv H (fun J H1=>False) I ⟨hid,μ,σ,O,e1,c1,by rw [hit];exact q⟩) fun v s1 h1=>thn h1 fun itv s2 h2=>?_
  obtain ⟨it,fp,tn,J,H2,e,I2,T,st2,f2,z⟩:=h2
  exact z.elim
 | ok src O2=>
  rw [hit] at q
  refine thn (hi.out pins s σv H (fun J H1=>∃ μ1,Ext H μ H1 μ1/\Cells X.K H1 hid μ1 O2/\SrcAt X.K J src H1 hid μ1) I ⟨hid,μ,σ,O,e1,c1,by rw [hit];exact fun J H1 μ1 x c sa=>⟨μ1,x,c,sa⟩⟩) fun v s1 h1=>thn h1 fun itv s2 h2=>?_
  obtain ⟨it,fp,tn,J,H2,e,I2,T,st2,f2,μ2,x2,c2,sa⟩:=h2
  subst e
  have p:zbN C Ex X.K X.prog X.w H hid μ (noX (z1M src (z3K ⟨it0,g,ts⟩ cs em (clr (σ ++ List.replicate ext.length none) (z1t (⟨it0,g,ts⟩ :: cs)))) (src.size O2) 0 O2 [])) _:=q
  cases hw:noX (z1M src (z3K ⟨it0,g,ts⟩ cs em (clr (σ ++ List.replicate ext.length none) (z1t (⟨it0,g,ts⟩ :: cs)))) (src.size O2) 0 O2 []) with
  | bad=>rw [hw] at p;exact False.elim p
  | exc c' O'=>exact (zfv hw).elim
  | ok acc O3=>
   rw [hw] at p
   refine zam co (RR:=fun ac Cn=>compPost (model X.prog X.w) X.A X.xe use Q ac Cn) hcalm hb (fun cells Cn=>blk cells Cn _ _ _ I2 f2 ⟨_,x2⟩) I2 (e1.ext x2) c2 T st2 f2 sa (zir hw) fun f s' Bh=>?_
   obtain ⟨H',μ',I',x',c',nL,nC,gv⟩:=Bh.inv
   have:=p (s2.heap.objs.size) H' μ' (x2.none nL) (x2.trans x') c' gv s' (s2.heap.objs.size + 1) I' Bh.ns nC Bh.loc Bh.young Bh.cel Bh.pns
   unfold compPost at this ⊢
   cases use <;> exact this
theorem z6h {K:PySem.W.Frag} {H:Hp} {hid μ:List Addr} {O:Ow} {L:Addr} {vs:List V} {ds:List D} (c:Cells K H (L :: hid) μ O) (n1:L ∉ hid) (h:H L=some (.lst vs)) (q:Dats K H (L :: hid) μ ds vs):Dat K H hid μ (.lst ds) (.ref L):=by
 unfold Dat
 exact ⟨L,vs,rfl,.inl ⟨.inl h,n1,fun m=>c.nh L m (by simp)⟩,q.mv .unhide⟩
mutual
theorem Dat.swap {K:PySem.W.Frag} {H:Hp} {hid μ:List Addr} {L:Addr}:∀ {d:D} {v:V},Dat K H (L :: hid) μ d v->Dat K H hid (μ ++ [L]) d v
 | .non,_,h=>h
 | .bl _,_,h=>h
 | .int _,_,h=>h
 | .str _,_,h=>h
 | .lst ds,v,h=>by
  unfold Dat at h ⊢
  obtain ⟨a,vs,r,l,q⟩:=h
  refine ⟨a,vs,r,l.imp (fun z=>⟨z.1,fun m=>z.2.1 (List.mem_cons_of_mem _ m),fun m=>?_⟩) id,Dats.swap q⟩
  rcases List.mem_append.mp m with m|m
  ·exact z.2.2 m
  ·exact z.2.1 (by simp at m;simp [m])
 | .tup ds,v,h=>by
  unfold Dat at h ⊢
  obtain ⟨a,vs,r,l,q⟩:=h
  refine ⟨a,vs,r,l.imp (fun z=>⟨z.1,fun m=>z.2.1 (List.mem_cons_of_mem _ m),fun m=>?_⟩) id,Dats.swap q⟩
  rcases List.mem_append.mp m with m|m
  ·exact z.2.2 m
  ·exact z.2.1 (by simp at m;simp [m])
 | .own k,v,h=>by
  unfold Dat at h ⊢
  obtain ⟨a,r,q⟩:=h
  exact ⟨a,r,by rw [List.getElem?_append_left (List.getElem?_eq_some_iff.mp q).1];exact q⟩
 | .dct,v,h=>by
  unfold Dat at h ⊢
  obtain ⟨a,r,q,n1,n2⟩:=h
  refine ⟨a,r,q,fun m=>n1 (List.mem_cons_of_mem _ m),fun m=>?_⟩
  rcases List.mem_append.mp m with m|m
  ·exact n2 m
  ·exact n1 (by simp at m;simp [m])
 | .exn C,v,h=>by
  unfold Dat at h ⊢
  obtain ⟨a,φ,r,g,q,n1,n2⟩:=h
  refine ⟨a,φ,r,g,q,fun m=>n1 (List.mem_cons_of_mem _ m),fun m=>?_⟩
  rcases List.mem_append.mp m with m|m
  ·exact n2 m
  ·exact n1 (by simp at m;simp [m])
 | .tab P,v,h=>by
  unfold Dat at h ⊢
  exact h
 | .map ks ds,v,h=>by
  unfold Dat at h ⊢
  obtain ⟨a,vs,r,q,n1,n2,hl,d⟩:=h
  refine ⟨a,vs,r,q,fun m=>n1 (List.mem_cons_of_mem _ m),fun m=>?_,hl,Dats.swap d⟩
  rcases List.mem_append.mp m with m|m
  ·exact n2 m
  ·exact n1 (by simp at m;simp [m])
 | .adr _,_,h=>h
theorem Dats.swap {K:PySem.W.Frag} {H:Hp} {hid μ:List Addr} {L:Addr}:∀ {ds:List D} {vs:List V},Dats K H (L :: hid) μ ds vs->Dats K H hid (μ ++ [L]) ds vs
 | [],_,h=>h
 | d :: ds,vs,h=>by
  unfold Dats at h ⊢
  obtain ⟨v,r,e1,h1,h2⟩:=h
  exact ⟨v,r,e1,Dat.swap h1,Dats.swap h2⟩
end
theorem Cells.swap {K:PySem.W.Frag} {H:Hp} {hid μ:List Addr} {O:Ow} {L:Addr} {vs:List V} {ds:List D} (c:Cells K H (L :: hid) μ O) (n1:L ∉ hid) (h:H L=some (.lst vs)) (q:Dats K H (L :: hid) μ ds vs):Cells K H hid (μ ++ [L]) (O ++ [ds]):=by
 have nm:L ∉ μ:=fun m=>c.nh L m (by simp)
 refine ⟨by simp [c.len],?_,fun a m=>?_,fun a m=>c.ht a (List.mem_cons_of_mem _ m),fun k a e=>?_⟩
 ·rw [List.nodup_append]
  refine ⟨c.nd,by simp,fun a ha b hb=>?_⟩
  have:b=L:=by simpa using hb
  subst this
  rintro rfl
  exact nm ha
 ·rcases List.mem_append.mp m with m|m
  ·exact fun z=>c.nh a m (List.mem_cons_of_mem _ z)
  ·have:a=L:=by simpa using m
   subst this;exact n1
 ·by_cases hk:k < μ.length
  ·rw [List.getElem?_append_left hk] at e
   obtain ⟨ds',vs',h1,h2,h3⟩:=c.at_ k a e
   exact ⟨ds',vs',by rw [List.getElem?_append_left (by rw [<- c.len];exact hk)];exact h1,h2,h3.swap⟩
  ·rw [List.getElem?_append_right (by omega)] at e
   have e0:k - μ.length=0:=by
    have:=(List.getElem?_eq_some_iff.mp e).1
    simp at this;omega
   rw [e0] at e
   simp at e;subst e
   refine ⟨ds,vs,?_,h,q.swap⟩
   have:k=O.length:=by have:=c.len;omega
   subst this;simp
theorem Ext.grow {H H':Hp} {μ μ':List Addr} (e:Ext H μ H' μ') {L:Addr} (h:H L=Option.none):Ext H μ H' (μ' ++ [L]):=by
 obtain ⟨ν,rfl⟩:=e.pre
 refine ⟨⟨ν ++ [L],by simp⟩,e.kept,fun b m=>?_,e.there,e.tab⟩
 rcases List.mem_append.mp m with m|m
 ·exact e.fresh b m
 ·have:b=L:=by simpa using m
  subst this;exact .inr h
def z8l (o:Bool) (r:R (List D)):R D:=r.bnd fun acc O1=>if o=true then .ok (.own O1.length) (O1 ++ [acc]) else .ok (.lst acc) O1
theorem z9H {elt:Expr} {P:Program} {w:World} {K:PySem.W.Frag} {H:Hp} {hid μ:List Addr} {O:Ow} (c1:Cells K H hid μ O) {r:R (List D)} {o:Bool} {Q:VK} (q:z1I Ex K H hid μ (z8l o r) Q) {Q1:Addr->Hp->Prop} (h:∀ L H',Q (.ref L) H'->Q1 L H'):zbN (z8S elt) Ex K P w H hid μ r Q1:=by
 cases r with
 | bad=>exact q
 | exc c' O'=>exact q
 | ok acc O'=>
  intro L H' μ' nL x c ⟨vs,hv,dv⟩
  have n1:L ∉ hid:=fun m=>c1.ht L m nL
  cases o with
  | false=>exact h L H' (post.ok (show z1I Ex K H hid μ (.ok (.lst acc) O') Q from q) x c.unhide (z6h c n1 hv dv))
  | true=>exact h L H' (post.ok (show z1I Ex K H hid μ (.ok (.own O'.length) (O' ++ [acc])) Q from q) (x.grow nL) (c.swap n1 hv dv) (z2d c.len))
theorem zaH {elt:Expr} {P:Program} {w:World} {K:PySem.W.Frag} {H:Hp} {hid μ:List Addr} {O:Ow} (c1:Cells K H hid μ O) {σ:Sg} {σv:St} (e1:EnvOk K H hid μ σ σv) {r:R (List D)} {o:Bool} {i:Nat} {E:za1} (q:postS Ex K H hid μ ((z8l o r).bnS fun d O1=>.nx (σ.set i (some d)) O1) E) {Q1:Addr->Hp->Prop} (h:∀ L H',E.nx (σv.set i (some (.ref L))) H'->Q1 L H'):
  zbN (z8S elt) Ex K P w H hid μ r Q1:=by
 cases r with
 | bad=>exact q
 | exc c' O'=>exact q
 | ok acc O'=>
  intro L H' μ' nL x c ⟨vs,hv,dv⟩
  have n1:L ∉ hid:=fun m=>c1.ht L m nL
  cases o with
  | false=>
   have q:postS Ex K H hid μ (.nx (σ.set i (some (.lst acc))) O') E:=q
   exact h L H' (q _ H' μ' x ((e1.ext x).set (z6h c n1 hv dv) i) c.unhide)
  | true=>
   have q:postS Ex K H hid μ (.nx (σ.set i (some (.own O'.length))) (O' ++ [acc])) E:=q
   exact h L H' (q _ H' (μ' ++ [L]) (x.grow nL) ((e1.ext (x.grow nL)).set (z2d c.len) i) (c.swap n1 hv dv))
theorem zkf {elt tg iter:Expr} {ifs:List Expr} {gs:List Comprehension} {scope:Scope} {pos:Pos} {ext:List Str} {g:Tg} {ts:List DT} {cs:List Cl} {te:DE} {Z:Addr->Hp->St->Hp->List Addr->Prop}
  (blk:∀ cells C s H fp,PG (cxB X (X.N ++ ext) scope cells C s H fp) tg (g.rd X.K)/\PySem.Paired (fun e t=>PDT (cxB X (X.N ++ ext) scope cells C s H fp) Ex0 e t) ifs ts/\ClsOk (cxB X (X.N ++ ext) scope cells C s H fp) gs cs/\PD (cxB X (X.N ++ ext) scope cells C s H fp) Ex0 elt te) (cells Cn s H fp):
  PG (cxB X (X.N ++ ext) scope cells Cn s H fp) tg (g.rd X.K)/\PySem.Paired (fun e t=>PDT (cxB X (X.N ++ ext) scope cells Cn s H fp) Ex0 e t) ifs ts/\ClsOk (cxB X (X.N ++ ext) scope cells Cn s H fp) gs cs/\∀ A hid k,(⟨tg,iter,ifs,0⟩ :: gs:List Comprehension)[k]?=none->z57 (cxB X (X.N ++ ext) scope cells Cn s H fp) (Z A H) (z8S elt) A hid ((z8S elt).ex (⟨tg,iter,ifs,0⟩ :: gs) scope pos) (⟨tg,iter,ifs,0⟩ :: gs) (emL te) k []:=
 let ⟨h1,h2,h3,h4⟩:=blk cells Cn s H fp
 ⟨h1,h2,h3,fun _ _ _ hk=>z9O rfl h4.z hk⟩
def z1R (o:Bool) (ext:Nat) (it0:DI) (g:Tg) (ts:List DT) (cs:List Cl) (te:DE):DE:=fun σ O=>z8l o (z3r ext it0 g ts cs te σ O)
theorem zgZ {elt tg iter:Expr} {ifs:List Expr} {gs:List Comprehension} {scope:Scope} {pos:Pos} (o:Bool) (ext:List Str) {it0:DI} {g:Tg} {ts:List DT} {cs:List Cl} {te:DE} (hcalm:X.calm=true) (hi:PDI X Ex tg iter it0) (hb:BOk X.env.scope scope (X.N ++ ext) (z1t (⟨it0,g,ts⟩ :: cs)))
  (blk:∀ cells C s H fp,PG (cxB X (X.N ++ ext) scope cells C s H fp) tg (g.rd X.K)/\PySem.Paired (fun e t=>PDT (cxB X (X.N ++ ext) scope cells C s H fp) Ex0 e t) ifs ts/\ClsOk (cxB X (X.N ++ ext) scope cells C s H fp) gs cs/\PD (cxB X (X.N ++ ext) scope cells C s H fp) Ex0 elt te)
  (hs:∀ x,foldedSetIterable iter X.env x=pure x:=by intro _;rfl):PD X Ex (.ListComp elt (⟨tg,iter,ifs,0⟩ :: gs) scope pos) (z1R o ext.length it0 g ts cs te):=by
 refine ⟨?_⟩
 rintro pins s σv H Q I ⟨hid,μ,σ,O,e1,c1,q⟩
 rw [eval_ListComp]
 unfold z1R at q
 rw [<- z4R] at q
 refine z5p (z74 elt) (use:=none) hcalm hi hb (fun cells Cn s H fp _ _ _=>zkf blk cells Cn s H fp) hs I e1 c1 (z9H c1 q fun L H' hQ s' C I' ns nC l1 y1 ce pn=>?_)
 obtain ⟨m,hn⟩:=ns
 exact ⟨m,hn,fun h' hs'=>⟨.ref L,H',Inv.bare I' hs' nC l1 y1 ce pn,rfl,hQ⟩⟩
theorem z8y {elt tg iter:Expr} {ifs:List Expr} {gs:List Comprehension} {scope:Scope} {pos spos py:Pos} {y:Str} {i:Nat} (o:Bool) (ext:List Str) {it0:DI} {g:Tg} {ts:List DT} {cs:List Cl} {te:DE} (hcalm:X.calm=true) (hN:X.N.Nodup) (hiy:X.N[i]?=some y) (hy:X.env.scope.names.lookup y=some .local)
  (hi:PDI X Ex tg iter it0) (hb:BOk X.env.scope scope (X.N ++ ext) (z1t (⟨it0,g,ts⟩ :: cs)))
  (blk:∀ cells C s H fp,PG (cxB X (X.N ++ ext) scope cells C s H fp) tg (g.rd X.K)/\PySem.Paired (fun e t=>PDT (cxB X (X.N ++ ext) scope cells C s H fp) Ex0 e t) ifs ts/\ClsOk (cxB X (X.N ++ ext) scope cells C s H fp) gs cs/\PD (cxB X (X.N ++ ext) scope cells C s H fp) Ex0 elt te)
  (hsw:swapsWith (.ListComp elt (⟨tg,iter,ifs,0⟩ :: gs) scope pos) (some (.Name y py)) spos.line X.env=pure true)
  (hs:∀ x,foldedSetIterable iter X.env x=pure x:=by intro _;rfl):PDS X Ex (.Assign [.Name y py] (.ListComp elt (⟨tg,iter,ifs,0⟩ :: gs) scope pos) spos) (z2U i (z1R o ext.length it0 g ts cs te)):=by
 refine ⟨?_⟩
 rintro pins s σv H E I ⟨hid,μ,σ,O,e1,c1,q⟩
 rw [exec_Assign_Name_used _ _ _ _ hsw]
 refine wpAny_bind (wpAny_standAt (wpAny_bind ?_))
 show wpAny _ X.A (do let _ <- comprehension (.ListComp elt (⟨tg,iter,ifs,0⟩ :: gs) scope pos) scope X.env _ (newList []) false (eval iter X.env) (some (assign (.Name y py) X.env))) _ _ s
 have q:postS Ex X.K H hid μ ((z8l o (z3r ext.length it0 g ts cs te σ O)).bnS fun d O1=>.nx (σ.set i (some d)) O1) E:=q
 rw [<- z4R] at q
 refine wpAny_bind (wpAny_mono (z5p (z74 elt) (use:=some (assign (.Name y py) X.env)) (Q:=fun _ s'=>SP X pins E .next s') hcalm hi hb (fun cells Cn s H fp _ _ _=>zkf blk cells Cn s H fp) hs I e1 c1 (zaH c1 e1 q fun L H' hQ s' C I' ns nC l1 y1 ce pn=>?_)) (fun _ s' hq=>wpAny_pure (wpAny_pure hq)) fun _ _ e=>e)
 obtain ⟨m,hn⟩:=ns
 show wpAny _ _ (assign (.Name y py) X.env (.ref L)) _ _ s'
 refine wpAny_assign_Name (z7g (v:=.ref L) I' hN hiy (.inl hy) rfl (fun s'' I'' hsame=>?_) (.inr hy))
 obtain ⟨a,hsb,ha⟩:=hsame
 have hCa:C ≠ a:=by
  rcases ha with z|z
  ·rw [z];exact l1
  ·exact fun e=>ce y a z e.symm
 refine ⟨m,hn.sameBut hsb hCa,fun h' hs'=>?_⟩
 exact ⟨_,H',Inv.bare I'' hs' nC l1 y1 ce pn,hQ⟩
end
def z2l {α β:Type} (f:α->Option β):List α->Option (List β)
 | []=>some []
 | x :: xs=>match f x,z2l f xs with
  | some p,some ps=>some (p :: ps)
  | _,_=>none
def zar (cs:List Nat):Option PyData:=if cs.all (· < 1114112)=true then some (.str ⟨cs.toArray⟩) else none
def z31 (O:Ow):Nat->D->Option PyData
 | 0,d=>match d with
  | .non=>some .none
  | .bl b=>some (.bool b)
  | .int i=>some (.int i)
  | .str cs=>zar cs
  | _=>none
 | n + 1,d=>match d with
  | .non=>some .none
  | .bl b=>some (.bool b)
  | .int i=>some (.int i)
  | .str cs=>zar cs
  | .lst ds=>(z2l (z31 O n) ds).map .list
  | .tup ds=>(z2l (z31 O n) ds).map .tuple
  | .own k=>match O[k]? with
   | some ds=>(z2l (z31 O n) ds).map .list
   | none=>none
  | .dct=>none
  | .exn _=>none
  | .tab _=>none
  | .map _ _=>none
  | .adr _=>none
section
variable {X:Cx} {pins:List (Addr × Obj)} {σv:St} {H:Hp} {s:Shared} {hid μ:List Addr} {O:Ow}
theorem z3l {n:Nat} (I:L2.Inv X pins σv H s) (ih:∀ (d:D) (v:V) (u:Value) (p:PyData),Dat X.K H hid μ d v->RelV v u->z31 O n d=some p->∃ as,Reads s.heap u p as/\p.canLay0=true/\p.depth <= n):
  ∀ (ds:List D) (vs:List V) (us:List Value) (ps:List PyData),Dats X.K H hid μ ds vs->Vals vs us->z2l (z31 O n) ds=some ps->∃ as,ReadsAll s.heap us ps as/\PyData.canLayAll0 ps=true/\PyData.depthAll ps <= n
 | [],vs,us,ps,h,r,e=>by
  unfold Dats at h;subst h
  cases r
  cases e
  exact ⟨[],.nil,rfl,Nat.zero_le _⟩
 | d :: ds,vs,us,ps,h,r,e=>by
  unfold Dats at h
  obtain ⟨v,t,rfl,h1,h2⟩:=h
  cases r with
  | cons r1 r2=>
   unfold z2l at e
   split at e
   ·rename_i p ps' e1 e2
    cases e
    obtain ⟨as,q1,q2,q3⟩:=ih d v _ p h1 r1 e1
    obtain ⟨bs,z1,z2,z3⟩:=z3l I ih ds t _ ps' h2 r2 e2
    refine ⟨as ++ bs,.cons q1 z1,?_,?_⟩
    ·unfold PyData.canLayAll0;rw [q2,z2];rfl
    ·unfold PyData.depthAll;exact Nat.max_le.mpr ⟨q3,z3⟩
   ·cases e
theorem z6s {n:Nat} {cs:List Nat} {t:Tok} {p:PyData} (e:zar cs=some p):∃ as,Reads s.heap (.str ⟨cs.toArray⟩ t) p as/\p.canLay0=true/\p.depth <= n:=by
 unfold zar at e
 split at e
 ·rename_i hc
  cases e
  exact ⟨[],.str _ _,by unfold PyData.canLay0 PyData.strOk;simpa using hc,Nat.zero_le _⟩
 ·cases e
theorem z2q (I:L2.Inv X pins σv H s) (c:Cells X.K H hid μ O):∀ (n:Nat) (d:D) (v:V) (u:Value) (p:PyData),Dat X.K H hid μ d v->RelV v u->z31 O n d=some p->∃ as,Reads s.heap u p as/\p.canLay0=true/\p.depth <= n:=by
 intro n
 induction n with
 | zero=>
  intro d v u p h r e
  cases d with
  | non=>unfold Dat at h;subst h;cases r;cases e;exact ⟨[],.none,rfl,Nat.zero_le _⟩
  | bl b=>unfold Dat at h;subst h;cases r;cases e;exact ⟨[],.bool _,rfl,Nat.zero_le _⟩
  | int b=>unfold Dat at h;subst h;obtain ⟨t,rfl⟩:=r;cases e;exact ⟨[],.int _ _,rfl,Nat.zero_le _⟩
  | str cs=>
   unfold Dat at h;subst h;obtain ⟨t,rfl⟩:=r
   exact z6s (show zar cs=some p from e)
  | _=>cases e
 | succ n ih=>
  intro d v u p h r e
  cases d with
  | non=>unfold Dat at h;subst h;cases r;cases e;exact ⟨[],.none,rfl,Nat.zero_le _⟩
  | bl b=>unfold Dat at h;subst h;cases r;cases e;exact ⟨[],.bool _,rfl,Nat.zero_le _⟩
  | int b=>unfold Dat at h;subst h;obtain ⟨t,rfl⟩:=r;cases e;exact ⟨[],.int _ _,rfl,Nat.zero_le _⟩
  | str cs=>
   unfold Dat at h;subst h;obtain ⟨t,rfl⟩:=r
   exact z6s (show zar cs=some p from e)
  | lst ds=>
   unfold Dat at h
   obtain ⟨a,vs,rfl,l,q⟩:=h
   cases r
   have e:(z2l (z31 O n) ds).map PyData.list=some p:=e
   cases e1:z2l (z31 O n) ds with
   | none=>rw [e1] at e;cases e
   | some ps=>
    rw [e1] at e;cases e
    obtain ⟨its,rv,⟨o,k,ho,hc,hd,hdt⟩,hz⟩:=I.list l.sq
    obtain ⟨as,z1,z2,z3⟩:=z3l I ih ds vs its ps q rv e1
    exact ⟨_,.list ho hc hdt (by simpa using z1),by unfold PyData.canLay0;exact z2,by unfold PyData.depth;omega⟩
  | tup ds=>
   unfold Dat at h
   obtain ⟨a,vs,rfl,l,q⟩:=h
   cases r
   have e:(z2l (z31 O n) ds).map PyData.tuple=some p:=e
   cases e1:z2l (z31 O n) ds with
   | none=>rw [e1] at e;cases e
   | some ps=>
    rw [e1] at e;cases e
    obtain ⟨its,rv,⟨o,ho,hc,k,hdt⟩,hz⟩:=I.tuple l.sq
    obtain ⟨as,z1,z2,z3⟩:=z3l I ih ds vs its ps q rv e1
    exact ⟨_,.tuple ho hc hdt (by simpa using z1),by unfold PyData.canLay0;exact z2,by unfold PyData.depth;omega⟩
  | own k=>
   unfold Dat at h
   obtain ⟨a,rfl,hk⟩:=h
   cases r
   obtain ⟨ds,vs,h1,h2,h3⟩:=c.at_ k a hk
   have e:(match O[k]? with|some ds=>(z2l (z31 O n) ds).map PyData.list|none=>none)=some p:=e
   rw [h1] at e
   cases e1:z2l (z31 O n) ds with
   | none=>simp only [e1] at e;cases e
   | some ps=>
    simp only [e1] at e;cases e
    obtain ⟨its,rv,⟨o,k',ho,hc,hd,hdt⟩,hz⟩:=I.list (.of h2)
    obtain ⟨as,z1,z2,z3⟩:=z3l I ih ds vs its ps h3 rv e1
    exact ⟨_,.list ho hc hdt (by simpa using z1),by unfold PyData.canLay0;exact z2,by unfold PyData.depth;omega⟩
  | dct=>cases e
  | exn _=>cases e
  | tab _=>cases e
  | map _ _=>cases e
  | adr _=>cases e
end
def py (O:Ow) (d:D):Option PyData:=z31 O 8 d
def rPy (K:PySem.W.Frag) (f:PyData->PyData->Option Bool):R2:=fun v w H Q=>∃ hid μ O x y a b k,Cells K H hid μ O/\Dat K H hid μ x v/\Dat K H hid μ y w/\py O x=some a/\py O y=some b/\f a b=some k/\Q (.bl k) H
def fPy (f:PyData->PyData->Option Bool):Ow->D->D->R D:=fun O x y=>match py O x,py O y with
 | some a,some b=>match f a b with
  | some k=>.ok (.bl k) O
  | none=>.bad
 | _,_=>.bad
section
variable {X:Cx} {Ex:Nat->Hp->Prop}
theorem z53 {f:PyData->PyData->Option Bool}:OpD X Ex (rPy X.K f) (fPy f):=by
 intro H hid μ O x y v w Q c dx dy q
 unfold fPy at q
 split at q
 ·rename_i a b e1 e2
  split at q
  ·rename_i k e3
   exact ⟨hid,μ,O,x,y,a,b,k,c,dx,dy,e1,e2,e3,post.here q c z2r⟩
  ·exact False.elim q
 ·exact False.elim q
def eqF:PyData->PyData->Option Bool:=fun a b=>some (PyData.eqv a b)
def neF:PyData->PyData->Option Bool:=fun a b=>some (!PyData.eqv a b)
def inF:PyData->PyData->Option Bool:=fun a b=>match b with
 | .list xs=>some (xs.any fun y=>PyData.eqv y a)
 | .tuple xs=>some (xs.any fun y=>PyData.eqv y a)
 | _=>none
def zh3:PyData->PyData->Option Bool:=fun a b=>match b with
 | .list xs=>some (!xs.any fun y=>PyData.eqv y a)
 | .tuple xs=>some (!xs.any fun y=>PyData.eqv y a)
 | _=>none
theorem z7c {p:PyData} (h1:p.canLay0=true) (h2:p.depth <= 8):SeqAt.shaped p=true:=by
 unfold SeqAt.shaped
 rw [h1,decide_eq_true (show p.depth <= 64 by omega)];rfl
theorem z94 (hu:X.A.units + 64 < cLine):OpR X (compareOp .Eq) (rPy X.K eqF):=by
 intro pins s σ H x y v u Q I rx ry h
 obtain ⟨hid,μ,O,dx,dy,a,b,k,c,h1,h2,e1,e2,e3,q⟩:=h
 obtain ⟨as,z1,z2,z3⟩:=z2q I c 8 dx x v a h1 rx e1
 obtain ⟨bs,y1,y2,y3⟩:=z2q I c 8 dy y u b h2 ry e2
 cases e3
 exact PyProof.Rows.eq_dataH z1 y1 (z7c z2 z3) (z7c y2 y3) hu ⟨.bl _,H,I,rfl,q⟩
theorem z95 (hu:X.A.units + 64 < cLine):OpR X (compareOp .NotEq) (rPy X.K neF):=by
 intro pins s σ H x y v u Q I rx ry h
 obtain ⟨hid,μ,O,dx,dy,a,b,k,c,h1,h2,e1,e2,e3,q⟩:=h
 obtain ⟨as,z1,z2,z3⟩:=z2q I c 8 dx x v a h1 rx e1
 obtain ⟨bs,y1,y2,y3⟩:=z2q I c 8 dy y u b h2 ry e2
 cases e3
 exact PyProof.Rows.ne_dataH z1 y1 (z7c z2 z3) (z7c y2 y3) hu ⟨.bl _,H,I,rfl,q⟩
theorem zdG {A:Around} {n m:Nat} (h:m <= 8) (hu:A.units + 64 < cLine):A.units + 1 + min n m < cLine:=by
 have:=Nat.min_le_right n m
 omega
theorem zfN (hu:X.A.units + 64 < cLine):OpR X (compareOp .In) (rPy X.K inF):=by
 intro pins s σ H x y v u Q I rx ry h
 obtain ⟨hid,μ,O,dx,dy,a,b,k,c,h1,h2,e1,e2,e3,q⟩:=h
 obtain ⟨as,z1,z2,z3⟩:=z2q I c 8 dx x v a h1 rx e1
 obtain ⟨bs,y1,y2,y3⟩:=z2q I c 8 dy y u b h2 ry e2
 cases b with
 | list xs=>cases e3;exact SeqAt.in_list_reads y1 z1 y2 z2 (zdG z3 hu) ⟨.bl _,H,I,rfl,q⟩
 | tuple xs=>cases e3;exact SeqAt.in_tuple_reads y1 z1 y2 z2 (zdG z3 hu) ⟨.bl _,H,I,rfl,q⟩
 | _=>cases e3
theorem zd1 (hu:X.A.units + 64 < cLine):OpR X (compareOp .NotIn) (rPy X.K zh3):=by
 intro pins s σ H x y v u Q I rx ry h
 obtain ⟨hid,μ,O,dx,dy,a,b,k,c,h1,h2,e1,e2,e3,q⟩:=h
 obtain ⟨as,z1,z2,z3⟩:=z2q I c 8 dx x v a h1 rx e1
 obtain ⟨bs,y1,y2,y3⟩:=z2q I c 8 dy y u b h2 ry e2
 cases b with
 | list xs=>cases e3;exact SeqAt.notIn_list_reads y1 z1 y2 z2 (zdG z3 hu) ⟨.bl _,H,I,rfl,q⟩
 | tuple xs=>cases e3;exact SeqAt.notIn_tuple_reads y1 z1 y2 z2 (zdG z3 hu) ⟨.bl _,H,I,rfl,q⟩
 | _=>cases e3
end
end DL
namespace DL
open PySem L2
section
variable {e:Expr}
def lsV (O:Ow):D->Option (List D)
 | .lst ds=>some ds
 | .own k=>O[k]?
 | _=>none
def tpV:D->Option (List D)
 | .tup ds=>some ds
 | _=>none
theorem z35 {K:PySem.W.Frag} {H:Hp} {hid μ:List Addr} {O:Ow} {d:D} {v:V} {ds:List D} (cl:Cells K H hid μ O) (h:Dat K H hid μ d v) (e:lsV O d=some ds):∃ p vs,v=.ref p/\SqL K H p vs/\Dats K H hid μ ds vs:=by
 cases d with
 | lst xs=>
  unfold Dat at h
  obtain ⟨p,vs,rfl,l,q⟩:=h
  cases e
  exact ⟨p,vs,rfl,l.sq,q⟩
 | own k=>
  unfold Dat at h
  obtain ⟨p,rfl,hk⟩:=h
  obtain ⟨ds',vs,h1,h2,h3⟩:=cl.at_ k p hk
  have e:O[k]?=some ds:=e
  rw [h1] at e;cases e
  exact ⟨p,vs,rfl,.of h2,h3⟩
 | _=>cases e
theorem z6k {K:PySem.W.Frag} {H:Hp} {hid μ:List Addr} {d:D} {v:V} {ds:List D} (h:Dat K H hid μ d v) (e:tpV d=some ds):∃ p vs,v=.ref p/\SqT K H p vs/\Dats K H hid μ ds vs:=by
 cases d with
 | tup xs=>
  unfold Dat at h
  obtain ⟨p,vs,rfl,l,q⟩:=h
  cases e
  exact ⟨p,vs,rfl,l.sq,q⟩
 | _=>cases e
def zkq:Ow->D->D->R D:=fun O x y=>match x,y with
 | .str s,.str t=>if s.length + t.length <= 100000 then .ok (.str (s ++ t)) O else .bad
 | _,_=>.bad
end
theorem z9w {K:PySem.W.Frag} {H:Hp} {hid μ:List Addr} {ds:List D} {vs:List V} (h:Dats K H hid μ ds vs) {i:Int} {d:D} (e:atI ds i=some d):∃ v,atI vs i=some v/\Dat K H hid μ d v:=by
 unfold atI at e ⊢
 rw [<- h.length]
 cases q:ixN ds.length i with
 | none=>rw [q] at e;cases e
 | some j=>rw [q] at e;exact h.get e
def fIx:Ow->D->D->R D:=fun O x y=>match y with
 | .int i=>match lsV O x with
  | some ds=>match atI ds i with
   | some d=>.ok d O
   | none=>.bad
  | none=>match tpV x with
   | some ds=>match atI ds i with
    | some d=>.ok d O
    | none=>.bad
   | none=>match x with
    | .str cs=>if cs.length <= 100000 then match atI cs i with
      | some ch=>.ok (.str [ch]) O
      | none=>.bad
     else .bad
    | _=>.bad
 | _=>.bad
section
variable {X:Cx} {Ex:Nat->Hp->Prop} {pos:Pos} {a b c e:Expr} {ta tb:DE}
theorem ziJ:OpD X Ex (rIx X.K) fIx:=by
 intro H hid μ O x y v w Q c dx dy q
 unfold fIx at q
 split at q
 ·rename_i i
  unfold Dat at dy;subst dy
  split at q
  ·rename_i ds e
   obtain ⟨p,vs,rfl,sq,dd⟩:=z35 c dx e
   split at q
   ·rename_i d ed
    obtain ⟨z,h1,h2⟩:=z9w dd ed
    exact .inl ⟨p,vs,i,z,rfl,rfl,sq,h1,post.here q c h2⟩
   ·exact False.elim q
  ·split at q
   ·rename_i ds e
    obtain ⟨p,vs,rfl,sq,dd⟩:=z6k dx e
    split at q
    ·rename_i d ed
     obtain ⟨z,h1,h2⟩:=z9w dd ed
     exact .inr (.inl ⟨p,vs,i,z,rfl,rfl,sq,h1,post.here q c h2⟩)
    ·exact False.elim q
   ·split at q
    ·rename_i cs _ _
     unfold Dat at dx;subst dx
     obtain ⟨hl,q⟩:=post.ite q
     split at q
     ·rename_i ch ed
      refine .inr (.inr ⟨_,i,ch,rfl,rfl,?_,?_,post.here q c z8X⟩)
      ·show cs.toArray.size <= _
       rw [List.size_toArray];exact z1O hl
      ·simpa using ed
     ·exact False.elim q
    ·exact False.elim q
 ·exact False.elim q
theorem zjj (ha:PD X Ex a ta) (hb:PD X Ex b tb) (hs:zck b):PD X Ex (.Subscript a b pos) (dOp fIx ta tb):=z2a (zjN ziK ha.out hb.out hs) (z9k ziJ)
def z1B (f:Ow->List D->R D) (t:DA):DE:=fun σ O=>(t σ O).bnd fun xs O1=>f O1 xs
def z4W (X:Cx) (Ex:Nat->Hp->Prop) (r:List V->Hp->VK->Prop) (f:Ow->List D->R D):Prop:=∀ (H:Hp) (hid μ:List Addr) (O:Ow) (xs:List D) (vs:List V) (Q:VK),Cells X.K H hid μ O->Dats X.K H hid μ xs vs->z1I Ex X.K H hid μ (f O xs) Q->r vs H Q
theorem zeE {r:List V->Hp->VK->Prop} {f:Ow->List D->R D} {t:DA} (h:z4W X Ex r f) (hid μ:List Addr) (σ:Sg) (O:Ow) (σv:St) (H:Hp) (Q:VK) (e1:EnvOk X.K H hid μ σ σv) (c1:Cells X.K H hid μ O) (q:z1I Ex X.K H hid μ (z1B f t σ O) Q):tCB r (rdA Ex X.K t) σv H Q:=
 rdA.go e1 c1 q fun xs O1 vs H1 μ1 e2 x c d p=>h H1 hid μ1 O1 xs vs Q c d p
theorem z4i {x:Str} {id:String} {p:Pos} {es:List Expr} {r:List V->Hp->VK->Prop} {f:Ow->List D->R D} {t:DA} (hc:CallR X (.builtin id) r) (h:z4W X Ex r f) (hg:Gl X x) (hm:X.mg x=none) (hv:bootBuiltins x=some (.builtin id)) (ha:PDA X Ex (e :: es) t)
  (hn:x ≠ "__name__":=by decide) (hdb:(x == ("__debug__":Str))=false:=by decide) (he:starEach (e :: es) X.env=(false,eval e X.env) :: starEach es X.env:=by rfl) (hpl:(backTo pos (starEach es X.env)).any (·.1)=false:=by rfl):
  PD X Ex (.Call (.Name x p) (e :: es) [] pos) (z1B f t):=z2a (z3t hc hg hm hv ha.out hn hdb he hpl) (zeE h)
theorem z4C {x:Str} {T:String} {p:Pos} {es:List Expr} {r:List V->Hp->VK->Prop} {f:Ow->List D->R D} {t:DA} (hc:CallR X (.type T) r) (h:z4W X Ex r f) (hg:Gl X x) (hm:X.mg x=none) (hv:bootBuiltins x=some (.type T)) (ha:PDA X Ex (e :: es) t)
  (hn:x ≠ "__name__":=by decide) (hdb:(x == ("__debug__":Str))=false:=by decide) (he:starEach (e :: es) X.env=(false,eval e X.env) :: starEach es X.env:=by rfl) (hpl:(backTo pos (starEach es X.env)).any (·.1)=false:=by rfl):
  PD X Ex (.Call (.Name x p) (e :: es) [] pos) (z1B f t):=z2a (z7D hc hg hm hv ha.out hn hdb he hpl) (zeE h)
def z3W:Ow->List D->R D:=fun O xs=>match xs with
 | [x]=>match lsV O x with
  | some ds=>.ok (.int ds.length) O
  | none=>match tpV x with
   | some ds=>.ok (.int ds.length) O
   | none=>match x with
    | .str cs=>if cs.length <= 100000 then .ok (.int cs.length) O else .bad
    | _=>.bad
 | _=>.bad
theorem zhE:z4W X Ex (fun xs H Q=>∃ x n,xs=[x]/\zkh X.K x H n/\Q (.int n) H) z3W:=by
 intro H hid μ O xs vs Q c d q
 unfold z3W at q
 split at q
 ·rename_i x
  obtain ⟨v,rfl,dx⟩:=z42 d
  split at q
  ·rename_i ds e
   obtain ⟨p,ws,rfl,sq,dd⟩:=z35 c dx e
   exact ⟨_,ds.length,rfl,.inl ⟨ws,sq,dd.length⟩,post.here q c z1T⟩
  ·split at q
   ·rename_i ds e
    obtain ⟨p,ws,rfl,sq,dd⟩:=z6k dx e
    exact ⟨_,ds.length,rfl,.inr ⟨ws,sq,dd.length⟩,post.here q c z1T⟩
   ·split at q
    ·rename_i cs _ _
     unfold Dat at dx;subst dx
     obtain ⟨hl,q⟩:=post.ite q
     refine ⟨_,cs.length,rfl,⟨?_,?_⟩,post.here q c z1T⟩
     ·show cs.toArray.size <= _
      rw [List.size_toArray];exact z1O hl
     ·show cs.length=cs.toArray.size
      rw [List.size_toArray]
    ·exact False.elim q
 ·exact False.elim q
def zjg:Ow->List D->R D:=fun O xs=>match xs with
 | [.int i]=>.ok (.int i) O
 | [.bl k]=>.ok (.int (if k then 1 else 0)) O
 | _=>.bad
theorem ziq:z4W X Ex (fun xs H Q=>(∃ i,xs=[.int i]/\Q (.int i) H) \/ ∃ k,xs=[.bl k]/\Q (.int (if k then 1 else 0)) H) zjg:=by
 intro H hid μ O xs vs Q c d q
 unfold zjg at q
 split at q
 ·obtain ⟨v,rfl,dx⟩:=z42 d
  unfold Dat at dx;subst dx
  exact .inl ⟨_,rfl,post.here q c z1T⟩
 ·obtain ⟨v,rfl,dx⟩:=z42 d
  unfold Dat at dx;subst dx
  exact .inr ⟨_,rfl,post.here q c z1T⟩
 ·exact False.elim q
def z36:Ow->List D->R D:=fun O xs=>match xs with
 | [x]=>match lsV O x with
  | some ds=>.ok (.tup ds) O
  | none=>match tpV x with
   | some ds=>.ok (.tup ds) O
   | none=>.bad
 | _=>.bad
theorem zdt:z4W X Ex (fun xs H Q=>∃ p ys,xs=[.ref p]/\((SqL X.K H p ys/\∀ l,H l=none->Q (.ref l) (upd H l (.tup ys))) \/ (SqT X.K H p ys/\Q (.ref p) H))) z36:=by
 intro H hid μ O xs vs Q c d q
 unfold z36 at q
 split at q
 ·rename_i x
  obtain ⟨v,rfl,dx⟩:=z42 d
  split at q
  ·rename_i ds e
   obtain ⟨p,ws,rfl,sq,dd⟩:=z35 c dx e
   exact ⟨p,ws,rfl,.inl ⟨sq,fun l hl=>post.ok q (.laid hl) (c.laid hl) (Dat.newT c hl dd)⟩⟩
  ·split at q
   ·rename_i ds e
    obtain ⟨p,ws,rfl,sq,dd⟩:=z6k dx e
    refine ⟨p,ws,rfl,.inr ⟨sq,post.here q c ?_⟩⟩
    cases x with
    | tup ys=>cases e;exact dx
    | _=>cases e
   ·exact False.elim q
 ·exact False.elim q
def zal (o:Bool):Ow->List D->R D:=fun O xs=>match xs with
 | [x]=>match (match lsV O x with|some ds=>some ds|none=>tpV x) with
  | some ds=>if o=true then .ok (.own O.length) (O ++ [ds]) else .ok (.lst ds) O
  | none=>.bad
 | _=>.bad
theorem zf1 (o:Bool):z4W X Ex (fun xs H Q=>∃ p ys,xs=[.ref p]/\(SqL X.K H p ys \/ SqT X.K H p ys)/\∀ l,H l=none->Q (.ref l) (upd H l (.lst ys))) (zal o):=by
 intro H hid μ O xs vs Q c d q
 unfold zal at q
 split at q
 ·rename_i x
  obtain ⟨v,rfl,dx⟩:=z42 d
  split at q
  ·rename_i ds e
   have h:∃ p ws,v=.ref p/\(SqL X.K H p ws \/ SqT X.K H p ws)/\Dats X.K H hid μ ds ws:=by
    cases e1:lsV O x with
    | some es=>
     rw [e1] at e;cases e
     obtain ⟨p,ws,h1,sq,dd⟩:=z35 c dx e1
     exact ⟨p,ws,h1,.inl sq,dd⟩
    | none=>
     rw [e1] at e
     obtain ⟨p,ws,h1,sq,dd⟩:=z6k dx e
     exact ⟨p,ws,h1,.inr sq,dd⟩
   obtain ⟨p,ws,rfl,sq,dd⟩:=h
   refine ⟨p,ws,rfl,sq,fun l hl=>?_⟩
   cases o with
   | true=>exact post.ok (show z1I Ex X.K H hid μ (.ok (.own O.length) (O ++ [ds])) Q from q) (.cell hl) (c.cell hl dd) (z2d c.len)
   | false=>exact post.ok (show z1I Ex X.K H hid μ (.ok (.lst ds) O) Q from q) (.laid hl) (c.laid hl) (Dat.newL c hl dd)
  ·exact False.elim q
 ·exact False.elim q
def za5:Ow->List D->R D:=fun O xs=>match xs with
 | [.int i,.int j]=>.ok (.int (if j > i then j else i)) O
 | _=>.bad
def zan:Ow->List D->R D:=fun O xs=>match xs with
 | [.int i,.int j]=>.ok (.int (if j < i then j else i)) O
 | _=>.bad
theorem zfm:z4W X Ex (fun xs H Q=>∃ i j,xs=[.int i,.int j]/\Q (.int (if j > i then j else i)) H) za5:=by
 intro H hid μ O xs vs Q c d q
 unfold za5 at q
 split at q
 ·obtain ⟨v,w,rfl,d1,d2⟩:=zaB d
  unfold Dat at d1 d2;subst d1;subst d2
  exact ⟨_,_,rfl,post.here q c z1T⟩
 ·exact False.elim q
theorem zgD:z4W X Ex (fun xs H Q=>∃ i j,xs=[.int i,.int j]/\Q (.int (if j < i then j else i)) H) zan:=by
 intro H hid μ O xs vs Q c d q
 unfold zan at q
 split at q
 ·obtain ⟨v,w,rfl,d1,d2⟩:=zaB d
  unfold Dat at d1 d2;subst d1;subst d2
  exact ⟨_,_,rfl,post.here q c z1T⟩
 ·exact False.elim q
end
def DSp (K:PySem.W.Frag) (Ec:XK->Nat->Hp->Prop) (n:Nat) (F:List D->Ow->R D):Sp:=fun vs H Q E=>vs.length=n/\∃ hid μ ds O,Dats K H hid μ ds vs/\Cells K H hid μ O/\z1I (Ec E) K H hid μ (F ds O) Q
abbrev Ec0:XK->Nat->Hp->Prop:=fun _ _ _=>False
section
variable {X:Cx} {CX:CXT} {k:Nat} {f:Addr} {fd:FuncData} {ps:List Str} {E:XK} {Ec:XK->Nat->Hp->Prop} {x:Str} {p pos:Pos} {e:Expr} {es:List Expr} {t:DA} {F:List D->Ow->R D} {n:Nat}
def dFn (n:Nat) (F:List D->Ow->R D) (t:DA):DE:=fun σ O=>(t σ O).bnd fun ds O1=>if ds.length=n then F ds O1 else .bad
theorem zjA (G:FnOk X.prog X.w X.K X.mg X.base CX k f fd ps (DSp X.K Ec n F)) (hr:Room k X.A) (hg:Gl X x) (hm:X.mg x=some (.ref f)) (hk:PySem.W.keepIn X.K (.ref f)=true) (hb:Binds X.K fd ps []) (hx:z5G CX X E) (ha:PDA X (Ec E) (e :: es) t)
  (hdb:(x == ("__debug__":Str))=false:=by decide) (he:starEach (e :: es) X.env=(false,eval e X.env) :: starEach es X.env:=by rfl) (hpl:(backTo pos (starEach es X.env)).any (·.1)=false:=by rfl):
  PD X (Ec E) (.Call (.Name x p) (e :: es) [] pos) (dFn n F t):=
 z2a (zb3 (dvs:=[]) (ds:=[]) G hr hg hm hk hb .nil hx ha.out hdb he hpl) fun hid μ σ O σv H Q e1 c1 q=>rdA.go e1 c1 q fun ds O1 vs H1 μ1 e2 x2 c2 d2 q2=>by
  obtain ⟨hl,q2⟩:=post.ite q2
  refine ⟨by rw [List.append_nil,<- d2.length];exact hl,hid,μ1,ds,O1,?_,c2,q2⟩
  rw [List.append_nil];exact d2
end
def fin (r:RS):R D:=match r with
 | .nx _ O=>.ok .non O
 | .rt d O=>.ok d O
 | .exc c O=>.exc c O
 | _=>.bad
def z3m (n:Nat) (t:DS):List D->Ow->R D:=fun ds O=>fin (t (ds.map some ++ List.replicate (n - ds.length) none) O)
theorem z5r {K:PySem.W.Frag} {H:Hp} {hid μ:List Addr} {ds:List D} {vs:List V} (h:Dats K H hid μ ds vs) (N:List Str):EnvOk K H hid μ (ds.map some ++ List.replicate (N.length - ds.length) none) (L2.start N vs):=by
 unfold L2.start
 have hl:=h.length
 refine ⟨by simp [hl],fun i d e=>?_⟩
 have hi:i < ds.length:=by
  by_cases hi:i < ds.length
  ·exact hi
  ·rw [List.getElem?_append_right (by simpa using hi),List.getElem?_replicate] at e
   split at e <;> cases e
 rw [List.getElem?_append_left (by simpa using hi),List.getElem?_map] at e
 cases q:ds[i]? with
 | none=>rw [q] at e;cases e
 | some d'=>
  rw [q] at e;cases e
  obtain ⟨v,h1,h2⟩:=h.get q
  exact ⟨v,by rw [List.getElem?_append_left (by simp;omega),List.getElem?_map,h1];rfl,h2⟩
def z2M:D->String
 | .non => "NoneType"
 | .bl _ => "bool"
 | .int _ => "int"
 | .str _ => "str"
 | .lst _ => "list"
 | .own _ => "list"
 | .tup _ => "tuple"
 | .dct => "dict"
 | .exn _ => "exception"
 | .tab _ => "bool"
 | .map _ _ => "dict"
 | .adr _ => "function"
def z7d (t c:String):Bool:=t == c || (t == "bool" && c == "int")
section
variable {X:Cx} {Ex:Nat->Hp->Prop} {pos:Pos} {a b c e:Expr} {ta te:DE} {pins:List (Addr × Obj)} {σv:St} {H:Hp} {s:Shared} {hid μ:List Addr} {O:Ow}
def z5d:List String:=["NoneType", "bool", "int", "str", "list", "tuple", "dict"]
theorem z3a (K:PySem.W.Frag) {t c:String} (ht:t ∈ z5d) (hc:c ∈ ["int", "bool", "str", "list", "tuple", "dict"]):PySem.W.kitOne K (.type t) (.type c)=some (z7d t c):=by
 simp only [z5d,List.mem_cons,List.not_mem_nil,or_false] at ht hc
 rcases ht with rfl|rfl|rfl|rfl|rfl|rfl|rfl <;> rcases hc with rfl|rfl|rfl|rfl|rfl|rfl <;> first|rfl|decide
theorem z5X {v:V} {u:Value} {d:D} (I:L2.Inv X pins σv H s) (cl:Cells X.K H hid μ O) (h:Dat X.K H hid μ d v) (r:RelV v u) (hf:(z2M d == "function")=false):∃ (T:Value) (Hh:Heap->Prop),PySem.W.KitX X.K u T Hh/\Hh s.heap/\u ≠ .builtin "__main__.__loader__#opaque"/\∀ c ∈ (["int", "bool", "str", "list", "tuple", "dict"]:List String),PySem.W.kitOne X.K T (.type c)=some (z7d (z2M d) c):=by
 cases d with
 | non=>unfold Dat at h;subst h;cases r;exact ⟨.type "NoneType",_,PySem.W.kitx_none,True.intro,(fun z=>nomatch z),fun c hc=>z3a X.K (t := "NoneType") (by simp [z5d]) hc⟩
 | bl _=>unfold Dat at h;subst h;cases r;exact ⟨.type "bool",_,PySem.W.kitx_bool,True.intro,(fun z=>nomatch z),fun c hc=>z3a X.K (t := "bool") (by simp [z5d]) hc⟩
 | int _=>unfold Dat at h;subst h;obtain ⟨t,rfl⟩:=r;exact ⟨.type "int",_,PySem.W.kitx_int,True.intro,(fun z=>nomatch z),fun c hc=>z3a X.K (t := "int") (by simp [z5d]) hc⟩
 | str _=>unfold Dat at h;subst h;obtain ⟨t,rfl⟩:=r;exact ⟨.type "str",_,PySem.W.kitx_str,True.intro,(fun z=>nomatch z),fun c hc=>z3a X.K (t := "str") (by simp [z5d]) hc⟩
 | lst ds=>
  unfold Dat at h
  obtain ⟨p,vs,rfl,l,q⟩:=h
  cases r
  obtain ⟨its,rv,⟨o,n,h1,h2,_⟩,_⟩:=I.list l.sq
  exact ⟨.type "list",_,PySem.W.kitx_list,⟨o,h1,h2⟩,(fun z=>nomatch z),fun c hc=>z3a X.K (t := "list") (by simp [z5d]) hc⟩
 | own k=>
  unfold Dat at h
  obtain ⟨p,rfl,hk⟩:=h
  cases r
  obtain ⟨ds,vs,_,h2,_⟩:=cl.at_ k p hk
  obtain ⟨its,rv,⟨o,n,h1,h2,_⟩,_⟩:=I.list (.of h2)
  exact ⟨.type "list",_,PySem.W.kitx_list,⟨o,h1,h2⟩,(fun z=>nomatch z),fun c hc=>z3a X.K (t := "list") (by simp [z5d]) hc⟩
 | tup ds=>
  unfold Dat at h
  obtain ⟨p,vs,rfl,l,q⟩:=h
  cases r
  obtain ⟨its,rv,⟨o,h1,h2,_⟩,_⟩:=I.tuple l.sq
  exact ⟨.type "tuple",_,PySem.W.kitx_tuple,⟨o,h1,h2⟩,(fun z=>nomatch z),fun c hc=>z3a X.K (t := "tuple") (by simp [z5d]) hc⟩
 | dct=>
  unfold Dat at h
  obtain ⟨p,rfl,hr,_⟩:=h
  cases r
  obtain ⟨_,_,vs,_,o,es,ep,h1,h2,_⟩:=Rd.ok hr I.hok
  exact ⟨.type "dict",_,PySem.W.kitx_dict,⟨o,h1,h2.1⟩,(fun z=>nomatch z),fun c hc=>z3a X.K (t := "dict") (by simp [z5d]) hc⟩
 | tab _=>unfold Dat at h;obtain ⟨rfl,_⟩:=h;cases r;exact ⟨.type "bool",_,PySem.W.kitx_bool,True.intro,(fun z=>nomatch z),fun c hc=>z3a X.K (t := "bool") (by simp [z5d]) hc⟩
 | map ks ds=>
  unfold Dat at h
  obtain ⟨p,vs,rfl,hr,_⟩:=h
  cases r
  obtain ⟨_,_,vs,_,o,es,ep,h1,h2,_⟩:=Rd.ok hr I.hok
  exact ⟨.type "dict",_,PySem.W.kitx_dict,⟨o,h1,h2.1⟩,(fun z=>nomatch z),fun c hc=>z3a X.K (t := "dict") (by simp [z5d]) hc⟩
 | adr _=>cases hf
 | exn C=>
  unfold Dat at h
  obtain ⟨p,φ,rfl,⟨k,g⟩,hr,_⟩:=h
  cases r
  obtain ⟨y,_⟩:=Rd.ok hr I.hok
  refine ⟨_,_,zeN k,g _ y,(fun z=>nomatch z),fun c hc=>?_⟩
  rw [k.kit c hc]
  simp only [List.mem_cons,List.not_mem_nil,or_false] at hc
  rcases hc with rfl|rfl|rfl|rfl|rfl|rfl <;> rfl
def kOk:List String:=["int", "bool", "str", "list", "tuple", "dict"]
theorem zbX:CallR X (.builtin "isinstance") (fun xs H Q=>∃ x C hid μ O d,xs=[x,.ty C]/\C ∈ kOk/\Cells X.K H hid μ O/\Dat X.K H hid μ d x/\(z2M d == "function")=false/\Q (.bl (z7d (z2M d) C)) H):=by
 intro pins s σ H xs us Q I r h
 obtain ⟨x,C,hid,μ,O,d,rfl,hC,cl,dx,hf,q⟩:=h
 obtain ⟨u,w',rfl,rx,rc⟩:=z8Z r
 cases rc
 obtain ⟨T,Hh,Z,p,hx,hk⟩:=z5X I cl dx rx hf
 exact wT I (PySem.W.kia_one Z I.kIn p (hk _ hC) hx fun tk htk=>⟨.bl _,H,I.tok tk,rfl,q⟩)
def z3k (C:String) (t:DE):DE:=fun σ O=>(t σ O).bnd fun d O1=>if (z2M d == "function")=true then .bad else .ok (.bl (z7d (z2M d) C)) O1
theorem z8a {C:Str} {n:String} {p p':Pos} (ha:PD X Ex a ta) (hn:n ∈ kOk) (hg:Gl X "isinstance") (hm:X.mg "isinstance" = none) (hv:bootBuiltins "isinstance" = some (.builtin "isinstance")) (hgC:Gl X C) (hmC:X.mg C=none) (hvC:bootBuiltins C=some (.type n)) (hCn:C ≠ "__name__":=by decide)
  (hCd:(C == ("__debug__":Str))=false:=by decide) (he:starEach [a,.Name C p'] X.env=(false,eval a X.env) :: starEach [.Name C p'] X.env:=by rfl) (he2:starEach [.Name C p'] X.env=[(false,eval (.Name C p') X.env)]:=by rfl) (hpl:(backTo pos (starEach [.Name C p'] X.env)).any (·.1)=false:=by rfl):
  PD X Ex (.Call (.Name "isinstance" p) [a,.Name C p'] [] pos) (z3k n ta):=
 z2a (z3t (zbX (X:=X)) hg hm hv (z23 ha.out (z23 (z6L (v:=.ty n) hgC hmC hvC rfl hCn hCd) z39 he2) he) (by decide) (by decide) he hpl) fun hid μ σ O σv H Q e1 c1 q=>rd.go e1 c1 q fun d O1 v H1 μ1 e2 x cl r p2=>by
  obtain ⟨hf,p2⟩:=post.iteN p2
  exact ⟨v,n,hid,μ1,O1,d,rfl,hn,cl,r,hf,post.here p2 cl z2r⟩
def zjL (to:DE) (t:DA):DE:=fun σ O=>(to σ O).bnd fun x O1=>match x with
 | .own k=>(t σ O1).bnd fun ys O2=>match ys,O2[k]? with
  | [y],some ds=>if ds.length < 100000 then .ok .non (O2.set k (ds ++ [y])) else .bad
  | _,_=>.bad
 | _=>.bad
theorem zbA {o:Expr} {to:DE} {t:DA} {es:List Expr} {apos cpos:Pos} (ho:PD X Ex o to) (ha:PDA X Ex (e :: es) t) (hbase:attributeBase o "append" X.env (eval o X.env)=eval o X.env:=by rfl)
  (hfew:((backTo cpos (starEach (e :: es) X.env)).all (fun x=>!x.1) && (backToKw cpos (keywordEach [] X.env)).all (fun x=>x.1.isSome) && decide ((e :: es).length + ([]:List Keyword).length + (if ([]:List Keyword).isEmpty then 0 else 1) < 30))=true:=by rfl)
  (hline:(apos.endLine == cpos.line)=true:=by rfl) (hs:starEach (e :: es) X.env=(false,eval e X.env) :: starEach es X.env:=by rfl) (hplain:(backTo cpos (starEach es X.env)).any (·.1)=false:=by rfl):
  PD X Ex (.Call (.Attribute o "append" apos) (e :: es) [] cpos) (zjL to t):=
 z2a (z8w PySem.F.plainAttrs_list PySem.F.slot_list_append PySem.F.type_list_append z3e ho.out ha.out hbase hfew hline hs hplain) fun hid μ σ O σv H Q e1 c1 q=>rd.go e1 c1 q fun d O1 v H1 μ1 e2 x cl r p=>by
  cases d with
  | own k=>
   have hr:=r
   unfold Dat at r
   obtain ⟨A,rfl,hk⟩:=r
   obtain ⟨ds,vs,h1,h2,h3⟩:=cl.at_ k A hk
   refine ⟨.inl ⟨rfl,vs,.of h2⟩,rdA.go e2 cl p fun ys O2 ws H2 μ2 e3 x3 c3 d3 p3=>?_⟩
   split at p3
   ·rename_i y es' hds
    obtain ⟨hl,p3⟩:=post.ite p3
    obtain ⟨w,rfl,dw⟩:=z42 d3
    have hk2:μ2[k]?=some A:=by
     have:=hr.ext x3
     unfold Dat at this
     obtain ⟨A',e',hk'⟩:=this
     cases e';exact hk'
    obtain ⟨ds2,vs2,g1,g2,g3⟩:=c3.at_ k A hk2
    rw [hds] at g1;cases g1
    refine ⟨A,vs2,w,rfl,rfl,g2,Nat.lt_of_lt_of_le (by rw [<- g3.length];exact hl) (by decide),?_⟩
    exact post.ok p3 (.put (List.mem_of_getElem? hk2) ⟨_,g2⟩) (c3.put hk2 (g3.append (.cons dw .nil))) z4U
   ·exact False.elim p3
  | _=>exact False.elim p
def zcR (te to ti:DE):DS:=fun σ O=>(te σ O).bnS fun y O1=>(to σ O1).bnS fun x O2=>(ti σ O2).bnS fun i O3=>match x,i with
 | .own k,.int i=>match O3[k]? with
  | some ds=>match ixN ds.length i with
   | some j=>.nx σ (O3.set k (ds.set j y))
   | none=>.bad
  | none=>.bad
 | _,_=>.bad
theorem zfo {o i:Expr} {to ti:DE} {spos:Pos} (he:PD X Ex e te) (ho:PD X Ex o to) (hi:PD X Ex i ti) (ha:∀ v,assign (.Subscript o i pos) X.env v=(do
   let ov <- holding [v] (eval o X.env)
   let iv <- holding [v,ov] (eval i X.env)
   standAt pos
   holding [v,ov,iv] (setItem ov iv v)
   release [v,ov,iv] []):=by intro _;rfl) (hs:swapsWithSole [.Subscript o i pos] e spos.line X.env=pure false:=by rfl) (hw:swappedStores [.Subscript o i pos] e X.env=pure none:=by rfl)
  (h1:(assignEach [.Subscript o i pos] X.env).map (·.2)=[assign (.Subscript o i pos) X.env]:=by rfl):PDS X Ex (.Assign [.Subscript o i pos] e spos) (zcR te to ti):=
 z5z (zez he.out (zie ho.out hi.out zdq ha) hs hw h1) fun hid μ σ O E σv H e1 c1 q=>rd.goS e1 c1 q fun y O1 v H1 μ1 e2 x1 c2 d2 q2=>rd.goS e2 c2 q2 fun x O2 u H2 μ2 e3 x2 c3 d3 q3=>rd.goS e3 c3 q3 fun ii O3 w H3 μ3 e4 x3 c4 d4 q4=>by
  split at q4
  ·rename_i k j
   split at q4
   ·rename_i ds hds
    split at q4
    ·rename_i m hm
     have d3':=d3.ext x3
     unfold Dat at d3' d4
     obtain ⟨A,rfl,hk⟩:=d3'
     subst d4
     obtain ⟨ds2,vs2,g1,g2,g3⟩:=c4.at_ k A hk
     rw [hds] at g1;cases g1
     refine ⟨A,vs2,j,m,rfl,rfl,g2,by rw [<- g3.length];exact hm,?_⟩
     exact q4 σv _ μ3 (.put (List.mem_of_getElem? hk) ⟨_,g2⟩) (e4.ext (.put (List.mem_of_getElem? hk) ⟨_,g2⟩)) (c4.put hk (g3.set ((d2.ext x2).ext x3) m))
    ·exact False.elim q4
   ·exact False.elim q4
  ·exact False.elim q4
def bls:List D->Option (List Bool)
 | []=>some []
 | .bl b :: r=>(bls r).map (b :: ·)
 | _=>none
theorem zbF {K:PySem.W.Frag}:∀ {ds:List D} {vs:List V} {bs:List Bool},Dats K H hid μ ds vs->bls ds=some bs->vs=bs.map V.bl
 | [],vs,bs,h,e=>by unfold Dats at h;subst h;cases e;rfl
 | d :: ds,vs,bs,h,e=>by
  unfold Dats at h
  obtain ⟨v,r,rfl,h1,h2⟩:=h
  cases d with
  | bl b=>
   unfold bls at e
   cases q:bls ds with
   | none=>rw [q] at e;cases e
   | some cs=>
    rw [q] at e;cases e
    unfold Dat at h1;subst h1
    rw [zbF h2 q];rfl
  | _=>cases e
def za9:Ow->List D->R D:=fun O xs=>match xs with
 | [x]=>match lsV O x with
  | some ds=>match bls ds with
   | some bs=>.ok (.bl (bs.all id)) O
   | none=>.bad
  | none=>.bad
 | _=>.bad
def zhK:Ow->List D->R D:=fun O xs=>match xs with
 | [x]=>match lsV O x with
  | some ds=>match bls ds with
   | some bs=>.ok (.bl (bs.any id)) O
   | none=>.bad
  | none=>.bad
 | _=>.bad
theorem zi3:z4W X Ex (fun xs H Q=>∃ (p:Addr) (bs:List Bool),xs=[.ref p]/\SqL X.K H p (bs.map V.bl)/\Q (.bl (bs.all id)) H) za9:=by
 intro H hid μ O xs vs Q c d q
 unfold za9 at q
 split at q
 ·rename_i x
  obtain ⟨v,rfl,dx⟩:=z42 d
  split at q
  ·rename_i ds e
   obtain ⟨p,ws,rfl,sq,dd⟩:=z35 c dx e
   split at q
   ·rename_i bs eb
    refine ⟨p,bs,rfl,?_,post.here q c z2r⟩
    rw [<- zbF dd eb];exact sq
   ·exact False.elim q
  ·exact False.elim q
 ·exact False.elim q
theorem ziG:z4W X Ex (fun xs H Q=>∃ (p:Addr) (bs:List Bool),xs=[.ref p]/\SqL X.K H p (bs.map V.bl)/\Q (.bl (bs.any id)) H) zhK:=by
 intro H hid μ O xs vs Q c d q
 unfold zhK at q
 split at q
 ·rename_i x
  obtain ⟨v,rfl,dx⟩:=z42 d
  split at q
  ·rename_i ds e
   obtain ⟨p,ws,rfl,sq,dd⟩:=z35 c dx e
   split at q
   ·rename_i bs eb
    refine ⟨p,bs,rfl,?_,post.here q c z2r⟩
    rw [<- zbF dd eb];exact sq
   ·exact False.elim q
  ·exact False.elim q
 ·exact False.elim q
theorem zaC (bs:List Bool):(List.range bs.length).all (fun i=>bs.getD i true)=bs.all id:=by
 rw [Bool.eq_iff_iff,List.all_eq_true,List.all_eq_true]
 constructor
 ·intro h b hb
  obtain ⟨i,hi,e⟩:=List.mem_iff_getElem.mp hb
  have:=h i (by simpa using hi)
  rw [List.getD_eq_getElem?_getD,List.getElem?_eq_getElem hi,e] at this
  exact this
 ·intro h i hi
  have hi:i < bs.length:=by simpa using hi
  rw [List.getD_eq_getElem?_getD,List.getElem?_eq_getElem hi]
  exact h _ (List.getElem_mem hi)
theorem zbG (bs:List Bool):(List.range bs.length).any (fun i=>bs.getD i true)=bs.any id:=by
 rw [Bool.eq_iff_iff,List.any_eq_true,List.any_eq_true]
 constructor
 ·rintro ⟨i,hi,h⟩
  have hi:i < bs.length:=by simpa using hi
  rw [List.getD_eq_getElem?_getD,List.getElem?_eq_getElem hi] at h
  exact ⟨_,List.getElem_mem hi,h⟩
 ·rintro ⟨b,hb,h⟩
  obtain ⟨i,hi,e⟩:=List.mem_iff_getElem.mp hb
  exact ⟨i,by simpa using hi,by rw [List.getD_eq_getElem?_getD,List.getElem?_eq_getElem hi,e];exact h⟩
theorem zbn {bs:List Bool} {its:List Value} (r:Vals (bs.map V.bl) its) {i:Nat} {v:Value} (h:its.toArray[i]?=some v):v=.bool (bs.getD i true):=by
 have h:its[i]?=some v:=by simpa using h
 have hi:i < bs.length:=by
  have:=r.length
  have:=(List.getElem?_eq_some_iff.mp h).1
  simp at *;omega
 obtain ⟨u,h1,h2⟩:=r.get (i:=i) (x:=.bl bs[i]) (by rw [List.getElem?_map,List.getElem?_eq_getElem hi];rfl)
 rw [h] at h1;cases h1
 cases h2
 rw [List.getD_eq_getElem?_getD,List.getElem?_eq_getElem hi];rfl
theorem zbu (hc:X.calm=true):CallR X (.builtin "all") (fun xs H Q=>∃ (p:Addr) (bs:List Bool),xs=[.ref p]/\SqL X.K H p (bs.map V.bl)/\Q (.bl (bs.all id)) H):=by
 intro pins s σ H xs us Q I r h
 obtain ⟨p,bs,rfl,sq,q⟩:=h
 obtain ⟨u,rfl,ru⟩:=z4X r
 cases ru
 obtain ⟨its,rv,pl,hz⟩:=I.list sq
 have hl:its.toArray.size=bs.length:=by have:=rv.length;simp at *;omega
 have hne:p ≠ s.heap.objs.size:=by obtain ⟨o,n,e,_⟩:=pl;exact Nat.ne_of_lt (Heap.lt_size e)
 refine wT I (call_all_walk (wpAny_pyIter_list pl.isList ?_))
 refine ⟨s.heap.objs.size,_,_,its.toArray.size,_,_,fun i=>bs.getD i true,rfl,Walks.list (show X.A.in1.handled=none from I.ok.hd hc) _ p hne its.toArray,⟨⟨_,Heap.get?_push_size _ rfl,rfl,rfl⟩,pl.isList.push _⟩,fun i v s' Q' E' hP hQ=>?_,fun h' tk hk htk=>?_⟩
 ·rw [zbn rv hP];exact wpAny_truthy_bool hQ
 ·rw [hl,zaC]
  exact ⟨.bl _,H,I.kept (t':=tk) fun b o e=>hk b o (by simpa using Nat.ne_of_lt (Heap.lt_size e)) (Heap.get?_push_of_some _ e),rfl,q⟩
theorem zc5 (hc:X.calm=true):CallR X (.builtin "any") (fun xs H Q=>∃ (p:Addr) (bs:List Bool),xs=[.ref p]/\SqL X.K H p (bs.map V.bl)/\Q (.bl (bs.any id)) H):=by
 intro pins s σ H xs us Q I r h
 obtain ⟨p,bs,rfl,sq,q⟩:=h
 obtain ⟨u,rfl,ru⟩:=z4X r
 cases ru
 obtain ⟨its,rv,pl,hz⟩:=I.list sq
 have hl:its.toArray.size=bs.length:=by have:=rv.length;simp at *;omega
 have hne:p ≠ s.heap.objs.size:=by obtain ⟨o,n,e,_⟩:=pl;exact Nat.ne_of_lt (Heap.lt_size e)
 refine wT I (call_any_walk (wpAny_pyIter_list pl.isList ?_))
 refine ⟨s.heap.objs.size,_,_,its.toArray.size,_,_,fun i=>bs.getD i true,rfl,Walks.list (show X.A.in1.handled=none from I.ok.hd hc) _ p hne its.toArray,⟨⟨_,Heap.get?_push_size _ rfl,rfl,rfl⟩,pl.isList.push _⟩,fun i v s' Q' E' hP hQ=>?_,fun h' tk hk htk=>?_⟩
 ·rw [zbn rv hP];exact wpAny_truthy_bool hQ
 ·rw [hl,zbG]
  exact ⟨.bl _,H,I.kept (t':=tk) fun b o e=>hk b o (by simpa using Nat.ne_of_lt (Heap.lt_size e)) (Heap.get?_push_of_some _ e),rfl,q⟩
end
section
variable {X:Cx} {Ex:Nat->Hp->Prop} {pos:Pos} {a b c e o:Expr} {ta tb te to:DE} {pins:List (Addr × Obj)} {σv:St} {H:Hp} {s:Shared} {hid μ:List Addr} {O:Ow}
def ziE (K:PySem.W.Frag):R2:=fun x y H Q=>∃ l b xs zs,x=.ref l/\y=.ref b/\SqL K H l xs/\SqL K H b zs/\xs.length + zs.length <= sizeLine/\∀ p,H p=none->Q (.ref p) (upd H p (.lst (xs ++ zs)))
theorem zg1:OpR X (binaryOp .Add) (ziE X.K):=by
 intro pins s σ H x y v u Q I rx ry h
 obtain ⟨l,b,xs,zs,rfl,rfl,h1,h2,hz,q⟩:=h
 cases rx
 cases ry
 obtain ⟨its,r1,p1,z1⟩:=I.list h1
 obtain ⟨its2,r2,p2,z2⟩:=I.list h2
 obtain ⟨⟨c1,d1,t1,s1⟩,n1,g1,k1,m1,w1⟩:=p1
 obtain ⟨⟨c2,d2,t2,s2⟩,n2,g2,k2,m2,w2⟩:=p2
 simp only at k1 m1 w1 k2 m2 w2
 subst k1 m1 w1 k2 m2 w2
 have ea:its.toArray ++ its2.toArray=(its ++ its2).toArray:=by simp
 have l1:=r1.length
 have l2:=r2.length
 refine PySem.concat_meets ⟨_,g1,rfl⟩ ⟨_,g2,rfl⟩ PySem.noFill_list_add PySem.seq_list_add PySem.F.slot_list_add PySem.F.entry_list_add (PySem.F.args_list_add_2 _ _)
  (PyProof.Rows.list_addW l b its.toArray its2.toArray n1 n2 none none s1 s2 (by simp only [List.size_toArray];omega)) ⟨g1,g2,?_⟩
 rw [ea]
 exact ⟨.ref _,_,I.lnew (t':=s.toks) (r1.append r2) (by rw [List.length_append];omega),rfl,q _ I.fresh⟩
def z3Z:Ow->D->D->R D:=fun O x y=>match x,y with
 | .int i,.int j=>.ok (.int (i + j)) O
 | .str p,.str q=>if p.length + q.length <= 100000 then .ok (.str (p ++ q)) O else .bad
 | .tup xs,.tup ys=>if xs ≠ []/\xs.length + ys.length <= 100000 then .ok (.tup (xs ++ ys)) O else .bad
 | x,y=>match lsV O x,lsV O y with
  | some xs,some ys=>if xs.length + ys.length <= 100000 then .ok (.lst (xs ++ ys)) O else .bad
  | _,_=>.bad
def zgw (K:PySem.W.Frag):R2:=fun x y H Q=>(∃ i j,x=.int i/\y=.int j/\Q (.int (i + j)) H) \/ (∃ i j,x=.str i/\y=.str j/\i.length + j.length <= sizeLine/\Q (.str (i ++ j)) H) \/ ziP K x y H Q \/ ziE K x y H Q
theorem zbc:OpR X (binaryOp .Add) (zgw X.K):=OpR.or zht (OpR.or z9V (OpR.or zfD zg1))
theorem zcv:OpD X Ex (zgw X.K) z3Z:=by
 intro H hid μ O x y v w Q c dx dy q
 unfold z3Z at q
 split at q
 ·unfold Dat at dx dy;subst dx;subst dy
  exact .inl ⟨_,_,rfl,rfl,post.here q c z1T⟩
 ·rename_i p q'
  unfold Dat at dx dy;subst dx;subst dy
  obtain ⟨hl,q⟩:=post.ite q
  refine .inr (.inl ⟨_,_,rfl,rfl,?_,?_⟩)
  ·show p.toArray.size + q'.toArray.size <= _
   simp only [List.size_toArray];exact z1O hl
  ·have e:((⟨p.toArray⟩:Str) ++ (⟨q'.toArray⟩:Str))=⟨(p ++ q').toArray⟩:=by
    show (⟨p.toArray ++ q'.toArray⟩:Str)=_
    simp
   rw [e]
   exact post.here q c z8X
 ·rename_i xs ys
  have dx0:=dx
  unfold Dat at dx dy
  obtain ⟨p,vs,rfl,l1,q1⟩:=dx
  obtain ⟨p',vs',rfl,l2,q2⟩:=dy
  obtain ⟨⟨hn,hl⟩,q⟩:=post.ite q
  have e1:=q1.length
  have e2:=q2.length
  refine .inr (.inr (.inl ⟨p,p',vs,vs',rfl,rfl,l1.sq,l2.sq,?_,z1O (by omega),?_,?_⟩))
  ·rintro rfl
   exact hn (List.length_eq_zero_iff.mp e1)
  ·rintro rfl
   have:ys=[]:=List.length_eq_zero_iff.mp e2
   subst this
   rw [List.append_nil] at q
   exact post.here q c dx0
  ·intro _ l hl0
   exact post.ok q (.laid hl0) (c.laid hl0) (Dat.newT c hl0 (q1.append q2))
 ·split at q
  ·rename_i xs ys e1 e2
   obtain ⟨p,vs,rfl,s1,q1⟩:=z35 c dx e1
   obtain ⟨p',vs',rfl,s2,q2⟩:=z35 c dy e2
   obtain ⟨hl,q⟩:=post.ite q
   have l1:=q1.length
   have l2:=q2.length
   exact .inr (.inr (.inr ⟨p,p',vs,vs',rfl,rfl,s1,s2,z1O (by omega),fun l hl0=>post.ok q (.laid hl0) (c.laid hl0) (Dat.newL c hl0 (q1.append q2))⟩))
  ·exact False.elim q
theorem ziC (ha:PD X Ex a ta) (hb:PD X Ex b tb):PD X Ex (.BinOp a .Add b pos) (dOp z3Z ta tb):=z5j zbc zcv ha hb
def zgg (i:Int):List Nat:=((toString i:Str)).cps.toList
def zdT:Ow->List D->R D:=fun O xs=>match xs with
 | [.int i]=>if i.natAbs < 2 ^ 64 then .ok (.str (zgg i)) O else .bad
 | _=>.bad
theorem z6g {n:Nat} (h:n < 2 ^ 64):n.log2 < 1920:=by
 by_cases hn:n=0
 ·subst hn;decide
 ·have:=(Nat.log2_lt hn (k:=64)).mpr h
  omega
theorem z4Q (x:Str):(⟨x.cps.toList.toArray⟩:Str)=x:=by
 cases x;simp
theorem zfq:z4W X Ex (fun xs H Q=>∃ i,xs=[.int i]/\i.natAbs.log2 < 1920/\Q (.str (toString i)) H) zdT:=by
 intro H hid μ O xs vs Q c d q
 unfold zdT at q
 split at q
 ·rename_i i
  obtain ⟨v,rfl,dx⟩:=z42 d
  unfold Dat at dx;subst dx
  obtain ⟨hl,q⟩:=post.ite q
  refine ⟨i,rfl,z6g hl,post.here q c ?_⟩
  unfold Dat zgg
  rw [z4Q]
 ·exact False.elim q
def dS1 (g:List Nat->List Nat->Option D) (to:DE) (t:DA):DE:=fun σ O=>(to σ O).bnd fun x O1=>match x with
 | .str i=>(t σ O1).bnd fun ys O2=>match ys with
  | [.str j]=>match g i j with
   | some d=>.ok d O2
   | none=>.bad
  | _=>.bad
 | _=>.bad
def z7v:List D->Option (List Str)
 | []=>some []
 | .str cs :: r=>(z7v r).map (⟨cs.toArray⟩ :: ·)
 | _=>none
theorem zbk {K:PySem.W.Frag}:∀ {ds:List D} {vs:List V} {ys:List Str},Dats K H hid μ ds vs->z7v ds=some ys->vs=ys.map V.str
 | [],vs,ys,h,e=>by unfold Dats at h;subst h;cases e;rfl
 | d :: ds,vs,ys,h,e=>by
  unfold Dats at h
  obtain ⟨v,r,rfl,h1,h2⟩:=h
  cases d with
  | str cs=>
   unfold z7v at e
   cases q:z7v ds with
   | none=>rw [q] at e;cases e
   | some zs=>
    rw [q] at e;cases e
    unfold Dat at h1;subst h1
    rw [zbk h2 q];rfl
  | _=>cases e
theorem z6m:∀ {ys:List Str} {us:List Value},Vals (ys.map V.str) us->PyProof.Rows.StrsAre us ys:=by
 intro ys
 induction ys with
 | nil=>intro us r;rw [List.map_nil] at r;cases r;exact .nil
 | cons y ys ih=>
  intro us r
  rw [List.map_cons] at r
  cases r with
  | cons r1 r2=>
   obtain ⟨t,e⟩:=r1
   subst e
   exact .cons y t (ih r2)
def zjm (K:PySem.W.Frag):V->List V->Hp->VK->Prop:=fun x xs H Q=>∃ i p ys,x=.str i/\xs=[.ref p]/\(SqL K H p (ys.map V.str) \/ SqT K H p (ys.map V.str))/\i.length <= 16/\(ys.map (·.length)).sum + ys.length <= 1048576/\Q (.str (Txt.join i ys)) H
theorem zgs:MtR X "str.join" (zjm X.K):=by
 intro pins s σ H x xs v us Q I rx rs h
 obtain ⟨i,p,ys,rfl,rfl,sq,hi,hw,q⟩:=h
 obtain ⟨t,rfl⟩:=rx
 obtain ⟨u,rfl,ru⟩:=z4X rs
 cases ru
 rcases sq with sq|sq
 ·obtain ⟨its,r1,p1,z1⟩:=I.list sq
  exact wT I (PyProof.Rows.join_listW p1.isList (z6m r1) hi hw fun t' k htk=>⟨.str _,H,I.tok k,⟨_,rfl⟩,q⟩)
 ·obtain ⟨its,r1,p1,z1⟩:=I.tuple sq
  exact wT I (PyProof.Rows.join_tupleW p1 (z6m r1) hi hw fun t' k htk=>⟨.str _,H,I.tok k,⟨_,rfl⟩,q⟩)
def z92 (to:DE) (t:DA):DE:=fun σ O=>(to σ O).bnd fun x O1=>match x with
 | .str i=>(t σ O1).bnd fun ys O2=>match ys with
  | [z]=>match (match lsV O2 z with|some ds=>some ds|none=>tpV z) with
   | some ds=>match z7v ds with
    | some zs=>if i.length <= 16/\(zs.map (·.length)).sum + zs.length <= 1048576 then .ok (.str (Txt.join ⟨i.toArray⟩ zs).cps.toList) O2 else .bad
    | none=>.bad
   | none=>.bad
  | _=>.bad
 | _=>.bad
theorem zfG {t:DA} {es:List Expr} {apos cpos:Pos} (ho:PD X Ex o to) (ha:PDA X Ex (e :: es) t) (hbase:attributeBase o "join" X.env (eval o X.env)=eval o X.env:=by rfl)
  (hfew:((backTo cpos (starEach (e :: es) X.env)).all (fun x=>!x.1) && (backToKw cpos (keywordEach [] X.env)).all (fun x=>x.1.isSome) && decide ((e :: es).length + ([]:List Keyword).length + (if ([]:List Keyword).isEmpty then 0 else 1) < 30))=true:=by rfl)
  (hline:(apos.endLine == cpos.line)=true:=by rfl) (hs:starEach (e :: es) X.env=(false,eval e X.env) :: starEach es X.env:=by rfl) (hplain:(backTo cpos (starEach es X.env)).any (·.1)=false:=by rfl):
  PD X Ex (.Call (.Attribute o "join" apos) (e :: es) [] cpos) (z92 to t):=
 z2a (z8w PySem.F.plainAttrs_str PySem.F.slot_str_join PySem.F.type_str_join zgs ho.out ha.out hbase hfew hline hs hplain) fun hid μ σ O σv H Q e1 c1 q=>rd.go e1 c1 q fun d O1 v H1 μ1 e2 x cl r p=>by
  cases d with
  | str i=>
   unfold Dat at r
   subst r
   refine ⟨rfl,rdA.go e2 cl p fun ys O2 ws H2 μ2 e3 x3 c3 d3 p3=>?_⟩
   split at p3
   ·rename_i z
    obtain ⟨w,rfl,dw⟩:=z42 d3
    split at p3
    ·rename_i ds hds
     split at p3
     ·rename_i zs hzs
      obtain ⟨⟨h1,h2⟩,p3⟩:=post.ite p3
      have h:∃ p ws,w=.ref p/\(SqL X.K H2 p ws \/ SqT X.K H2 p ws)/\Dats X.K H2 hid μ2 ds ws:=by
       cases e1:lsV O2 z with
       | some es=>
        rw [e1] at hds;cases hds
        obtain ⟨p,ws,h1,sq,dd⟩:=z35 c3 dw e1
        exact ⟨p,ws,h1,.inl sq,dd⟩
       | none=>
        rw [e1] at hds
        obtain ⟨p,ws,h1,sq,dd⟩:=z6k dw hds
        exact ⟨p,ws,h1,.inr sq,dd⟩
      obtain ⟨pp,ws,rfl,sq,dd⟩:=h
      have ev:=zbk dd hzs
      subst ev
      refine ⟨_,pp,zs,rfl,rfl,sq,?_,h2,post.here p3 c3 ?_⟩
      ·show i.toArray.size <= 16
       simpa using h1
      ·unfold Dat;rw [z4Q]
     ·exact False.elim p3
    ·exact False.elim p3
   ·exact False.elim p3
  | _=>exact False.elim p
abbrev DO:=Sg->Ow->R (Option Int)
def rdO (Ex:Nat->Hp->Prop) (K:PySem.W.Frag) (t:DO):TO:=fun σv H Q=>∃ hid μ σ O,EnvOk K H hid μ σ σv/\Cells K H hid μ O/\post Ex K (fun _ _ (d v:Option Int)=>d=v) H hid μ (t σ O) Q
structure PDO (X:Cx) (Ex:Nat->Hp->Prop) (e:Option Expr) (t:DO):Prop where
 out:PO X e (rdO Ex X.K t)
def z33:DO:=fun _ O=>.ok none O
def z2X (t:DE):DO:=fun σ O=>(t σ O).bnd fun d O1=>match d with
 | .int i=>.ok (some i) O1
 | _=>.bad
theorem PO.imp {e:Option Expr} {t t':TO} (h:PO X e t) (f:∀ σ H Q,t' σ H Q->t σ H Q):PO X e t':=fun pins s σ H Q I q=>h pins s σ H Q I (f σ H Q q)
theorem zdU:PDO X Ex none z33:=PDO.mk <| PO.imp zfn fun σv H Q ⟨hid,μ,σ,O,e1,c1,q⟩=>post.here (v:=none) q c1 rfl
theorem ze3 (h:PD X Ex e te):PDO X Ex (some e) (z2X te):=PDO.mk <| PO.imp (zfz h.out) fun σv H Q ⟨hid,μ,σ,O,e1,c1,q⟩=>rd.go e1 c1 q fun d O1 v H1 μ1 e2 x cl r p=>by
 cases d with
 | int i=>unfold Dat at r;subst r;exact ⟨i,rfl,post.here (v:=some i) p cl rfl⟩
 | _=>exact False.elim p
theorem rdO.go {α' β':Type} {rel':Hp->List Addr->α'->β'->Prop} {t:DO} {hid μ:List Addr} {σ:Sg} {O:Ow} {σv:St} {H:Hp} {Q1:Option Int->Hp->Prop} {k:Option Int->Ow->R α'} {Q:β'->Hp->Prop} (e1:EnvOk X.K H hid μ σ σv) (c1:Cells X.K H hid μ O)
  (q:post Ex X.K rel' H hid μ ((t σ O).bnd k) Q)
  (f:∀ v O1 H1 μ1,EnvOk X.K H1 hid μ1 σ σv->Ext H μ H1 μ1->Cells X.K H1 hid μ1 O1->post Ex X.K rel' H1 hid μ1 (k v O1) Q->Q1 v H1):rdO Ex X.K t σv H Q1:=
 ⟨hid,μ,σ,O,e1,c1,post.bnd q fun d O1 v H1 μ1 x c r p=>by
  have r:d=v:=r
  subst r
  exact f d O1 H1 μ1 (e1.ext x) x c p⟩
def zk5:V->Option Int->Option Int->Hp->VK->Prop:=fun x lo hi H Q=>∃ i,x=.str i/\i.length <= sizeLine/\Q (.str (Txt.slice i lo hi)) H
theorem z9S {h:Heap} {sl:Addr} {vl vu:Value} {lo hi:Option Int} (hs:h.IsSliceOf sl vl vu .none) (pl:IsPart vl lo) (pu:IsPart vu hi):∃ l u:Option (Int × Tok),h.IsSlice sl l u none/\l.map (·.1)=lo/\u.map (·.1)=hi:=by
 obtain ⟨ob,g,k1,k2⟩:=hs
 cases pl with
 | none=>
  cases pu with
  | none=>exact ⟨none,none,⟨ob,g,k1,k2⟩,rfl,rfl⟩
  | int j t=>exact ⟨none,some (j,t),⟨ob,g,k1,k2⟩,rfl,rfl⟩
 | int i t=>
  cases pu with
  | none=>exact ⟨some (i,t),none,⟨ob,g,k1,k2⟩,rfl,rfl⟩
  | int j t'=>exact ⟨some (i,t),some (j,t'),⟨ob,g,k1,k2⟩,rfl,rfl⟩
theorem zeI:SlR X zk5:=by
 intro pins s σ H x v vl vu lo hi sl Q I rx hs pl pu h
 obtain ⟨i,rfl,hz,q⟩:=h
 obtain ⟨t,rfl⟩:=rx
 obtain ⟨l,u,hs2,rfl,rfl⟩:=z9S hs pl pu
 refine ⟨"str",_,PySem.F.slot_str_getitem.lookup,typeIs_str s i t,?_⟩
 exact wT I (wpAny_getItem_str_slice (l:=l) (u:=u) (st:=none) hs2 rfl (post_val_or_str ⟨Nat.le_trans (Txt.slice_le i _ _) hz,fun t' k htk=>⟨.str _,H,I.tok k,⟨_,rfl⟩,q⟩⟩))
def z9t (xs:List D) (lo hi:Option Int):List D:=(xs.drop (HT.sIx xs.length 0 lo)).take (HT.sIx xs.length xs.length hi - HT.sIx xs.length 0 lo)
def fSl (O:Ow) (x:D) (lo hi:Option Int):R D:=match x with
 | .str i=>if i.length <= 100000 then .ok (.str (Txt.slice ⟨i.toArray⟩ lo hi).cps.toList) O else .bad
 | .tup ds=>if HT.sIx ds.length 0 lo=0/\HT.sIx ds.length ds.length hi=ds.length then .bad else .ok (.tup (z9t ds lo hi)) O
 | x=>match lsV O x with
  | some ds=>.ok (.lst (z9t ds lo hi)) O
  | none=>.bad
def dSl (te:DE) (tl th:DO):DE:=fun σ O=>(te σ O).bnd fun x O1=>(tl σ O1).bnd fun lo O2=>(th σ O2).bnd fun hi O3=>fSl O3 x lo hi
def zkl (K:PySem.W.Frag):V->Option Int->Option Int->Hp->VK->Prop:=fun x lo hi H Q=>zk5 x lo hi H Q \/ zko K x lo hi H Q \/ zkb K x lo hi H Q
theorem z4m {K:PySem.W.Frag} {ds:List D} {vs:List V} (h:Dats K H hid μ ds vs) (lo hi:Option Int):Dats K H hid μ (z9t ds lo hi) (zef vs lo hi):=by
 unfold z9t zef
 rw [h.length]
 exact Dats.take _ (Dats.drop _ h)
theorem zjq {lo hi:Option Expr} {tl th:DO} {p2:Pos} (he:PD X Ex e te) (hl:PDO X Ex lo tl) (hu:PDO X Ex hi th):PD X Ex (.Subscript e (.Slice lo hi none p2) pos) (dSl te tl th):=
 z2a (z9E (r:=zkl X.K) (SlR.or zeI (SlR.or zem zaS)) he.out hl.out hu.out) fun hid μ σ O σv H Q e1 c1 q=>rd.go e1 c1 q fun d O1 v H1 μ1 e2 x cl r p=>rdO.go e2 cl p fun l O2 H2 μ2 e3 x3 c3 p3=>rdO.go e3 c3 p3 fun u O3 H3 μ3 e4 x4 c4 p4=>by
  have r':=(r.ext x3).ext x4
  unfold fSl at p4
  split at p4
  ·rename_i i
   unfold Dat at r';subst r'
   obtain ⟨hl.out,p4⟩:=post.ite p4
   refine .inl ⟨_,rfl,?_,post.here p4 c4 ?_⟩
   ·show i.toArray.size <= _
    rw [List.size_toArray];exact z1O hl.out
   ·unfold Dat;rw [z4Q]
  ·rename_i ds
   unfold Dat at r'
   obtain ⟨pa,vs,rfl,la,q1⟩:=r'
   split at p4
   ·exact False.elim p4
   ·rename_i hw
    refine .inr (.inl ⟨pa,vs,rfl,la.sq,by rw [<- q1.length];exact hw,fun l' hl'=>post.ok p4 (.laid hl') (c4.laid hl') (Dat.newT c4 hl' (z4m q1 l u))⟩)
  ·split at p4
   ·rename_i ds eds
    obtain ⟨pa,vs,rfl,sq,q1⟩:=z35 c4 r' eds
    exact .inr (.inr ⟨pa,vs,rfl,sq,fun l' hl'=>post.ok p4 (.laid hl') (c4.laid hl') (Dat.newL c4 hl' (z4m q1 l u))⟩)
   ·exact False.elim p4
def zj3:Ow->D->D->R D:=fun O x y=>match x,y with
 | .str i,.str j=>.ok (.bl (!(PySem.Builtin.Str.occurrences ⟨j.toArray⟩ ⟨i.toArray⟩ 0 j.length 1).isEmpty)) O
 | _,_=>.bad
theorem zg3:OpD X Ex (fun x y H Q=>∃ i j,x=.str i/\y=.str j/\Q (.bl (!(Builtin.Str.occurrences j i 0 j.length 1).isEmpty)) H) zj3:=by
 intro H hid μ O x y v w Q c dx dy q
 unfold zj3 at q
 split at q
 ·rename_i i j
  unfold Dat at dx dy;subst dx;subst dy
  refine ⟨_,_,rfl,rfl,post.here q c ?_⟩
  have e:(⟨j.toArray⟩:Str).length=j.length:=by show j.toArray.size=_;simp
  rw [e];exact z2r
 ·exact False.elim q
end
def z1Y (K:PySem.W.Frag) (mg:Str->Option Value) (x:Str) (st:Stmt):Prop:=∃ f fd,mg x=some (.ref f)/\L2.Fun K x x st f fd
structure Callee (P:Program) (w:World) (K:PySem.W.Frag) (mg:Str->Option Value) (base:Heap) (x:Str) (k n:Nat) (F:List D->Ow->R D):Prop where
 ex:∃ f fd ps,mg x=some (.ref f)/\PySem.W.keepIn K (.ref f)=true/\Binds K fd ps []/\FnOk P w K mg base CX0 k f fd ps (DSp K Ec0 n F)
theorem Callee.imp {P:Program} {w:World} {K:PySem.W.Frag} {mg:Str->Option Value} {base:Heap} {k n:Nat} {x:Str} {F G:List D->Ow->R D} (c:Callee P w K mg base x k n F)
  (h:∀ ds O H hid μ Q,Cells K H hid μ O->z1I Ex0 K H hid μ (G ds O) Q->z1I Ex0 K H hid μ (F ds O) Q):Callee P w K mg base x k n G:=by
 obtain ⟨f,fd,ps,hm,hkp,hb,Fo⟩:=c.ex
 refine ⟨f,fd,ps,hm,hkp,hb,Fo.imp fun vs H Q E ⟨hl,hid,μ,ds,O,d,cl,q⟩=>⟨hl,hid,μ,ds,O,d,cl,h ds O H hid μ Q cl q⟩⟩
theorem Callee.bad {P:Program} {w:World} {K:PySem.W.Frag} {mg:Str->Option Value} {base:Heap} {k n:Nat} {x:Str} {F:List D->Ow->R D} (c:Callee P w K mg base x k n F):Callee P w K mg base x k n (fun _ _=>.bad):=
 c.imp fun _ _ _ _ _ _ _ q=>False.elim q
def frz (O:Ow) (n:Nat):Nat->D->Option D
 | 0,d=>match d with
  | .own k=>if k < n then some (.own k) else none
  | .lst _=>none
  | .tup _=>none
  | .map _ _=>none
  | d=>some d
 | f + 1,d=>match d with
  | .own k=>if k < n then some (.own k) else match O[k]? with
   | some ds=>(z2l (frz O n f) ds).map .lst
   | none=>none
  | .lst ds=>(z2l (frz O n f) ds).map .lst
  | .tup ds=>(z2l (frz O n f) ds).map .tup
  | .map _ _=>none
  | d=>some d
def zh5 (n:Nat) (r:R D):R D:=match r with
 | .ok d O=>match frz O n 8 d,z2l (z2l (frz O n 8)) (O.take n) with
  | some d',some O'=>.ok d' O'
  | _,_=>.bad
 | r=>r
section
variable {K:PySem.W.Frag} {H:Hp} {hid μ ν:List Addr} {O:Ow} {n:Nat}
theorem z3J {f:D->Option D} {μ':List Addr} (ih:∀ d d' v,f d=some d'->Dat K H hid μ d v->Dat K H hid μ' d' v):∀ (ds ds':List D) (vs:List V),z2l f ds=some ds'->Dats K H hid μ ds vs->Dats K H hid μ' ds' vs
 | [],ds',vs,e,h=>by cases e;unfold Dats at h ⊢;exact h
 | d :: ds,ds',vs,e,h=>by
  unfold z2l at e
  split at e
  ·rename_i p ps e1 e2
   cases e
   unfold Dats at h
   obtain ⟨v,r,rfl,h1,h2⟩:=h
   exact .cons (ih d p v e1 h1) (z3J ih ds ps r e2 h2)
  ·cases e
theorem zel (c:Cells K H hid (μ ++ ν) O) (hn:μ.length=n):∀ (f:Nat) (d d':D) (v:V),frz O n f d=some d'->Dat K H hid (μ ++ ν) d v->Dat K H hid μ d' v:=by
 have sub:∀ {a:Addr},a ∉ μ ++ ν->a ∉ μ:=fun h m=>h (List.mem_append_left _ m)
 have low:∀ {k:Nat} {v:V},k < n->Dat K H hid (μ ++ ν) (.own k) v->Dat K H hid μ (.own k) v:=fun {k v} hk h=>by
  unfold Dat at h ⊢
  obtain ⟨a,rfl,e⟩:=h
  rw [List.getElem?_append_left (by omega)] at e
  exact ⟨a,rfl,e⟩
 have dc:∀ {v:V},Dat K H hid (μ ++ ν) .dct v->Dat K H hid μ .dct v:=fun {v} h=>by
  unfold Dat at h ⊢
  obtain ⟨a,rfl,r,n1,n2⟩:=h
  exact ⟨a,rfl,r,n1,sub n2⟩
 have xc:∀ {C:Nat} {v:V},Dat K H hid (μ ++ ν) (.exn C) v->Dat K H hid μ (.exn C) v:=fun {C v} h=>by
  unfold Dat at h ⊢
  obtain ⟨a,φ,rfl,g,r,n1,n2⟩:=h
  exact ⟨a,φ,rfl,g,r,n1,sub n2⟩
 intro f
 induction f with
 | zero=>
  intro d d' v e h
  cases d with
  | own k=>
   unfold frz at e;dsimp only at e
   split at e
   ·rename_i hk;cases e;exact low hk h
   ·cases e
  | lst ds=>cases e
  | tup ds=>cases e
  | dct=>cases e;exact dc h
  | map ks ds=>cases e
  | adr _=>cases e;unfold Dat at h ⊢;exact h
  | exn C=>cases e;exact xc h
  | tab P=>cases e;unfold Dat at h ⊢;exact h
  | non=>cases e;unfold Dat at h ⊢;exact h
  | bl b=>cases e;unfold Dat at h ⊢;exact h
  | int i=>cases e;unfold Dat at h ⊢;exact h
  | str i=>cases e;unfold Dat at h ⊢;exact h
 | succ f ih=>
  intro d d' v e h
  cases d with
  | own k=>
   unfold frz at e;dsimp only at e
   split at e
   ·rename_i hk;cases e;exact low hk h
   ·rename_i hk
    unfold Dat at h
    obtain ⟨a,rfl,hk2⟩:=h
    obtain ⟨ds,vs,h1,h2,h3⟩:=c.at_ k a hk2
    rw [h1] at e
    dsimp only at e
    cases e1:z2l (frz O n f) ds with
    | none=>rw [e1] at e;cases e
    | some ps=>
     rw [e1] at e;cases e
     unfold Dat
     refine ⟨a,vs,rfl,.inl ⟨.inl h2,c.nh a (List.mem_of_getElem? hk2),fun m=>?_⟩,z3J ih ds ps vs e1 h3⟩
     obtain ⟨j,hj,ej⟩:=List.mem_iff_getElem.mp m
     have q1:(μ ++ ν)[j]?=some a:=by rw [List.getElem?_append_left hj,List.getElem?_eq_getElem hj,ej]
     obtain ⟨w1,z1⟩:=List.getElem?_eq_some_iff.mp q1
     obtain ⟨w2,z2⟩:=List.getElem?_eq_some_iff.mp hk2
     have:=(List.getElem_inj c.nd).mp (z1.trans z2.symm)
     omega
  | lst ds=>
   unfold frz at e;dsimp only at e
   unfold Dat at h
   obtain ⟨a,vs,rfl,l,q⟩:=h
   cases e1:z2l (frz O n f) ds with
   | none=>rw [e1] at e;cases e
   | some ps=>
    rw [e1] at e;cases e
    unfold Dat
    exact ⟨a,vs,rfl,l.imp (fun z=>⟨z.1,z.2.1,sub z.2.2⟩) id,z3J ih ds ps vs e1 q⟩
  | tup ds=>
   unfold frz at e;dsimp only at e
   unfold Dat at h
   obtain ⟨a,vs,rfl,l,q⟩:=h
   cases e1:z2l (frz O n f) ds with
   | none=>rw [e1] at e;cases e
   | some ps=>
    rw [e1] at e;cases e
    unfold Dat
    exact ⟨a,vs,rfl,l.imp (fun z=>⟨z.1,z.2.1,sub z.2.2⟩) id,z3J ih ds ps vs e1 q⟩
  | dct=>cases e;exact dc h
  | map ks ds=>cases e
  | adr _=>cases e;unfold Dat at h ⊢;exact h
  | exn C=>cases e;exact xc h
  | tab P=>cases e;unfold Dat at h ⊢;exact h
  | non=>cases e;unfold Dat at h ⊢;exact h
  | bl b=>cases e;unfold Dat at h ⊢;exact h
  | int i=>cases e;unfold Dat at h ⊢;exact h
  | str i=>cases e;unfold Dat at h ⊢;exact h
theorem z6Y {α β:Type} {f:α->Option β}:∀ {l:List α} {r:List β},z2l f l=some r->r.length=l.length
 | [],r,e=>by cases e;rfl
 | x :: l,r,e=>by
  unfold z2l at e
  split at e
  ·rename_i p ps e1 e2;cases e;simp [z6Y e2]
  ·cases e
theorem z9l {α β:Type} {f:α->Option β}:∀ {l:List α} {r:List β} {k:Nat} {y:β},z2l f l=some r->r[k]?=some y->∃ x,l[k]?=some x/\f x=some y
 | [],r,k,y,e,h=>by cases e;simp at h
 | x :: l,r,k,y,e,h=>by
  unfold z2l at e
  split at e
  ·rename_i p ps e1 e2
   cases e
   cases k with
   | zero=>simp at h;subst h;exact ⟨x,by simp,e1⟩
   | succ k=>obtain ⟨z,h1,h2⟩:=z9l (k:=k) e2 (by simpa using h);exact ⟨z,by simpa using h1,h2⟩
  ·cases e
theorem zd0 {Ex:Nat->Hp->Prop} {r:R D} {Q:VK} (hn:μ.length=n) (q:z1I Ex K H hid μ (zh5 n r) Q):z1I Ex K H hid μ r Q:=by
 cases r with
 | bad=>exact q
 | exc c O'=>exact q
 | ok d O'=>
  intro v H' μ' x c h
  obtain ⟨ν,rfl⟩:=x.pre
  have q1:z1I Ex K H hid μ (match frz O' n 8 d,z2l (z2l (frz O' n 8)) (O'.take n) with|some d',some O2=>.ok d' O2|_,_=>.bad) Q:=q
  cases e1:frz O' n 8 d with
  | none=>rw [e1] at q1;exact False.elim q1
  | some d'=>
   cases e2:z2l (z2l (frz O' n 8)) (O'.take n) with
   | none=>rw [e1,e2] at q1;exact False.elim q1
   | some O2=>
    rw [e1,e2] at q1
    have xe:Ext H μ H' μ:=⟨⟨[],by simp⟩,x.kept,fun _ m=>.inl m,x.there,x.tab⟩
    have hl:O'.length=(μ ++ ν).length:=c.len.symm
    have c2:Cells K H' hid μ O2:=by
     refine ⟨?_,(List.nodup_append.mp c.nd).1,fun a m=>c.nh a (List.mem_append_left _ m),c.ht,fun k a e=>?_⟩
     ·rw [z6Y e2,List.length_take,hl,List.length_append,hn];omega
     ·have hk:k < μ.length:=(List.getElem?_eq_some_iff.mp e).1
      obtain ⟨ds,vs,h1,h2,h3⟩:=c.at_ k a (by rw [List.getElem?_append_left hk];exact e)
      have hk2:k < O2.length:=by rw [z6Y e2,List.length_take,hl,List.length_append,hn];omega
      obtain ⟨ds',g1,g2⟩:=z9l e2 (List.getElem?_eq_getElem hk2)
      have:ds'=ds:=by
       rw [List.getElem?_take,if_pos (by omega),h1] at g1
       cases g1;rfl
      subst this
      exact ⟨_,vs,List.getElem?_eq_getElem hk2,h2,z3J (zel c hn 8) _ _ vs g2 h3⟩
    exact q1 v H' μ xe c2 (zel c hn 8 d d' v e1 h)
end
def zjl (F:List D->Ow->R D):List D->Ow->R D:=fun ds O=>zh5 O.length (F ds O)
def zke (sc scope:Scope) (N':List Str) (sl:List Nat):Bool:=
 (match scope.kind with|.function=>true|_=>false) && decide ((scope.names.map (·.1)).Nodup) && (scope.names.all fun y=>!(y.2 == .free) || sc.names.lookup y.1 == some .cell || sc.names.lookup y.1 == some .free) &&
 (N'.zipIdx.all fun p=>!((scope.names.any fun y=>y.1 == p.1 && y.2 == .local) || (scope.names.any fun y=>y.1 == p.1 && y.2 == .cell)) || sl.contains p.2)
theorem z3G {sc scope:Scope} {N':List Str} {sl:List Nat} (h:zke sc scope N' sl=true):BOk sc scope N' sl:=by
 unfold zke at h
 simp only [Bool.and_eq_true,decide_eq_true_eq,List.all_eq_true] at h
 obtain ⟨⟨⟨h1,h2⟩,h3⟩,h4⟩:=h
 refine ⟨?_,h2,fun y hy hf=>?_,fun i x hx hm=>?_⟩
 ·cases e:scope.kind <;> rw [e] at h1 <;> first|rfl|cases h1
 ·have:=h3 y hy
  rw [hf] at this
  simpa using this
 ·have hp:(x,i) ∈ N'.zipIdx:=by
   rw [List.mem_zipIdx_iff_getElem?];exact hx
  have h:=h4 _ hp
  have hany:((scope.names.any fun y=>y.1 == x && y.2 == .local) || (scope.names.any fun y=>y.1 == x && y.2 == .cell))=true:=by
   rw [Bool.or_eq_true]
   exact hm.imp (fun m=>List.any_eq_true.mpr ⟨_,m,by simp⟩) fun m=>List.any_eq_true.mpr ⟨_,m,by simp⟩
  have h:(!((scope.names.any fun y=>y.1 == x && y.2 == .local) || (scope.names.any fun y=>y.1 == x && y.2 == .cell)) || sl.contains i)=true:=h
  rw [hany] at h
  simpa using h
structure zjP (mg:Str->Option Value) (x:Str) (cs:List Nat):Prop where
 ex:∃ t,mg x=some (.str ⟨cs.toArray⟩ t)
section
variable {X:Cx} {Ex:Nat->Hp->Prop} {pos:Pos} {a b c e:Expr} {ta:DE} {pins:List (Addr × Obj)} {σv:St} {H:Hp} {s:Shared} {hid μ:List Addr} {O:Ow}
theorem zg4 {x:Str} {cs:List Nat} (h:zjP X.mg x cs) (hg:Gl X x:=by rfl) (hd:(x == ("__debug__":Str))=false:=by decide):PD X Ex (.Name x pos) (dC (.str cs)):=by
 obtain ⟨t,h⟩:=h.ex
 exact zdF cs hg h rfl hd
def za6 (C C':String) (t:DE):DE:=fun σ O=>(t σ O).bnd fun d O1=>if (z2M d == "function")=true then .bad else .ok (.bl (z7d (z2M d) C || z7d (z2M d) C')) O1
theorem zbt:CallR X (.builtin "isinstance") (fun xs H Q=>∃ x p C C' hid μ O d,xs=[x,.ref p]/\SqT X.K H p [.ty C,.ty C']/\C ∈ kOk/\C' ∈ kOk/\Cells X.K H hid μ O/\Dat X.K H hid μ d x/\(z2M d == "function")=false/\Q (.bl (z7d (z2M d) C || z7d (z2M d) C')) H):=by
 intro pins s σ H xs us Q I r h
 obtain ⟨x,tp,C,C',hid,μ,O,d,rfl,sq,hC,hC',cl,dx,hf,q⟩:=h
 obtain ⟨u,w',rfl,rx,rc⟩:=z8Z r
 cases rc
 obtain ⟨T,Hh,Z,p,hx,hk⟩:=z5X I cl dx rx hf
 obtain ⟨its,rv,⟨⟨c1,d1,t1,s1⟩,h1,h2,n,h3⟩,hz⟩:=I.tuple sq
 simp only at h2 h3
 subst h2 h3
 obtain ⟨v1,v2,rfl,r1,r2⟩:=z8Z rv
 cases r1;cases r2
 refine wT I (PySem.W.kia_tup (b:=z7d (z2M d) C || z7d (z2M d) C') Z I.kIn p h1 ?_ hx fun tk htk=>⟨.bl _,H,I.tok tk,rfl,q⟩)
 unfold PySem.W.kitAny
 rw [hk _ hC]
 cases z7d (z2M d) C with
 | true=>rfl
 | false=>
  dsimp only
  unfold PySem.W.kitAny
  rw [hk _ hC']
  cases z7d (z2M d) C' <;> rfl
theorem zf3 {C C':Str} {n n':String} {p p' p'' pt:Pos} {kt} (ha:PD X Ex a ta) (hn:n ∈ kOk) (hn':n' ∈ kOk) (hg:Gl X "isinstance") (hm:X.mg "isinstance" = none) (hv:bootBuiltins "isinstance" = some (.builtin "isinstance")) (hgC:Gl X C) (hmC:X.mg C=none) (hvC:bootBuiltins C=some (.type n))
  (hgC':Gl X C') (hmC':X.mg C'=none) (hvC':bootBuiltins C'=some (.type n')) (hCn:C ≠ "__name__":=by decide) (hCd:(C == ("__debug__":Str))=false:=by decide) (hCn':C' ≠ "__name__":=by decide) (hCd':(C' == ("__debug__":Str))=false:=by decide)
  (he:starEach [a,.Tuple [.Name C p',.Name C' p''] kt pt] X.env=(false,eval a X.env) :: starEach [.Tuple [.Name C p',.Name C' p''] kt pt] X.env:=by rfl) (he2:starEach [.Tuple [.Name C p',.Name C' p''] kt pt] X.env=[(false,eval (.Tuple [.Name C p',.Name C' p''] kt pt) X.env)]:=by rfl)
  (hpl:(backTo pos (starEach [.Tuple [.Name C p',.Name C' p''] kt pt] X.env)).any (·.1)=false:=by rfl) (h3:starEach [.Name C p',.Name C' p''] X.env=(false,eval (.Name C p') X.env) :: starEach [.Name C' p''] X.env:=by rfl) (h4:starEach [.Name C' p''] X.env=[(false,eval (.Name C' p'') X.env)]:=by rfl):
  PD X Ex (.Call (.Name "isinstance" p) [a,.Tuple [.Name C p',.Name C' p''] kt pt] [] pos) (za6 n n' ta):=
 z2a (z3t (zbt (X:=X)) hg hm hv (z23 ha.out (z23 (zei (z23 (z6L (v:=.ty n) hgC hmC hvC rfl hCn hCd) (z23 (z6L (v:=.ty n') hgC' hmC' hvC' rfl hCn' hCd') z39 h4) h3)) z39 he2) he) (by decide) (by decide) he hpl) fun hid μ σ O σv H Q e1 c1 q=>rd.go e1 c1 q fun d O1 v H1 μ1 e2 x cl r p2=>by
  obtain ⟨hf,p2⟩:=post.iteN p2
  exact ⟨by show 2 <= sizeLine;decide,fun l hl=>⟨v,l,n,n',hid,μ1,O1,d,rfl,.of z1z,hn,hn',cl.laid hl,r.ext (.laid hl),hf,post.ok p2 (.laid hl) (cl.laid hl) z2r⟩⟩
def zkC (O:Ow):D->R D
 | .int i=>.ok (.int (-i)) O
 | _=>.bad
def zaq (t:DE):DE:=fun σ O=>(t σ O).bnd fun x O1=>zkC O1 x
theorem zim (ha:PD X Ex a ta):PD X Ex (.UnaryOp .USub a pos) (zaq ta):=
 z2a (zjB zhB ha.out) fun hid μ σ O σv H Q e1 c1 q=>rd.go e1 c1 q fun d O1 v H1 μ1 e2 x cl r p=>by
  cases d with
  | int i=>unfold Dat at r;subst r;exact ⟨i,rfl,post.here p cl z1T⟩
  | _=>exact False.elim p
def fIn:Ow->D->D->R D:=fun O x y=>match y with
 | .str _=>zj3 O x y
 | _=>fPy inF O x y
def zfd:Ow->D->D->R D:=fun O x y=>match y with
 | .str _=>match zj3 O x y with
  | .ok (.bl b) O1=>.ok (.bl (!b)) O1
  | _=>.bad
 | _=>fPy zh3 O x y
theorem zeF (hu:X.A.units + 64 < cLine):OpR X (compareOp .In) (fun x y H Q=>rPy X.K inF x y H Q \/ ∃ i j,x=.str i/\y=.str j/\Q (.bl (!(Builtin.Str.occurrences j i 0 j.length 1).isEmpty)) H):=OpR.or (zfN hu) zbP
theorem zec:OpD X Ex (fun x y H Q=>rPy X.K inF x y H Q \/ ∃ i j,x=.str i/\y=.str j/\Q (.bl (!(Builtin.Str.occurrences j i 0 j.length 1).isEmpty)) H) fIn:=by
 intro H hid μ O x y v w Q c dx dy q
 unfold fIn at q
 split at q
 ·exact .inr (zg3 H hid μ O _ _ v w Q c dx dy q)
 ·exact .inl (z53 H hid μ O x y v w Q c dx dy q)
theorem zaT (hu:X.A.units + 64 < cLine):OpR X (compareOp .NotIn) (fun x y H Q=>rPy X.K zh3 x y H Q \/ ∃ i j,x=.str i/\y=.str j/\Q (.bl (!(!(Builtin.Str.occurrences j i 0 j.length 1).isEmpty))) H):=OpR.or (zd1 hu) z7Z
theorem zcJ:OpD X Ex (fun x y H Q=>rPy X.K zh3 x y H Q \/ ∃ i j,x=.str i/\y=.str j/\Q (.bl (!(!(Builtin.Str.occurrences j i 0 j.length 1).isEmpty))) H) zfd:=by
 intro H hid μ O x y v w Q c dx dy q
 unfold zfd at q
 split at q
 ·rename_i cs
  cases x with
  | str i=>
   unfold Dat at dx dy;subst dx;subst dy
   refine .inr ⟨_,_,rfl,rfl,post.here (d:=D.bl (!(!(PySem.Builtin.Str.occurrences ⟨cs.toArray⟩ ⟨i.toArray⟩ 0 cs.length 1).isEmpty))) q c ?_⟩
   have e:(⟨cs.toArray⟩:Str).length=cs.length:=by show cs.toArray.size=_;simp
   rw [e];exact z2r
  | _=>exact False.elim q
 ·exact .inl (z53 H hid μ O x y v w Q c dx dy q)
end
section
variable {X:Cx} {pins:List (Addr × Obj)} {σv:St} {H:Hp} {s:Shared}
theorem Inv.turns {h':Heap} {t':Nat} (ch:List Addr) (I:L2.Inv X pins σv H s) (k:∀ b o,b ∉ ch->s.heap.get? b=some o->h'.get? b=some o) (hf:∀ b ∈ ch,z7e X pins H b) (ht:0 < t':=by first|assumption|exact Inv.tk ‹_›):L2.Inv X pins σv H { s with heap:=h',toks:=t' }:=by
 have nit:∀ b u,H b=some u->b ∉ ch:=fun b u e z=>by rw [(hf b z).1] at e;cases e
 have un:Un (frs X.stack) ch H H s.heap h':=⟨fun b o e _ _ n=>k b o n e,fun b o e _ _ n=>⟨o.slots,k b o n e⟩,fun _ _ _ n _=>n,fun b o e n=>⟨o,k b o n e⟩,fun _ _ e=>e,fun _ _ _ e=>e,fun b ps e=>⟨#[],by rw [e];simp⟩⟩
 have hok:HOk X.prog X.w H h':=fun b u e=>(I.hok b u e).stay (fun c v hc q=>k c v (by
  rcases hc with z|z
  ·rw [z];exact nit b u e
  ·exact nit c _ z) q) (fun _ q=>q) fun _ _ q=>q
 exact I.call (t':=t') (d':=s.drawn) un hok I.bare fun b hb=>let ⟨_,f1,_,f3,f4,f5⟩:=hf b hb;⟨f3,f1,f4,f5⟩
end
def Itz (K:PySem.W.Frag) (l m:Addr):It:=
 ⟨fun i H=>∃ xs ys x y,SqL K H l xs/\SqL K H m ys/\xs[i]?=some x/\ys[i]?=some y,
   fun i H v H'=>∃ p x y,H p=none/\v=.ref p/\(∀ xs,SqL K H l xs->xs[i]?=some x)/\(∀ ys,SqL K H m ys->ys[i]?=some y)/\H'=upd H p (.tup [x,y]),
   fun i H=>∃ xs ys,SqL K H l xs/\SqL K H m ys/\(xs.length <= i \/ ys.length <= i)⟩
def LsAt (K:PySem.W.Frag) (src:Src) (a:Addr) (H:Hp) (hid μ:List Addr):Prop:=∀ hid' H' μ' O',Mv H hid μ H' hid' μ'->Cells K H' hid' μ' O'->∃ ds vs,SqL K H' a vs/\Dats K H' hid' μ' ds vs/\∀ i,src.get O' i=ds[i]?
section
variable {K:PySem.W.Frag} {H:Hp} {hid μ:List Addr}
theorem LsAt.mv {src:Src} {a:Addr} {H1:Hp} {hid1 μ1:List Addr} (h:LsAt K src a H hid μ) (e:Mv H hid μ H1 hid1 μ1):LsAt K src a H1 hid1 μ1:=fun hid' H' μ' O' m c=>h hid' H' μ' O' (e.trans m) c
theorem SrcAt.zip {a b:Addr} {s1 s2:Src} (h1:LsAt K s1 a H hid μ) (h2:LsAt K s2 b H hid μ):SrcAt K (Itz K a b) (.zip s1 s2) H hid μ:=by
 intro hid' H' μ' O' m c i
 obtain ⟨ds,vs,q1,d1,g1⟩:=h1 hid' H' μ' O' m c
 obtain ⟨es,ws,q2,d2,g2⟩:=h2 hid' H' μ' O' m c
 show match (match s1.get O' i,s2.get O' i with|some x,some y=>some (D.tup [x,y])|_,_=>none) with|some d=>_|none=>_
 rw [g1,g2]
 cases e1:ds[i]? with
 | none=>
  dsimp only
  exact ⟨vs,ws,q1,q2,.inl (by rw [<- d1.length];exact List.getElem?_eq_none_iff.mp e1)⟩
 | some x=>
  cases e2:es[i]? with
  | none=>
   dsimp only
   exact ⟨vs,ws,q1,q2,.inr (by rw [<- d2.length];exact List.getElem?_eq_none_iff.mp e2)⟩
  | some y=>
   dsimp only
   obtain ⟨v,w1,r1⟩:=d1.get e1
   obtain ⟨w,w2,r2⟩:=d2.get e2
   refine ⟨⟨vs,ws,v,w,q1,q2,w1,w2⟩,fun z H'' yl=>?_⟩
   obtain ⟨p,v',w',hp,rfl,f1,f2,rfl⟩:=yl
   have t1:=f1 vs q1
   rw [w1] at t1;cases t1
   have t2:=f2 ws q2
   rw [w2] at t2;cases t2
   exact ⟨.laid hp,c.laid hp,Dat.newT c hp (.cons r1 (.cons r2 .nil))⟩
end
def zdS:D->Option Src
 | .lst ds=>some (.val ds)
 | .own k=>some (.own k)
 | _=>none
def zkS (t:DA):DI:=fun σ O=>(t σ O).bnd fun xs O1=>match xs with
 | [x,y]=>match zdS x,zdS y with
  | some p,some q=>.ok (.zip p q) O1
  | _,_=>.bad
 | _=>.bad
section
variable {X:Cx} {Ex:Nat->Hp->Prop} {c:Expr} {pins:List (Addr × Obj)} {H:Hp} {s:Shared} {hid μ:List Addr} {O:Ow}
theorem ze6:bootBuiltins "zip" = some (.type "zip"):=by boot_by_name
theorem zil {i j:Nat} {x y:Str} {px py pt:Pos} {kt:Nat} (hc:X.calm=true) (hN:X.N.Nodup) (hi:X.N[i]?=some x) (hj:X.N[j]?=some y) (hx:Loc X.env.scope x) (hy:Loc X.env.scope y)
  (hf:X.fn x=true \/ X.env.scope.names.lookup x=some .local) (hf2:X.fn y=true \/ X.env.scope.names.lookup y=some .local):PG X (.Tuple [.Name x px,.Name y py] kt pt) ((Tg.two i j).rd X.K):=
 zhp hc (z9I (z6y hN hi hx hf) (z9I (z6y hN hj hy hf2) zgS))
def z5v:Ow->List D->R D:=fun O xs=>match xs with
 | [.str cs]=>match PySem.intText? ⟨cs.toArray⟩ with
  | some n=>if cs.length <= 640 then .ok (.int n) O else .bad
  | none=>.bad
 | xs=>zjg O xs
theorem zcA:CallR X (.type "int") (fun xs H Q=>∃ x n,xs=[.str x]/\PySem.intText? x=some n/\x.length <= 640/\Q (.int n) H):=by
 intro pins s σ H xs us Q I r h
 obtain ⟨x,n,rfl,hn,hl,q⟩:=h
 obtain ⟨u,rfl,t,rfl⟩:=z4X r
 exact PySem.W.KIN.call_text hn hl ⟨.int _,H,I.tok _,⟨_,rfl⟩,q⟩
def ziw:List V->Hp->VK->Prop:=fun xs H Q=>((∃ i,xs=[.int i]/\Q (.int i) H) \/ ∃ k,xs=[.bl k]/\Q (.int (if k then 1 else 0)) H) \/ ∃ x n,xs=[.str x]/\PySem.intText? x=some n/\x.length <= 640/\Q (.int n) H
theorem zbJ:CallR X (.type "int") ziw:=CallR.or zaX zcA
theorem zgG:z4W X Ex ziw z5v:=by
 intro H hid μ O xs vs Q c d q
 unfold z5v at q
 split at q
 ·rename_i cs
  obtain ⟨v,rfl,dx⟩:=z42 d
  unfold Dat at dx;subst dx
  split at q
  ·rename_i n hn
   obtain ⟨hl,q⟩:=post.ite q
   refine .inr ⟨_,n,rfl,hn,?_,post.here q c z1T⟩
   show cs.toArray.size <= 640
   simpa using hl
  ·exact False.elim q
 ·exact .inl (ziq H hid μ O _ vs Q c d q)
end
section
variable {X:Cx} {Ex:Nat->Hp->Prop} {pos:Pos} {e o i:Expr} {ti:DE} {pins:List (Addr × Obj)} {σv:St} {H:Hp} {s:Shared} {hid μ:List Addr} {O:Ow}
theorem zdr:PDS X Ex (.Pass pos) z2T:=z5z zfM fun hid μ σ O E σv H e1 c1 q=>q σv H μ .refl e1 c1
def ziZ:DE:=fun _ O=>.ok .dct O
theorem zi2:PD X Ex (.Dict [] [] pos) ziZ:=
 z2a zdn fun hid μ σ O σv H Q e1 c1 q=>fun p hp=>post.ok q (.laid hp) (c1.laid hp) (by
  unfold Dat
  exact ⟨p,rfl,.inl z1z,c1.not_in hp⟩)
def z3y (tab:List (Int × Int)) (i:Int):Option Int:=(tab.find? fun kv=>kv.1 == i).map (·.2)
def zjO (at_:List (Int × Int)->Int->Option Int) (tab:List (Int × Int)) (t:DE):DE:=fun σ O=>(t σ O).bnd fun x O1=>match x with
 | .int i=>match at_ tab i with
  | some v=>.ok (.int v) O1
  | none=>.bad
 | _=>.bad
def zj1:List (Int × Int)->DE->DE:=zjO z3y
def ziW:List DictEntry->List (Int × Int)->Bool
 | [],[]=>true
 | e :: es,(k,v) :: r=>(match e.key with|.int i _=>i == k|_=>false) && (e.hash == hashInt k) && (match e.val with|.int i _=>i == v|_=>false) && ziW es r
 | _,_=>false
def zj5 (o:Obj) (tab:List (Int × Int)):Bool:=(match o.cls with|.type n=>n == "dict"|_=>false) && o.dict.isNone && o.slots.isEmpty && decide ((tab.map (·.1)).Nodup) && (match o.data with|.dict es _=>ziW es.toList tab|_=>false)
structure zeL (K:PySem.W.Frag) (mg:Str->Option Value) (x:Str) (tab:List (Int × Int)):Prop where
 ex:∃ e o,mg x=some (.ref e)/\K.lookup e=some o/\zj5 o tab=true/\(e == sysModules)=false
theorem z6d {P:Program} {w:World}:∀ {es:List DictEntry} {tab:List (Int × Int)},ziW es tab=true->∃ kvs:List (Int × Value),Pairs (intKind P w) es kvs/\(∀ e ∈ es,∃ k,(intKind P w).is k e.key=true/\e.hash=(intKind P w).hash k)/\kvs.map (·.1)=tab.map (·.1)/\
  ∀ i,(valueAt kvs i).isSome=(z3y tab i).isSome/\∀ v,z3y tab i=some v->∃ t,valueAt kvs i=some (.int v t)
 | [],[],_=>⟨[],.nil,by simp,rfl,fun i=>⟨rfl,fun v h=>by cases h⟩⟩
 | [],_ :: _,h=>by cases h
 | _ :: _,[],h=>by cases h
 | e :: es,(k,v) :: r,h=>by
  obtain ⟨hash,key,val⟩:=e
  unfold ziW at h
  simp only [Bool.and_eq_true] at h
  obtain ⟨⟨⟨h1,h2⟩,h3⟩,h4⟩:=h
  split at h1
  ·rename_i i t
   split at h3
   ·rename_i j u
    have h1:i=k:=by simpa using h1
    have h2:hash=hashInt k:=by simpa using h2
    have h3:j=v:=by simpa using h3
    subst h1 h3
    obtain ⟨kvs,p,ks,em,at_⟩:=z6d (P:=P) (w:=w) h4
    have isk:(intKind P w).is i (.int i t)=true:=by show Value.isInt i (.int i t)=true;simp [Value.isInt]
    refine ⟨(i,.int j u) :: kvs,.cons isk rfl p,fun e he=>?_,by simp [em],fun q=>?_⟩
    ·rcases List.mem_cons.mp he with rfl|he
     ·exact ⟨i,isk,h2⟩
     ·exact ks e he
    ·unfold valueAt z3y
     by_cases hq:i=q
     ·subst hq
      simp
     ·have f1:(decide ((i,Value.int j u).1=q))=false:=by simpa using hq
      have f2:((i,j).1 == q)=false:=by simpa using hq
      rw [List.find?_cons,List.find?_cons,f1,f2]
      exact at_ q
   ·cases h3
  ·cases h1
theorem zdN {P:Program} {w:World} {o:Obj} {tab:List (Int × Int)} (h:zj5 o tab=true):∃ f:Int->Option Value,(∀ (hp:Heap) (e:Addr),hp.get? e=some o->hp.MapOf (intKind P w) e f)/\∀ i,(f i).isSome=(z3y tab i).isSome/\∀ v,z3y tab i=some v->∃ t,f i=some (.int v t):=by
 obtain ⟨cls,dict,data,slots⟩:=o
 unfold zj5 at h
 simp only [Bool.and_eq_true,decide_eq_true_eq] at h
 obtain ⟨⟨⟨⟨h1,h2⟩,h3⟩,h4⟩,h5⟩:=h
 split at h1
 ·rename_i n
  have h1:n = "dict":=by simpa using h1
  split at h5
  ·rename_i es ep
   obtain ⟨kvs,p,ks,em,at_⟩:=z6d (P:=P) (w:=w) h5
   refine ⟨valueAt kvs,fun hp e he=>?_,at_⟩
   refine Heap.DictOf.mapOf (knd:=intKind P w) ⟨_,es,ep,he,⟨?_,?_,?_⟩,rfl,?_,p,by rw [em];exact h4⟩
   ·show Value.type n=_;rw [h1]
   ·simpa using h2
   ·simpa using h3
   ·intro e he
    exact ks e (by simpa using he)
  ·cases h5
 ·cases h1
theorem zbM {x:Str} {tab:List (Int × Int)} (h:zeL X.K X.mg x tab):∃ e,X.mg x=some (.ref e)/\(e == sysModules)=false/\∃ f:Int->Option Value,(∀ (pins:List (Addr × Obj)) (σv:St) (H:Hp) (s:Shared),L2.Inv X pins σv H s->s.heap.MapOf (intKind X.prog X.w) e f)/\
  ∀ i,(f i).isSome=(z3y tab i).isSome/\∀ v,z3y tab i=some v->∃ t,f i=some (.int v t):=by
 obtain ⟨e,o,h1,h2,h3,h4⟩:=h.ex
 obtain ⟨f,m,at_⟩:=zdN (P:=X.prog) (w:=X.w) h3
 exact ⟨e,h1,h4,f,fun pins σv H s I=>m _ e (I.kIn e o h2),at_⟩
theorem z4Z (i:Int) (t:Tok) {P:Program} {w:World}:(intKind P w).is i (.int i t)=true:=by show Value.isInt i (.int i t)=true;simp [Value.isInt]
theorem zf9 {x:Str} {tab:List (Int × Int)} {p:Pos} (h:zeL X.K X.mg x tab) (hg:Gl X x) (hi:PD X Ex i ti) (hs:zki i) (hd:(x == ("__debug__":Str))=false:=by decide):PD X Ex (.Subscript (.Name x p) i pos) (zj1 tab ti):=by
 obtain ⟨e,h1,h4,f,mp,at_⟩:=zbM h
 refine ⟨?_⟩
 rintro pins s σv H Q I ⟨hid,μ,σ,O,e1,c1,q⟩
 refine zgX (T := "dict") PySem.F.slot_dict_getitem.lookup hs (z5N (v:=.ref e) hg h1 rfl hd pins s σv H (fun v H1=>v=.ref e/\H1=H) I ⟨rfl,rfl⟩ |> fun z=>thn z fun u s1 ⟨v,H1,I1,ru,ev,eh⟩=>?_)
 subst ev eh
 cases ru
 refine thn (hi.out pins s1 σv H1 _ I1 (rd.go e1 c1 q (Q1:=fun y H2=>∃ hid μ2 O2 d,Cells X.K H2 hid μ2 O2/\Dat X.K H2 hid μ2 d y/\z1I Ex X.K H2 hid μ2 (match d with|.int i=>(match z3y tab i with|some v=>.ok (.int v) O2|none=>.bad)|_=>.bad) Q)
  fun d O2 y H2 μ2 e2 x2 c2 r p2=>⟨hid,μ2,O2,d,c2,r,p2⟩)) fun u s2 ⟨y,H2,I2,ru,hid,μ2,O2,d,c2,r,p2⟩=>?_
 have M:=mp pins σv H2 s2 I2
 cases d with
 | int j=>
  unfold Dat at r;subst r
  obtain ⟨t,rfl⟩:=ru
  have p2:z1I Ex X.K H2 hid μ2 (match z3y tab j with|some v=>.ok (.int v) O2|none=>.bad) Q:=p2
  cases et:z3y tab j with
  | none=>rw [et] at p2;exact False.elim p2
  | some v=>
   rw [et] at p2
   obtain ⟨t',ht⟩:=(at_ j).2 v et
   exact ⟨M.typeIs,wpAny_getItem_of (z4Z j t) M ht ⟨.int v,H2,I2.tok _,⟨_,rfl⟩,post.here p2 c2 z1T⟩⟩
 | _=>exact False.elim p2
def z4s (neg:Bool) (tab:List (Int × Int)) (t:DE):DE:=fun σ O=>(t σ O).bnd fun x O1=>match x with
 | .int i=>.ok (.bl (if neg=true then !(z3y tab i).isSome else (z3y tab i).isSome)) O1
 | _=>.bad
theorem z9j {x:Str} {tab:List (Int × Int)} {p:Pos} (neg:Bool) (h:zeL X.K X.mg x tab) (hg:Gl X x) (hi:PD X Ex i ti) (hd:(x == ("__debug__":Str))=false:=by decide):PC X (if neg=true then .NotIn else .In) i (.Name x p) (rd Ex X.K (z4s neg tab ti)):=by
 obtain ⟨e,h1,h4,f,mp,at_⟩:=zbM h
 rintro pins s σv H Q I ⟨hid,μ,σ,O,e1,c1,q⟩
 refine thn (hi.out pins s σv H _ I (rd.go e1 c1 q (Q1:=fun y H2=>∃ hid μ2 O2 d,Cells X.K H2 hid μ2 O2/\Dat X.K H2 hid μ2 d y/\z1I Ex X.K H2 hid μ2 (match d with|.int i=>.ok (.bl (if neg=true then !(z3y tab i).isSome else (z3y tab i).isSome)) O2|_=>.bad) Q)
  fun d O2 y H2 μ2 e2 x2 c2 r p2=>⟨hid,μ2,O2,d,c2,r,p2⟩)) fun u s2 ⟨y,H2,I2,ru,hid,μ2,O2,d,c2,r,p2⟩=>?_
 refine thn (z5N (v:=.ref e) hg h1 rfl hd pins s2 σv H2 (fun v H1=>v=.ref e/\H1=H2) I2 ⟨rfl,rfl⟩) fun w s3 ⟨v,H3,I3,rw',ev,eh⟩=>?_
 subst ev eh
 cases rw'
 have M:=mp pins σv H3 s3 I3
 cases d with
 | int j=>
  unfold Dat at r;subst r
  obtain ⟨t,rfl⟩:=ru
  have p2:z1I Ex X.K H3 hid μ2 (.ok (.bl (if neg=true then !(z3y tab j).isSome else (z3y tab j).isSome)) O2) Q:=p2
  rw [<- (at_ j).1] at p2
  cases neg with
  | false=>exact wpAny_in_of (z4Z j t) h4 M ⟨.bl _,H3,I3.tok _,rfl,post.here p2 c2 z2r⟩
  | true=>exact wpAny_notIn_of (z4Z j t) h4 M ⟨.bl _,H3,I3.tok _,rfl,post.here p2 c2 z2r⟩
 | _=>exact False.elim p2
theorem zcc {x:Str} {tab:List (Int × Int)} {p:Pos} (h:zeL X.K X.mg x tab) (hg:Gl X x) (hi:PD X Ex i ti) (hd:(x == ("__debug__":Str))=false:=by decide) (hm:behindInMarks .NotIn (.Name x p)=false:=by rfl):PD X Ex (.Compare i [.NotIn] [.Name x p] pos) (z4s true tab ti):=⟨zhA (z9j true h hg hi hd) hm⟩
theorem zjt {td:DE} {hid μ:List Addr} {σ:Sg} {O:Ow} {σv:St} {H:Hp} {Q:Bool->Hp->Prop} (e1:EnvOk X.K H hid μ σ σv) (c1:Cells X.K H hid μ O) (q:z5i Ex X.K H hid μ (z2w td σ O) Q):tB (rd Ex X.K td) σv H Q:=
 z9e (X:=X) (t:=rd Ex X.K td) (td:=td) (fun hid μ σ O σv H Q e1 c1 q=>⟨hid,μ,σ,O,e1,c1,q⟩) hid μ σ O σv H Q e1 c1 q
theorem za2 {x:Str} {tab:List (Int × Int)} {p:Pos} (h:zeL X.K X.mg x tab) (hg:Gl X x) (hi:PD X Ex i ti) (hd:(x == ("__debug__":Str))=false:=by decide) (hm:behindInMarks .NotIn (.Name x p)=false:=by rfl):PDT X Ex (.Compare i [.NotIn] [.Name x p] pos) (z2w (z4s true tab ti)):=
 z9D (zhL (z9j true h hg hi hd) hm) fun hid μ σ O σv H Q e1 c1 q=>zjt e1 c1 q
end
end DL
namespace DL
open PySem L2 PyProof.Rows
def zaR:List D->Option (List (List Nat))
 | []=>some []
 | .str cs :: r=>(zaR r).map (cs :: ·)
 | _=>none
section
variable {H:Hp} {hid μ:List Addr}
theorem zcl {K:PySem.W.Frag}:∀ {ds:List D} {vs:List V} {ss:List (List Nat)},Dats K H hid μ ds vs->zaR ds=some ss->vs=ss.map fun cs=>V.str ⟨cs.toArray⟩
 | [],vs,ys,h,e=>by unfold Dats at h;subst h;cases e;rfl
 | d :: ds,vs,ys,h,e=>by
  unfold Dats at h
  obtain ⟨v,r,rfl,h1,h2⟩:=h
  cases d with
  | str cs=>
   unfold zaR at e
   cases q:zaR ds with
   | none=>rw [q] at e;cases e
   | some zs=>
    rw [q] at e;cases e
    unfold Dat at h1;subst h1
    rw [zcl h2 q];rfl
  | _=>cases e
theorem zh8:bootBuiltins "len" = some (.builtin "len"):=by boot_by_name
theorem zi6:bootBuiltins "all" = some (.builtin "all"):=by boot_by_name
theorem ziI:bootBuiltins "any" = some (.builtin "any"):=by boot_by_name
theorem zep:bootBuiltins "int" = some (.type "int"):=by boot_by_name
theorem zeo:bootBuiltins "str" = some (.type "str"):=by boot_by_name
theorem z6E:bootBuiltins "tuple" = some (.type "tuple"):=by boot_by_name
theorem z8F:bootBuiltins "list" = some (.type "list"):=by boot_by_name
theorem ziT:bootBuiltins "max" = some (.builtin "max"):=by boot_by_name
theorem zhq:bootBuiltins "min" = some (.builtin "min"):=by boot_by_name
theorem z4v:bootBuiltins "sorted" = some (.builtin "sorted"):=by boot_by_name
theorem z1A:bootBuiltins "isinstance" = some (.builtin "isinstance"):=by boot_by_name
theorem zgK:bootBuiltins "bool" = some (.type "bool"):=by boot_by_name
end
end DL
namespace DL
theorem zfs {α:Type} (pre ds:List α) (d:α):(pre ++ d :: ds)[pre.length]?=some d:=by simp
theorem z7E {step:D->Ow->List D->R (List D)} {O:Ow} {g:D->List D}:∀ (ds pre acc:List D) (f:Nat),ds.length <= f->(∀ d ∈ ds,∀ acc:List D,acc.length < 100000->step d O acc=.ok (acc ++ g d) O)->acc.length + (ds.flatMap g).length + ds.length < 100000->
  z1M (.val (pre ++ ds)) step f pre.length O acc=.ok (acc ++ ds.flatMap g) O
 | [],pre,acc,f,_,_,_=>by
  cases f <;> (unfold z1M;simp [Src.get])
 | d :: ds,pre,acc,0,h,_,_=>by simp at h
 | d :: ds,pre,acc,f + 1,h,hs,hl=>by
  unfold z1M
  have e:Src.get (.val (pre ++ d :: ds)) O pre.length=some d:=zfs pre ds d
  rw [e]
  simp only [List.flatMap_cons,List.length_append,List.length_cons] at hl
  show ((step d O acc).bnd fun acc' O'=>z1M (.val (pre ++ d :: ds)) step f (pre.length + 1) O' acc')=_
  rw [hs d List.mem_cons_self acc (by omega)]
  show z1M (.val (pre ++ d :: ds)) step f (pre.length + 1) O (acc ++ g d)=_
  have:=z7E ds (pre ++ [d]) (acc ++ g d) f (by simpa using h) (fun d' h'=>hs d' (List.mem_cons_of_mem _ h')) (by rw [List.length_append];omega)
  rw [List.append_assoc,List.singleton_append,List.length_append,List.length_singleton] at this
  rw [this];simp
theorem zcq {ext:Nat} {it0:DI} {i:Nat} {ts:List DT} {te:DE} {σ:Sg} {O:Ow} {ds:List D} {p:D->Bool} {e:D->D} (hi:it0 σ O=.ok (.val ds) O) (hl:ds.length < 50000)
  (hp:∀ d ∈ ds,z6K ts ((clr (clr (σ ++ List.replicate ext none) [i]) [i]).set i (some d)) O=.ok (p d) O) (he:∀ d ∈ ds,p d=true->te ((clr (clr (σ ++ List.replicate ext none) [i]) [i]).set i (some d)) O=.ok (e d) O) (o:Bool):
  z1R o ext it0 (.one i) ts [] te σ O=z8l o (.ok ((ds.filter p).map e) O):=by
 unfold z1R z3r
 rw [hi]
 show z8l o (noX (z1M (.val ds) _ ds.length 0 O []))=_
 have step:∀ d ∈ ds,∀ acc:List D,acc.length < 100000->z4c ⟨it0,.one i,ts⟩ [] te (clr (σ ++ List.replicate ext none) (z1t [⟨it0,.one i,ts⟩])) d O acc=.ok (acc ++ (if p d=true then [e d] else [])) O:=by
  intro d hd acc ha
  show (match Tg.put (.one i) d (clr (clr (σ ++ List.replicate ext none) [i]) [i]) with|some σ1=>(z6K ts σ1 O).bnd fun b O3=>if b=true then z3E [] te σ1 O3 acc else .ok acc O3|none=>.bad)=_
  show (z6K ts ((clr (clr (σ ++ List.replicate ext none) [i]) [i]).set i (some d)) O).bnd _=_
  rw [hp d hd]
  show (if p d=true then z3E [] te _ O acc else .ok acc O)=_
  by_cases hpd:p d=true
  ·rw [if_pos hpd,if_pos hpd]
   unfold z3E
   rw [he d hd hpd]
   show (if acc.length < 100000 then _ else _)=_
   rw [if_pos ha]
  ·rw [if_neg hpd,if_neg hpd];simp
 have hb:∀ l:List D,(l.flatMap fun d=>if p d=true then [e d] else [])=(l.filter p).map e:=by
  intro l
  induction l with
  | nil=>rfl
  | cons x l ih=>
   rw [List.flatMap_cons,ih,List.filter_cons]
   by_cases hx:p x=true
   ·rw [if_pos hx,if_pos hx];rfl
   ·rw [if_neg hx,if_neg hx];rfl
 have hlen:((ds.filter p).map e).length <= ds.length:=by rw [List.length_map];exact List.length_filter_le _ _
 have w:=z7E (O:=O) (g:=fun d=>if p d=true then [e d] else []) ds [] [] ds.length (Nat.le_refl _) step (by rw [hb];simp at hlen ⊢;omega)
 rw [List.nil_append,hb,List.nil_append] at w
 have w':z1M (.val ds) (z4c ⟨it0,.one i,ts⟩ [] te (clr (σ ++ List.replicate ext none) (z1t [⟨it0,.one i,ts⟩]))) ds.length 0 O []=.ok ((ds.filter p).map e) O:=w
 rw [w'];rfl
theorem z7I {ds:List D} {step:D->Sg->Ow->RS} (I:Nat->Sg->Ow->Prop) (h:∀ i σ O d,I i σ O->ds[i]?=some d->∃ σ' O',step d σ O=.nx σ' O'/\I (i + 1) σ' O'):
  ∀ (f i:Nat) (σ:Sg) (O:Ow),I i σ O->ds.length <= i + f->i <= ds.length->∃ σ' O',z3I (.val ds) step f i σ O=.nx σ' O'/\I ds.length σ' O'
 | 0,i,σ,O,hI,h1,h2=>by
  have:i=ds.length:=by omega
  subst this
  refine ⟨σ,O,?_,hI⟩
  unfold z3I
  have e:Src.get (.val ds) O ds.length=none:=by simp [Src.get]
  rw [e]
 | f + 1,i,σ,O,hI,h1,h2=>by
  unfold z3I
  have eg:Src.get (.val ds) O i=ds[i]?:=rfl
  rw [eg]
  cases e:ds[i]? with
  | none=>
   have:i=ds.length:=by have:=List.getElem?_eq_none_iff.mp e;omega
   subst this
   exact ⟨σ,O,rfl,hI⟩
  | some d=>
   obtain ⟨σ',O',e1,e2⟩:=h i σ O d hI e
   dsimp only
   rw [e1]
   exact z7I I h f (i + 1) σ' O' e2 (by omega) (by have:=(List.getElem?_eq_some_iff.mp e).1;omega)
theorem z85 {ds:List D} {step:D->Ow->List D->R (List D)} (I:Nat->Ow->List D->Prop) (h:∀ i O acc d,I i O acc->ds[i]?=some d->∃ acc' O',step d O acc=.ok acc' O'/\I (i + 1) O' acc'):
  ∀ (f i:Nat) (O:Ow) (acc:List D),I i O acc->ds.length <= i + f->i <= ds.length->∃ acc' O',z1M (.val ds) step f i O acc=.ok acc' O'/\I ds.length O' acc'
 | 0,i,O,acc,hI,h1,h2=>by
  have:i=ds.length:=by omega
  subst this
  refine ⟨acc,O,?_,hI⟩
  unfold z1M
  have e:Src.get (.val ds) O ds.length=none:=by simp [Src.get]
  rw [e]
 | f + 1,i,O,acc,hI,h1,h2=>by
  unfold z1M
  have eg:Src.get (.val ds) O i=ds[i]?:=rfl
  rw [eg]
  cases e:ds[i]? with
  | none=>
   have:i=ds.length:=by have:=List.getElem?_eq_none_iff.mp e;omega
   subst this
   exact ⟨acc,O,rfl,hI⟩
  | some d=>
   obtain ⟨acc',O',e1,e2⟩:=h i O acc d hI e
   dsimp only
   rw [e1]
   exact z85 I h f (i + 1) O' acc' e2 (by omega) (by have:=(List.getElem?_eq_some_iff.mp e).1;omega)
def z8u (n:Nat):D->Bool
 | .own k=>decide (k < n)
 | .lst _=>false
 | .tup _=>false
 | .map _ _=>false
 | _=>true
def z90 (O:Ow):Prop:=∀ c ∈ O,∀ d ∈ c,z8u O.length d=true
theorem z6O {O:Ow} {n f:Nat} {d:D} (h:z8u n d=true):frz O n f d=some d:=by
 cases d with
 | own k=>
  have h:k < n:=by simpa [z8u] using h
  cases f <;> (unfold frz;dsimp only;rw [if_pos h])
 | lst ds=>cases h
 | tup ds=>cases h
 | map _ _=>cases h
 | _=>cases f <;> rfl
theorem z5t {α:Type} {f:α->Option α}:∀ {l:List α},(∀ x ∈ l,f x=some x)->z2l f l=some l
 | [],_=>rfl
 | x :: l,h=>by
  unfold z2l
  rw [h x List.mem_cons_self,z5t fun y hy=>h y (List.mem_cons_of_mem _ hy)]
theorem zbf {O':Ow} {d:D} {cs:List D} (hO:∀ c ∈ O',∀ d ∈ c,z8u O'.length d=true) (X:Ow) (h:frz (O' ++ X) O'.length 8 d=some (.lst cs)):zh5 O'.length (.ok d (O' ++ X))=.ok (.lst cs) O':=by
 unfold zh5
 dsimp only
 rw [h]
 have:(O' ++ X).take O'.length=O':=by simp
 rw [this,z5t fun c hc=>z5t fun d hd=>z6O (hO c hc d hd)]
section
variable {σ σ':Sg} {O O1 O2:Ow} {t u ta tb:DE} {tA:DA} {x y:D} {b:Bool} {ds:List D}
theorem z1C (h:t σ O=.ok x O1):z1m t z1s σ O=.ok [x] O1:=by show ((t σ O).bnd _)=_;rw [h];rfl
theorem z1F (h1:t σ O=.ok x O1) (h2:u σ O1=.ok y O2):z1m t (z1m u z1s) σ O=.ok [x,y] O2:=by
 show ((t σ O).bnd _)=_
 rw [h1]
 show ((z1m u z1s σ O1).bnd _)=_
 rw [z1C h2];rfl
theorem z2h (h1:t σ O=.ok x O1) (h2:tA σ O1=.ok ds O2):z1m t tA σ O=.ok (x :: ds) O2:=by
 show ((t σ O).bnd _)=_
 rw [h1]
 show ((tA σ O1).bnd _)=_
 rw [h2];rfl
theorem z7k {n:Nat} {F:List D->Ow->R D} (h:tA σ O=.ok ds O1) (hn:ds.length=n):dFn n F tA σ O=F ds O1:=by show ((tA σ O).bnd _)=_;rw [h];show (if ds.length=n then _ else _)=_;rw [if_pos hn]
theorem z2k {f:Ow->List D->R D} (h:tA σ O=.ok ds O1):z1B f tA σ O=f O1 ds:=by show ((tA σ O).bnd _)=_;rw [h];rfl
theorem z1K {f:Ow->D->D->R D} (h1:ta σ O=.ok x O1) (h2:tb σ O1=.ok y O2):dOp f ta tb σ O=f O2 x y:=by
 show ((ta σ O).bnd _)=_
 rw [h1]
 show ((tb σ O1).bnd _)=_
 rw [h2];rfl
theorem z3b (h:t σ O=.ok (.bl b) O1):z2w t σ O=.ok b O1:=by show ((t σ O).bnd _)=_;rw [h];rfl
theorem z2m (h:t σ O=.ok (.bl b) O1):z3d t σ O=.ok b O1:=by show ((t σ O).bnd _)=_;rw [h];rfl
theorem z2B {c:DT} (h:c σ O=.ok b O1):z2Q c σ O=.ok (!b) O1:=by show ((c σ O).bnd _)=_;rw [h];rfl
theorem z8V (h:t σ O=.ok (.lst ds) O1):dIt t σ O=.ok (.val ds) O1:=by show ((t σ O).bnd _)=_;rw [h];rfl
theorem z5y (h:t σ O=.ok (.tup ds) O1):dIt t σ O=.ok (.val ds) O1:=by show ((t σ O).bnd _)=_;rw [h];rfl
theorem z5x {i:Nat} (h:t σ O=.ok x O1):z2U i t σ O=.nx (σ.set i (some x)) O1:=by show ((t σ O).bnS _)=_;rw [h];rfl
theorem z2e (h:t σ O=.ok x O1):z22 t σ O=.rt x O1:=by show ((t σ O).bnS _)=_;rw [h];rfl
theorem z5n (h:t σ O=.ok x O1):z4b t σ O=.nx σ O1:=by show ((t σ O).bnS _)=_;rw [h];rfl
theorem z2D {c:DT} {a d:DS} (h:c σ O=.ok b O1):sIf c a d σ O=if b=true then a σ O1 else d σ O1:=by show ((c σ O).bnS _)=_;rw [h];rfl
theorem z1N {a d:DS} (h:a σ O=.nx σ' O1):z1P a d σ O=d σ' O1:=by show (match a σ O with|.nx σ' O'=>_|r=>r)=_;rw [h]
theorem z63 {a d:DS} (h:a σ O=.rt x O1):z1P a d σ O=.rt x O1:=by show (match a σ O with|.nx σ' O'=>_|r=>r)=_;rw [h]
theorem zc4 {it:DI} {g:Tg} {body:DS} {src:Src} (h:it σ O=.ok src O1):z8s it g body σ O=z3I src (fun d σ O=>match g.put d σ with|some σ'=>body σ' O|none=>.bad) (src.size O1) 0 σ O1:=by show ((it σ O).bnS _)=_;rw [h];rfl
theorem z3U {n:Nat} (h:tA σ O=.ok [.int (n:Nat)] O1) (hn:n < 100000):z41 tA σ O=.ok (.val ((List.range n).map fun (i:Nat)=>D.int (i:Int))) O1:=by
 have hc:-1000000 <= ((n:Nat):Int)/\((n:Nat):Int) <= 1000000:=by constructor <;> omega
 unfold z41
 rw [h]
 dsimp only [R.bnd]
 rw [if_pos hc]
 unfold zeR
 have e2:(((n:Nat):Int) - 0).toNat=n:=by omega
 rw [e2]
 congr 2
 refine List.map_congr_left fun i _=>?_
 rw [Int.zero_add]
theorem z9x {cs:List Nat} (h:cs.length <= 100000):z3W O [.str cs]=.ok (.int cs.length) O:=by
 show (if cs.length <= 100000 then R.ok (D.int cs.length) O else R.bad)=_
 rw [if_pos h]
theorem zj8 {i:Nat} (hi:i < ds.length):fIx O (.tup ds) (.int (i:Int))=.ok ds[i] O:=by
 show (match L2.atI ds (i:Int) with|some d=>R.ok d O|none=>R.bad)=_
 rw [L2.atI_nat (List.getElem?_eq_getElem hi)]
theorem z4K {i:Nat} (hi:i < ds.length):fIx O (.lst ds) (.int (i:Int))=.ok ds[i] O:=by
 show (match L2.atI ds (i:Int) with|some d=>R.ok d O|none=>R.bad)=_
 rw [L2.atI_nat (List.getElem?_eq_getElem hi)]
end
theorem z9L {α:Type} {src:Src} {step:D->Ow->List D->R (List D)} {O:Ow} {inj:α->D} {g:α->List D} {all:List α} (hg:∀ i,src.get O i=(all.map inj)[i]?):∀ (ds pre:List α) (acc:List D) (f:Nat),all=pre ++ ds->ds.length <= f->
  (∀ a ∈ ds,∀ acc:List D,acc.length < 100000->step (inj a) O acc=.ok (acc ++ g a) O)->acc.length + (ds.flatMap g).length + ds.length < 100000->z1M src step f pre.length O acc=.ok (acc ++ ds.flatMap g) O
 | [],pre,acc,f,ha,_,_,_=>by
  have e:src.get O pre.length=none:=by rw [hg,ha];simp
  cases f <;> (unfold z1M;rw [e];simp)
 | d :: ds,pre,acc,0,_,h,_,_=>by simp at h
 | d :: ds,pre,acc,f + 1,ha,h,hs,hl=>by
  unfold z1M
  have e:src.get O pre.length=some (inj d):=by rw [hg,ha];simp
  rw [e]
  simp only [List.flatMap_cons,List.length_append,List.length_cons] at hl
  show ((step (inj d) O acc).bnd fun acc' O'=>z1M src step f (pre.length + 1) O' acc')=_
  rw [hs d List.mem_cons_self acc (by omega)]
  show z1M src step f (pre.length + 1) O (acc ++ g d)=_
  have:=z9L hg ds (pre ++ [d]) (acc ++ g d) f (by rw [ha];simp) (by simpa using h) (fun d' h'=>hs d' (List.mem_cons_of_mem _ h')) (by rw [List.length_append];omega)
  rw [List.length_append,List.length_singleton] at this
  rw [this];simp
theorem z48 {α β:Type} (p:α->Bool) (e:α->β):∀ l:List α,(l.flatMap fun d=>if p d=true then [e d] else [])=(l.filter p).map e
 | []=>rfl
 | x :: l=>by
  rw [List.flatMap_cons,z48 p e l,List.filter_cons]
  by_cases hx:p x=true
  ·rw [if_pos hx,if_pos hx];rfl
  ·rw [if_neg hx,if_neg hx];rfl
theorem z6T {α:Type} {ext:Nat} {it0:DI} {g:Tg} {ts:List DT} {te:DE} {σ:Sg} {O O0:Ow} {src:Src} {l:List α} {inj:α->D} {p:α->Bool} {e:α->D} {τ:α->Sg} {o:Bool} (hi:it0 σ O0=.ok src O) (hg:∀ i,src.get O i=(l.map inj)[i]?) (hsz:src.size O=l.length) (hl:l.length < 50000)
  (hτ:∀ a ∈ l,g.put (inj a) (clr (clr (σ ++ List.replicate ext none) (g.slots ++ [])) (g.slots ++ []))=some (τ a)) (hp:∀ a ∈ l,z6K ts (τ a) O=.ok (p a) O) (he:∀ a ∈ l,p a=true->te (τ a) O=.ok (e a) O):
  z1R o ext it0 g ts [] te σ O0=z8l o (.ok ((l.filter p).map e) O):=by
 unfold z1R z3r
 rw [hi]
 show z8l o (noX (z1M src _ (src.size O) 0 O []))=_
 have step:∀ a ∈ l,∀ acc:List D,acc.length < 100000->z4c ⟨it0,g,ts⟩ [] te (clr (σ ++ List.replicate ext none) (z1t [⟨it0,g,ts⟩])) (inj a) O acc=.ok (acc ++ (if p a=true then [e a] else [])) O:=by
  intro a ha acc hacc
  show (match g.put (inj a) (clr (clr (σ ++ List.replicate ext none) (g.slots ++ [])) (g.slots ++ [])) with|some σ1=>(z6K ts σ1 O).bnd fun b O3=>if b=true then z3E [] te σ1 O3 acc else .ok acc O3|none=>.bad)=_
  rw [hτ a ha]
  show (z6K ts (τ a) O).bnd _=_
  rw [hp a ha]
  show (if p a=true then z3E [] te _ O acc else .ok acc O)=_
  by_cases hpd:p a=true
  ·rw [if_pos hpd,if_pos hpd]
   unfold z3E
   rw [he a ha hpd]
   show (if acc.length < 100000 then _ else _)=_
   rw [if_pos hacc]
  ·rw [if_neg hpd,if_neg hpd];simp
 have hlen:((l.filter p).map e).length <= l.length:=by rw [List.length_map];exact List.length_filter_le _ _
 have w:=z9L (O:=O) (inj:=inj) (g:=fun d=>if p d=true then [e d] else []) hg l [] [] l.length rfl (Nat.le_refl _) step (by rw [z48];simp at hlen ⊢;omega)
 rw [z48,List.nil_append] at w
 have w':z1M src (z4c ⟨it0,g,ts⟩ [] te (clr (σ ++ List.replicate ext none) (z1t [⟨it0,g,ts⟩]))) (src.size O) 0 O []=.ok ((l.filter p).map e) O:=by rw [hsz];exact w
 rw [w'];rfl
section
variable {α:Type} {ext:Nat} {it0:DI} {i:Nat} {t:DT} {te:DE} {σ:Sg} {O O0:Ow} {l:List α} {inj:α->D} {p:α->Bool} {e:α->D} {τ:α->Sg} {o:Bool}
theorem ze2 {σ:Sg} {O:Ow} {b:Bool} (h:t σ O=.ok b O):z6K [t] σ O=.ok b O:=by
 show ((t σ O).bnd _)=_
 rw [h];cases b <;> rfl
theorem zfE (hi:it0 σ O0=.ok (.val (l.map inj)) O) (hl:l.length < 50000) (hτ:∀ a,(clr (clr (σ ++ List.replicate ext none) [i]) [i]).set i (some (inj a))=τ a) (hp:∀ a ∈ l,t (τ a) O=.ok (p a) O) (he:∀ a ∈ l,p a=true->te (τ a) O=.ok (e a) O):
  z1R o ext it0 (.one i) [t] [] te σ O0=z8l o (.ok ((l.filter p).map e) O):=
 z6T (g:=.one i) hi (fun _=>rfl) (by show (l.map inj).length=_;simp) hl (fun a _=>congrArg some (hτ a)) (fun a ha=>ze2 (hp a ha)) he
theorem z7w (hi:it0 σ O0=.ok (.val (l.map inj)) O) (hl:l.length < 50000) (hτ:∀ a,(clr (clr (σ ++ List.replicate ext none) [i]) [i]).set i (some (inj a))=τ a) (he:∀ a ∈ l,te (τ a) O=.ok (e a) O):
  z1R o ext it0 (.one i) [] [] te σ O0=z8l o (.ok (l.map e) O):=by
 have:=z6T (o:=o) (g:=.one i) (ts:=[]) (p:=fun _=>true) (te:=te) hi (fun _=>rfl) (by show (l.map inj).length=_;simp) hl (fun a _=>congrArg some (hτ a)) (fun a ha=>rfl) fun a ha _=>he a ha
 rw [this,List.filter_eq_self.mpr (fun _ _=>rfl)]
end
theorem zcy {α:Type} {it:DI} {i:Nat} {body:DS} {σ:Sg} {O0 O:Ow} {l:List α} {inj:α->D} (hi:it σ O0=.ok (.val (l.map inj)) O) (I:Nat->Sg->Ow->Prop) (h:∀ (k:Nat) a σ O,l[k]?=some a->I k σ O->∃ σ' O',body (σ.set i (some (inj a))) O=.nx σ' O'/\I (k + 1) σ' O') (h0:I 0 σ O):
  ∃ σ' O',z8s it (.one i) body σ O0=.nx σ' O'/\I l.length σ' O':=by
 obtain ⟨σ',O',l1,l2⟩:=z7I (ds:=l.map inj) (step:=fun d σ O=>match Tg.put (.one i) d σ with|some σ'=>body σ' O|none=>.bad) I (fun j σ O d hI hd=>by
  rw [List.getElem?_map] at hd
  cases e:l[j]? with
  | none=>rw [e] at hd;cases hd
  | some a=>
   rw [e] at hd;cases hd
   exact h j a σ O e hI) (l.map inj).length 0 σ O h0 (by simp) (Nat.zero_le _)
 rw [List.length_map] at l2
 exact ⟨σ',O',(zc4 hi).trans l1,l2⟩
theorem z6w:∀ l:List Bool,bls (l.map D.bl)=some l
 | []=>rfl
 | x :: l=>by
  show (bls (l.map D.bl)).map (x :: ·)=_
  rw [z6w l];rfl
theorem ziY {α:Type} (O:Ow) (l:List α) (p:α->Bool):zhK O [.lst (l.map fun a=>D.bl (p a))]=.ok (.bl (l.any p)) O:=by
 show (match bls (l.map fun a=>D.bl (p a)) with|some bs=>R.ok (D.bl (bs.any id)) O|none=>R.bad)=_
 have:(l.map fun a=>D.bl (p a))=(l.map p).map D.bl:=by rw [List.map_map];rfl
 rw [this,z6w]
 show R.ok (D.bl _) O=_
 rw [List.any_map];rfl
theorem z4h {α:Type} (O:Ow) (l:List α) (p:α->Bool):za9 O [.lst (l.map fun a=>D.bl (p a))]=.ok (.bl (l.all p)) O:=by
 show (match bls (l.map fun a=>D.bl (p a)) with|some bs=>R.ok (D.bl (bs.all id)) O|none=>R.bad)=_
 have:(l.map fun a=>D.bl (p a))=(l.map p).map D.bl:=by rw [List.map_map];rfl
 rw [this,z6w]
 show R.ok (D.bl _) O=_
 rw [List.all_map];rfl
end DL
namespace DL
open PySem L2
structure XAt (h0:Heap) (H:Hp) (h:Heap) (a:Addr) (C:Value):Prop where
 ex:∃ oe vs,h.get? a=some oe/\(oe.cls=C/\oe.dict=none)/\oe.data=.fields vs/\1 < vs.size/\(vs[1]?=some .none \/ ∃ T oT ts,vs[1]?=some (.ref T)/\T ≠ a/\h0.get? T=none/\H T=none/\h.get? T=some oT/\oT.data=.fields ts/\ts[3]?=some .none)
 new:h0.get? a=none
 free:H a=none
theorem zca (o:Obj) (f):(o.mapFields f).dict=o.dict:=by
 obtain ⟨c,d,dt,sl⟩:=o;cases dt <;> rfl
structure Kp (h0:Heap) (H:Hp) (fs:List Addr) (h h':Heap):Prop where
 keep:∀ b o,h.get? b=some o->b ∉ fs->(H b ≠ none \/ h0.get? b ≠ none)->h'.get? b=some o
 slot:∀ b o,h.get? b=some o->b ∈ fs->∃ sl,h'.get? b=some { o with slots:=sl }
 there:∀ b o,h.get? b=some o->∃ o',h'.get? b=some o'
 size:h.objs.size <= h'.objs.size
section
variable {M:Model} {A:Around} {E:Value->Shared->Prop} {s:Shared} {base h0:Heap} {H:Hp} {env:Env} {outer:List Env} {L a:Addr} {C:Value} {Q:Unit->Shared->Prop}
theorem zce {oe:Obj} {vs:Array Value} {head:Value} {hn:Bool} (hfr:A.frames=some (env :: outer)) (hl:s.heap.FunFrames base (env :: outer)) (hf:env.frame=some L) (he:s.heap.get? a=some oe) (hC:oe.cls=C/\oe.dict=none) (hd:oe.data=.fields vs) (hsz:1 < vs.size) (new:h0.get? a=none) (free:H a=none)
  (hH:∀ b,s.heap.objs.size <= b->H b=none) (h0s:∀ b,s.heap.objs.size <= b->h0.get? b=none) (h:∀ h',Kp h0 H (frs (env :: outer)) s.heap h'->XAt h0 H h' a C->Q () { s with heap:=h' }):
  wpAny M A (do let f <- frameOf env;let pl <- entryPlaceOf L hn;let b <- EntryCells.newEntry head f .none (rawInt L) .none pl;setField (.ref a) 1 b) (fun _ s'=>wpAny M A (setFlight (.ref a) none) Q E s') E s:=by
 have nin:a ∉ frs (env :: outer):=fun hm=>by
  obtain ⟨_,o,ho,hnf⟩:=hl.mem hm
  rw [he] at ho;cases ho
  exact hnf vs hd
 refine wpAny_bind (wpAny_frameOf_fun hfr hl hf fun h1 ⟨z1,k1,sl1⟩=>wpAny_bind (wpAny_entryPlaceOf fun pl hpl=>?_))
 unfold EntryCells.newEntry newFields
 refine wpAny_bind (wpAny_newObj_type ?_ (hpl.sizeOk5 _ _ _ _ _))
 have e1:h1.get? a=some oe:=(k1 a nin).trans he
 generalize hob:({ cls:=.type "traceback",dict:=none,data:=.fields ([head,.ref L,.none,rawInt L,.none] ++ (if pl.isEmpty then List.replicate 6 Value.none else pl)).toArray }:Obj)=ob
 have hobd:ob.data=.fields ([head,.ref L,.none,rawInt L,.none] ++ (if pl.isEmpty then List.replicate 6 Value.none else pl)).toArray:=by rw [<- hob]
 have e2:=Heap.get?_push_of_some (h:=h1) ob e1
 refine wpAny_setField e2 hd hsz ?_
 have nT:h1.objs.size ≠ a:=Nat.ne_of_gt (Heap.lt_size e1)
 have d3:=Obj.data_mapFields hd (·.setIfInBounds 1 (Value.ref h1.objs.size))
 have e3:=Heap.get?_update_self (Obj.mapFields (·.setIfInBounds 1 (Value.ref h1.objs.size))) e2 (Obj.isFreed_of_fields d3)
 have t3:((h1.push ob).update a (Obj.mapFields (·.setIfInBounds 1 (Value.ref h1.objs.size)))).get? h1.objs.size=some ob:=(Heap.get?_update_other _ _ (Ne.symm nT)).trans (Heap.get?_push_size h1 (Obj.isFreed_of_fields hobd))
 unfold setFlight
 refine wpAny_bind (wpAny_field e3 d3 (x:=.ref h1.objs.size) (by simp [hsz]) ?_)
 rw [if_pos (show (Value.ref h1.objs.size != Value.none)=true by simp)]
 have tsz:3 < ([head,.ref L,.none,rawInt L,.none] ++ (if pl.isEmpty then List.replicate 6 Value.none else pl)).toArray.size:=by simp only [List.size_toArray,List.length_append,List.length_cons,List.length_nil];omega
 refine wpAny_setField t3 hobd tsz (h _ ?_ ?_)
 ·have old:∀ b o,b ≠ a->h1.get? b=some o->(((h1.push ob).update a (Obj.mapFields (·.setIfInBounds 1 (Value.ref h1.objs.size)))).update h1.objs.size (Obj.mapFields (·.setIfInBounds 3 ((none:Option Addr).elim Value.none fun f=>rawInt f)))).get? b=some o:=fun b o hb e=>by
   rw [Heap.get?_update_other _ _ (Nat.ne_of_gt (Heap.lt_size e)),Heap.get?_update_other _ _ (Ne.symm hb)]
   exact Heap.get?_push_of_some _ e
  refine ⟨fun b o e hb hk=>old b o (fun z=>?_) ((k1 b hb).trans e),fun b o e hb=>?_,fun b o e=>?_,?_⟩
  ·subst z
   rcases hk with q|q
   ·exact q free
   ·exact q new
  ·obtain ⟨sl,q⟩:=sl1 b o e
   exact ⟨sl,old b _ (fun z=>nin (z ▸ hb)) q⟩
  ·by_cases hb:b=a
   ·subst hb
    exact ⟨_,(Heap.get?_update_other _ _ nT).trans e3⟩
   ·obtain ⟨sl,q⟩:=sl1 b o e
    exact ⟨_,old b _ hb q⟩
  ·rw [Heap.size_update,Heap.size_update,Heap.size_push,z1];exact Nat.le_succ _
 ·refine ⟨⟨_,_,(Heap.get?_update_other _ _ nT).trans e3,⟨(Obj.cls_mapFields _ _).trans hC.1,(zca _ _).trans hC.2⟩,d3,by simpa using hsz,.inr ⟨h1.objs.size,_,_,by simp [hsz],nT,?_,hH _ (by rw [z1];exact Nat.le_refl _),Heap.get?_update_self _ t3 (Obj.isFreed_of_fields (Obj.data_mapFields hobd _)),Obj.data_mapFields hobd _,?_⟩⟩,new,free⟩
  ·exact h0s _ (by rw [z1];exact Nat.le_refl _)
  ·rw [Array.getElem?_setIfInBounds_self]
   rw [if_pos tsz];rfl
theorem zcE (hfr:A.frames=some (env :: outer)) (hl:s.heap.FunFrames base (env :: outer)) (hf:env.frame=some L) (x:XAt h0 H s.heap a C) (hH:∀ b,s.heap.objs.size <= b->H b=none) (h0s:∀ b,s.heap.objs.size <= b->h0.get? b=none)
  (h:∀ h',Kp h0 H (frs (env :: outer)) s.heap h'->XAt h0 H h' a C->Q () { s with heap:=h' }):wpAny M A (noteFrame (.ref a) env) (fun _ s'=>wpAny M A (setFlight (.ref a) none) Q E s') E s:=by
 obtain ⟨⟨oe,vs,he,hC,hd,hsz,ht⟩,new,free⟩:=x
 unfold noteFrame
 simp only [hf]
 rcases ht with h1|⟨T,oT,ts,h1,nT,newT,freeT,hT,hdT,h3⟩
 ·refine wpAny_bind (wpAny_field he hd h1 ?_)
  rw [if_neg (by decide)]
  exact zce hfr hl hf he hC hd hsz new free hH h0s h
 ·refine wpAny_bind (wpAny_field he hd h1 ?_)
  rw [if_pos (show (Value.ref T != Value.none)=true by simp)]
  refine wpAny_bind (wpAny_field hT hdT h3 ?_)
  rw [if_neg (show ¬ ((Value.none == rawInt L)=true) by simp [rawInt])]
  refine wpAny_bind (wpAny_setField hT hdT (Array.getElem?_eq_some_iff.mp h3).1 ?_)
  have oth:∀ b,b ≠ T->(s.heap.update T (Obj.mapFields (·.setIfInBounds 3 Value.none))).get? b=s.heap.get? b:=fun b hb=>Heap.get?_update_other _ _ (Ne.symm hb)
  have rec_:∀ b o,s.heap.get? b=some o->(∀ vs,o.data ≠ .fields vs)->b ≠ T:=fun b o hb hnf z=>by
   subst z;rw [hT] at hb;cases hb;exact hnf ts hdT
  have sz:(s.heap.update T (Obj.mapFields (·.setIfInBounds 3 Value.none))).objs.size=s.heap.objs.size:=Heap.size_update ..
  refine zce (s:={ s with heap:=s.heap.update T (Obj.mapFields (·.setIfInBounds 3 Value.none)) }) hfr (hl.of_keeps fun b o hb hnf=>⟨o,(oth b (rec_ b o hb hnf)).trans hb,rfl⟩) hf ((oth a (Ne.symm nT)).trans he) hC hd hsz new free (fun b hb=>hH b (by rw [<- sz];exact hb)) (fun b hb=>h0s b (by rw [<- sz];exact hb)) fun h' kp xa=>h h' ⟨fun b o e hb hk=>?_,fun b o e hb=>?_,fun b o e=>?_,by rw [<- sz];exact kp.size⟩ xa
  ·refine kp.keep b o ((oth b fun z=>?_).trans e) hb hk
   subst z
   rcases hk with q|q
   ·exact q freeT
   ·exact q newT
  ·refine kp.slot b o ((oth b fun z=>?_).trans e) hb
   subst z
   obtain ⟨_,o',ho',hnf⟩:=hl.mem hb
   rw [hT] at ho';cases ho'
   exact hnf ts hdT
  ·by_cases hb:b=T
   ·subst hb
    exact kp.there b _ (Heap.get?_update_self _ hT (Obj.isFreed_of_fields (Obj.data_mapFields hdT _)))
   ·exact kp.there b o ((oth b hb).trans e)
end
open PyProof.Rows (AllBare)
def CXr (P:Program) (w:World) (Cl:Nat->Value):CXT:=fun outer H s E e s'=>∃ a c H',e=.ref a/\s'.os=s.os/\0 < s'.toks/\AllBare s'.gens/\Un (frs outer) [] H H' s.heap s'.heap/\HOk P w H' s'.heap/\XAt s.heap H' s'.heap a (Cl c)/\E (Cl c) none H'
abbrev Xk (Cl:Nat->Value) (E:XK):Nat->Hp->Prop:=fun c H=>E (Cl c) none H
def XOk (X:Cx) (Ex:Nat->Hp->Prop) (Cl:Nat->Value):Prop:=∀ (pins:List (Addr × Obj)) (σ:St) (H:Hp) (s:Shared) (a:Addr) (c:Nat),Inv X pins σ H s->XAt X.s₀.heap H s.heap a (Cl c)->Ex c H->X.xe (.ref a) s
theorem HOk.here {P:Program} {w:World} {H:Hp} {h:Heap} {a:Addr} (x:L2.HOk P w H h) (e:h.get? a=none):H a=none:=by
 cases q:H a with
 | none=>rfl
 | some o=>
  exfalso
  have y:=x a o q
  have no:∀ u,h.get? a=some u->False:=fun u z=>by rw [e] at z;cases z
  cases o with
  | lst xs=>obtain ⟨_,_,_,_,e⟩:=y;exact no _ e
  | tup xs=>obtain ⟨_,_,_,_,e,_⟩:=y;exact no _ e
  | dK kvs=>obtain ⟨_,_,_,_,o,_,_,e,_⟩:=y;exact no _ e
  | dT kvs=>obtain ⟨_,_,_,_,o,_,_,e,_⟩:=y;exact no _ e
  | set S n=>obtain ⟨o,_,_,_,e,_⟩:=y;exact no _ e
  | ins C dx fs=>obtain ⟨_,_,_,e,_⟩:=y;exact no _ e
  | own y'=>obtain ⟨_,e⟩:=y;exact no _ e
  | xd fs=>obtain ⟨_,⟨_,_,_,e,_⟩,_⟩:=y;exact no _ e
  | rng lo hi=>obtain ⟨_,_,_,e⟩:=y;exact no _ e
  | frz ob u=>obtain ⟨e,_⟩:=y;exact no _ e
  | tbl ps=>exact no _ (show h.get? a=some _ from y)
  | met f y'=>exact no _ (show h.get? a=some _ from y)
  | ext φ=>obtain ⟨_,⟨_,e⟩,_⟩:=y;exact no _ e
theorem Kp.hok {P:Program} {w:World} {H:Hp} {h0 h h':Heap} {fs:List Addr} (k:Kp h0 H fs h h') (x:L2.HOk P w H h) (hf:∀ b ∈ fs,H b=none):L2.HOk P w H h':=fun a o e=>
 (x a o e).stay (fun b u hb q=>k.keep b u q (fun z=>by
  rcases hb with rfl|hb
  ·rw [hf _ z] at e;cases e
  ·rw [hf _ z] at hb;cases hb) (.inl (by
  rcases hb with rfl|hb
  ·rw [e];exact fun z=>nomatch z
  ·rw [hb];exact fun z=>nomatch z))) (fun _ q=>q) fun _ _ q=>q
theorem XAt.older {h0 h1:Heap} {H:Hp} {h:Heap} {a:Addr} {C:Value} (x:XAt h1 H h a C) (k:∀ b o,h0.get? b=some o->∃ o',h1.get? b=some o'):XAt h0 H h a C:=by
 have old:∀ b,h1.get? b=none->h0.get? b=none:=fun b e=>by
  cases q:h0.get? b with
  | none=>rfl
  | some o=>obtain ⟨o',z⟩:=k b o q;rw [e] at z;cases z
 obtain ⟨⟨oe,vs,he,hC,hd,hsz,ht⟩,new,free⟩:=x
 refine ⟨⟨oe,vs,he,hC,hd,hsz,ht.imp id fun ⟨T,oT,ts,h1,nT,newT,r⟩=>⟨T,oT,ts,h1,nT,old T newT,r⟩⟩,old a new,free⟩
section
variable {P:Program} {w:World} {K:PySem.W.Frag} {mg:Str->Option Value} {base:Heap} {N:List Str} {qual:Str} {scope:Scope} {f:Addr} {cd:Value} {A:Around} {outer:List Env} {s:Shared} {H:Hp} {E:XK} {Cl:Nat->Value}
theorem z7y:XOk (zdc (CXr P w Cl) P w K mg base N qual scope f cd A outer s H E) (Xk Cl E) Cl:=by
 intro pins σ H1 s1 a c I x q
 generalize hX:zdc (CXr P w Cl) P w K mg base N qual scope f cd A outer s H E=X at I x ⊢
 have hfr:(A.deeper (PyProof.Rows.envOfC qual scope s.heap.objs.size f cd)).frames=some (PyProof.Rows.envOfC qual scope s.heap.objs.size f cd :: outer):=by have:=I.ok.frames;rw [<- hX] at this;exact this
 have hst:s1.heap.FunFrames base (PyProof.Rows.envOfC qual scope s.heap.objs.size f cd :: outer):=by have:=I.stack;rw [<- hX] at this;exact this
 have hfree:∀ b ∈ frs (PyProof.Rows.envOfC qual scope s.heap.objs.size f cd :: outer),H1 b=none:=by have:=I.stkFree;rw [<- hX] at this;exact this
 have hok:HOk P w H1 s1.heap:=by have:=I.hok;rw [<- hX] at this;exact this
 have hbase:Un (frs outer) [] H H1 s.heap s1.heap:=by have:=I.base;rw [<- hX] at this;exact this
 have hos:s1.os=s.os:=by have:=I.os;rw [<- hX] at this;exact this
 have hsz:s.heap.objs.size <= s1.heap.objs.size:=by have:=I.sz;rw [<- hX] at this;exact this
 have hL:H1 s.heap.objs.size=none:=by have:=I.free;rw [<- hX] at this;exact this
 have hx:XAt s.heap H1 s1.heap a (Cl c):=by rw [<- hX] at x;exact x
 have hbare:=I.bare
 rw [<- hX]
 show wpAny (model P w) (A.deeper (PyProof.Rows.envOfC qual scope s.heap.objs.size f cd)) (leaving (PyProof.Rows.envOfC qual scope s.heap.objs.size f cd) (.ref a)) (fun _ s''=>CXr P w Cl outer H s E (.ref a) s'') (fun e' s''=>CXr P w Cl outer H s E e' s'') s1
 unfold leaving
 refine wpAny_bind (zcE hfr hst rfl hx (fun b hb=>hok.fresh hb) (fun b hb=>Heap.get?_none_of_le (Nat.le_trans hsz hb)) fun h' kp xa=>?_)
 refine ⟨a,c,H1,rfl,hos,I.tk,hbare,?_,kp.hok hok hfree,xa,q⟩
 refine ⟨fun b o e n hb hx=>?_,fun b o e n hb hx=>?_,fun b o e n hx=>hbase.free b o e n hx,fun b o e hx=>?_,hbase.tups,hbase.frzs,hbase.tbls⟩
 ·refine kp.keep b o (hbase.keep b o e n hb hx) (fun z=>?_) (.inr (by rw [e];exact fun z=>nomatch z))
  have z':b ∈ s.heap.objs.size :: frs outer:=z
  rcases List.mem_cons.mp z' with z2|z2
  ·exact absurd (Heap.lt_size e) (by rw [z2];exact Nat.lt_irrefl _)
  ·exact hb z2
 ·obtain ⟨sl,e1⟩:=hbase.slot b o e n hb hx
  obtain ⟨sl',e2⟩:=kp.slot b _ e1 (show b ∈ s.heap.objs.size :: frs outer from List.mem_cons_of_mem _ hb)
  exact ⟨sl',e2⟩
 ·obtain ⟨o',e1⟩:=hbase.there b o e hx
  exact kp.there b o' e1
end
section
variable {X:Cx} {Cl:Nat->Value} {E:XK}
theorem z77 (hex:X.ex=[]) (h:XOk X (Xk Cl E) Cl):z5G (CXr X.prog X.w Cl) X E:=by
 rintro pins σ H s e s' I ⟨a,c,H',rfl,os,htk,bare,un,hok,x,q⟩
 have I':Inv X pins σ H' s':=I.call' (ch:=[]) os un hok bare (fun b z=>absurd z (by simp))
 exact h pins σ H' s' a c I' (x.older fun b o e=>I.base.there b o e (by rw [hex];simp)) q
theorem z9h:z5G (CXr X.prog X.w Cl) X E0:=by
 rintro pins σ H s e s' I ⟨a,c,H',rfl,os,htk,bare,un,hok,x,q⟩
 exact False.elim q
end
abbrev zh1:List Value:=[.type "ValueError",.type "Exception",.type "BaseException",.type "object"]
abbrev ziu (mg:Str->Option Value) (base:Heap) (x:Str) (C:Addr):Prop:=PyProof.Rows.OwnCls x C zh1 "ValueError.__new__" mg base
section
variable {X:Cx} {Ex:Nat->Hp->Prop} {Cl:Nat->Value}
def z52 (c:Nat) (t:DA):DS:=fun σ O=>(t σ O).bnS fun xs O1=>if xs.length <= 1000 then .exc c O1 else .bad
theorem zdR {pins:List (Addr × Obj)} {σ:St} {H:Hp} {s:Shared} {h':Heap} {a:Addr} {C:Value} {vs:List Value} (I:Inv X pins σ H s) (hex:X.ex=[]) (m:Heap.MadeExcOf s.heap h' a C vs):XAt X.s₀.heap H h' a C:=by
 obtain ⟨t,h1,h2,h3⟩:=m.there
 refine ⟨⟨_,_,h1,⟨rfl,rfl⟩,rfl,by simp,.inl rfl⟩,?_,HOk.here I.hok m.new⟩
 cases q:X.s₀.heap.get? a with
 | none=>rfl
 | some o=>
  obtain ⟨o',z⟩:=I.base.there a o q (by rw [hex];simp)
  rw [m.new] at z;cases z
theorem z5A {x:Str} {C:Addr} {c:Nat} {np cpos pos:Pos} {e:Expr} {es:List Expr} {t:DA} (hX:XOk X Ex Cl) (hex:X.ex=[]) (hcl:Cl c=.ref C) (own:ziu X.mg X.base x C) (hc:X.calm=true) (hg:Gl X x) (ha:PDA X Ex (e :: es) t)
  (hdb:(x == ("__debug__":Str))=false:=by decide) (he:starEach (e :: es) X.env=(false,eval e X.env) :: starEach es X.env:=by rfl) (hpl:(backTo cpos (starEach (e :: es) X.env)).any (·.1)=false:=by rfl) (hbk:∃ y z2C,backTo cpos (starEach (e :: es) X.env)=(false,y) :: z2C:=by exact ⟨_,_,rfl⟩):
  PDS X Ex (.Raise (some (.Call (.Name x np) (e :: es) [] cpos)) none pos) (z52 c t):=by
 refine ⟨?_⟩
 rintro pins s σv H D I ⟨hid,μ,σ,O,e1,c1,q⟩
 obtain ⟨bm,N,nm,qn,bs,hdct,sn,sub,ab,col,dd,k0,k1,k2,k3,k5,mN,hC,hN,hni,TL⟩:=own.obj
 refine wpAny_Raise_call_subU (nm:=nm) (q:=qn) (N:=N) (bs:=bs) (hdct:=hdct) (sn:=sn) (sub:=sub) (ab:=ab) (col:=col) (dd:=dd) (k0:=k0) (k1:=k1) (k2:=k2) (k3:=k3) (k5:=k5) PySem.F.excBase_ValueError (bmB:=zh1) (by rfl) PySem.F.excBase_ValueError (TL.hasType (by rfl)) (I.ok.hd hc) hpl hni (z4P I hg own.bound ⟨rfl,?_⟩ hdb)
 have go:=ha.out cpos pins s σv H (fun vs H1=>vs.length <= 1000/\Ex c H1) I ⟨hid,μ,σ,O,e1,c1,postS.bnS (q:postS Ex X.K H hid μ (z52 c t σ O) D) fun ds O1 vs H1 μ1 x2 c2 d2 q2=>by
  by_cases hl:ds.length <= 1000
  ·rw [if_pos hl] at q2
   exact ⟨by rw [<- d2.length];exact hl,q2 H1 μ1 .refl c2⟩
  ·rw [if_neg hl] at q2;exact False.elim q2⟩
 obtain ⟨y,z2C,hb⟩:=hbk
 rw [hb] at go ⊢
 refine PySem.Calls.evalArgs_plain (thn go fun us s1 ⟨vs,H1,I1,r,hl,hx⟩=>⟨rfl,Nat.le_trans (by rw [<- r.length];exact hl) (by decide),I1.bk _ _ hC,hN.keeps I1.bk,TL.keeps I1.bk,fun h' a m=>?_⟩)
 exact hX pins σv H1 { s1 with heap:=h' } a c (I1.kept (t':=s1.toks) m.keeps) (by rw [hcl];exact zdR I1 hex m) hx
end
abbrev cxX (Cl:Nat->Value) (P:Program) (w:World) (K:PySem.W.Frag) (mg:Str->Option Value) (base:Heap) (N:List Str) (qual:Str) (scope:Scope) (f:Addr) (cdv:Value) (A:Around) (outer:List Env) (s:Shared) (H:Hp) (E:XK):Cx:=
 zdc (CXr P w Cl) P w K mg base N qual scope f cdv A outer s H E
theorem zfY {Cl:Nat->Value} {P:Program} {w:World} {K:PySem.W.Frag} {mg:Str->Option Value} {base:Heap} {N:List Str} {qual:Str} {scope:Scope} {f:Addr} {cdv:Value} {A:Around} {outer:List Env} {s:Shared} {H:Hp} {E:XK}:
  PassesOwn (model P w) (cxX Cl P w K mg base N qual scope f cdv A outer s H E).A (cxX Cl P w K mg base N qual scope f cdv A outer s H E).env (cxX Cl P w K mg base N qual scope f cdv A outer s H E).xe:=
 PassesOwn.leaving (Q₁:=fun e s''=>CXr P w Cl outer H s E e s'') (E₁:=fun e' s''=>CXr P w Cl outer H s E e' s'')
theorem zhy {Cl:Nat->Value} {P:Program} {w:World} {K:PySem.W.Frag} {mg:Str->Option Value} {base:Heap} {k:Nat} {f:Addr} {name qual:Str} {params:Arguments} {body:List Stmt} {scope:Scope} {dV kV doc pm cdv ct oc:Value} {an od:Option Addr} {osl:Array (Option Value)} {N ps:List Str} {t:DS}
  (lk:K.lookup f=some ⟨oc,od,.func (PySem.W.fnOf name qual params body scope dV kV doc pm an cdv ct),osl⟩) (hcd:PySem.W.codeIn K cdv qual=true) (S:z1v N ps scope)
  (hbody:∀ (A:Around) (outer:List Env) (s:Shared) (H:Hp) (E:XK),Room k (A.deeper (PyProof.Rows.envOfC qual scope s.heap.objs.size f cdv))->z51 (cxX Cl P w K mg base N qual scope f cdv A outer s H E) (Xk Cl E) body t):
  FnOk P w K mg base (CXr P w Cl) (k + 1) f (PySem.W.fnOf name qual params body scope dV kV doc pm an cdv ct) ps (DSp K (Xk Cl) ps.length (z3m N.length t)):=by
 refine z1S lk hcd S (fun vs H Q E h=>h.1) fun A outer s H vs Q E hr h=>?_
 obtain ⟨hl,hid,μ,ds,O,d,c,q⟩:=h
 refine ⟨_,(hbody A outer s H E hr).out,hid,μ,_,O,z5r d N,c,?_⟩
 unfold z3m at q
 generalize t (ds.map some ++ List.replicate (N.length - ds.length) none) O=r at q
 cases r with
 | nx σ O'=>exact fun σv H' μ' x e c'=>q .non H' μ' x c' z4U
 | rt d' O'=>exact fun v H' μ' x c' r=>q v H' μ' x c' r
 | bk σ O'=>exact False.elim q
 | ct σ O'=>exact False.elim q
 | exc c' O'=>exact fun H' μ' x c2=>q H' μ' x c2
 | bad=>exact False.elim q
structure CalleeX (Cl:Nat->Value) (P:Program) (w:World) (K:PySem.W.Frag) (mg:Str->Option Value) (base:Heap) (x:Str) (k n:Nat) (F:List D->Ow->R D):Prop where
 ex:∃ f fd ps,mg x=some (.ref f)/\PySem.W.keepIn K (.ref f)=true/\Binds K fd ps []/\FnOk P w K mg base (CXr P w Cl) k f fd ps (DSp K (Xk Cl) n F)
theorem zaQ {Cl:Nat->Value} {X:Cx} {E:XK} {x:Str} {k j n:Nat} {F:List D->Ow->R D} {p pos:Pos} {e:Expr} {es:List Expr} {t:DA} (c:CalleeX Cl X.prog X.w X.K X.mg X.base x k n F) (hx:z5G (CXr X.prog X.w Cl) X E) (hr:Room j X.A) (hk:k <= j) (hg:Gl X x) (ha:PDA X (Xk Cl E) (e :: es) t)
  (hdb:(x == ("__debug__":Str))=false:=by decide) (he:starEach (e :: es) X.env=(false,eval e X.env) :: starEach es X.env:=by rfl) (hpl:(backTo pos (starEach es X.env)).any (·.1)=false:=by rfl):
  PD X (Xk Cl E) (.Call (.Name x p) (e :: es) [] pos) (dFn n F t):=by
 obtain ⟨f,fd,ps,hm,hkp,hb,G⟩:=c.ex
 exact zjA (Ec:=Xk Cl) (E:=E) (G.mono hk) hr hg hm hkp hb hx ha hdb he hpl
theorem zgA {Cl:Nat->Value} {X:Cx} {x:Str} {k j n:Nat} {F:List D->Ow->R D} {p pos:Pos} {e:Expr} {es:List Expr} {t:DA} (c:CalleeX Cl X.prog X.w X.K X.mg X.base x k n F) (hr:Room j X.A) (hk:k <= j) (hg:Gl X x) (ha:PDA X Ex0 (e :: es) t)
  (hdb:(x == ("__debug__":Str))=false:=by decide) (he:starEach (e :: es) X.env=(false,eval e X.env) :: starEach es X.env:=by rfl) (hpl:(backTo pos (starEach es X.env)).any (·.1)=false:=by rfl):
  PD X Ex0 (.Call (.Name x p) (e :: es) [] pos) (dFn n F t):=zaQ (E:=E0) c z9h hr hk hg ha hdb he hpl
theorem fnX {Cl:Nat->Value} {P:Program} {w:World} {K:PySem.W.Frag} {mg:Str->Option Value} {base:Heap} {k:Nat} {x:Str} {st:Stmt} {N ps:List Str} {t:DS} (h:z1Y K mg x st) (S:z1v N ps (z1o st))
  (hb:∀ (kV doc pm:Value) (an:Option Addr) (cdv ct:Value) (us:List Value),us.length=ps.length->bindArgs (PySem.W.fnOf x x (z2x st) (z1U st) (z1o st) .none kV doc pm an cdv ct) ⟨us,[]⟩=pure (ps.zip us))
  (hbody:∀ (f:Addr) (cdv:Value) (A:Around) (outer:List Env) (s:Shared) (H:Hp) (E:XK),Room k (A.deeper (PyProof.Rows.envOfC x (z1o st) s.heap.objs.size f cdv))->z51 (cxX Cl P w K mg base N x (z1o st) f cdv A outer s H E) (Xk Cl E) (z1U st) t):
  CalleeX Cl P w K mg base x (k + 1) ps.length (z3m N.length t):=by
 obtain ⟨f,fd,hm,F⟩:=h
 refine ⟨f,fd,ps,hm,F.kp,F.binds hb,?_⟩
 obtain ⟨oc,od,kV,doc,pm,an,cdv,ct,osl,rfl,lk,hcd⟩:=F.ex
 exact zhy lk hcd S fun A outer s H E hr=>hbody f cdv A outer s H E hr
section
variable {Cl:Nat->Value} {P:Program} {w:World} {K:PySem.W.Frag} {mg:Str->Option Value} {base:Heap} {k n:Nat} {x:Str} {F G:List D->Ow->R D}
theorem CalleeX.imp (c:CalleeX Cl P w K mg base x k n F) (h:∀ ds O H hid μ Ex Q,Cells K H hid μ O->z1I Ex K H hid μ (G ds O) Q->z1I Ex K H hid μ (F ds O) Q):CalleeX Cl P w K mg base x k n G:=by
 obtain ⟨f,fd,ps,hm,hkp,hb,Fo⟩:=c.ex
 refine ⟨f,fd,ps,hm,hkp,hb,Fo.imp fun vs H Q E ⟨hl,hid,μ,ds,O,d,cl,q⟩=>⟨hl,hid,μ,ds,O,d,cl,h ds O H hid μ _ Q cl q⟩⟩
theorem CalleeX.bad (c:CalleeX Cl P w K mg base x k n F):CalleeX Cl P w K mg base x k n (fun _ _=>.bad):=c.imp fun _ _ _ _ _ _ _ _ q=>False.elim q
theorem CalleeX.self (c:CalleeX Cl P w K mg base x k n F):CalleeX Cl P w K mg base x k n F:=c
end
def zj2 (f:Nat->Option Bool):D->Option Bool
 | .exn C=>f C
 | .non=>some false
 | _=>none
def z66 (f:Nat->Option Bool) (t:DE):DE:=fun σ O=>(t σ O).bnd fun d O1=>match zj2 f d with
 | some b=>.ok (.bl b) O1
 | none=>.bad
section
variable {X:Cx} {Ex:Nat->Hp->Prop} {pos:Pos} {a:Expr} {ta:DE}
theorem z9r {cv:V} {cval:Value} (f:Nat->Option Bool) (hc:∀ u,RelV cv u->u=cval) (hn:PySem.W.kitOne X.K (.type "NoneType") cval=some false) (hf:∀ C b,f C=some b->PySem.W.kitOne X.K (.ref C) cval=some b):
  CallR X (.builtin "isinstance") (fun xs H Q=>∃ x hid μ O d b,xs=[x,cv]/\Cells X.K H hid μ O/\Dat X.K H hid μ d x/\zj2 f d=some b/\Q (.bl b) H):=by
 intro pins s σ H xs us Q I r h
 obtain ⟨x,hid,μ,O,d,b,rfl,cl,dx,hb,q⟩:=h
 obtain ⟨u,w',rfl,rx,rc⟩:=z8Z r
 obtain rfl:=hc _ rc
 cases d with
 | non=>
  unfold Dat at dx;subst dx;cases rx
  cases hb
  exact wT I (PySem.W.kia_one PySem.W.kitx_none I.kIn True.intro hn (fun z=>nomatch z) fun tk htk=>⟨.bl _,H,I.tok tk,rfl,q⟩)
 | exn C=>
  unfold Dat at dx
  obtain ⟨p,φ,rfl,⟨k,g⟩,hr,_⟩:=dx
  cases rx
  obtain ⟨y,_⟩:=Rd.ok hr I.hok
  exact wT I (PySem.W.kia_one (zeN k) I.kIn (g _ y) (hf C b hb) (fun z=>nomatch z) fun tk htk=>⟨.bl _,H,I.tok tk,rfl,q⟩)
 | _=>cases hb
theorem zbs {f:Nat->Option Bool} {cv:V}:∀ hid μ σ O σv H Q,EnvOk X.K H hid μ σ σv->Cells X.K H hid μ O->z1I Ex X.K H hid μ (z66 f ta σ O) Q->rd Ex X.K ta σv H fun v H1=>∃ x hid μ O d b,[v,cv]=[x,cv]/\Cells X.K H1 hid μ O/\Dat X.K H1 hid μ d x/\zj2 f d=some b/\Q (.bl b) H1:=
 fun hid μ σ O σv H Q e1 c1 q=>rd.go e1 c1 q fun d O1 v H1 μ1 e2 x cl r p2=>by
  cases hb:zj2 f d with
  | none=>rw [hb] at p2;exact False.elim p2
  | some b=>rw [hb] at p2;exact ⟨v,hid,μ1,O1,d,b,rfl,cl,r,hb,post.here p2 cl z2r⟩
theorem z3n {x:Str} {C0:Addr} {f:Nat->Option Bool} {p p':Pos} (ha:PD X Ex a ta) (hg:Gl X "isinstance") (hm:X.mg "isinstance" = none) (hv:bootBuiltins "isinstance" = some (.builtin "isinstance")) (hgC:Gl X x) (hmC:X.mg x=some (.ref C0))
  (hn:PySem.W.kitOne X.K (.type "NoneType") (.ref C0)=some false) (hf:∀ C b,f C=some b->PySem.W.kitOne X.K (.ref C) (.ref C0)=some b)
  (hCd:(x == ("__debug__":Str))=false:=by decide) (he:starEach [a,.Name x p'] X.env=(false,eval a X.env) :: starEach [.Name x p'] X.env:=by rfl) (he2:starEach [.Name x p'] X.env=[(false,eval (.Name x p') X.env)]:=by rfl) (hpl:(backTo pos (starEach [.Name x p'] X.env)).any (·.1)=false:=by rfl):
  PD X Ex (.Call (.Name "isinstance" p) [a,.Name x p'] [] pos) (z66 f ta):=
 z2a (z3t (z9r (X:=X) (cv:=.ref C0) (cval:=.ref C0) f (fun u r=>by cases r;rfl) hn hf) hg hm hv (z23 ha.out (z23 (z5N (v:=.ref C0) hgC hmC rfl hCd) z39 he2) he) (by decide) (by decide) he hpl) zbs
theorem zft {x:Str} {n:String} {f:Nat->Option Bool} {p p':Pos} (ha:PD X Ex a ta) (hg:Gl X "isinstance") (hm:X.mg "isinstance" = none) (hv:bootBuiltins "isinstance" = some (.builtin "isinstance")) (hgC:Gl X x) (hmC:X.mg x=none) (hvC:bootBuiltins x=some (.type n))
  (hn:PySem.W.kitOne X.K (.type "NoneType") (.type n)=some false) (hf:∀ C b,f C=some b->PySem.W.kitOne X.K (.ref C) (.type n)=some b) (hCn:x ≠ "__name__":=by decide)
  (hCd:(x == ("__debug__":Str))=false:=by decide) (he:starEach [a,.Name x p'] X.env=(false,eval a X.env) :: starEach [.Name x p'] X.env:=by rfl) (he2:starEach [.Name x p'] X.env=[(false,eval (.Name x p') X.env)]:=by rfl) (hpl:(backTo pos (starEach [.Name x p'] X.env)).any (·.1)=false:=by rfl):
  PD X Ex (.Call (.Name "isinstance" p) [a,.Name x p'] [] pos) (z66 f ta):=
 z2a (z3t (z9r (X:=X) (cv:=.ty n) (cval:=.type n) f (fun u r=>by cases r;rfl) hn hf) hg hm hv (z23 ha.out (z23 (z6L (v:=.ty n) hgC hmC hvC rfl hCn hCd) z39 he2) he) (by decide) (by decide) he hpl) zbs
end
open PyProof.Rows (AllBare IntsAre)
section
variable {X:Cx} {pins:List (Addr × Obj)} {σ:St} {H:Hp} {s:Shared}
theorem Inv.fake {i:Nat} {x:Str} {v:V} (I:L2.Inv X pins σ H s) (hi:X.N[i]?=some x) (hx:¬ Vis X.env.scope x):L2.Inv X pins (σ.set i (some v)) H s:=by
 obtain ⟨m,hn,hl⟩:=I.loc
 refine ⟨I.ok,I.os,I.bare,I.base,⟨m,hn,fun j y w e1 e2 e3=>?_⟩,I.cell,I.free,I.freeC,I.pin,I.hok,by rw [List.length_set];exact I.len,I.tk⟩
 by_cases hj:j=i
 ·subst hj
  rw [hi] at e1;cases e1
  exact absurd e3 hx
 ·rw [List.getElem?_set_ne (Ne.symm hj)] at e2
  exact hl j y w e1 e2 e3
theorem PSs.fake {i:Nat} {x:Str} {v:V} {body:List Stmt} {t:TS} (hi:X.N[i]?=some x) (hx:¬ Vis X.env.scope x) (h:PSs X body t):PSs X body fun D σ H=>t D (σ.set i (some v)) H:=
 fun pins s σ H D I q=>h pins s _ H D (Inv.fake I hi hx) q
end
theorem Tidy.empty {H:Hp} {P:Addr} (h:H P=some (.tbl #[])):Tidy H P:=⟨#[],h,trivial,fun pos cv e=>by cases e⟩
def ze1 (K:PySem.W.Frag) (Ec:XK->Nat->Hp->Prop) (n:Nat) (P:Addr) (F:List D->Ow->R D):Sp:=fun vs H Q E=>vs.length=n/\∃ hid μ ds O,Dats K H hid μ ds vs/\Cells K H hid μ O/\Tidy H P/\z1I (Ec E) K H hid μ (F ds O) Q
def zeT (n i:Nat) (P:Nat) (t:DS):List D->Ow->R D:=fun ds O=>fin (t ((ds.map some ++ List.replicate (n - ds.length) none).set i (some (.tab P))) O)
theorem zey {Cl:Nat->Value} {P:Program} {w:World} {K:PySem.W.Frag} {mg:Str->Option Value} {base:Heap} {k i:Nat} {f Pt:Addr} {x:Str} {name qual:Str} {params:Arguments} {body:List Stmt} {scope:Scope} {dV kV doc pm cdv ct oc:Value} {an od:Option Addr} {osl:Array (Option Value)} {N ps:List Str} {t:DS}
  (lk:K.lookup f=some ⟨oc,od,.func (PySem.W.fnOf name qual params body scope dV kV doc pm an cdv ct),osl⟩) (hcd:PySem.W.codeIn K cdv qual=true) (S:z1v N ps scope) (hi:N[i]?=some x) (hx:¬ Vis scope x)
  (hbody:∀ (A:Around) (outer:List Env) (s:Shared) (H:Hp) (E:XK),Room k (A.deeper (PyProof.Rows.envOfC qual scope s.heap.objs.size f cdv))->z51 (cxX Cl P w K mg base N qual scope f cdv A outer s H E) (Xk Cl E) body t):
  FnOk P w K mg base (CXr P w Cl) (k + 1) f (PySem.W.fnOf name qual params body scope dV kV doc pm an cdv ct) ps (ze1 K (Xk Cl) ps.length Pt (zeT N.length i Pt t)):=by
 refine z1S lk hcd S (fun vs H Q E h=>h.1) fun A outer s H vs Q E hr h=>?_
 obtain ⟨hl,hid,μ,ds,O,d,c,ti,qq⟩:=h
 refine ⟨_,PSs.fake (v:=.bl false) hi hx (hbody A outer s H E hr).out,hid,μ,_,O,(z5r d N).set (d:=.tab Pt) (v:=.bl false) (by unfold Dat;exact ⟨rfl,ti⟩) i,c,?_⟩
 unfold zeT at qq
 generalize t ((ds.map some ++ List.replicate (N.length - ds.length) none).set i (some (.tab Pt))) O=r at qq
 cases r with
 | nx σ O'=>exact fun σv H' μ' x e c'=>qq .non H' μ' x c' z4U
 | rt d' O'=>exact fun v H' μ' x c' r=>qq v H' μ' x c' r
 | bk σ O'=>exact False.elim qq
 | ct σ O'=>exact False.elim qq
 | exc c' O'=>exact fun H' μ' x c2=>qq H' μ' x c2
 | bad=>exact False.elim qq
structure z5u (mg:Str->Option Value) (base:Heap) (c Pt:Addr):Prop where
 hd:PySem.W.CodeHd base c Pt
 bl:base.BuiltinsAt mg Pt
theorem zbY {P:Program} {w:World} {K:PySem.W.Frag} {mg mb:Str->Option Value} {CX:CXT} {k:Nat} {fa a c Pt:Addr} {fd:FuncData} {x:Str} {sp:Sp} {s₁:Shared} {vs:List Value} {ns:List Int}
  (KX:K.In s₁.heap) (hns:s₁.heap.Ns mainGlobals mg) (hb:s₁.heap.Ns builtinsNs mb) (hbb:∀ x:Str,x ≠ "__name__"->mb x=bootBuiltins x) (hlim:s₁.heap.NoLimit) (hg:s₁.gens = #[]) (htk:0 < s₁.toks)
  (ha:s₁.heap.get? a=some { cls:=.type "list",data:=.seq vs.toArray }) (hi:IntsAre vs ns) (hl:ns.length <= sizeLine) (hr:Room k callerA)
  (hC:PySem.W.CodeHd s₁.heap c Pt) (hP:s₁.heap.get? Pt=some (PySem.W.tabObj #[])) (hK:PySem.W.noTabs K=true) (hB:s₁.heap.BuiltinsAt mg Pt)
  (F:∀ base:Heap,K.In base->base.Ns mainGlobals mg->z5u mg base c Pt->FnOk P w K mg base CX k fa fd [x] sp) (hbind:∀ (s:Shared) (u:Value),BindsTo s fd ⟨[u],[]⟩ [(x,u)])
  (hsp:∀ H:Hp,H Pt=some (.tbl #[])->SqL K H a (ns.map V.int)->sp [.ref a] H (fun v _=>v=.bl true) fun _ _ _=>False)
  (hCX:∀ H e s',CX [] H s₁ (fun _ _ _=>False) e s'->False):
  codeAny (model P w) callerA (.call (.ref fa) ⟨[.ref a],[]⟩) (fun r s'=>r=.ok (.ret (.bool true))/\OldK s₁.heap s'.heap/\s'.os=s₁.os/\AllBare s'.gens) s₁:=by
 have rv:=z8d hi
 have lenV:=hi.length
 have naP:a ≠ Pt:=by rintro rfl;rw [ha] at hP;cases hP
 have nKP:K.lookup Pt=none:=by
  cases q:K.lookup Pt with
  | none=>rfl
  | some o=>
   have e:=KX Pt o q
   rw [hP] at e;cases e
   have h2:=List.all_eq_true.mp hK (Pt,_) (PySem.W.mem_of_lookupK q)
   exact absurd (show false=true from h2) Bool.false_ne_true
 -- H: the table, and the script where it is none of the module's objects
 have core:∀ H:Hp,H Pt=some (.tbl #[])->SqL K H a (ns.map V.int)->HOk P w H s₁.heap->(∀ b,H b ≠ none->b=a \/ b=Pt)->(H a=none \/ (K.lookup a=none/\∃ o xs,H a=some (.frz o (.lst xs))))->
   codeAny (model P w) callerA (.call (.ref fa) ⟨[.ref a],[]⟩) (fun r s'=>r=.ok (.ret (.bool true))/\OldK s₁.heap s'.heap/\s'.os=s₁.os/\AllBare s'.gens) s₁:=by
  intro H hT hS hok hA hKa
  have base_of:∀ {b:Addr} {o:Obj},s₁.heap.get? b=some o->H b=none->(zcM s₁.heap H).get? b=some o:=fun e n=>ze8 e n
  have noA:∀ {b:Addr} {o:Obj} {es:Array DictEntry} {ep:Nat},s₁.heap.get? b=some o->o.data=.dict es ep->H b=none:=fun {b o es ep} e d=>by
   cases q:H b with
   | none=>rfl
   | some u=>
    rcases hA b (by rw [q];simp) with e'|e'
    ·subst e'
     rw [ha] at e;cases e
     have d':Data.seq vs.toArray _=Data.dict es ep:=d
     cases d'
    ·subst e'
     rw [hP] at e;cases e
     have d':Data.fields #[]=Data.dict es ep:=d
     cases d'
  have nsK:∀ {b:Addr} {m:Str->Option Value},s₁.heap.Ns b m->(zcM s₁.heap H).Ns b m:=fun {b m} ⟨o,es,ep,e,d,r⟩=>⟨o,es,ep,base_of e (noA e d),d,r⟩
  have hKb:K.In (zcM s₁.heap H):=fun b o e=>base_of (KX b o e) (by
   cases q:H b with
   | none=>rfl
   | some u=>
    rcases hA b (by rw [q];simp) with e'|e'
    ·subst e'
     rcases hKa with z|⟨z,_⟩
     ·rw [z] at q;cases q
     ·rw [z] at e;cases e
    ·subst e'
     rw [nKP] at e;cases e)
  have hM:Mod K mg (zcM s₁.heap H):=⟨hKb,nsK hns,⟨mb,nsK hb,hbb⟩,let ⟨mc,h1,h2⟩:=hlim;⟨mc,nsK h1,h2⟩⟩
  have e0:zeS P w K mg (zcM s₁.heap H) callerA [] s₁ H:=⟨rfl,hM,fun b o e=>zfO e,Nat.le_of_eq (zb8 _ _),trivial,fun b hb=>absurd (show b ∈ ([]:List Addr) from hb) (by simp),hok,.of_eq hg,htk⟩
  have noC:∀ {b:Addr} {o:Obj},s₁.heap.get? b=some o->o.cls ≠ .none->(o.cls ≠ .type "list")->H b=none:=fun {b o} e d1 d2=>by
   cases q:H b with
   | none=>rfl
   | some u=>
    rcases hA b (by rw [q];simp) with e'|e'
    ·subst e';rw [ha] at e;cases e;exact absurd rfl d2
    ·subst e';rw [hP] at e;cases e;exact absurd rfl d1
  have hL:z5u mg (zcM s₁.heap H) c Pt:=by
   obtain ⟨o,vs,file,tf,flags,tg,inF,text,tt,e1,r1,r⟩:=hC
   obtain ⟨bm,ob,b1,b2,b3,b4,b5,b6,b7,b8⟩:=hB
   exact ⟨⟨o,vs,file,tf,flags,tg,inF,text,tt,base_of e1 (noC e1 (by rw [r1];exact fun z=>nomatch z) (by rw [r1];decide)),r1,r⟩,⟨bm,ob,b1,b2,b3,b4,base_of b5 (noC b5 (by rw [b6];exact fun z=>nomatch z) (by rw [b6];decide)),b6,b7,b8⟩⟩
  refine codeAny_mono ((F _ hKb (nsK hns) hL).run callerA [] s₁ H ⟨[.ref a],[]⟩ [.ref a] [.ref a] _ _ hr e0 (hbind s₁ (.ref a)) (.cons rfl .nil) (hsp H hT hS)) fun r s' h=>?_
  cases r with
  | error e=>exact (hCX H e s' h).elim
  | ok fl=>
   cases fl with
   | next=>exact False.elim h
   | brk=>exact False.elim h
   | cont=>exact False.elim h
   | ret u=>
    obtain ⟨⟨v,H',os,bare,un,hok',r',q⟩,_⟩:=h
    have q':v=.bl true:=q
    subst q'
    obtain rfl:u=Value.bool true:=r'
    obtain ⟨more,hT'⟩:=un.tbls Pt #[] hT
    have hP':s'.heap.get? Pt=some { cls:=.none,data:=.fields (#[] ++ more) }:=hok' Pt _ hT'
    refine ⟨rfl,⟨fun b o e=>?_,fun b o e=>?_⟩,os,bare⟩
    ·by_cases hbP:b=Pt
     ·subst hbP
      rw [hP] at e;cases e
      exact .inr (.inl ⟨(hC.tab hP).isCodeTable,rfl,#[],more,rfl,hP'⟩)
     ·cases q:H b with
      | none=>exact .inl (un.keep b o e q (by intro z;exact absurd (show b ∈ ([]:List Addr) from z) (by simp)) (by simp))
      | some u=>
       rcases hA b (by rw [q];simp) with e'|e'
       ·subst e'
        rcases hKa with z|⟨_,ob,xs,z⟩
        ·rw [q] at z;cases z
        ·have z2:=un.frzs b ob _ z
         obtain ⟨e1,_⟩:=hok b _ z
         obtain ⟨e2,_⟩:=hok' b _ z2
         rw [e] at e1;cases e1
         exact .inl e2
       ·exact absurd e' hbP
    ·exact un.there b o e (by simp)
 cases hk:K.lookup a with
 | some o=>
  have e:=KX a o hk
  rw [ha] at e
  cases e
  refine core (fun b=>if b=Pt then some (.tbl #[]) else none) (if_pos rfl) (.inr ⟨_,vs.toArray,_,hk,rfl,rfl,rfl,by rw [List.size_toArray,lenV];exact hl,by simpa using rv⟩) (fun b u z=>?_) (fun b z=>?_) (.inl (if_neg naP))
  ·by_cases hb:b=Pt
   ·have z':=(if_pos hb).symm.trans z
    cases z';subst hb;exact hP
   ·have z':=(if_neg hb).symm.trans z
    cases z'
  ·by_cases hb:b=Pt
   ·exact .inr hb
   ·exact absurd (if_neg hb) z
 | none=>
  refine core (fun b=>if b=Pt then some (.tbl #[]) else if b=a then some (.frz { cls:=.type "list",data:=.seq vs.toArray } (.lst (ns.map V.int))) else none) (if_pos rfl) (.inl (.inr ⟨{ cls:=.type "list",data:=.seq vs.toArray },(if_neg naP).trans (if_pos rfl)⟩)) (fun b u z=>?_) (fun b z=>?_) (.inr ⟨hk,_,_,(if_neg naP).trans (if_pos rfl)⟩)
  ·by_cases hb:b=Pt
   ·have z':=(if_pos hb).symm.trans z
    cases z';subst hb;exact hP
   ·by_cases hb2:b=a
    ·have z':=((if_neg hb).trans (if_pos hb2)).symm.trans z
     cases z'
     subst hb2
     exact ⟨ha,by rw [List.length_map];exact hl,vs,_,rv,ha⟩
    ·have z':=((if_neg hb).trans (if_neg hb2)).symm.trans z
     cases z'
  ·by_cases hb:b=Pt
   ·exact .inr hb
   ·by_cases hb2:b=a
    ·exact .inl hb2
    ·exact absurd ((if_neg hb).trans (if_neg hb2)) z
theorem z6C {pos pos':Pos} {c cv:Value} (l:List Value) (h:TriplesOk l) (e:codeAmong pos' (l ++ [rawInt pos.line,rawInt pos.col,c])=some cv):codeAmong pos' l=some cv \/ cv=c:=by
 fun_induction TriplesOk l with
 | case1=>
  simp only [List.nil_append,codeAmong,rawInt] at e
  split at e
  ·cases e;exact .inr rfl
  ·cases e
 | case2 a t b u x z2C ih=>
  simp only [List.cons_append,codeAmong] at e ⊢
  split at e
  ·rename_i hc;rw [if_pos hc];exact .inl e
  ·rename_i hc;rw [if_neg hc];exact ih h e
 | case3 l h1 h2=>exact h.elim
theorem zax {q:Str} {H:Hp} {P c:Addr} {pos:Pos} {ps:Array Value} (h1:H P=some (.tbl ps)) (hc:H c=none) (P2:Addr) (t2:Tidy H P2):
  Tidy (upd (upd H P (.tbl (ps ++ #[rawInt pos.line,rawInt pos.col,.ref c]))) c (.ext fun h=>h.CodeRec (.ref c) q)) P2:=by
 have nc:∀ {b:Addr} {o:HO},H b=some o->b ≠ c:=fun e=>z1r e hc
 obtain ⟨ps2,g1,g2,g3⟩:=t2
 have codes:∀ {b:Addr} {φ:Heap->Prop},H b=some (.ext φ)->upd (upd H P (.tbl (ps ++ #[rawInt pos.line,rawInt pos.col,.ref c]))) c (.ext fun h=>h.CodeRec (.ref c) q) b=some (.ext φ):=fun {b φ} e=>by
  rw [z1q (nc e),z1q (zjT e h1 (fun z=>nomatch z))];exact e
 by_cases hP:P2=P
 ·subst hP
  rw [h1] at g1;cases g1
  refine ⟨_,by rw [z1q (nc h1),z1z],?_,fun p cv e=>?_⟩
  ·rw [Array.toList_append];exact TriplesOk_snoc _ _ _ _ g2
  ·rw [Array.toList_append] at e
   rcases z6C _ g2 e with e|e
   ·obtain ⟨c2,φ,rfl,k1,k2⟩:=g3 p cv e
    exact ⟨c2,φ,rfl,codes k1,k2⟩
   ·exact ⟨c,_,e,z1z,fun h z=>⟨q,z⟩⟩
 ·refine ⟨ps2,by rw [z1q (nc g1),z1q hP];exact g1,g2,fun p cv e=>?_⟩
  obtain ⟨c2,φ,rfl,k1,k2⟩:=g3 p cv e
  exact ⟨c2,φ,rfl,codes k1,k2⟩
section
variable {X:Cx} {pins:List (Addr × Obj)} {σv:St} {H:Hp} {s:Shared} {E:Value->Shared->Prop}
abbrev z8n (H:Hp) (P c:Addr) (ps:Array Value) (pos:Pos) (q:Str):Hp:=upd (upd H P (.tbl (ps ++ #[rawInt pos.line,rawInt pos.col,.ref c]))) c (.ext fun h=>h.CodeRec (.ref c) q)
theorem z3i {P c:Addr} {ps:Array Value} {pos:Pos} {q:Str} (h1:H P=some (.tbl ps)) (hc:H c=none) {b:Addr} {o:HO} (e:H b=some o) (ht:zah o):z8n H P c ps pos q b=some o:=by
 have n1:b ≠ P:=by rintro rfl;rw [h1] at e;cases e;exact ht _ rfl
 show upd (upd H P _) c _ b=some o
 rw [z1q (z1r e hc),z1q n1];exact e
theorem z7O {P c:Addr} {ps:Array Value} {pos:Pos} {q:Str} (h1:H P=some (.tbl ps)) (hc:H c=none) (μ:List Addr):Ext H μ (z8n H P c ps pos q) μ:=
 ⟨⟨[],by simp⟩,fun b o e _ ht=>z3i h1 hc e ht,fun _ m=>.inl m,fun b h=>z27 b (z27 b h),fun P2 t2=>zax h1 hc P2 t2⟩
theorem z8p {K:PySem.W.Frag} {P c:Addr} {ps:Array Value} {pos:Pos} {q:Str} (h1:H P=some (.tbl ps)) (hc:H c=none) {hid μ:List Addr} {O:Ow} (cl:Cells K H hid μ O):Cells K (z8n H P c ps pos q) hid μ O:=by
 refine ⟨cl.len,cl.nd,cl.nh,fun a m=>z27 a (z27 a (cl.ht a m)),fun k a e=>?_⟩
 obtain ⟨ds,vs,g1,g2,g3⟩:=cl.at_ k a e
 exact ⟨ds,vs,g1,z3i h1 hc g2 (by intro ps z;cases z),g3.ext (z7O h1 hc μ)⟩
theorem z4B {h h':Heap} {c:Addr} {q:Str} (x:h.CodeRec (.ref c) q) (k:∀ o,h.get? c=some o->h'.get? c=some o):h'.CodeRec (.ref c) q:=by
 obtain ⟨c2,o,vs,t,e,ho,r⟩:=x
 cases e
 exact ⟨c,o,vs,t,rfl,k o ho,r⟩
theorem zeH {c P:Addr} {params:Arguments} {body:Expr} {scope:Scope} {pos:Pos} {clos:List (Str × Addr)} {Q:Value->Shared->Prop} (I:L2.Inv X pins σv H s) (L:z5u X.mg X.base c P) (hcode:X.env.code=.ref c) (ti:Tidy H P)
  (hcl:closureFor scope X.env=pure clos) (hdef:defaultsOf params X.env=([],[]))
  (h:∀ (lam:Addr) (cd ctv:Value) (h':Heap) (tk:Tok) (H':Hp),L2.Inv X pins σv H' { s with heap:=h',toks:=tk }->(∀ μ,Ext H μ H' μ)->(∀ hid μ O,Cells X.K H hid μ O->Cells X.K H' hid μ O)->H' lam=none->s.heap.objs.size <= lam->
   h'.get? lam=some { cls:=.type "function",data:=.func (PySem.W.kla_fn "<lambda>" (X.env.qual ++ "<lambda>") params body scope clos ((X.mg "__name__").getD .none) cd ctv) }->(∃ c φ,cd=.ref c/\H' c=some (.ext φ)/\∀ h:Heap,φ h->∃ q,h.CodeRec (.ref c) q)->Q (.ref lam) { s with heap:=h',toks:=tk }):
  wpAny (model X.prog X.w) X.A (eval (.Lambda params body scope pos) X.env) Q E s:=by
 obtain ⟨ps,h1,h2,h3⟩:=id ti
 have hP:s.heap.get? P=some (PySem.W.tabObj ps):=I.hok P _ h1
 have hg:s.heap.Ns mainGlobals X.mg:=I.mod.glob.keeps I.bk
 have hgP:mainGlobals ≠ P:=fun z=>by
  obtain ⟨o,es,ep,e,hd,_⟩:=hg
  rw [z,hP] at e;cases e;cases hd
 have hb:s.heap.BuiltinsAt X.mg P:=by
  obtain ⟨bm,ob,b1,b2,b3,b4,b5,r⟩:=L.bl
  exact ⟨bm,ob,b1,b2,b3,b4,I.bk _ _ b5,r⟩
 have hd:=L.hd.keeps I.bk
 refine PySem.W.kla_eval hdef ?_
 cases hca:codeAmong pos ps.toList with
 | some cv=>
  obtain ⟨c',φ,rfl,k1,k2⟩:=h3 pos cv hca
  obtain ⟨q,k3⟩:=k2 _ (I.hok c' _ k1).1
  refine wT I (PySem.W.kla_makeFunctionHit (mg:=X.mg) hcl I.ok.glob hg hcode hd hP h2 hca hb fun ctv h' tk hk hsz htk=>?_)
  have kp:∀ b u,s.heap.get? b=some u->(h'.push { cls:=.type "function",data:=.func (PySem.W.kla_fn "<lambda>" (X.env.qual ++ "<lambda>") params body scope clos ((X.mg "__name__").getD .none) (.ref c') ctv) }).get? b=some u:=fun b u e=>Heap.get?_push_of_some _ (hk b u e)
  exact h h'.objs.size (.ref c') ctv _ tk H (I.kept (t':=tk) kp) (fun μ=>.refl) (fun _ _ _ z=>z) (I.hok.fresh hsz) hsz (Heap.get?_push_size _ rfl) ⟨c',φ,rfl,k1,k2⟩
 | none=>
  refine wT I (PySem.W.kla_makeFunction (mg:=X.mg) hcl I.ok.glob hg hcode hd hP h2 hca hgP hb fun c' ctv h' tk hx hge hlt hrec htb htk=>?_)
  have hc:H c'=none:=I.hok.fresh hge
  have nP:∀ {b:Addr},H b=none->b ≠ P:=fun e=>Ne.symm (z1r h1 e)
  have kp:∀ b u,b ≠ P->s.heap.get? b=some u->(h'.push (PySem.W.kla_obj "<lambda>" (X.env.qual ++ "<lambda>") params body scope clos ((X.mg "__name__").getD .none) c' ctv)).get? b=some u:=fun b u n e=>Heap.get?_push_of_some _ (hx b u n e)
  have hP':(h'.push (PySem.W.kla_obj "<lambda>" (X.env.qual ++ "<lambda>") params body scope clos ((X.mg "__name__").getD .none) c' ctv)).get? P=some (PySem.W.tabObj (ps ++ #[rawInt pos.line,rawInt pos.col,.ref c'])):=Heap.get?_push_of_some _ htb
  have hrec':(h'.push (PySem.W.kla_obj "<lambda>" (X.env.qual ++ "<lambda>") params body scope clos ((X.mg "__name__").getD .none) c' ctv)).CodeRec (.ref c') (X.env.qual ++ "<lambda>"):=z4B hrec fun o e=>Heap.get?_push_of_some _ e
  have hnew:∀ {b:Addr},s.heap.objs.size <= b->b ≠ c'->z8n H P c' ps pos (X.env.qual ++ "<lambda>") b=none:=fun {b} hb n=>by
   have e:=I.hok.fresh hb
   show upd (upd H P _) c' _ b=none
   rw [z1q n,z1q (nP e)];exact e
  refine h h'.objs.size (.ref c') ctv _ tk (z8n H P c' ps pos (X.env.qual ++ "<lambda>")) ?_ (z7O h1 hc) (fun _ _ _ z=>z8p h1 hc z) (hnew (Nat.le_of_lt (Nat.lt_of_le_of_lt hge hlt)) (Nat.ne_of_gt hlt)) (Nat.le_of_lt (Nat.lt_of_le_of_lt hge hlt)) (Heap.get?_push_size _ rfl) ⟨c',_,rfl,z1z,fun h z=>⟨_,z⟩⟩
  have hfree:∀ b o,s.heap.get? b=some o->H b=none->z8n H P c' ps pos (X.env.qual ++ "<lambda>") b=none:=fun b o e n=>by
   show upd (upd H P _) c' _ b=none
   rw [z1q (Nat.ne_of_lt (Nat.lt_of_lt_of_le (Heap.lt_size e) hge)),z1q (nP n)];exact n
  refine I.step (g':=s.gens) (d':=s.drawn) (ch:=[]) (fun _ z=>nomatch z) (fun b o _ _ _ e n=>kp b o (nP n) e) (fun b o _ _ _ e n=>⟨o.slots,kp b o (nP n) e⟩) (fun b o _ e n=>hfree b o e n) (fun b o _ e=>?_)
   (fun b xs e=>z3i h1 hc e (by intro ps z;cases z)) (fun b o u e=>z3i h1 hc e (by intro ps z;cases z)) (fun b ps2 e=>?_) (fun m hm=>?_) ?_ I.bare htk
  ·by_cases hbP:b=P
   ·subst hbP;exact ⟨_,hP'⟩
   ·exact ⟨o,kp b o hbP e⟩
  ·by_cases hbP:b=P
   ·subst hbP
    rw [h1] at e;cases e
    exact ⟨_,by show upd (upd H b _) c' _ b=_;rw [z1q (z1r h1 hc),z1z]⟩
   ·exact ⟨#[],by show upd (upd H P _) c' _ b=_;rw [z1q (z1r e hc),z1q hbP,e];simp⟩
  ·obtain ⟨o,es,ep,e,r⟩:=hm
   exact ⟨o,es,ep,kp _ o (nP I.free) e,r⟩
  ·intro b u e
   by_cases hbc:b=c'
   ·subst hbc
    have e':z8n H P b ps pos (X.env.qual ++ "<lambda>") b=_:=z1z
    rw [e'] at e;cases e
    refine ⟨hrec',?_,fun ha hb' za zk=>z4B za zk⟩
    obtain ⟨c2,o,vs,t,z,ho,_⟩:=hrec'
    cases z
    exact ⟨o,ho⟩
   ·have e1:upd H P (.tbl (ps ++ #[rawInt pos.line,rawInt pos.col,.ref c'])) b=some u:=(z1q hbc).symm.trans e
    by_cases hbP:b=P
    ·subst hbP
     rw [z1z] at e1;cases e1
     exact hP'
    ·have e2:H b=some u:=(z1q hbP).symm.trans e1
     refine (I.hok b u e2).stay (fun b2 u2 hb2 z=>kp b2 u2 (fun zz=>?_) z) (fun b2 z=>z3i h1 hc z (by intro ps z;cases z)) fun b2 xs z=>z3i h1 hc z (by intro ps z;cases z)
     rcases hb2 with rfl|hb2
     ·exact hbP zz
     ·rw [zz,h1] at hb2;cases hb2
end
abbrev z8z (q:Str) (scope:Scope) (L f:Addr) (cd:Value) (cl:List (Str × Addr)):Env:={ scope,locals:=L,globals:=mainGlobals,cells:=cl,qual:=q ++ ".<locals>.",func:=some f,code:=cd,frame:=some L,builtins:=builtinsNs }
section
variable {prog:Program} {w:World} {A:Around} {s:Shared} {R:Result->Shared->Prop}
theorem zgo {lam:Addr} {q name qual:Str} {params:Arguments} {body:Expr} {scope:Scope} {cl:List (Str × Addr)} {pm cd ct:Value} (hroom:A.depth < recursionLimit)
  (ho:s.heap.get? lam=some { cls:=.type "function",data:=.func (PySem.W.kla_fn name qual params body scope cl pm cd ct) }) (hcd:s.heap.CodeRec cd q) (hco:scope.isCoroutine=false) (hgen:scope.isGenerator=false) (hk:scope.kind=.function) (hcell:∀ x ∈ scope.names,x.2 ≠ .cell)
  (hbind:bindArgs (PySem.W.kla_fn name qual params body scope cl pm cd ct) ⟨[],[]⟩=pure []) (hlim:s.heap.NoLimit)
  (h:∀ h',h'.Ns s.heap.objs.size (fun _=>none)->(∀ b o,s.heap.get? b=some o->h'.get? b=some o)->
   wpAny (model prog w) (A.deeper (z8z q scope s.heap.objs.size lam cd cl)) (eval body (z8z q scope s.heap.objs.size lam cd cl)) (fun v s'=>R (.ok (.ret v)) s')
    (fun e s'=>wpAny (model prog w) (A.deeper (z8z q scope s.heap.objs.size lam cd cl)) (leaving (z8z q scope s.heap.objs.size lam cd cl) e) (fun _ s''=>R (.error e) s'') (fun e' s''=>R (.error e') s'') s') { s with heap:=h' }):
  codeAny (model prog w) A (.call (.ref lam) ⟨[],[]⟩) R s:=by
 refine codeAny_of_tree ?_
 show wpAny _ A.in1 (callAny (.ref lam) ⟨[],[]⟩) _ _ s
 simp only [callAny]
 refine wpAny_bind (wpAny_load ho ?_)
 obtain ⟨c,oc,vs,tq,hc,hoc,hdc,hq⟩:=hcd
 subst hc
 simp only [callFunction,hco,hgen]
 refine wpAny_bind (m:=field (.ref c) 1) (wpAny_field hoc hdc hq (wpAny_bind (wpAny_pure ?_)))
 rw [hbind]
 refine wpAny_bind (wpAny_pure (wpAny_bind ?_))
 refine wpAny_newFunctionEnv hcell (fun x hx=>nomatch hx) (fun h₁ hns hsb=>?_) hk
 have kp:∀ b o,s.heap.get? b=some o->h₁.get? b=some o:=fun b o e=>hsb.extBut b o (Nat.ne_of_lt (Heap.lt_size e)) (Heap.get?_push_of_some _ e)
 refine wpAny_bind (wpAny_enterFrame (hlim.keeps kp) hroom (wpAny_pure ⟨rfl,?_⟩))
 exact PySem.W.kla_codeExpr (h h₁ hns kp)
end
theorem zh0 {X:Cx} {E:XK} {Cl:Nat->Value} (hxe:X.xe=fun e s'=>wpAny (model X.prog X.w) X.A (leaving X.env e) (fun _ s''=>CXr X.prog X.w Cl X.outer X.H₀ X.s₀ E e s'') (fun e' s''=>CXr X.prog X.w Cl X.outer X.H₀ X.s₀ E e' s'') s')
  (hst:X.stack=X.env :: X.outer) (hf:X.env.frame=some X.env.locals) (hex:X.ex=[]):XOk X (Xk Cl E) Cl:=by
 intro pins σ H1 s1 a c I x q
 have hfr:X.A.frames=some (X.env :: X.outer):=by rw [<- hst];exact I.ok.frames
 have hstk:s1.heap.FunFrames X.base (X.env :: X.outer):=by rw [<- hst];exact I.stack
 have hfree:∀ b ∈ frs (X.env :: X.outer),H1 b=none:=by rw [<- hst];exact I.stkFree
 have hbase:Un X.fs [] X.H₀ H1 X.s₀.heap s1.heap:=by have:=I.base;rw [hex] at this;exact this
 have hfs:frs (X.env :: X.outer)=X.env.locals :: X.fs:=by unfold frs;rw [List.filterMap_cons,hf];rfl
 rw [hxe]
 show wpAny (model X.prog X.w) X.A (leaving X.env (.ref a)) (fun _ s''=>CXr X.prog X.w Cl X.outer X.H₀ X.s₀ E (.ref a) s'') (fun e' s''=>CXr X.prog X.w Cl X.outer X.H₀ X.s₀ E e' s'') s1
 unfold leaving
 refine wpAny_bind (zcE hfr hstk hf x (fun b hb=>I.hok.fresh hb) (fun b hb=>Heap.get?_none_of_le (Nat.le_trans I.sz hb)) fun h' kp xa=>?_)
 refine ⟨a,c,H1,rfl,I.os,I.tk,I.bare,?_,kp.hok I.hok hfree,xa,q⟩
 refine ⟨fun b o e n hb hx=>?_,fun b o e n hb hx=>?_,fun b o e n hx=>hbase.free b o e n hx,fun b o e hx=>?_,hbase.tups,hbase.frzs,hbase.tbls⟩
 ·refine kp.keep b o (hbase.keep b o e n hb hx) (fun z=>?_) (.inr (by rw [e];exact fun z=>nomatch z))
  rw [hfs] at z
  rcases List.mem_cons.mp z with z2|z2
  ·exact absurd (Nat.lt_of_lt_of_le (Heap.lt_size e) I.ok.above) (by rw [z2];exact Nat.lt_irrefl _)
  ·exact hb z2
 ·obtain ⟨sl,e1⟩:=hbase.slot b o e n hb hx
  obtain ⟨sl',e2⟩:=kp.slot b _ e1 (by rw [hfs];exact List.mem_cons_of_mem _ hb)
  exact ⟨sl',e2⟩
 ·obtain ⟨o',e1⟩:=hbase.there b o e hx
  exact kp.there b o' e1
def cxL (CX:CXT) (P:Program) (w:World) (K:PySem.W.Frag) (mg:Str->Option Value) (base:Heap) (N:List Str) (env:Env) (A:Around) (outer:List Env) (s:Shared) (H:Hp) (E:XK):Cx where
 prog:=P
 w:=w
 K:=K
 mg:=mg
 base:=base
 A:=A.deeper env
 N:=N
 s₀:=s
 H₀:=H
 env:=env
 outer:=outer
 stack:=env :: outer
 ex:=[]
 calm:=true
 fn:=fun _=>false
 pn:=[]
 xe:=fun e s'=>wpAny (model P w) (A.deeper env) (leaving env e) (fun _ s''=>CX outer H s E e s'') (fun e' s''=>CX outer H s E e' s'') s'
section
variable {CX:CXT} {P:Program} {w:World} {K:PySem.W.Frag} {mg:Str->Option Value} {base:Heap} {N:List Str} {A:Around} {outer:List Env} {s:Shared} {H:Hp} {E:XK} {Cl:Nat->Value} {q:Str} {scope:Scope} {lam:Addr} {cd:Value} {cl:List (Str × Addr)} {σ:St} {h':Heap}
theorem zfH:XOk (cxL (CXr P w Cl) P w K mg base N (z8z q scope s.heap.objs.size lam cd cl) A outer s H E) (Xk Cl E) Cl:=zh0 rfl rfl rfl rfl
theorem zeY (e0:zeS P w K mg base A outer s H) (hd:A.handled=none) (hk:scope.kind=.function) (hvis:∀ x,Vis scope x->scope.names.lookup x=some .free)
  (cells:∀ x c,cl.lookup x=some c->(∃ v,s.heap.IsCell c v)/\H c=none) (inj:∀ x y c,cl.lookup x=some c->cl.lookup y=some c->x=y) (has:∀ x,scope.names.lookup x=some .free->∃ c,cl.lookup x=some c)
  (vals:∀ (i:Nat) x v,N[i]?=some x->σ[i]?=some (some v)->scope.names.lookup x=some .free->∃ u c,RelV v u/\cl.lookup x=some c/\s.heap.IsCell c (some u)) (len:σ.length=N.length)
  (hns:h'.Ns s.heap.objs.size (fun _=>none)) (kp:∀ b o,s.heap.get? b=some o->h'.get? b=some o):
  L2.Inv (cxL CX P w K mg base N (z8z q scope s.heap.objs.size lam cd cl) A outer s H E) [] σ H { s with heap:=h' }:=by
 have cellK:∀ {c:Addr} {v:Option Value},s.heap.IsCell c v->h'.IsCell c v:=fun {c v} ⟨o,ho,r⟩=>⟨o,kp c o ho,r⟩
 have noA:∀ b:Addr,b ∉ (cxL CX P w K mg base N (z8z q scope s.heap.objs.size lam cd cl) A outer s H E).ex:=fun b z=>absurd (show b ∈ ([]:List Addr) from z) (by simp)
 refine ⟨⟨e0.mod,hk,rfl,rfl,Nat.le_refl _,inj,fun y hy=>?_,fun y c z _=>absurd (show false=true from z) (by decide),fun _=>hd,Around.frames_deeper e0.frames,.inr ⟨rfl,rfl⟩,fun b z=>absurd z (noA b),e0.bs,e0.bsz,fun b _ _=>noA b,fun b z=>absurd z (noA b),e0.funs,e0.frf⟩,
  rfl,e0.bare,Un.kept kp,⟨_,hns,fun i y v g1 g2 g3=>?_⟩,fun y c g=>?_,e0.hok.fresh (Nat.le_refl _),fun y c g=>(cells y c g).2,fun p hp=>absurd (show p ∈ ([]:List (Addr × Obj)) from hp) (by simp),e0.hok.kept kp,len,e0.tk⟩
 ·have hy':scope.names.lookup y=some .cell \/ scope.names.lookup y=some .free:=hy
  exact has y (hvis y (hy'.elim (fun z=>.inr (.inl z)) fun z=>.inr (.inr z)))
 ·obtain ⟨u,c,r,g4,g5⟩:=vals i y v g1 g2 (hvis y g3)
  exact ⟨u,r,.inr ⟨.inr (hvis y g3),c,g4,cellK g5⟩⟩
 ·obtain ⟨⟨v,z⟩,_⟩:=cells y c g
  exact ⟨v,cellK z⟩
theorem zij {k:Nat} {name qual:Str} {params:Arguments} {body:Expr} {pm ct:Value} {t:DE} {hid μ:List Addr} {σd:Sg} {O:Ow} {Q:VK} (hr:Room (k + 1) A) (e0:zeS P w K mg base A outer s H)
  (ho:s.heap.get? lam=some { cls:=.type "function",data:=.func (PySem.W.kla_fn name qual params body scope cl pm cd ct) }) (hcd:s.heap.CodeRec cd q) (hco:scope.isCoroutine=false) (hgen:scope.isGenerator=false) (hk:scope.kind=.function) (hcell:∀ x ∈ scope.names,x.2 ≠ .cell)
  (hbind:bindArgs (PySem.W.kla_fn name qual params body scope cl pm cd ct) ⟨[],[]⟩=pure []) (hvis:∀ x,Vis scope x->scope.names.lookup x=some .free)
  (cells:∀ x c,cl.lookup x=some c->(∃ v,s.heap.IsCell c v)/\H c=none) (inj:∀ x y c,cl.lookup x=some c->cl.lookup y=some c->x=y) (has:∀ x,scope.names.lookup x=some .free->∃ c,cl.lookup x=some c)
  (vals:∀ (i:Nat) x v,N[i]?=some x->σ[i]?=some (some v)->scope.names.lookup x=some .free->∃ u c,RelV v u/\cl.lookup x=some c/\s.heap.IsCell c (some u)) (len:σ.length=N.length)
  (hbody:Room k (A.deeper (z8z q scope s.heap.objs.size lam cd cl))->PD (cxL (CXr P w Cl) P w K mg base N (z8z q scope s.heap.objs.size lam cd cl) A outer s H E) (Xk Cl E) body t)
  (e1:EnvOk K H hid μ σd σ) (c1:Cells K H hid μ O) (qq:z1I (Xk Cl E) K H hid μ (t σd O) Q):codeAny (model P w) A (.call (.ref lam) ⟨[],[]⟩) (CR (CXr P w Cl) outer P w H s Q E) s:=by
 refine zgo hr.depth ho hcd hco hgen hk hcell hbind (e0.mod.nolimit.keeps fun b o e=>(e0.bs b o e).1) fun h' hns kp=>?_
 refine wpAny_mono ((hbody (hr.deeper _)).out [] _ σ H Q (zeY e0 hr.hd hk hvis cells inj has vals len hns kp) ⟨hid,μ,σd,O,e1,c1,qq⟩) (fun v s' ⟨v',H',J,rv,z⟩=>?_) fun e s' z=>z
 exact ⟨⟨v',H',J.os,J.bare,J.base,J.hok,rv,z⟩,J.tk⟩
end
section
variable {M:Model} {A:Around} {E:Value->Shared->Prop} {s:Shared} {base h0:Heap} {H:Hp} {frames:List Env} {a:Addr} {C:Value} {Q:Unit->Shared->Prop}
theorem Kp.refl {h:Heap} {fs:List Addr}:Kp h0 H fs h h:=⟨fun _ _ e _ _=>e,fun b o e _=>⟨o.slots,e⟩,fun _ o e=>⟨o,e⟩,Nat.le_refl _⟩
theorem Kp.trans {h h1 h2:Heap} {fs:List Addr} (x:Kp h0 H fs h h1) (y:Kp h0 H fs h1 h2):Kp h0 H fs h h2:=
 ⟨fun b o e n k=>y.keep b o (x.keep b o e n k) n k,fun b o e n=>by
  obtain ⟨sl,e1⟩:=x.slot b o e n
  obtain ⟨sl',e2⟩:=y.slot b _ e1 n
  exact ⟨sl',e2⟩,fun b o e=>by
  obtain ⟨o1,e1⟩:=x.there b o e
  exact y.there b o1 e1,Nat.le_trans x.size y.size⟩
theorem zdu (hl:s.heap.FunFrames base frames) (x:XAt h0 H s.heap a C) (h:∀ h',Kp h0 H (frs frames) s.heap h'->XAt h0 H h' a C->Q () { s with heap:=h' }):wpAny M A (setFlight (.ref a) none) Q E s:=by
 obtain ⟨⟨oe,vs,he,hC,hd,hsz,ht⟩,new,free⟩:=id x
 unfold setFlight
 rcases ht with h1|⟨T,oT,ts,h1,nT,newT,freeT,hT,hdT,h3⟩
 ·refine wpAny_bind (wpAny_field he hd h1 ?_)
  rw [if_neg (by decide)]
  exact wpAny_pure (h s.heap .refl x)
 ·refine wpAny_bind (wpAny_field he hd h1 ?_)
  rw [if_pos (show (Value.ref T != Value.none)=true by simp)]
  refine wpAny_setField hT hdT (Array.getElem?_eq_some_iff.mp h3).1 (h _ ?_ ?_)
  ·have oth:∀ b,b ≠ T->(s.heap.update T (Obj.mapFields (·.setIfInBounds 3 ((none:Option Addr).elim Value.none fun f=>rawInt f)))).get? b=s.heap.get? b:=fun b hb=>Heap.get?_update_other _ _ (Ne.symm hb)
   refine ⟨fun b o e hb hk=>(oth b fun z=>?_).trans e,fun b o e hb=>⟨o.slots,(oth b fun z=>?_).trans e⟩,fun b o e=>?_,by rw [Heap.size_update];exact Nat.le_refl _⟩
   ·subst z
    rcases hk with q|q
    ·exact q freeT
    ·exact q newT
   ·subst z
    obtain ⟨_,o',ho',hnf⟩:=hl.mem hb
    rw [hT] at ho';cases ho'
    exact hnf ts hdT
   ·by_cases hb:b=T
    ·subst hb;exact ⟨_,Heap.get?_update_self _ hT (Obj.isFreed_of_fields (Obj.data_mapFields hdT _))⟩
    ·exact ⟨o,(oth b hb).trans e⟩
  ·refine ⟨⟨oe,vs,(Heap.get?_update_other _ _ nT).trans he,hC,hd,hsz,.inr ⟨T,_,_,h1,nT,newT,freeT,Heap.get?_update_self _ hT (Obj.isFreed_of_fields (Obj.data_mapFields hdT _)),Obj.data_mapFields hdT _,?_⟩⟩,new,free⟩
   rw [Array.getElem?_setIfInBounds_self,if_pos (Array.getElem?_eq_some_iff.mp h3).1];rfl
end
section
variable {X:Cx} {pins:List (Addr × Obj)} {σ:St} {H H1:Hp} {s s1:Shared}
abbrev Cx.mk' (X:Cx) (a:Addr):Cx:={ X with A:=X.A.mark (some (.ref a)),calm:=false,xe:=fun _ _=>False }
theorem Inv.mk' (I:L2.Inv X pins σ H s) (a:Addr):L2.Inv (Cx.mk' X a) pins σ H s:=
 ⟨⟨I.ok.mod,I.ok.kind,I.ok.glob,I.ok.blt,I.ok.above,I.ok.inj,I.ok.has,I.ok.cab,fun z=>absurd (show false=true from z) (by decide),I.ok.frames,I.ok.stk,I.ok.exf,I.ok.bs,I.ok.bsz,I.ok.noex,I.ok.exfs,I.ok.funs,I.ok.frf⟩,I.os,I.bare,I.base,I.loc,I.cell,I.free,I.freeC,I.pin,I.hok,I.len,I.tk⟩
theorem Inv.unmk' {a:Addr} (ok:X.Ok) (I:L2.Inv (Cx.mk' X a) pins σ H s):L2.Inv X pins σ H s:=
 ⟨ok,I.os,I.bare,I.base,I.loc,I.cell,I.free,I.freeC,I.pin,I.hok,I.len,I.tk⟩
theorem Inv.raised {h':Heap} (I:L2.Inv X pins σ H s) (os:s1.os=s.os) (htk:0 < s1.toks) (bare:AllBare s1.gens) (un:Un (frs X.stack) [] H H1 s.heap s1.heap) (hok:HOk X.prog X.w H1 s1.heap) (kp:Kp s.heap H1 (frs X.stack) s1.heap h'):L2.Inv X pins σ H1 { s1 with heap:=h' }:=by
 have I1:L2.Inv X pins σ H1 s1:=I.call' (ch:=[]) os un hok bare (fun b z=>absurd z (by simp))
 refine I.call' (s':={ s1 with heap:=h' }) (ch:=[]) os ?_ (kp.hok hok I1.stkFree) bare (fun b z=>absurd z (by simp))
 refine ⟨fun b o e n hb hx=>kp.keep b o (un.keep b o e n hb hx) hb (.inr (by rw [e];exact fun z=>nomatch z)),fun b o e n hb hx=>?_,un.free,fun b o e hx=>?_,un.tups,un.frzs,un.tbls⟩
 ·obtain ⟨sl,e1⟩:=un.slot b o e n hb hx
  obtain ⟨sl',e2⟩:=kp.slot b _ e1 hb
  exact ⟨sl',e2⟩
 ·obtain ⟨o',e1⟩:=un.there b o e hx
  exact kp.there b o' e1
theorem Inv.track {a C:Addr} (I:L2.Inv X pins σ H1 s1) (x:XAt s.heap H1 s1.heap a (.ref C)) (I0:L2.Inv X pins σ H s):L2.Inv X pins σ (upd H1 a (.ext fun h=>∃ ox,PySem.W.InstAt h a ox C none)) s1:=by
 obtain ⟨⟨oe,vs,he,hC,hd,hsz,_⟩,new,free⟩:=x
 have neA:∀ b o,s.heap.get? b=some o->b ≠ a:=fun b o e z=>by rw [z,new] at e;cases e
 have hinst:PySem.W.InstAt s1.heap a oe C none:=⟨he,hC.1,by unfold PySem.W.notCls;rw [hd],by rw [hC.2];trivial⟩
 have old:∀ {b:Addr} {u:HO},H1 b=some u->upd H1 a (.ext fun h=>∃ ox,PySem.W.InstAt h a ox C none) b=some u:=fun {b u} e=>by rw [z1q (z1r e free)];exact e
 have fr:∀ {b:Addr},H1 b=none->b ≠ a->upd H1 a (.ext fun h=>∃ ox,PySem.W.InstAt h a ox C none) b=none:=fun {b} e n=>by rw [z1q n];exact e
 have there:∀ b,b ∉ X.ex->(∃ o,X.s₀.heap.get? b=some o)->b ≠ a:=fun b hx ⟨o,e⟩=>by
  obtain ⟨o',e'⟩:=I0.base.there b o e hx
  exact neA b o' e'
 refine ⟨I.ok,I.os,I.bare,⟨I.base.keep,I.base.slot,fun b o e n hx=>fr (I.base.free b o e n hx) (there b hx ⟨o,e⟩),I.base.there,fun b xs e=>old (I.base.tups b xs e),fun b o u e=>old (I.base.frzs b o u e),fun b ps e=>?_⟩,I.loc,I.cell,?_,fun x c e=>?_,fun p hp=>?_,fun b u e=>?_,I.len,I.tk⟩
 ·obtain ⟨m,e1⟩:=I.base.tbls b ps e
  exact ⟨m,old e1⟩
 ·obtain ⟨m,⟨o,_,_,ho,_⟩,_⟩:=I0.loc
  exact fr I.free (neA _ o ho)
 ·obtain ⟨v,o,ho,_⟩:=I0.cell x c e
  exact fr (I.freeC x c e) (neA c o ho)
 ·obtain ⟨e1,n1,r⟩:=I.pin p hp
  exact ⟨e1,fr n1 (neA _ _ (I0.pin p hp).1),r⟩
 ·by_cases hb:b=a
  ·subst hb
   rw [z1z] at e;cases e
   exact ⟨⟨oe,hinst⟩,⟨oe,he⟩,fun h1 h2 ⟨ox,z⟩ kk=>⟨ox,kk ox z.at_,z.cls,z.no,by
    have:=z.dict
    revert this
    cases ox.dict with
    | none=>exact fun _=>trivial
    | some _=>exact fun z=>z.elim⟩⟩
  ·rw [z1q hb] at e
   exact (I.hok b u e).stay (fun _ _ _ z=>z) (fun _ z=>old z) fun _ _ z=>old z
end
section
variable {X:Cx} {pins:List (Addr × Obj)} {σ:St} {H:Hp} {s:Shared} {M:Model} {A:Around} {E:Value->Shared->Prop}
theorem zbE {i:Nat} {x:Str} {v:V} {Q:Unit->Shared->Prop} (I:L2.Inv X pins σ H s) (hN:X.N.Nodup) (hi:X.N[i]?=some x) (hx:X.env.scope.names.lookup x=some .local) (hv:σ[i]?=some (some v))
  (h:∀ s',L2.Inv X pins (σ.set i none) H s'->Q () s'):wpAny M A (unbindName X.env x) Q E s:=by
 obtain ⟨m,hn,hl⟩:=id I.loc
 obtain ⟨u,_,lk⟩:=hl i x v hi hv (.inl hx)
 have hm:m x=some u:=by
  rcases lk with ⟨_,z⟩|⟨z,_⟩
  ·exact z
  ·have z':X.env.scope.names.lookup x=some .cell \/ X.env.scope.names.lookup x=some .free:=z
   rw [hx] at z'
   rcases z' with z'|z' <;> cases z'
 refine wT I (wpAny_unbindName_local hx hn hm (by rw [I.ok.kind];rfl) fun h' u' hn' hs htk=>h _ ?_)
 have kp:∀ b o,b ≠ X.env.locals->s.heap.get? b=some o->h'.get? b=some o:=fun b o n e=>(hs.2 b n).trans e
 have neL:∀ b o,X.s₀.heap.get? b=some o->b ≠ X.env.locals:=fun b o e=>Nat.ne_of_lt (Nat.lt_of_lt_of_le (Heap.lt_size e) I.ok.above)
 have neH:∀ b o,H b=some o->b ≠ X.env.locals:=fun b o e=>z1r e I.free
 have cellK:∀ y c,X.env.cells.lookup y=some c->∀ w,s.heap.IsCell c w->h'.IsCell c w:=fun y c e w ⟨o,ho,hd⟩=>⟨o,kp c o (I.cne y c e) ho,hd⟩
 refine ⟨I.ok,I.os,I.bare,⟨fun b o e n hb hx=>kp b o (neL b o e) (I.base.keep b o e n hb hx),fun b o e n hb hx=>?_,I.base.free,fun b o e hx=>?_,I.base.tups,I.base.frzs,I.base.tbls⟩,⟨_,hn',fun j y w e1 e2 e3=>?_⟩,fun y c e=>?_,I.free,I.freeC,fun p hp=>?_,fun b o e=>?_,by rw [List.length_set];exact I.len,htk⟩
 ·obtain ⟨sl,e1⟩:=I.base.slot b o e n hb hx
  exact ⟨sl,kp b _ (neL b o e) e1⟩
 ·obtain ⟨o',e1⟩:=I.base.there b o e hx
  exact ⟨o',kp b o' (neL b o e) e1⟩
 ·have hj:j ≠ i:=by
   rintro rfl
   have hlt:j < σ.length:=(List.getElem?_eq_some_iff.mp hv).1
   rw [List.getElem?_set_self hlt] at e2;cases e2
  rw [List.getElem?_set_ne (Ne.symm hj)] at e2
  have hy:y ≠ x:=by rintro rfl;exact hj (z6Z hN e1 hi)
  obtain ⟨u2,r2,l2⟩:=hl j y w e1 e2 e3
  refine ⟨u2,r2,?_⟩
  rcases l2 with ⟨k1,k2⟩|⟨k1,c,k2,k3⟩
  ·exact .inl ⟨k1,by show (if y=x then u' else m y)=some u2;rw [if_neg hy];exact k2⟩
  ·exact .inr ⟨k1,c,k2,cellK y c k2 _ k3⟩
 ·obtain ⟨w,z⟩:=I.cell y c e
  exact ⟨w,cellK y c e w z⟩
 ·obtain ⟨e1,n1,n2,r⟩:=I.pin p hp
  exact ⟨kp _ _ n2 e1,n1,n2,r⟩
 ·refine (I.hok b o e).stay (fun b2 u2 hb2 z=>kp b2 u2 ?_ z) (fun _ z=>z) fun _ _ z=>z
  rcases hb2 with rfl|hb2
  ·exact neH _ _ e
  ·exact neH _ _ hb2
end
section
variable {X:Cx} {pins:List (Addr × Obj)} {σ:St} {H H1:Hp} {s s1:Shared}
theorem zcw {a C T:Addr} {h2:Heap} {xT n y:Str} {i j:Nat} {p4 p5 p6 p7 p8:Pos} {Qf:Flow->Shared->Prop} (I:L2.Inv X pins σ H s) (os:s1.os=s.os) (htk:0 < s1.toks) (bare:AllBare s1.gens) (un:Un (frs X.stack) [] H H1 s.heap s1.heap) (hok:HOk X.prog X.w H1 s1.heap)
  (kp:Kp s.heap H1 (frs X.stack) s1.heap h2) (x2:XAt s.heap H1 h2 a (.ref C)) (hm:PySem.W.exmOne X.K (.ref C) (.ref T)=some true) (hgT:Gl X xT) (hmT:X.mg xT=some (.ref T))
  (hN:X.N.Nodup) (hi:X.N[i]?=some n) (hj:X.N[j]?=some y) (hij:i ≠ j) (hn:X.env.scope.names.lookup n=some .local) (hy:X.env.scope.names.lookup y=some .local)
  (h:∀ s',L2.Inv X pins ((σ.set j (some (.ref a))).set i none) (upd H1 a (.ext fun h=>∃ ox,PySem.W.InstAt h a ox C none)) s'->Qf .next s')
  (hnd:(n == ("__debug__":Str))=false:=by decide) (hncd:(n == ("__classdict__":Str))=false:=by decide) (hTd:(xT == ("__debug__":Str))=false:=by decide)
  (hs:swapsWithSole [.Name y p5] (.Name n p6) p7.line X.env=pure false:=by rfl) (hw:swappedStores [.Name y p5] (.Name n p6) X.env=pure none:=by rfl):
  wpAny (model X.prog X.w) X.A (handleBy (.ref a) X.env [.ExceptHandler (some (.Name xT p4)) (some n) [.Assign [.Name y p5] (.Name n p6) p7] p8]) Qf X.xe { s1 with heap:=h2 }:=by
 have I2:L2.Inv X pins σ H1 { s1 with heap:=h2 }:=Inv.raised I os htk bare un hok kp
 refine wpAny_handleBy_cons (codeAny_handlers_test (z4P (X:=Cx.mk' X a) (Inv.mk' I2 a) hgT hmT ?_ hTd)) (by intro z;cases z)
 have LT:PySem.W.Looks (model X.prog X.w) h2 (typeOf (.ref a)) (.ref C):=by
  obtain ⟨⟨oe,vs,he,hC,_⟩,_⟩:=x2
  exact hC.1 ▸ (PySem.W.Looks.ld he).andThen .now
 refine (PySem.W.exm_one I2.kIn LT hm).at ?_
 show codeAny _ _ (.handlers (.ref a) [.ExceptHandler none (some n) [.Assign [.Name y p5] (.Name n p6) p7] p8] X.env) _ _
 refine codeAny_handlers_suite_as (zdu (frames:=X.stack) I2.stack x2 fun h3 kp3 x3=>?_)
 have I3:L2.Inv X pins σ H1 { s1 with heap:=h3 }:=Inv.raised I os htk bare un hok (kp.trans kp3)
 have I4:=Inv.track (s1:={ s1 with heap:=h3 }) I3 x3 I
 refine z5q (X:=Cx.mk' X a) (v:=.ref a) (Inv.mk' I4 a) hN hi (.inl hn) rfl (fun s5 I5=>?_) (.inr hn)
 have ps:PSs (Cx.mk' X a) [.Assign [.Name y p5] (.Name n p6) p7] _:=z2S (zez (z55 (X:=Cx.mk' X a) (pos:=p6) hi (.inl hn) hnd hncd) (z6y (X:=Cx.mk' X a) (pos:=p5) hN hj (.inl hy) (.inr hy)) hs hw) zc3
 refine wpAny_mono (ps pins s5 _ _ { nx:=fun σ' H'=>σ'=(σ.set i (some (.ref a))).set j (some (.ref a))/\H'=upd H1 a (.ext fun h=>∃ ox,PySem.W.InstAt h a ox C none),rt:=fun _ _=>False } I5 ?_) (fun fl s6 h6=>?_) fun _ _ z=>z.elim
 ·refine ⟨.ref a,?_,?_⟩
  ·rw [List.getElem?_set_self (by rw [I.len];exact (List.getElem?_eq_some_iff.mp hi).1)]
  ·exact ⟨rfl,rfl⟩
 cases fl with
 | ret u=>obtain ⟨_,_,_,_,_,z⟩:=h6;exact z.elim
 | brk=>obtain ⟨_,_,_,z⟩:=h6;exact z.elim
 | cont=>obtain ⟨_,_,_,z⟩:=h6;exact z.elim
 | next=>
  obtain ⟨σ6,H6,I6,rfl,rfl⟩:=h6
  have I7:=Inv.unmk' I.ok I6
  show wpAny _ X.A (do bindName X.env n .none;unbindBehindTheSuite X.env n p8) _ _ s6
  unfold bindName unbindBehindTheSuite
  refine wpAny_bind (wpAny_bind (wpAny_holding (wpAny_point (wpAny_bind (z5q (v:=.non) I7 hN hi (.inl hn) rfl (fun s8 I8=>wpAny_point ?_) (.inr hn))))))
  refine wpAny_onRaise (zbE (v:=.non) I8 hN hi hn (List.getElem?_set_self (by rw [I7.len];exact (List.getElem?_eq_some_iff.mp hi).1)) fun s9 I9=>h s9 ?_)
  refine I9.weak (by simp) fun k v e=>?_
  by_cases hk:k=i
  ·subst hk
   have hlt:k < (σ.set j (some (.ref a))).length:=by rw [List.length_set,I.len];exact (List.getElem?_eq_some_iff.mp hi).1
   rw [List.getElem?_set_self hlt] at e;cases e
  ·rw [List.getElem?_set_ne (Ne.symm hk)] at e ⊢
   rw [List.getElem?_set_ne (Ne.symm hk)]
   by_cases hkj:k=j
   ·subst hkj
    have hlt:k < σ.length:=by rw [I.len];exact (List.getElem?_eq_some_iff.mp hj).1
    rw [List.getElem?_set_self hlt] at e
    rw [List.getElem?_set_self (by rw [List.length_set];exact hlt)]
    exact e
   ·rw [List.getElem?_set_ne (Ne.symm hkj)] at e ⊢
    rw [List.getElem?_set_ne (Ne.symm hk)]
    exact e
end
section
variable {X:Cx} {pins:List (Addr × Obj)} {σ:St} {H H1:Hp} {s s1:Shared}
theorem zhS {T lam:Addr} {Cl:Nat->Value} {nf xT n y:Str} {i j kf:Nat} {p1 p2 p3 p4 p5 p6 p7 p8 pos:Pos} {D:za1} (I:L2.Inv X pins σ H s) (hex:X.ex=[])
  (hcall:codeAny (model X.prog X.w) X.A (.call (.ref lam) ⟨[],[]⟩) (CR (CXr X.prog X.w Cl) X.stack X.prog X.w H s (fun _ H'=>D.nx σ H')
   (fun Cv _ H1=>∃ C,Cv=.ref C/\PySem.W.exmOne X.K (.ref C) (.ref T)=some true/\∀ a,H1 a=none->D.nx ((σ.set j (some (.ref a))).set i none) (upd H1 a (.ext fun h=>∃ ox,PySem.W.InstAt h a ox C none)))) s)
  (hlam:PySem.W.FnAt lam s.heap) (hkf:X.N[kf]?=some nf) (hvf:σ[kf]?=some (some (.ref lam))) (hvis:Vis X.env.scope nf) (hgT:Gl X xT) (hmT:X.mg xT=some (.ref T)) (hstk:X.stack=X.env :: X.outer) (hfr:X.env.frame=some X.env.locals)
  (hN:X.N.Nodup) (hi:X.N[i]?=some n) (hj:X.N[j]?=some y) (hij:i ≠ j) (hn:X.env.scope.names.lookup n=some .local) (hy:X.env.scope.names.lookup y=some .local)
  (hfd:(nf == ("__debug__":Str))=false:=by decide) (hfcd:(nf == ("__classdict__":Str))=false:=by decide)
  (hnd:(n == ("__debug__":Str))=false:=by decide) (hncd:(n == ("__classdict__":Str))=false:=by decide) (hTd:(xT == ("__debug__":Str))=false:=by decide)
  (hs0:swapsWith (.Call (.Name nf p1) [] [] p2) none p3.line X.env=pure false:=by rfl)
  (hs:swapsWithSole [.Name y p5] (.Name n p6) p7.line X.env=pure false:=by rfl) (hw:swappedStores [.Name y p5] (.Name n p6) X.env=pure none:=by rfl):
  wpAny (model X.prog X.w) X.A (exec (.Try [.Expr (.Call (.Name nf p1) [] [] p2) p3] [.ExceptHandler (some (.Name xT p4)) (some n) [.Assign [.Name y p5] (.Name n p6) p7] p8] [] [] pos) X.env) (SP X pins D) X.xe s:=by
 have load:∀ (Q:Value->Shared->Prop) (E:Value->Shared->Prop),Q (.ref lam) s->wpAny (model X.prog X.w) X.A (eval (.Name nf p1) X.env) Q E s:=fun Q E fin=>by
  obtain ⟨m,hn',hl⟩:=I.loc
  obtain ⟨u,r,l⟩:=hl kf nf _ hkf hvf hvis
  cases r
  rcases l with ⟨hk,hm⟩|⟨hk,c,hc,hcell⟩
  ·exact wpAny_Name (wpAny_loadName_local I.ok.kind hk hn' hm fin) hfd
  ·rcases hk with hk|hk
   ·exact wpAny_Name (wpAny_loadName_cell I.ok.kind hk hc hcell fin) hfd
   ·exact wpAny_Name (wpAny_loadName_free I.ok.kind hk hc hcell fin hfcd) hfd
 refine wpAny_Try_except (wpAny_execs_cons (wpAny_Expr_any ?_ I.quiet hs0))
 refine wpAny_Call_Name_kw (load _ _ (PySem.W.callWith_F0 hlam (wpAny_call (codeAny_mono hcall fun r s1 hq=>?_))))
 cases r with
 | ok fl=>
  cases fl with
  | next=>exact False.elim hq
  | brk=>exact False.elim hq
  | cont=>exact False.elim hq
  | ret u=>
   obtain ⟨v,H',J,_,q⟩:=I.after hq
   exact wpAny_execs_nil (wpAny_execs_nil ⟨σ,H',J,q⟩)
 | error e=>
  obtain ⟨a,c,H1,rfl,os,htk,bare,un,hok,x,C,hC,hm,q⟩:=hq
  have I1:L2.Inv X pins σ H1 s1:=I.call' (ch:=[]) os un hok bare (fun b z=>absurd z (by simp))
  rw [hC] at x
  refine zcE (h0:=s.heap) (by rw [<- hstk];exact I.ok.frames) (by rw [<- hstk];exact I1.stack) hfr x (fun b hb=>hok.fresh hb) ?_ fun h2 kp x2=>?_
  ·intro b hb
   cases z:s.heap.get? b with
   | none=>rfl
   | some o=>
    obtain ⟨o',e'⟩:=un.there b o z (by simp)
    exact absurd (Heap.lt_size e') (Nat.not_lt.mpr hb)
  ·rw [<- hstk] at kp
   exact zcw I os htk bare un hok kp x2 hm hgT hmT hN hi hj hij hn hy (fun s' J=>⟨_,_,J,q a x.free⟩) hnd hncd hTd hs hw
end
structure ziD (nf n y xT:Str) (p0 p1 p2 p3 p5 p6 p7 pq pc:Pos) (kc):Prop where
 hfd:(nf == ("__debug__":Str))=false:=by decide
 hfcd:(nf == ("__classdict__":Str))=false:=by decide
 hnd:(n == ("__debug__":Str))=false:=by decide
 hncd:(n == ("__classdict__":Str))=false:=by decide
 hTd:(xT == ("__debug__":Str))=false:=by decide
 hs0:∀ env:Env,swapsWith (.Call (.Name nf p1) [] [] p2) none p3.line env=pure false:=by intro _;rfl
 hsA:∀ env:Env,swapsWith (.Constant .none kc pc) (some (.Name y pq)) p0.line env=pure false:=by intro _;rfl
 hs:∀ env:Env,swapsWithSole [.Name y p5] (.Name n p6) p7.line env=pure false:=by intro _;rfl
 hw:∀ env:Env,swappedStores [.Name y p5] (.Name n p6) env=pure none:=by intro _;rfl
section
variable {X:Cx} {H:Hp}
theorem z83 {Y:Cx} {σ1:St} {H:Hp} {s1:Shared} {Cl:Nat->Value} {lam T:Addr} {nf n y xT:Str} {z2C:List Stmt} {i j:Nat} {Q:VK} {W:St->Hp->Prop} {t:TS} {p0 p1 p2 p3 p4 p5 p6 p7 p8 pq pc pos:Pos} {kc:_}
  (I1:L2.Inv Y [] σ1 H s1) (hex:Y.ex=[]) (hstk:Y.stack=Y.env :: Y.outer) (hfr:Y.env.frame=some Y.env.locals) (hlam:∀ (σ2:St) (s2:Shared),L2.Inv Y [] σ2 H s2->PySem.W.FnAt lam s2.heap) (hk0:Y.N[0]?=some nf) (hv0:σ1[0]?=some (some (.ref lam)))
  (hN:Y.N.Nodup) (hi:Y.N[i]?=some n) (hj:Y.N[j]?=some y) (hij:i ≠ j) (hj0:j ≠ 0) (hn:Y.env.scope.names.lookup n=some .local) (hy:Y.env.scope.names.lookup y=some .local) (hvf:Vis Y.env.scope nf) (hgT:Gl Y xT) (hmT:Y.mg xT=some (.ref T))
  (hcall:∀ s2:Shared,L2.Inv Y [] (σ1.set j (some .non)) H s2->codeAny (model Y.prog Y.w) Y.A (.call (.ref lam) ⟨[],[]⟩) (CR (CXr Y.prog Y.w Cl) Y.stack Y.prog Y.w H s2 (fun _ H'=>W (σ1.set j (some .non)) H')
    (fun Cv _ H1=>∃ C,Cv=.ref C/\PySem.W.exmOne Y.K (.ref C) (.ref T)=some true/\∀ a,H1 a=none->W (((σ1.set j (some .non)).set j (some (.ref a))).set i none) (upd H1 a (.ext fun h=>∃ ox,PySem.W.InstAt h a ox C none)))) s2)
  (hrest:PSs Y z2C t) (hW:∀ σ' H',W σ' H'->t { nx:=fun _ H'=>Q .non H',rt:=Q } σ' H')
  (Z:ziD nf n y xT p0 p1 p2 p3 p5 p6 p7 pq pc kc):
  wpAny (model Y.prog Y.w) Y.A (execs (.Assign [.Name y pq] (.Constant .none kc pc) p0 :: .Try [.Expr (.Call (.Name nf p1) [] [] p2) p3] [.ExceptHandler (some (.Name xT p4)) (some n) [.Assign [.Name y p5] (.Name n p6) p7] p8] [] [] pos :: z2C) Y.env) (SP Y [] { nx:=fun _ H'=>Q .non H',rt:=Q }) Y.xe s1:=by
 refine wpAny_execs_cons ?_
 refine thn (z9m (X:=Y) (pos':=pq) (pos:=p0) hN hj (.inl hy) (zeG (j:=kc) (pos:=pc)) (Z.hsA _) (.inr hy) [] s1 σ1 H { nx:=fun σ' H'=>σ'=σ1.set j (some .non)/\H'=H,rt:=fun _ _=>False } I1 ⟨rfl,rfl⟩) fun fl s2 h2=>?_
 cases fl with
 | ret u=>obtain ⟨_,_,_,_,_,z⟩:=h2;exact z.elim
 | brk=>obtain ⟨_,_,_,z⟩:=h2;exact z.elim
 | cont=>obtain ⟨_,_,_,z⟩:=h2;exact z.elim
 | next=>
 obtain ⟨σ2,H2,I2,rfl,rfl⟩:=h2
 refine wpAny_execs_cons (thn (zhS (D:={ nx:=W,rt:=fun _ _=>False }) I2 hex (hcall s2 I2) (hlam _ s2 I2) hk0 (by rw [List.getElem?_set_ne hj0];exact hv0) hvf hgT hmT hstk hfr hN hi hj hij hn hy Z.hfd Z.hfcd Z.hnd Z.hncd Z.hTd (Z.hs0 _) (Z.hs _) (Z.hw _)) fun fl s3 h3=>?_)
 cases fl with
 | ret u=>obtain ⟨_,_,_,_,_,z⟩:=h3;exact z.elim
 | brk=>obtain ⟨_,_,_,z⟩:=h3;exact z.elim
 | cont=>obtain ⟨_,_,_,z⟩:=h3;exact z.elim
 | next=>
  obtain ⟨σ3,H3,I3,w3⟩:=h3
  exact hrest [] s3 σ3 H3 _ I3 (hW σ3 H3 w3)
end
section
variable {X:Cx} {pins:List (Addr × Obj)} {σ:St} {H:Hp} {s:Shared}
theorem zfK {Cl:Nat->Value} {k:Nat} {f:Addr} {name qual:Str} {params:Arguments} {body:List Stmt} {scope:Scope} {dV kV doc pm cdv ct oc:Value} {an od:Option Addr} {osl:Array (Option Value)} {N ps:List Str} {us:List Value} {vs:List V} {Q:VK}
  (I:L2.Inv X pins σ H s) (hr:Room (k + 1) X.A) (lk:X.K.lookup f=some ⟨oc,od,.func (PySem.W.fnOf name qual params body scope dV kV doc pm an cdv ct),osl⟩)
  (hcd:PySem.W.codeIn X.K cdv qual=true) (S:z1v N ps scope) (hb:BindsTo s (PySem.W.fnOf name qual params body scope dV kV doc pm an cdv ct) ⟨us,[]⟩ (ps.zip us)) (hl:vs.length=ps.length) (hv:Vals vs us)
  (hbody:∀ s1:Shared,Room k (X.A.deeper (PyProof.Rows.envOfC qual scope s.heap.objs.size f cdv))->L2.Inv (cxX Cl X.prog X.w X.K X.mg X.base N qual scope f cdv X.A X.stack s H E0) [] (L2.start N vs) H s1->
   wpAny (model X.prog X.w) (cxX Cl X.prog X.w X.K X.mg X.base N qual scope f cdv X.A X.stack s H E0).A (execs body (cxX Cl X.prog X.w X.K X.mg X.base N qual scope f cdv X.A X.stack s H E0).env) (SP (cxX Cl X.prog X.w X.K X.mg X.base N qual scope f cdv X.A X.stack s H E0) [] { nx:=fun _ H'=>Q .non H',rt:=Q }) (cxX Cl X.prog X.w X.K X.mg X.base N qual scope f cdv X.A X.stack s H E0).xe s1):
  wpAny (model X.prog X.w) X.A (call (.ref f) us) (EP X pins σ Q) X.xe s:=by
 have e0:=I.env0
 have KX:=I.kIn
 have hkind:∀ z ∈ ps.zip us,scope.names.lookup z.1=some .local \/ (scope.names.lookup z.1=some .cell/\((cellsFrom (s.heap.objs.size + 1) scope.names []).lookup z.1).isSome=true):=fun ⟨m,v⟩ hz=>by
  rcases S.par m (List.of_mem_zip hz).1 with q|q
  ·exact .inl q
  ·exact .inr ⟨q,PySem.W.cellsFrom_some _ _ _ (.inl q)⟩
 refine wpAny_call (codeAny_mono (?_:codeAny (model X.prog X.w) X.A (.call (.ref f) ⟨us,[]⟩) (CR (CXr X.prog X.w Cl) X.stack X.prog X.w H s Q E0) s) fun r s' hq=>?_)
 ·refine codeAny_call_function hr.depth (KX _ _ lk) rfl S.co S.gen rfl (PySem.W.codeRec_of KX hcd) (hb _ _ _ _ ?_)
  refine wT I (wpAny_newFunctionEnv_cells S.kind hkind fun env he s1 x htk=>?_)
  subst he
  refine ⟨I.nolimit.keeps x.toInCall.keep,codeAny_func ?_⟩
  have I1:L2.Inv (cxX Cl X.prog X.w X.K X.mg X.base N qual scope f cdv X.A X.stack s H E0) [] (L2.start N vs) H s1:=z7s S hr.hd e0 hl hv x htk
  refine wpAny_mono (hbody s1 (hr.deeper _) I1) (fun fl s' hs=>?_) fun e s' hs=>hs
  have fin:∀ {σ':St} {H':Hp} {v:V} {u:Value},L2.Inv (cxX Cl X.prog X.w X.K X.mg X.base N qual scope f cdv X.A X.stack s H E0) [] σ' H' s'->RelV v u->Q v H'->CE X.stack X.prog X.w H s Q u s':=
   fun {σ' H' v u} J rv q=>⟨⟨v,H',J.os,J.bare,J.base,J.hok,rv,q⟩,J.tk⟩
  cases fl with
  | ret u=>
   obtain ⟨v,σ',H',J,rv,q⟩:=hs
   exact fin J rv q
  | next=>
   obtain ⟨σ',H',J,q⟩:=hs
   exact fin (v:=V.non) (u:=Value.none) J rfl q
  | brk=>
   obtain ⟨_,_,_,q⟩:=hs
   exact False.elim q
  | cont=>
   obtain ⟨_,_,_,q⟩:=hs
   exact False.elim q
 ·cases r with
  | error e=>exact z9h pins σ H s e s' I hq
  | ok fl=>
   cases fl with
   | ret u=>exact I.after hq
   | next=>exact False.elim hq
   | brk=>exact False.elim hq
   | cont=>exact False.elim hq
end
section
variable {X:Cx} {pins:List (Addr × Obj)} {σ:St} {H:Hp} {s:Shared}
theorem z8R {Cl:Nat->Value} {k:Nat} {f lam T:Addr} {name qual nf n y xT:Str} {params:Arguments} {z2C:List Stmt} {scope:Scope} {dV kV doc pm cdv ct oc:Value} {an od:Option Addr} {osl:Array (Option Value)} {N:List Str} {i j:Nat} {Q:VK} {W:St->Hp->Prop} {p0 p1 p2 p3 p4 p5 p6 p7 p8 pq pc pos:Pos} {kc:_}
  (I:L2.Inv X pins σ H s) (hr:Room (k + 1) X.A)
  (lk:X.K.lookup f=some ⟨oc,od,.func (PySem.W.fnOf name qual params (.Assign [.Name y pq] (.Constant .none kc pc) p0 :: .Try [.Expr (.Call (.Name nf p1) [] [] p2) p3] [.ExceptHandler (some (.Name xT p4)) (some n) [.Assign [.Name y p5] (.Name n p6) p7] p8] [] [] pos :: z2C) scope dV kV doc pm an cdv ct),osl⟩)
  (hcd:PySem.W.codeIn X.K cdv qual=true) (S:z1v N [nf] scope)
  (hb:BindsTo s (PySem.W.fnOf name qual params (.Assign [.Name y pq] (.Constant .none kc pc) p0 :: .Try [.Expr (.Call (.Name nf p1) [] [] p2) p3] [.ExceptHandler (some (.Name xT p4)) (some n) [.Assign [.Name y p5] (.Name n p6) p7] p8] [] [] pos :: z2C) scope dV kV doc pm an cdv ct) ⟨[.ref lam],[]⟩ ([nf].zip [.ref lam]))
  (hlam:∀ s2:Shared,Un (frs X.stack) [] H H s.heap s2.heap->HOk X.prog X.w H s2.heap->PySem.W.FnAt lam s2.heap) (hN:N.Nodup) (hk0:N[0]?=some nf) (hi:N[i]?=some n) (hj:N[j]?=some y) (hij:i ≠ j) (hj0:j ≠ 0) (hn:scope.names.lookup n=some .local) (hy:scope.names.lookup y=some .local) (hvf:Vis scope nf)
  (hgT:scope.names.lookup xT=some .globalImplicit) (hmT:X.mg xT=some (.ref T))
  (hcall:∀ s2:Shared,Room k (X.A.deeper (PyProof.Rows.envOfC qual scope s.heap.objs.size f cdv))->zeS X.prog X.w X.K X.mg X.base (X.A.deeper (PyProof.Rows.envOfC qual scope s.heap.objs.size f cdv)) (PyProof.Rows.envOfC qual scope s.heap.objs.size f cdv :: X.stack) s2 H->Un (frs X.stack) [] H H s.heap s2.heap->
   codeAny (model X.prog X.w) (X.A.deeper (PyProof.Rows.envOfC qual scope s.heap.objs.size f cdv)) (.call (.ref lam) ⟨[],[]⟩) (CR (CXr X.prog X.w Cl) (PyProof.Rows.envOfC qual scope s.heap.objs.size f cdv :: X.stack) X.prog X.w H s2 (fun _ H'=>W ((L2.start N [.ref lam]).set j (some .non)) H')
    (fun Cv _ H1=>∃ C,Cv=.ref C/\PySem.W.exmOne X.K (.ref C) (.ref T)=some true/\∀ a,H1 a=none->W ((((L2.start N [.ref lam]).set j (some .non)).set j (some (.ref a))).set i none) (upd H1 a (.ext fun h=>∃ ox,PySem.W.InstAt h a ox C none)))) s2)
  (hrest:Room k (X.A.deeper (PyProof.Rows.envOfC qual scope s.heap.objs.size f cdv))->∃ t,PSs (cxX Cl X.prog X.w X.K X.mg X.base N qual scope f cdv X.A X.stack s H E0) z2C t/\∀ σ' H',W σ' H'->t { nx:=fun _ H'=>Q .non H',rt:=Q } σ' H')
  (Z:ziD nf n y xT p0 p1 p2 p3 p5 p6 p7 pq pc kc):
  wpAny (model X.prog X.w) X.A (call (.ref f) [.ref lam]) (EP X pins σ Q) X.xe s:=by
 refine zfK (Cl:=Cl) (k:=k) (Q:=Q) (vs:=[.ref lam]) I hr lk hcd S hb rfl (.cons rfl .nil) fun s1 hr1 I1=>?_
 obtain ⟨t,ht,hW⟩:=hrest hr1
 exact z83 (Y:=cxX Cl X.prog X.w X.K X.mg X.base N qual scope f cdv X.A X.stack s H E0) (Cl:=Cl) (T:=T) (W:=W) (Q:=Q) I1 rfl rfl rfl (fun σ2 s2 I2=>hlam s2 I2.base I2.hok) hk0 (by rfl) hN hi hj hij hj0 hn hy hvf hgT hmT (fun s2 I2=>hcall s2 hr1 I2.env0 I2.base) ht hW Z
end
section
variable {X:Cx} {pins:List (Addr × Obj)} {σ:St} {H:Hp} {s s2:Shared}
theorem zcz {h h':Heap} {c:Addr} {v:Option Value} {fs:List Addr} (un:Un fs [] H H h h') (z:h.IsCell c v) (n:H c=none):h'.IsCell c v:=by
 obtain ⟨o,ho,hd⟩:=z
 obtain ⟨sl,e⟩:=un.any ho n (by simp)
 exact ⟨_,e,hd⟩
theorem zac {clos:List (Str × Addr)} (I:L2.Inv X pins σ H s) (un:Un (frs X.stack) [] H H s.heap s2.heap) (hcl:∀ x c,clos.lookup x=some c->X.env.cells.lookup x=some c):∀ x c,clos.lookup x=some c->(∃ v,s2.heap.IsCell c v)/\H c=none:=fun x c e=>by
 obtain ⟨v,z⟩:=I.cell x c (hcl x c e)
 exact ⟨⟨v,zcz un z (I.freeC x c (hcl x c e))⟩,I.freeC x c (hcl x c e)⟩
theorem ze0 {clos:List (Str × Addr)} (I:L2.Inv X pins σ H s) (hcl:∀ x c,clos.lookup x=some c->X.env.cells.lookup x=some c):∀ x y c,clos.lookup x=some c->clos.lookup y=some c->x=y:=fun x y c e1 e2=>I.ok.inj x y c (hcl x c e1) (hcl y c e2)
theorem zbh {clos:List (Str × Addr)} {scope:Scope} (I:L2.Inv X pins σ H s) (un:Un (frs X.stack) [] H H s.heap s2.heap) (hcl:∀ x c,clos.lookup x=some c->X.env.cells.lookup x=some c) (has:∀ x,scope.names.lookup x=some .free->∃ c,clos.lookup x=some c)
  (hfv:∀ x,scope.names.lookup x=some .free->X.env.scope.names.lookup x=some .cell \/ X.env.scope.names.lookup x=some .free):
  ∀ (i:Nat) x v,X.N[i]?=some x->σ[i]?=some (some v)->scope.names.lookup x=some .free->∃ u c,RelV v u/\clos.lookup x=some c/\s2.heap.IsCell c (some u):=fun i x v e1 e2 e3=>by
 obtain ⟨m,hn,hl⟩:=I.loc
 obtain ⟨u,r,l⟩:=hl i x v e1 e2 (.inr (hfv x e3))
 obtain ⟨c,hc⟩:=has x e3
 refine ⟨u,c,r,hc,?_⟩
 rcases l with ⟨z,_⟩|⟨_,c',g1,g2⟩
 ·have z':X.env.scope.names.lookup x=some .local:=z
  rcases hfv x e3 with q|q <;> (rw [z'] at q;cases q)
 ·have:=hcl x c hc
  rw [g1] at this;cases this
  exact zcz un g2 (I.freeC x _ g1)
end
structure z4g (out sc:Scope):Prop where
 kind:sc.kind=.function
 co:sc.isCoroutine=false
 gen:sc.isGenerator=false
 nd:(sc.names.map (·.1)).Nodup
 cell:∀ x ∈ sc.names,x.2 ≠ .cell
 loc:∀ x ∈ sc.names,x.2 ≠ .local
 frees:∀ y ∈ sc.names,y.2=.free->out.names.lookup y.1=some .cell \/ out.names.lookup y.1=some .free
def zja (r:RS):R D:=match r with
 | .nx _ O=>.ok .non O
 | .rt d O=>.ok d O
 | _=>.bad
def z6j (Ca:Nat->Nat) (n j:Nat) (tR:DS) (r:R D):R D:=match r with
 | .ok _ O=>zja (tR ((List.replicate n none).set j (some .non)) O)
 | .exc c O=>zja (tR ((List.replicate n none).set j (some (.exn (Ca c)))) O)
 | .bad=>.bad
def z6S (Pt iT:Nat) (Ca:Nat->Nat) (n j:Nat) (tE:DE) (tR:DS):DE:=fun σ O=>match σ[iT]? with
 | some (some (.tab p))=>if p=Pt then z6j Ca n j tR (tE σ O) else .bad
 | _=>.bad
theorem z7T {K:PySem.W.Frag} {H:Hp} {hid μ:List Addr} {n j:Nat} {d:D} {v:V} {σv:St} (hl:σv.length=n) (hv:σv[j]?=some (some v)) (q:Dat K H hid μ d v):EnvOk K H hid μ ((List.replicate n none).set j (some d)) σv:=by
 refine ⟨by simp [hl],fun i x e=>?_⟩
 by_cases hi:j=i
 ·subst hi
  have hj:j < n:=by have:=(List.getElem?_eq_some_iff.mp hv).1;omega
  rw [List.getElem?_set_self (by simpa using hj)] at e
  cases e
  exact ⟨v,hv,q⟩
 ·rw [List.getElem?_set_ne hi] at e
  rw [List.getElem?_replicate] at e
  split at e <;> cases e
theorem z7h {Ex:Nat->Hp->Prop} {E':Nat->Hp->Prop} {K:PySem.W.Frag} {H:Hp} {hid μ:List Addr} {Q:VK} {r:RS} (q:z1I Ex K H hid μ (zja r) Q):postS E' K H hid μ r { nx:=fun _ H'=>Q .non H',rt:=Q }:=by
 cases r with
 | nx σ O'=>exact fun σv H' μ' x e c'=>q .non H' μ' x c' z4U
 | rt d' O'=>exact fun v H' μ' x c' r=>q v H' μ' x c' r
 | bk σ O'=>exact False.elim q
 | ct σ O'=>exact False.elim q
 | exc c' O'=>exact False.elim q
 | bad=>exact False.elim q
theorem z4l {N:List Str} {a:V} (h:0 < N.length):(L2.start N [a]).length=N.length:=by
 unfold L2.start;simp;omega
def Thk (Cl:Nat->Value) (P:Program) (w:World) (K:PySem.W.Frag) (mg:Str->Option Value) (base:Heap) (fs:List Addr) (H:Hp) (h:Heap) (lam:Addr) (kk:Nat) (hid μ:List Addr) (r:R D):Prop:=
 ∀ (A:Around) (outer:List Env) (s2:Shared) (Q:VK) (E:XK),Room kk A->zeS P w K mg base A outer s2 H->Un fs [] H H h s2.heap->z1I (Xk Cl E) K H hid μ r Q->codeAny (model P w) A (.call (.ref lam) ⟨[],[]⟩) (CR (CXr P w Cl) outer P w H s2 Q E) s2
section
variable {Y:Cx} {Ex:Nat->Hp->Prop} {Cl:Nat->Value} {Ca:Nat->Nat}
theorem z9o {k i j:Nat} {T lam:Addr} {x nf n y xT:Str} {st:Stmt} {N:List Str} {z2C:List Stmt} {tR:DS} {p0 p1 p2 p3 p4 p5 p6 p7 p8 pq pc pos:Pos} {kc:_} {pins:List (Addr × Obj)} {σ1:St} {H:Hp} {s:Shared} {f:Addr} {fd:FuncData} {fs:List Addr} {h0:Heap} {hid μ:List Addr} {r:R D} {Q:VK}
  (I:L2.Inv Y pins σ1 H s) (F:L2.Fun Y.K x x st f fd) (hr:Room (k + 1) Y.A)
  (hbd:z1U st=.Assign [.Name y pq] (.Constant .none kc pc) p0 :: .Try [.Expr (.Call (.Name nf p1) [] [] p2) p3] [.ExceptHandler (some (.Name xT p4)) (some n) [.Assign [.Name y p5] (.Name n p6) p7] p8] [] [] pos :: z2C)
  (S:z1v N [nf] (z1o st)) (hN:N.Nodup) (hk0:N[0]?=some nf) (hi:N[i]?=some n) (hj:N[j]?=some y) (hij:i ≠ j) (hj0:j ≠ 0) (hn:(z1o st).names.lookup n=some .local) (hy:(z1o st).names.lookup y=some .local) (hvf:Vis (z1o st) nf)
  (hb:∀ (kV doc pm:Value) (an:Option Addr) (cdv ct:Value) (us:List Value),us.length=1->bindArgs (PySem.W.fnOf x x (z2x st) (z1U st) (z1o st) .none kV doc pm an cdv ct) ⟨us,[]⟩=pure ([nf].zip us))
  (hgT:(z1o st).names.lookup xT=some .globalImplicit) (hmT:Y.mg xT=some (.ref T)) (hcls:∀ c,Cl c=.ref (Ca c)/\XcK Y.K (Ca c)/\PySem.W.exmOne Y.K (.ref (Ca c)) (.ref T)=some true)
  (hrest:∀ (f:Addr) (cdv:Value) (s:Shared) (H:Hp),Room k (Y.A.deeper (PyProof.Rows.envOfC x (z1o st) s.heap.objs.size f cdv))->z51 (cxX Cl Y.prog Y.w Y.K Y.mg Y.base N x (z1o st) f cdv Y.A Y.stack s H E0) (Xk Cl E0) z2C tR)
  (hlam:∀ s2:Shared,Un (frs Y.stack) [] H H s.heap s2.heap->HOk Y.prog Y.w H s2.heap->PySem.W.FnAt lam s2.heap) (th:Thk Cl Y.prog Y.w Y.K Y.mg Y.base fs H h0 lam k hid μ r) (hun:∀ s3:Shared,Un (frs Y.stack) [] H H s.heap s3.heap->Un fs [] H H h0 s3.heap)
  (q:z1I Ex Y.K H hid μ (z6j Ca N.length j tR r) Q)
  (Z:ziD nf n y xT p0 p1 p2 p3 p5 p6 p7 pq pc kc:=by exact {}):
  wpAny (model Y.prog Y.w) Y.A (call (.ref f) [.ref lam]) (EP Y pins σ1 Q) Y.xe s:=by
 have hNl:0 < N.length:=(List.getElem?_eq_some_iff.mp hk0).1
 have hjl:j < N.length:=(List.getElem?_eq_some_iff.mp hj).1
 obtain ⟨oc,od,kV,doc,pm,an,cdv,ct,osl,rfl,lk,hcd⟩:=F.ex
 have hbb:BindsTo s (PySem.W.fnOf x x (z2x st) (z1U st) (z1o st) .none kV doc pm an cdv ct) ⟨[.ref lam],[]⟩ ([nf].zip [.ref lam]):=.of_eq (hb kV doc pm an cdv ct [.ref lam] rfl)
 rw [hbd] at lk hbb
 refine z8R (k:=k) (Q:=Q) (W:=rds (Xk Cl E0) Y.K tR { nx:=fun _ H'=>Q .non H',rt:=Q }) (i:=i) (j:=j) (T:=T) (Cl:=Cl) I hr lk hcd S hbb hlam hN hk0 hi hj hij hj0 hn hy hvf hgT hmT ?_ ?_ Z
 ·intro s2 hr2 e0 un
  refine th _ _ s2 _ _ hr2 e0 (hun s2 un) ?_
  cases r with
  | bad=>exact False.elim q
  | ok d O'=>
   intro v H3 μ3 x3 c3 d3
   refine ⟨hid,μ3,_,O',z7T (by rw [List.length_set,z4l hNl]) ?_ z4U,c3,z7h (post.ext q x3)⟩
   rw [List.getElem?_set_self (by rw [z4l hNl];exact hjl)]
  | exc cc O'=>
   intro H3 μ3 x3 c3
   obtain ⟨h1,h2,h3⟩:=hcls cc
   refine ⟨Ca cc,h1,h3,fun a ha=>⟨hid,μ3,_,O',z7T (v:=.ref a) (d:=.exn (Ca cc)) (by simp [z4l hNl]) ?_ ?_,c3.laid ha,z7h (post.ext q (x3.trans (.laid ha)))⟩⟩
   ·rw [List.getElem?_set_ne hij,List.getElem?_set_self (by simp [z4l hNl];exact hjl)]
   ·unfold Dat
    exact ⟨a,_,rfl,⟨h2,fun h z=>z⟩,.inl z1z,c3.not_in ha⟩
 ·intro hr2
  exact ⟨_,(hrest f cdv _ H hr2).out,fun σ' H' z=>z⟩
end
section
variable {X:Cx} {Ex:Nat->Hp->Prop} {Cl:Nat->Value} {Ca:Nat->Nat}
theorem zao {k iT i j:Nat} {Pt c:Addr} {T:Addr} {x nf n y xT:Str} {st:Stmt} {N:List Str} {z2C:List Stmt} {tR:DS} {tE:DE} {params:Arguments} {body:Expr} {scope:Scope} {p0 p1 p2 p3 p4 p5 p6 p7 p8 pq pc pos pn pl pp:Pos} {kc:_}
  (h:z1Y X.K X.mg x st) (hr:Room (k + 2) X.A)
  (hbd:z1U st=.Assign [.Name y pq] (.Constant .none kc pc) p0 :: .Try [.Expr (.Call (.Name nf p1) [] [] p2) p3] [.ExceptHandler (some (.Name xT p4)) (some n) [.Assign [.Name y p5] (.Name n p6) p7] p8] [] [] pos :: z2C)
  (S:z1v N [nf] (z1o st)) (hN:N.Nodup) (hk0:N[0]?=some nf) (hi:N[i]?=some n) (hj:N[j]?=some y) (hij:i ≠ j) (hj0:j ≠ 0) (hn:(z1o st).names.lookup n=some .local) (hy:(z1o st).names.lookup y=some .local) (hvf:Vis (z1o st) nf)
  (hb:∀ (kV doc pm:Value) (an:Option Addr) (cdv ct:Value) (us:List Value),us.length=1->bindArgs (PySem.W.fnOf x x (z2x st) (z1U st) (z1o st) .none kV doc pm an cdv ct) ⟨us,[]⟩=pure ([nf].zip us))
  (hgT:(z1o st).names.lookup xT=some .globalImplicit) (hmT:X.mg xT=some (.ref T)) (hcls:∀ c,Cl c=.ref (Ca c)/\XcK X.K (Ca c)/\PySem.W.exmOne X.K (.ref (Ca c)) (.ref T)=some true)
  (hrest:∀ (f:Addr) (cdv:Value) (s:Shared) (H:Hp),Room (k + 1) (X.A.deeper (PyProof.Rows.envOfC x (z1o st) s.heap.objs.size f cdv))->z51 (cxX Cl X.prog X.w X.K X.mg X.base N x (z1o st) f cdv X.A X.stack s H E0) (Xk Cl E0) z2C tR)
  (L:z5u X.mg X.base c Pt) (hcode:X.env.code=.ref c) (LS:z4g X.env.scope scope) (hdef:defaultsOf params X.env=([],[]))
  (hbl:∀ (name qual:Str) (cl:List (Str × Addr)) (pm cd ct:Value),bindArgs (PySem.W.kla_fn name qual params body scope cl pm cd ct) ⟨[],[]⟩=pure [])
  (hE:∀ (q:Str) (lam:Addr) (cd:Value) (cl:List (Str × Addr)) (A:Around) (outer:List Env) (s:Shared) (H:Hp) (E:XK),Room k (A.deeper (z8z q scope s.heap.objs.size lam cd cl))->PD (cxL (CXr X.prog X.w Cl) X.prog X.w X.K X.mg X.base X.N (z8z q scope s.heap.objs.size lam cd cl) A outer s H E) (Xk Cl E) body tE)
  (hg:Gl X x)
  (hdb:(x == ("__debug__":Str))=false:=by decide)
  (Z:ziD nf n y xT p0 p1 p2 p3 p5 p6 p7 pq pc kc:=by exact {}):
  PD X Ex (.Call (.Name x pn) [.Lambda params body scope pl] [] pp) (z6S Pt iT Ca N.length j tE tR):=by
 refine ⟨?_⟩
 rintro pins s σv H Q I ⟨hid,μ,σ,O,e1,c1,q⟩
 obtain ⟨f,fd,hm,F⟩:=h
 have hNl:0 < N.length:=(List.getElem?_eq_some_iff.mp hk0).1
 have hjl:j < N.length:=(List.getElem?_eq_some_iff.mp hj).1
 have hil:i < N.length:=(List.getElem?_eq_some_iff.mp hi).1
 -- the table
 obtain ⟨ti,q⟩:Tidy H Pt/\z1I Ex X.K H hid μ (z6j Ca N.length j tR (tE σ O)) Q:=by
  unfold z6S at q
  split at q
  ·rename_i p hp
   by_cases hpp:p=Pt
   ·rw [if_pos hpp] at q
    obtain ⟨v,_,d⟩:=e1.at_ iT _ hp
    unfold Dat at d
    rw [hpp] at d
    exact ⟨d.2,q⟩
   ·rw [if_neg hpp] at q;exact False.elim q
  ·exact False.elim q
 have hfree:∀ y ∈ scope.names,y.2=.free->∃ c,X.env.cells.lookup y.1=some c:=fun y hy hf=>I.ok.has y.1 (LS.frees y hy hf)
 have hcl:∀ x c,(z1L X.env.cells scope.names []).lookup x=some c->X.env.cells.lookup x=some c:=fun x c e=>by
  rcases z3g _ _ (PySem.mem_of_lookup e) with m|⟨m,z⟩
  ·cases m
  ·obtain ⟨c',hc'⟩:=hfree (x,.free) m rfl
   have hc2:X.env.cells.lookup x=some c':=hc'
   rw [hc2] at z ⊢;rw [z];rfl
 have hasF:∀ x,scope.names.lookup x=some .free->∃ c,(z1L X.env.cells scope.names []).lookup x=some c:=fun x e=>by
  have m:=z3f (cells:=X.env.cells) scope.names [] (PySem.mem_of_lookup e)
  exact ⟨_,z21 (z2J _ _ LS.nd (by simp) (by intro p hp;cases hp)) m⟩
 have hfv:∀ x,scope.names.lookup x=some .free->X.env.scope.names.lookup x=some .cell \/ X.env.scope.names.lookup x=some .free:=fun x e=>LS.frees (x,.free) (PySem.mem_of_lookup e) rfl
 have hvis:∀ x,Vis scope x->scope.names.lookup x=some .free:=fun x hx=>by
  rcases hx with z|z|z
  ·exact absurd rfl (LS.loc _ (PySem.mem_of_lookup z))
  ·exact absurd rfl (LS.cell _ (PySem.mem_of_lookup z))
  ·exact z
 refine wpAny_Call_Name_kw (z4P I hg hm ?_ hdb)
 refine PySem.W.callWith_K (h₀:=X.base) I.ok.mod.kin F.kp ?_ (by rfl) (by rfl)
 show wpAny _ _ (spliced ((false,eval (.Lambda params body scope pl) X.env) :: backTo pp (starEach [] X.env))) _ _ s
 refine Calls.spliced_cons (zeH I L hcode ti (z3p hfree) hdef fun lam cd ctv h' tk H' I1 ext cells hlN hge hget hrec=>?_)
 refine Calls.spliced_nil ⟨I1.kIn,?_⟩
 have hnfr:lam ∉ frs X.stack:=by
  intro hb
  obtain ⟨_,o,ho,_⟩:=I.stack.mem hb
  exact absurd (Heap.lt_size ho) (Nat.not_lt.mpr hge)
 obtain ⟨cc,φ,rfl,hcc,hφ⟩:=hrec
 refine z9o (k:=k + 1) (fs:=frs X.stack) (h0:=h') (hid:=hid) (μ:=μ) (r:=tE σ O) I1 F hr hbd S hN hk0 hi hj hij hj0 hn hy hvf hb hgT hmT hcls hrest (fun s2 un _=>⟨_,_,_,_,un.keep lam _ hget hlN hnfr (by simp)⟩) ?_ (fun _ un=>un) (post.ext q (ext μ)) Z
 intro A outer s2 Q2 E2 hr2 e0 un qq
 obtain ⟨qn,hqn⟩:=hφ _ (e0.hok cc _ hcc).1
 exact zij (k:=k) (t:=tE) (hid:=hid) (μ:=μ) (σd:=σ) (O:=O) hr2 e0 (un.keep lam _ hget hlN hnfr (by simp)) hqn LS.co LS.gen LS.kind LS.cell (hbl _ _ _ _ _ _) hvis (zac I1 un hcl) (ze0 I1 hcl) hasF (zbh I1 un hcl hasF hfv) I1.len (hE _ _ _ _ _ _ _ _ _) (e1.ext (ext μ)) (cells hid μ O c1) qq
end
theorem zit {K:PySem.W.Frag} {Ec:XK->Nat->Hp->Prop} {Pt:Addr} {F:List D->Ow->R D} {H:Hp} {a:Addr} {ns:List Int} (h:∃ O,F [.lst (ns.map .int)] []=.ok (.bl true) O) (hT:H Pt=some (.tbl #[])) (sq:SqL K H a (ns.map V.int)):ze1 K Ec 1 Pt F [.ref a] H (fun v _=>v=.bl true) fun _ _ _=>False:=by
 obtain ⟨O,h⟩:=h
 have dn:∀ (l:List Int),Dats K H [] [] (l.map D.int) (l.map V.int):=fun l=>by
  induction l with
  | nil=>exact .nil
  | cons x r ih=>exact .cons z1T ih
 refine ⟨rfl,[],[],[.lst (ns.map .int)],[],.cons ?_ .nil,⟨rfl,by simp,by simp,by simp,fun k a e=>by simp at e⟩,Tidy.empty hT,?_⟩
 ·unfold Dat
  exact ⟨a,_,rfl,sq.imp (fun z=>⟨z,by simp,by simp⟩) id,dn ns⟩
 ·rw [h]
  intro v H' μ' _ _ r
  unfold Dat at r
  exact r
section
variable {X:Cx} {Ex:Nat->Hp->Prop}
def z8O:Ow->D->D->R D:=fun O x y=>match x,y with
 | .str [c],.int i=>if 0 <= i/\i <= 16 then .ok (.str (List.replicate i.toNat c)) O else .bad
 | _,_=>.bad
theorem z89 (c:Nat):∀ (k:Nat) (acc:List Nat),(List.replicate k (#[c]:Array Nat)).foldl (· ++ ·) acc.toArray=(acc ++ List.replicate k c).toArray
 | 0,acc=>by simp
 | k + 1,acc=>by
  rw [List.replicate_succ,List.foldl_cons]
  have e:acc.toArray ++ #[c]=(acc ++ [c]).toArray:=by simp
  rw [e,z89 c k]
  rw [List.replicate_succ]
  simp
theorem zf4 (c:Nat) (i:Int):Txt.mul (⟨#[c]⟩:Str) i=⟨(List.replicate i.toNat c).toArray⟩:=by
 unfold Txt.mul
 by_cases h1:i < 1
 ·rw [if_pos h1]
  have:i.toNat=0:=by omega
  rw [this];rfl
 ·rw [if_neg h1]
  by_cases h2:i=1
  ·subst h2;rfl
  ·have h3:(i == 1 || (⟨#[c]⟩:Str).length == 0)=false:=by
    have:(i == 1)=false:=by simpa using h2
    rw [this];rfl
   rw [if_neg (by rw [h3];decide)]
   have:=z89 c i.toNat []
   simp only [List.nil_append] at this
   rw [this]
theorem zg2:OpR X (binaryOp .Mult) (fun x y H Q=>∃ c i,x=.str ⟨#[c]⟩/\y=.int i/\0 <= i/\i <= 16/\Q (.str ⟨(List.replicate i.toNat c).toArray⟩) H):=by
 intro pins s σ H x y v u Q I rx ry h
 obtain ⟨c,i,rfl,rfl,h0,h1,q⟩:=h
 obtain ⟨t,rfl⟩:=rx
 obtain ⟨t',rfl⟩:=ry
 refine wT I (SB.mul ?_ fun tk k htk=>⟨.str (Txt.mul ⟨#[c]⟩ i),H,I.tok k,⟨_,rfl⟩,by rw [zf4];exact q⟩)
 refine ⟨?_,fun h2 h3=>?_,fun h2 h3=>?_⟩
 ·have a1:decide (i < -(2 ^ 63:Int))=false:=by simp;omega
  have a2:decide (i ≥ 2 ^ 63)=false:=by simp;omega
  rw [a1,a2];rfl
 ·have e:((⟨#[c]⟩:Str).length:Int)=1:=rfl
  rw [e]
  have:(1:Int) <= (2 ^ 63 - 1) / i:=by
   rw [Int.le_ediv_iff_mul_le (by omega)]
   omega
  omega
 ·have e:(⟨#[c]⟩:Str).length * i.toNat=i.toNat:=by
   show 1 * _=_
   omega
  rw [e]
  have:i.toNat <= 16:=by omega
  generalize i.toNat=n at this
  revert n
  decide
theorem ze4:OpD X Ex (fun x y H Q=>∃ c i,x=.str ⟨#[c]⟩/\y=.int i/\0 <= i/\i <= 16/\Q (.str ⟨(List.replicate i.toNat c).toArray⟩) H) z8O:=by
 intro H hid μ O x y v w Q c dx dy q
 unfold z8O at q
 split at q
 ·rename_i cc i
  unfold Dat at dx dy;subst dx;subst dy
  obtain ⟨hl,q⟩:=post.ite q
  refine ⟨cc,i,rfl,rfl,hl.1,hl.2,post.here q c ?_⟩
  unfold Dat;rfl
 ·exact False.elim q
end
theorem CalleeX.frz {Cl:Nat->Value} {P:Program} {w:World} {K:PySem.W.Frag} {mg:Str->Option Value} {base:Heap} {k n:Nat} {x:Str} {F:List D->Ow->R D} (c:CalleeX Cl P w K mg base x k n F):CalleeX Cl P w K mg base x k n (zjl F):=
 c.imp fun ds O H hid μ Ex Q cl q=>zd0 cl.len q
theorem fnT {Cl:Nat->Value} {P:Program} {w:World} {K:PySem.W.Frag} {mg:Str->Option Value} {base:Heap} {k i:Nat} {f c Pt:Addr} {fd:FuncData} {x z:Str} {st:Stmt} {N ps:List Str} {t:DS} (hF:L2.Fun K x x st f fd) (hc:fd.code=.ref c) (S:z1v N ps (z1o st)) (hi:N[i]?=some z) (hz:¬ Vis (z1o st) z)
  (hbody:∀ (A:Around) (outer:List Env) (s:Shared) (H:Hp) (E:XK),Room k (A.deeper (PyProof.Rows.envOfC x (z1o st) s.heap.objs.size f (.ref c)))->z51 (cxX Cl P w K mg base N x (z1o st) f (.ref c) A outer s H E) (Xk Cl E) (z1U st) t):
  FnOk P w K mg base (CXr P w Cl) (k + 1) f fd ps (ze1 K (Xk Cl) ps.length Pt (zeT N.length i Pt t)):=by
 obtain ⟨oc,od,kV,doc,pm,an,cdv,ct,osl,rfl,lk,hcd⟩:=hF.ex
 have e:cdv=.ref c:=hc
 subst e
 exact zey lk hcd S hi hz hbody
theorem zka {sc:Scope} {z:Str} (h:sc.names.lookup z=none):¬ Vis sc z:=by
 intro v
 rcases v with v|v|v <;> (rw [h] at v;cases v)
def zk7 (out sc:Scope):Bool:=(match sc.kind with|.function=>true|_=>false) && !sc.isCoroutine && !sc.isGenerator && decide ((sc.names.map (·.1)).Nodup) && (sc.names.all fun y=>!(y.2 == .cell) && !(y.2 == .local)) && (sc.names.all fun y=>!(y.2 == .free) || out.names.lookup y.1 == some .cell || out.names.lookup y.1 == some .free)
theorem zat {out sc:Scope} (h:zk7 out sc=true):z4g out sc:=by
 unfold zk7 at h
 simp only [Bool.and_eq_true,decide_eq_true_eq,List.all_eq_true] at h
 obtain ⟨⟨⟨⟨⟨h1,h2⟩,h3⟩,h4⟩,h5⟩,h6⟩:=h
 refine ⟨?_,by simpa using h2,by simpa using h3,h4,fun y hy=>?_,fun y hy=>?_,fun y hy hf=>?_⟩
 ·cases e:sc.kind <;> rw [e] at h1 <;> first|rfl|cases h1
 ·have:=(h5 y hy).1;simpa using this
 ·have:=(h5 y hy).2;simpa using this
 ·have:=h6 y hy
  rw [hf] at this
  simpa using this
theorem z8r {K:PySem.W.Frag} {base:Heap} {mg:Str->Option Value} {x:Str} {C:Addr} (X:K.In base) (g:mg x=some (.ref C)) (q:PySem.W.excIn K C zh1 "ValueError.__new__" = true):ziu mg base x C:=by
 unfold PySem.W.excIn at q
 split at q
 next dd cd sl ho=>
  split at q
  next C' bm k0 k1 k2 k3 n k5 hm hs=>
   simp only [Bool.and_eq_true,beq_iff_eq,Bool.not_eq_true'] at q
   obtain ⟨⟨⟨⟨⟨q1,q2⟩,q3⟩,q4⟩,q5⟩,q6⟩:=q
   subst q1;subst q2
   cases cd with
   | mk nm bs mro ns qn hd sn sub ab col del=>
    dsimp only at hm q3 q5 q6
    subst hm;subst q3
    cases sl with
    | mk l=>
     dsimp only at hs
     subst hs
     exact ⟨g,bm,ns,nm,qn,bs,hd,sn,sub,ab,col,dd,k0,k1,k2,k3,k5,_,X _ _ ho,.of_isNs (PySem.W.isNs_of_in X q5),PySem.W.nsMap_none_of_in X q5 q6,PySem.W.tail_of_in X q4⟩
  next=>cases q
 next=>cases q
theorem xck_of {K:PySem.W.Frag} {C:Addr} {cd:ClassData} (ga:PySem.W.findIn K (.ref C) "__getattribute__" = some (some (.builtin "BaseException.__getattribute__"))) (nh:PySem.W.findIn K (.ref C) "__getattr__" = some none) (cl:PySem.W.clsIn K C=some cd)
  (at_:PySem.W.findIn K (.ref C) "__class__" = some (some (.builtin "object.__class__"))) (gt:PySem.W.specialIn K (.builtin "object.__class__") "__get__" = some (some (.builtin "getset_descriptor.__get__"))) (tk:PySem.W.takesIn K (.builtin "object.__class__")=some true)
  (ob:PySem.W.mroIn K C (.type "object")=some true) (bx:PySem.W.mroIn K C (.type "BaseException")=some true)
  (k1:PySem.W.kitOne K (.ref C) (.type "int")=some false) (k2:PySem.W.kitOne K (.ref C) (.type "bool")=some false) (k3:PySem.W.kitOne K (.ref C) (.type "str")=some false) (k4:PySem.W.kitOne K (.ref C) (.type "list")=some false) (k5:PySem.W.kitOne K (.ref C) (.type "tuple")=some false) (k6:PySem.W.kitOne K (.ref C) (.type "dict")=some false):XcK K C:=
 ⟨ga,nh,⟨cd,cl⟩,at_,gt,tk,ob,bx,fun c hc=>by
  simp only [List.mem_cons,List.not_mem_nil,or_false] at hc
  rcases hc with rfl|rfl|rfl|rfl|rfl|rfl <;> assumption⟩
theorem zii {K:PySem.W.Frag} {x name qual:Str} {f c Pt:Addr} {params:Arguments} {body:List Stmt} {scope:Scope} {dV kV doc pm ct oc oc':Value} {an od od':Option Addr} {osl osl':Array (Option Value)} {vs:Array Value} (a:PySem.W.nsIn K mainGlobals x=some (some (.ref f)))
  (lk:K.lookup f=some ⟨oc,od,.func (PySem.W.fnOf name qual params body scope dV kV doc pm an (.ref c) ct),osl⟩) (h4:K.lookup c=some ⟨oc',od',.fields vs,osl'⟩) (h5:vs[11]?=some (.ref Pt)):PySem.W.tabIn K x=some (c,Pt):=by
 unfold PySem.W.tabIn
 rw [a]
 simp only [lk]
 show (match K.lookup c with|some ⟨_,_,.fields vs,_⟩=>_|_=>none)=_
 simp only [h4,h5]
theorem z6X:bootBuiltins "ValueError" = some (.type "ValueError"):=by boot_by_name
structure Inner (P:Program) (w:World) (ia:Addr) (fp:List Addr) (n:Nat) (Pv:Nat->Value->Prop) (Sx:Nat->Heap->Prop):Prop where
 stab:∀ i h h',Sx i h->(∀ b ∈ ia :: fp,∀ o,h.get? b=some o->h'.get? b=some o)->Sx i h'
 item:∀ (A:Around) (i:Nat) (s:Shared) (Q:Value->Shared->Prop) (E:Value->Shared->Prop),i < n->Sx i s.heap->(∀ v h' tk,Pv i v->Sx (i + 1) h'->Heap.SameBut ia s.heap h'->Q v { s with heap:=h',toks:=tk })->wpAny (model P w) A (Builtin.SmallTypes.nextOf (.ref ia)) Q E s
 done:∀ (A:Around) (i:Nat) (s:Shared) (Q:Value->Shared->Prop) (E:Value->Shared->Prop),A.handled=none->n <= i->Sx i s.heap->(∀ h' e,Heap.ExtBut ia s.heap h'->(∃ o,h'.get? e=some o/\o.cls=.type "StopIteration")->E (.ref e) { s with heap:=h' })->wpAny (model P w) A (Builtin.SmallTypes.nextOf (.ref ia)) Q E s
section
variable {P:Program} {w:World} {A:Around} {E:Value->Shared->Prop} {s:Shared}
theorem z9p {α:Type} {Q:α->Shared->Prop} (hh:A.handled=none) (h:∀ h' e,(∀ b o,s.heap.get? b=some o->h'.get? b=some o)->(∃ o,h'.get? e=some o/\o.cls=.type "StopIteration")->E (.ref e) { s with heap:=h' }):
  wpAny (model P w) A (newExc (.type "StopIteration") [] >>= fun e=>(raiseNew e:Sem α)) Q E s:=by
 refine wpAny_bind ?_
 simp only [newExc,newTuple]
 refine wpAny_bind (wpAny_newObj_type (?_) (by size_fits))
 refine wpAny_bind (m:=firstArgMember _ _) (wpAny_of_eq (a:=.none) (by first|rfl|(simp only [firstArgMember];rfl)) (wpAny_newObj_type ?_ (by size_fits)))
 simp only [raiseNew]
 refine wpAny_bind (wpAny_handled ?_);rw [hh]
 refine wpAny_bind (wpAny_pure (wpAny_throw (h _ _ (fun b o e=>Heap.get?_push_of_some _ (Heap.get?_push_of_some _ e)) ⟨_,Heap.get?_push_size _ rfl,rfl⟩)))
theorem zbr (ia tt:Addr) (items:Array Value) (hne:tt ≠ ia):Inner P w ia [tt] items.size (fun i v=>items[i]?=some v) (fun i h=>h.IsTupleIter ia tt i/\h.IsTuple tt items) where
 stab:=by
  rintro i h h' ⟨⟨o,e,c,d⟩,⟨o2,e2,r⟩⟩ k
  exact ⟨⟨o,k ia (by simp) o e,c,d⟩,⟨o2,k tt (by simp) o2 e2,r⟩⟩
 item:=by
  rintro A i s Q E hi ⟨hit,htt⟩ hq
  obtain ⟨ob,hob,hcl,hda⟩:=id hit
  obtain ⟨ol,hol,k1,nl,hdl⟩:=id htt
  have hxx:items[i]?=some items[i]:=Array.getElem?_eq_getElem hi
  unfold Builtin.SmallTypes.nextOf
  refine wpAny_bind (wpAny_callSpecial?_slot (name := "__next__") hit.typeIs F.slot_tuple_iterator_next (wpAny_call_entry F.slot_tuple_iterator_next hit.typeIs F.entry_tuple_iterator_next ?_ (F.args_tuple_iterator_next_1 _)))
  show wpAny _ _ (field (.ref ia) 0 >>= _) _ _ s
  refine wpAny_bind (wpAny_field hob hda (x:=.ref tt) rfl ?_)
  show wpAny _ _ (if (Value.ref tt == Value.none)=true then _ else _) _ _ s
  rw [if_neg (by exact Bool.false_ne_true)]
  show wpAny _ _ (field (.ref ia) 1 >>= _) _ _ s
  refine wpAny_bind (wpAny_field hob hda (x:=.int i 0) rfl ?_)
  show wpAny _ _ (seqItems? (.ref tt) >>= _) _ _ s
  refine wpAny_bind (wpAny_seqItems hol hdl ?_)
  simp only [Int.toNat_natCast,hxx]
  refine wpAny_bind (wpAny_setField hob hda (by simp) (wpAny_pure ⟨_,rfl,wpAny_pure (hq _ _ s.toks hxx ⟨?_,?_⟩ (Heap.SameBut.update ..))⟩))
  ·exact ⟨_,Heap.get?_update_self _ hob (Obj.isFreed_of_fields (Obj.data_mapFields hda _)),(Obj.cls_mapFields ..).trans hcl,by rw [Obj.data_mapFields hda];simp [rawInt]⟩
  ·exact ⟨ol,(Heap.SameBut.update ..).extBut _ _ hne hol,k1,nl,hdl⟩
 done:=by
  rintro A i s Q E hh hi ⟨hit,htt⟩ hq
  obtain ⟨ob,hob,hcl,hda⟩:=id hit
  obtain ⟨ol,hol,k1,nl,hdl⟩:=id htt
  have hxx:items[i]?=none:=by simp [hi]
  unfold Builtin.SmallTypes.nextOf
  refine wpAny_bind (wpAny_callSpecial?_slot (name := "__next__") hit.typeIs F.slot_tuple_iterator_next (wpAny_call_entry F.slot_tuple_iterator_next hit.typeIs F.entry_tuple_iterator_next ?_ (F.args_tuple_iterator_next_1 _)))
  show wpAny _ _ (field (.ref ia) 0 >>= _) _ _ s
  refine wpAny_bind (wpAny_field hob hda (x:=.ref tt) rfl ?_)
  show wpAny _ _ (if (Value.ref tt == Value.none)=true then _ else _) _ _ s
  rw [if_neg (by exact Bool.false_ne_true)]
  show wpAny _ _ (field (.ref ia) 1 >>= _) _ _ s
  refine wpAny_bind (wpAny_field hob hda (x:=.int i 0) rfl ?_)
  show wpAny _ _ (seqItems? (.ref tt) >>= _) _ _ s
  refine wpAny_bind (wpAny_seqItems hol hdl ?_)
  simp only [Int.toNat_natCast,hxx]
  refine wpAny_bind (wpAny_rule (wpAny_bind (wpAny_setField hob hda (by simp) ?_)))
  refine z9p (by first|exact hh|(show A.in1.handled=none;exact hh)) fun h' e k he=>hq h' e (fun b o hb z=>k b o ((Heap.SameBut.update ..).extBut _ _ hb z)) he
theorem zbV (ia:Addr) (x:Str) (t:Tok):Inner P w ia [] x.cps.size (fun i v=>∃ c tk,x.cps[i]?=some c/\v=.str ⟨#[c]⟩ tk) (fun i h=>h.IsStrIter ia "str_ascii_iterator" x t i) where
 stab:=by
  rintro i h h' ⟨o,e,c,d⟩ k
  exact ⟨o,k ia (by simp) o e,c,d⟩
 item:=by
  rintro A i s Q E hi hit hq
  obtain ⟨ob,hob,hcl,hda⟩:=id hit
  have hxx:x.cps[i]?=some x.cps[i]:=Array.getElem?_eq_getElem hi
  unfold Builtin.SmallTypes.nextOf
  refine wpAny_bind (wpAny_callSpecial?_slot (name := "__next__") hit.typeIs F.slot_str_ascii_iterator_next (wpAny_call_entry F.slot_str_ascii_iterator_next hit.typeIs F.entry_str_ascii_iterator_next ?_ (F.args_str_ascii_iterator_next_1 _)))
  show wpAny _ _ (field (.ref ia) 0 >>= _) _ _ s
  refine wpAny_bind (wpAny_field hob hda (x:=.str x t) rfl ?_)
  show wpAny _ _ (field (.ref ia) 1 >>= _) _ _ s
  refine wpAny_bind (wpAny_field hob hda (x:=.int i 0) rfl ?_)
  simp only [Int.toNat_natCast,hxx]
  refine wpAny_bind (wpAny_setField hob hda (by simp) (wpAny_bind (wpAny_mkStr (wpAny_pure ⟨_,rfl,wpAny_pure (hq _ _ _ ⟨_,_,hxx,rfl⟩ ?_ (Heap.SameBut.update ..))⟩) (by show 1 <= sizeLine;decide))))
  exact ⟨_,Heap.get?_update_self _ hob (Obj.isFreed_of_fields (Obj.data_mapFields hda _)),(Obj.cls_mapFields ..).trans hcl,by rw [Obj.data_mapFields hda];simp [rawInt]⟩
 done:=by
  rintro A i s Q E hh hi hit hq
  obtain ⟨ob,hob,hcl,hda⟩:=id hit
  have hxx:x.cps[i]?=none:=by simp [hi]
  unfold Builtin.SmallTypes.nextOf
  refine wpAny_bind (wpAny_callSpecial?_slot (name := "__next__") hit.typeIs F.slot_str_ascii_iterator_next (wpAny_call_entry F.slot_str_ascii_iterator_next hit.typeIs F.entry_str_ascii_iterator_next ?_ (F.args_str_ascii_iterator_next_1 _)))
  show wpAny _ _ (field (.ref ia) 0 >>= _) _ _ s
  refine wpAny_bind (wpAny_field hob hda (x:=.str x t) rfl ?_)
  show wpAny _ _ (field (.ref ia) 1 >>= _) _ _ s
  refine wpAny_bind (wpAny_field hob hda (x:=.int i 0) rfl ?_)
  simp only [Int.toNat_natCast,hxx]
  refine wpAny_bind (wpAny_rule (wpAny_bind (wpAny_setField hob hda (by simp) (wpAny_bind (wpAny_letGo ?_)))))
  refine z9p (by first|exact hh|(show A.in1.handled=none;exact hh)) fun h' e k he=>hq h' e (fun b o hb z=>k b o ((Heap.SameBut.update ..).extBut _ _ hb z)) he
theorem zaO (ia l:Addr) (items:Array Value) (hne:l ≠ ia):Inner P w ia [l] items.size (fun i v=>items[i]?=some v) (fun i h=>h.IsListIter ia l i/\h.IsList l items) where
 stab:=by
  rintro i h h' ⟨⟨o,e,c,d⟩,⟨o2,e2,r⟩⟩ k
  exact ⟨⟨o,k ia (by simp) o e,c,d⟩,⟨o2,k l (by simp) o2 e2,r⟩⟩
 item:=by
  rintro A i s Q E hi ⟨hit,hl⟩ hq
  obtain ⟨ol,hol,r⟩:=id hl
  exact wpAny_nextOf_list_item hit hl (Array.getElem?_eq_getElem hi) fun h' st sb=>hq _ h' s.toks (Array.getElem?_eq_getElem hi) ⟨st,⟨ol,sb.extBut _ _ hne hol,r⟩⟩ sb
 done:=by
  rintro A i s Q E hh hi ⟨hit,hl⟩ hq
  exact wpAny_nextOf_list_end hh hit hl (by simp [hi]) fun h' e eb he=>hq h' e eb he
end
structure ZAp (z ti to:Addr) (i1 i2:Addr) (fp1 fp2:List Addr):Prop where
 a1:ti ≠ z
 a2:to ≠ z
 a3:ti ≠ to
 b1:∀ b ∈ i1 :: fp1,b ≠ z/\b ≠ to
 b2:∀ b ∈ i2 :: fp2,b ≠ z/\b ≠ to
 c1:i1 ∉ i2 :: fp2
 c2:i2 ∉ i1 :: fp1
 d1:ti ≠ i1
 d2:ti ≠ i2
section
variable {P:Program} {w:World} {A:Around} {E:Value->Shared->Prop} {s:Shared} {z ti to i1 i2:Addr} {fp1 fp2:List Addr} {n1 n2 k:Nat} {P1 P2:Nat->Value->Prop} {S1 S2:Nat->Heap->Prop} {a b:Value}
theorem Inner.but {ia c:Addr} {fp:List Addr} {n i:Nat} {Pv:Nat->Value->Prop} {Sx:Nat->Heap->Prop} {h h':Heap} (J:Inner P w ia fp n Pv Sx) (x:Sx i h) (e:Heap.ExtBut c h h') (hc:∀ b ∈ ia :: fp,b ≠ c):Sx i h':=J.stab i h h' x fun b hb o z=>e b o (hc b hb) z
theorem zgm {Q:Value->Shared->Prop} (J1:Inner P w i1 fp1 n1 P1 S1) (J2:Inner P w i2 fp2 n2 P2 S2) (D:ZAp z ti to i1 i2 fp1 fp2) (hz:IsZip s.heap z ti to .none) (hti:IsPair s.heap ti (.ref i1) (.ref i2)) (hto:IsPair s.heap to a b) (h1:S1 k s.heap) (h2:S2 k s.heap) (l1:k < n1) (l2:k < n2)
  (hq:∀ x y h' tk,P1 k x->P2 k y->IsZip h' z ti to (rawInt s.heap.objs.size)->IsPair h' to x y->S1 (k + 1) h'->S2 (k + 1) h'->IsPair h' s.heap.objs.size x y->
   (∀ c o,c ≠ z->c ≠ to->c ≠ i1->c ≠ i2->s.heap.get? c=some o->h'.get? c=some o)->Q (.ref s.heap.objs.size) { s with heap:=h',toks:=tk }):
  wpAny (model P w) A (Builtin.«zip.__next__» ⟨[.ref z],[]⟩) (fun f s'=>∃ v,f=.done (.ret v)/\Q v s') E s:=by
 have ne1:∀ b ∈ i1 :: fp1,b ≠ z:=fun b hb=>(D.b1 b hb).1
 have ne2:∀ b ∈ i2 :: fp2,b ≠ z:=fun b hb=>(D.b2 b hb).1
 have no1:∀ b ∈ i1 :: fp1,b ≠ to:=fun b hb=>(D.b1 b hb).2
 have no2:∀ b ∈ i2 :: fp2,b ≠ to:=fun b hb=>(D.b2 b hb).2
 have n21:∀ b ∈ i2 :: fp2,b ≠ i1:=fun b hb e=>D.c1 (e ▸ hb)
 have n12:∀ b ∈ i1 :: fp1,b ≠ i2:=fun b hb e=>D.c2 (e ▸ hb)
 have m1:i1 ∈ i1 :: fp1:=List.mem_cons_self
 have m2:i2 ∈ i2 :: fp2:=List.mem_cons_self
 show wpAny _ _ (field (.ref z) 2 >>= _) _ _ s
 refine wpAny_bind (wpAny_field hz rfl (x:=(.bool false)) rfl ?_)
 show wpAny _ _ (field (.ref z) 3 >>= _) _ _ s
 refine wpAny_bind (wpAny_field hz rfl (x:=(.ref ti)) rfl (wpAny_bind (wpAny_seqItems hti rfl ?_)))
 show wpAny _ _ (Builtin.SmallTypes.ownedTupleIsFree (.ref z) >>= _) _ _ s
 refine wpAny_bind ?_;unfold Builtin.SmallTypes.ownedTupleIsFree
 refine wpAny_bind (wpAny_field hz rfl (x:=(.none)) rfl (wpAny_pure ?_))
 simp only [if_true];refine wpAny_bind (wpAny_rule (wpAny_bind (wpAny_field hz rfl (x:=(.ref to)) rfl ?_)))
 refine wpAny_bind (wpAny_setField_rec hz (by simp) fun ha za sa=>?_)
 have za:IsZip ha z ti to .ellipsis:=za
 refine wpAny_bind ?_;simp only [List.zipIdx_cons,List.zipIdx_nil,List.forIn_cons,List.forIn_nil]
 refine wpAny_bind (wpAny_bind (wpAny_onRaise ?_));show wpAny _ _ (Builtin.SmallTypes.nextOf (.ref i1) >>= _) _ _ _
 refine wpAny_bind (J1.item _ k _ _ _ l1 (J1.but h1 sa.extBut ne1) fun x hb tk1 px sb1 sb=>wpAny_pure ?_)
 have tob:IsPair hb to a b:=sb.extBut _ _ (Ne.symm (no1 _ m1)) (sa.extBut _ _ D.a2 hto)
 refine wpAny_bind (wpAny_seqItems tob rfl (wpAny_bind (wpAny_updateSeq_pair tob fun hc toc sc=>?_)))
 have toc:IsPair hc to x b:=toc
 refine wpAny_bind (wpAny_letGo (wpAny_pure (wpAny_bind (wpAny_bind (wpAny_onRaise ?_)))));show wpAny _ _ (Builtin.SmallTypes.nextOf (.ref i2) >>= _) _ _ _
 refine wpAny_bind (J2.item _ k _ _ _ l2 (J2.but (J2.but (J2.but h2 sa.extBut ne2) sb.extBut n21) sc.extBut no2) fun y hd tk2 py sd2 sd=>wpAny_pure ?_)
 have tod:IsPair hd to x b:=sd.extBut _ _ (Ne.symm (no2 _ m2)) toc
 refine wpAny_bind (wpAny_seqItems tod rfl (wpAny_bind (wpAny_updateSeq_pair tod fun he toe se=>?_)))
 have toe:IsPair he to x y:=toe
 refine wpAny_bind (wpAny_letGo (wpAny_pure (wpAny_pure (wpAny_bind (wpAny_seqItems toe rfl (wpAny_bind (wpAny_newTuple ?_)))))))
 have hsz:he.objs.size=s.heap.objs.size:=by rw [se.1,sd.1,sc.1,sb.1,sa.1]
 have ze:IsZip he z ti to .ellipsis:=se.extBut _ _ (Ne.symm D.a2) (sd.extBut _ _ (Ne.symm (ne2 _ m2)) (sc.extBut _ _ (Ne.symm D.a2) (sb.extBut _ _ (Ne.symm (ne1 _ m1)) za)))
 have ke:∀ c o,c ≠ z->c ≠ to->c ≠ i1->c ≠ i2->s.heap.get? c=some o->he.get? c=some o:=fun c o q1 q2 q3 q4 e=>se.extBut _ _ q2 (sd.extBut _ _ q4 (sc.extBut _ _ q2 (sb.extBut _ _ q3 (sa.extBut _ _ q1 e))))
 have s1e:S1 (k + 1) he:=J1.but (J1.but (J1.but sb1 sc.extBut no1) sd.extBut n12) se.extBut no1
 have s2e:S2 (k + 1) he:=J2.but sd2 se.extBut no2
 have zlt:z < he.objs.size:=Heap.lt_size ze
 show wpAny _ _ (Builtin.SmallTypes.ownedTupleHandOut (.ref z) (.ref he.objs.size) >>= _) _ _ _
 refine wpAny_bind ?_;unfold Builtin.SmallTypes.ownedTupleHandOut
 have zf:IsZip (he.push { cls:=.type "tuple",data:=.seq #[x,y] }) z ti to .ellipsis:=Heap.get?_push_of_some _ ze
 refine wpAny_bind (wpAny_setField_rec zf (by simp) fun hg zg sg=>?_)
 have zg:IsZip hg z ti to (rawInt he.objs.size):=zg
 refine wpAny_setField_rec zg (by simp) fun hi zi si=>?_
 have zi:IsZip hi z ti to (rawInt he.objs.size):=zi
 have up:∀ c o,c ≠ z->he.get? c=some o->hi.get? c=some o:=fun c o q e=>si.extBut _ _ q (sg.extBut _ _ q (Heap.get?_push_of_some _ e))
 have pi:IsPair hi he.objs.size x y:=si.extBut _ _ (Nat.ne_of_gt zlt) (sg.extBut _ _ (Nat.ne_of_gt zlt) (Heap.get?_push_size _ rfl))
 rw [hsz] at zi pi
 refine wpAny_pure ⟨_,rfl,?_⟩
 show Q (.ref he.objs.size) _
 rw [hsz]
 exact hq x y hi _ px py zi (up _ _ D.a2 toe) (J1.stab _ _ _ s1e fun b hb o e=>up b o (ne1 b hb) e) (J2.stab _ _ _ s2e fun b hb o e=>up b o (ne2 b hb) e) pi fun c o q1 q2 q3 q4 e=>up c o q1 (ke c o q1 q2 q3 q4 e)
theorem zfU {Q:Fin->Shared->Prop} (hh:A.handled=none) (J1:Inner P w i1 fp1 n1 P1 S1) (J2:Inner P w i2 fp2 n2 P2 S2) (D:ZAp z ti to i1 i2 fp1 fp2) (hz:IsZip s.heap z ti to .none) (hti:IsPair s.heap ti (.ref i1) (.ref i2)) (hto:IsPair s.heap to a b) (h1:S1 k s.heap) (h2:S2 k s.heap) (hend:n1 <= k \/ (k < n1/\n2 <= k))
  (hE:∀ h' tk e,(∀ c o,c ≠ z->c ≠ to->c ≠ i1->c ≠ i2->s.heap.get? c=some o->h'.get? c=some o)->(∃ o,h'.get? e=some o/\o.cls=.type "StopIteration")->E (.ref e) { s with heap:=h',toks:=tk }):
  wpAny (model P w) A (Builtin.«zip.__next__» ⟨[.ref z],[]⟩) Q E s:=by
 have ne1:∀ b ∈ i1 :: fp1,b ≠ z:=fun b hb=>(D.b1 b hb).1
 have ne2:∀ b ∈ i2 :: fp2,b ≠ z:=fun b hb=>(D.b2 b hb).1
 have no1:∀ b ∈ i1 :: fp1,b ≠ to:=fun b hb=>(D.b1 b hb).2
 have no2:∀ b ∈ i2 :: fp2,b ≠ to:=fun b hb=>(D.b2 b hb).2
 have n21:∀ b ∈ i2 :: fp2,b ≠ i1:=fun b hb e=>D.c1 (e ▸ hb)
 have m1:i1 ∈ i1 :: fp1:=List.mem_cons_self
 have m2:i2 ∈ i2 :: fp2:=List.mem_cons_self
 show wpAny _ _ (field (.ref z) 2 >>= _) _ _ s
 refine wpAny_bind (wpAny_field hz rfl (x:=(.bool false)) rfl ?_)
 show wpAny _ _ (field (.ref z) 3 >>= _) _ _ s
 refine wpAny_bind (wpAny_field hz rfl (x:=(.ref ti)) rfl (wpAny_bind (wpAny_seqItems hti rfl ?_)))
 show wpAny _ _ (Builtin.SmallTypes.ownedTupleIsFree (.ref z) >>= _) _ _ s
 refine wpAny_bind ?_;unfold Builtin.SmallTypes.ownedTupleIsFree
 refine wpAny_bind (wpAny_field hz rfl (x:=(.none)) rfl (wpAny_pure ?_))
 simp only [if_true];refine wpAny_bind (wpAny_rule (wpAny_bind (wpAny_field hz rfl (x:=(.ref to)) rfl ?_)))
 refine wpAny_bind (wpAny_setField_rec hz (by simp) fun ha za sa=>?_)
 have za:IsZip ha z ti to .ellipsis:=za
 refine wpAny_bind ?_;simp only [List.zipIdx_cons,List.zipIdx_nil,List.forIn_cons,List.forIn_nil]
 refine wpAny_bind (wpAny_bind (wpAny_onRaise ?_));show wpAny _ _ (Builtin.SmallTypes.nextOf (.ref i1) >>= _) _ _ _
 have far:∀ {h:Heap} {e:Addr},IsZip h z ti to .ellipsis->(∃ o,h.get? e=some o/\o.cls=.type "StopIteration")->e ≠ z:=fun {h e} hz ⟨o,ho,hc⟩ q=>by subst q;rw [hz] at ho;cases ho;simp at hc
 rcases hend with hend|⟨l1,hend⟩
 ·refine wpAny_bind (J1.done _ k _ _ _ hh hend (J1.but h1 sa.extBut ne1) fun hb e eb he=>?_)
  have zb:IsZip hb z ti to .ellipsis:=eb _ _ (Ne.symm (ne1 _ m1)) za
  have nz:=far zb he
  obtain ⟨oe,hoe,hce⟩:=he
  exact wpAny_setField_rec zb (by simp) fun hc _ sc=>hE hc _ e (fun c o q1 _ q3 _ x=>sc.extBut _ _ q1 (eb _ _ q3 (sa.extBut _ _ q1 x))) ⟨oe,sc.extBut _ _ nz hoe,hce⟩
 ·refine wpAny_bind (J1.item _ k _ _ _ l1 (J1.but h1 sa.extBut ne1) fun x hb tk1 px sb1 sb=>wpAny_pure ?_)
  have tob:IsPair hb to a b:=sb.extBut _ _ (Ne.symm (no1 _ m1)) (sa.extBut _ _ D.a2 hto)
  refine wpAny_bind (wpAny_seqItems tob rfl (wpAny_bind (wpAny_updateSeq_pair tob fun hc toc sc=>?_)))
  refine wpAny_bind (wpAny_letGo (wpAny_pure (wpAny_bind (wpAny_bind (wpAny_onRaise ?_)))));show wpAny _ _ (Builtin.SmallTypes.nextOf (.ref i2) >>= _) _ _ _
  refine wpAny_bind (J2.done _ k _ _ _ hh hend (J2.but (J2.but (J2.but h2 sa.extBut ne2) sb.extBut n21) sc.extBut no2) fun hd e eb he=>?_)
  have zd:IsZip hd z ti to .ellipsis:=eb _ _ (Ne.symm (ne2 _ m2)) (sc.extBut _ _ (Ne.symm D.a2) (sb.extBut _ _ (Ne.symm (ne1 _ m1)) za))
  have nz:=far zd he
  obtain ⟨oe,hoe,hce⟩:=he
  exact wpAny_setField_rec zd (by simp) fun hf _ sf=>hE hf _ e (fun c o q1 q2 q3 q4 x=>sf.extBut _ _ q1 (eb _ _ q4 (sc.extBut _ _ q2 (sb.extBut _ _ q3 (sa.extBut _ _ q1 x))))) ⟨oe,sf.extBut _ _ nz hoe,hce⟩
theorem zgj {Q:Option Value->Shared->Prop} (J1:Inner P w i1 fp1 n1 P1 S1) (J2:Inner P w i2 fp2 n2 P2 S2) (D:ZAp z ti to i1 i2 fp1 fp2) (hz:IsZip s.heap z ti to .none) (hti:IsPair s.heap ti (.ref i1) (.ref i2)) (hto:IsPair s.heap to a b) (h1:S1 k s.heap) (h2:S2 k s.heap) (l1:k < n1) (l2:k < n2)
  (hq:∀ x y h' tk,P1 k x->P2 k y->IsZip h' z ti to (rawInt s.heap.objs.size)->IsPair h' to x y->S1 (k + 1) h'->S2 (k + 1) h'->IsPair h' s.heap.objs.size x y->
   (∀ c o,c ≠ z->c ≠ to->c ≠ i1->c ≠ i2->s.heap.get? c=some o->h'.get? c=some o)->Q (some (.ref s.heap.objs.size)) { s with heap:=h',toks:=tk }):wpAny (model P w) A (pyNext (.ref z)) Q E s:=by
 have ht:s.TypeIs (.ref z) "zip":=⟨_,hz,rfl⟩
 unfold pyNext
 exact wpAny_bind (wpAny_attempt (wpAny_callSpecial?_slot (name := "__next__") ht F.slot_zip_next (wpAny_call_entry F.slot_zip_next ht F.entry_zip_next (zgm J1 J2 D hz hti hto h1 h2 l1 l2 fun x y h' tk q1 q2 q3 q4 q5 q6 q7 q8=>wpAny_pure (hq x y h' tk q1 q2 q3 q4 q5 q6 q7 q8)) (F.args_zip_next_1 _))))
theorem zhH {Q:Option Value->Shared->Prop} (hh:A.handled=none) (J1:Inner P w i1 fp1 n1 P1 S1) (J2:Inner P w i2 fp2 n2 P2 S2) (D:ZAp z ti to i1 i2 fp1 fp2) (hz:IsZip s.heap z ti to .none) (hti:IsPair s.heap ti (.ref i1) (.ref i2)) (hto:IsPair s.heap to a b) (h1:S1 k s.heap) (h2:S2 k s.heap) (hend:n1 <= k \/ (k < n1/\n2 <= k))
  (hq:∀ h' tk,(∀ c o,c ≠ z->c ≠ to->c ≠ i1->c ≠ i2->s.heap.get? c=some o->h'.get? c=some o)->Q none { s with heap:=h',toks:=tk }):wpAny (model P w) A (pyNext (.ref z)) Q E s:=by
 have ht:s.TypeIs (.ref z) "zip":=⟨_,hz,rfl⟩
 unfold pyNext
 refine wpAny_bind (wpAny_attempt (wpAny_callSpecial?_slot (name := "__next__") ht F.slot_zip_next (wpAny_call_entry F.slot_zip_next ht F.entry_zip_next (zfU hh J1 J2 D hz hti hto h1 h2 hend fun h' tk e hk he=>?_) (F.args_zip_next_1 _))))
 obtain ⟨oe,ho,hc⟩:=he
 exact wpAny_bind (wpAny_isInstance (T := "StopIteration") (b:=true) ⟨oe,ho,hc⟩ isSubtype_stop (wpAny_pure (hq _ tk hk)))
end
inductive ZK where
 | tup (t:Addr) (items:Array Value)
 | str (x:Str) (t:Tok)
 | lst (l:Addr) (items:Array Value)
def ZK.val:ZK->Value
 | .tup t _=>.ref t
 | .str x t=>.str x t
 | .lst l _=>.ref l
def ZK.obj:ZK->Obj
 | .tup t _=>{ cls:=.type "tuple_iterator",data:=.fields #[.ref t,.int 0 0] }
 | .str x t=>{ cls:=.type "str_ascii_iterator",data:=.fields #[.str x t,.int 0 0] }
 | .lst l _=>{ cls:=.type "list_iterator",data:=.fields #[.ref l,.int 0 0] }
def ZK.pre (h:Heap):ZK->Prop
 | .tup t items=>h.IsTuple t items
 | .str x _=>x.cps.all (· < 128)=true
 | .lst l items=>h.IsList l items
theorem ZK.keep {h h':Heap} (k:∀ b o,h.get? b=some o->h'.get? b=some o):∀ (q:ZK),q.pre h->q.pre h'
 | .tup t items,⟨o,e,r⟩=>⟨o,k _ _ e,r⟩
 | .str x t,e=>e
 | .lst l items,⟨o,e,r⟩=>⟨o,k _ _ e,r⟩
theorem ZK.iter {P:Program} {w:World} {A:Around} {E:Value->Shared->Prop} {s:Shared} {Q:Value->Shared->Prop} (q:ZK) (h:q.pre s.heap) (hq:Q (.ref s.heap.objs.size) { s with heap:=s.heap.push q.obj }):wpAny (model P w) A (pyIter q.val) Q E s:=by
 cases q with
 | tup t items=>exact wpAny_pyIter_tuple h hq
 | str x t=>exact wpAny_pyIter_ascii h hq
 | lst l items=>exact wpAny_pyIter_list h hq
abbrev zH (h:Heap) (a b:ZK):Heap:=(((((h.push a.obj).push b.obj).push { cls:=.type "tuple",data:=.seq #[.ref h.objs.size,.ref (h.push a.obj).objs.size] }).push { cls:=.type "tuple",data:=.seq #[.none,.none] }).push
 { cls:=.type "zip",data:=.fields #[.none,.bool false,.bool false,.ref ((h.push a.obj).push b.obj).objs.size,.ref (((h.push a.obj).push b.obj).push { cls:=.type "tuple",data:=.seq #[.ref h.objs.size,.ref (h.push a.obj).objs.size] }).objs.size] })
abbrev zA (h:Heap) (a b:ZK):Addr:=((((h.push a.obj).push b.obj).push { cls:=.type "tuple",data:=.seq #[.ref h.objs.size,.ref (h.push a.obj).objs.size] }).push { cls:=.type "tuple",data:=.seq #[.none,.none] }).objs.size
theorem zgU (a b:ZK) (va vb:Value) (ea:a.val=va) (eb:b.val=vb):Meets (Builtin.«zip.__new__» ⟨[.type "zip",va,vb],[]⟩) (fun _ R s=>a.pre s.heap/\b.pre s.heap/\R (.ok (.ret (.ref (zA s.heap a b)))) { s with heap:=zH s.heap a b }):=
 .of_wp fun P w A R s h=>by
  obtain ⟨hp,g,d,tk,os⟩:=s;obtain ⟨h1,h2,h⟩:=h
  have hsub:=sub_zip
  have i1:∀ {E:Value->Shared->Prop} {Q:Value->Shared->Prop},Q (.ref hp.objs.size) ⟨hp.push a.obj,g,d,tk,os⟩->wpAny (model P w) A.in1 (pyIter va) Q E ⟨hp,g,d,tk,os⟩:=fun {E Q} hq=>by rw [<- ea];exact a.iter (s:=⟨hp,g,d,tk,os⟩) h1 hq
  have h2':b.pre (hp.push a.obj):=b.keep (fun c o e=>Heap.get?_push_of_some _ e) h2
  have i2:∀ {E:Value->Shared->Prop} {Q:Value->Shared->Prop},Q (.ref (hp.push a.obj).objs.size) ⟨(hp.push a.obj).push b.obj,g,d,tk,os⟩->wpAny (model P w) A.in1 (pyIter vb) Q E ⟨hp.push a.obj,g,d,tk,os⟩:=fun {E Q} hq=>by rw [<- eb];exact b.iter (s:=⟨hp.push a.obj,g,d,tk,os⟩) h2' hq
  wp_walk using i1,i2
  exact ⟨_,rfl,h⟩
section
variable {P:Program} {w:World} {A:Around} {E:Value->Shared->Prop} {s:Shared}
theorem zaM (a b:ZK) {Q:Value->Shared->Prop} (ha:a.pre s.heap) (hb:b.pre s.heap)
  (h:∀ h',IsZip h' (s.heap.objs.size + 4) (s.heap.objs.size + 2) (s.heap.objs.size + 3) .none->IsPair h' (s.heap.objs.size + 2) (.ref s.heap.objs.size) (.ref (s.heap.objs.size + 1))->IsPair h' (s.heap.objs.size + 3) .none .none->
   h'.get? s.heap.objs.size=some a.obj->h'.get? (s.heap.objs.size + 1)=some b.obj->(∀ c o,s.heap.get? c=some o->h'.get? c=some o)->Q (.ref (s.heap.objs.size + 4)) { s with heap:=h' }):
  wpAny (model P w) A (call (.type "zip") [a.val,b.val]) Q E s:=by
 refine callType_new F.called_zip (by decide) (F.typeCall_zip_2 _ _) (F.newCall_zip_2 _ _) (fun obj=>F.args_object_init_3 obj _ _) F.entry_zip_new (zgU a b _ _ rfl rfl) ⟨ha,hb,?_⟩
 have fa:a.obj.isFreed=false:=by cases a <;> rfl
 have fb:b.obj.isFreed=false:=by cases b <;> rfl
 have e1:(s.heap.push a.obj).objs.size=s.heap.objs.size + 1:=Heap.size_push ..
 have e2:((s.heap.push a.obj).push b.obj).objs.size=s.heap.objs.size + 2:=by rw [Heap.size_push,e1]
 have e3:(((s.heap.push a.obj).push b.obj).push { cls:=.type "tuple",data:=.seq #[.ref s.heap.objs.size,.ref (s.heap.push a.obj).objs.size] }).objs.size=s.heap.objs.size + 3:=by rw [Heap.size_push,e2]
 have e4:zA s.heap a b=s.heap.objs.size + 4:=by show Array.size _=_;rw [Heap.size_push,e3]
 have g5:(zH s.heap a b).get? (zA s.heap a b)=some _:=Heap.get?_push_size _ rfl
 have g4:(zH s.heap a b).get? (((s.heap.push a.obj).push b.obj).push { cls:=.type "tuple",data:=.seq #[.ref s.heap.objs.size,.ref (s.heap.push a.obj).objs.size] }).objs.size=some _:=Heap.get?_push_of_some _ (Heap.get?_push_size _ rfl)
 have g3:(zH s.heap a b).get? ((s.heap.push a.obj).push b.obj).objs.size=some _:=Heap.get?_push_of_some _ (Heap.get?_push_of_some _ (Heap.get?_push_size _ rfl))
 have g2:(zH s.heap a b).get? (s.heap.push a.obj).objs.size=some _:=Heap.get?_push_of_some _ (Heap.get?_push_of_some _ (Heap.get?_push_of_some _ (Heap.get?_push_size _ fb)))
 have g1:(zH s.heap a b).get? s.heap.objs.size=some _:=Heap.get?_push_of_some _ (Heap.get?_push_of_some _ (Heap.get?_push_of_some _ (Heap.get?_push_of_some _ (Heap.get?_push_size _ fa))))
 show _/\_
 rw [e2,e3,e4] at g5
 rw [e3] at g4
 rw [e1,e2] at g3
 rw [e1] at g2
 rw [e4]
 exact ⟨⟨_,g5,rfl⟩,h _ g5 g3 g4 g1 g2 fun c o x=>Heap.get?_push_of_some _ (Heap.get?_push_of_some _ (Heap.get?_push_of_some _ (Heap.get?_push_of_some _ (Heap.get?_push_of_some _ x))))⟩
end
def Held (X:Cx) (H:Hp) (h:Heap) (b:Addr):Prop:=H b ≠ none \/ ∃ o,X.base.get? b=some o
theorem Held.far {X:Cx} {pins:List (Addr × Obj)} {σ:St} {H:Hp} {s:Shared} {b q:Addr} (I:L2.Inv X pins σ H s) (x:Held X H s.heap b) (f:z7e X pins H q):b ≠ q:=by
 rintro rfl
 rcases x with x|⟨o,e⟩
 ·exact x f.1
 ·rcases f.2.2.2.1 with z|z
  ·exact I.ok.noex b o e z
  ·exact absurd (Nat.lt_of_lt_of_le (Heap.lt_size e) I.ok.bsz) (Nat.not_lt.mpr z)
structure zg8 (P:Program) (w:World) (K:PySem.W.Frag) (J:It) (ia:Addr) (S:Nat->Heap->Prop):Prop where
 obj:∀ i h,S i h->∃ o,h.get? ia=some o/\∀ v,o.data ≠ .cell v
 keep:∀ i h h',S i h->(∀ o,h.get? ia=some o->h'.get? ia=some o)->S i h'
 got:∀ (X:Cx),X.prog=P->X.w=w->X.K=K->∀ (i:Nat) (pins:List (Addr × Obj)) (s:Shared) (σ:St) (H:Hp),L2.Inv X pins σ H s->z7e X pins H ia->S i s.heap->(J.go i H \/ J.stop i H)->
  ∃ fp n Pv Sx,Inner P w ia fp n Pv Sx/\Sx i s.heap/\(∀ j h,Sx j h->S j h)/\(J.go i H->i < n)/\(J.stop i H->n <= i)/\(∀ v,Pv i v->∃ x,RelV x v/\J.yld i H x H)/\∀ b ∈ fp,Held X H s.heap b
section
variable {P:Program} {w:World} {K:PySem.W.Frag}
theorem zeg {X:Cx} {pins:List (Addr × Obj)} {σ:St} {H:Hp} {s:Shared} {a:Addr} {xs:List V} (I:L2.Inv X pins σ H s) (h:SqT X.K H a xs):Held X H s.heap a:=by
 rcases h with h|⟨o,its,n,hk,_⟩
 ·exact .inl (by rcases h with h|⟨_,h⟩ <;> (rw [h];simp))
 ·exact .inr ⟨o,I.ok.mod.kin a o hk⟩
theorem zen {X:Cx} {pins:List (Addr × Obj)} {σ:St} {H:Hp} {s:Shared} {a:Addr} {xs:List V} (I:L2.Inv X pins σ H s) (h:SqL X.K H a xs):Held X H s.heap a:=by
 rcases h with h|⟨o,its,n,hk,_⟩
 ·exact .inl (by rcases h with h|⟨_,h⟩ <;> (rw [h];simp))
 ·exact .inr ⟨o,I.ok.mod.kin a o hk⟩
theorem z5s {xs:List V} {its:List Value} {i:Nat} {v:Value} (r:Vals xs its) (e:its[i]?=some v):∃ x,xs[i]?=some x/\RelV x v:=by
 have hl:=r.length
 have hi:i < xs.length:=by have:=(List.getElem?_eq_some_iff.mp e).1;omega
 obtain ⟨u,g1,g2⟩:=r.get (List.getElem?_eq_getElem hi)
 rw [e] at g1;cases g1
 exact ⟨_,List.getElem?_eq_getElem hi,g2⟩
theorem zhG (a ia:Addr):zg8 P w K (Itt K a) ia (fun i h=>h.IsTupleIter ia a i) where
 obj:=fun i h ⟨o,e,c,d⟩=>⟨o,e,fun v z=>by rw [d] at z;cases z⟩
 keep:=fun i h h' ⟨o,e,c,d⟩ k=>⟨o,k o e,c,d⟩
 got:=by
  intro X hP hw hK i pins s σ H I hf st hg
  subst hP hw hK
  have hs:∃ xs,SqT X.K H a xs:=by
   rcases hg with ⟨xs,x,h,_⟩|⟨xs,h,_⟩ <;> exact ⟨xs,h⟩
  obtain ⟨xs,hq⟩:=hs
  obtain ⟨its,rv,p,hz⟩:=I.tuple hq
  have hl:=rv.length
  refine ⟨[a],_,_,_,zbr ia a its.toArray ((zeg I hq).far I hf),⟨st,p⟩,fun j h z=>z.1,fun ⟨ys,y,h1,h2⟩=>?_,fun ⟨ys,h1,h2⟩=>?_,fun v hv=>?_,fun b hb=>?_⟩
  ·have e:=I.tuple_inj h1 hq;subst e
   have:=(List.getElem?_eq_some_iff.mp h2).1
   simp;omega
  ·have e:=I.tuple_inj h1 hq;subst e
   simp;omega
  ·have hv':its[i]?=some v:=by simpa using hv
   obtain ⟨x,e1,r1⟩:=z5s rv hv'
   exact ⟨x,r1,rfl,fun ys hy=>by rw [I.tuple_inj hy hq];exact e1⟩
  ·have:b=a:=by simpa using hb
   subst this;exact zeg I hq
theorem zeD (a ia:Addr):zg8 P w K (Itl K a) ia (fun i h=>h.IsListIter ia a i) where
 obj:=fun i h ⟨o,e,c,d⟩=>⟨o,e,fun v z=>by rw [d] at z;cases z⟩
 keep:=fun i h h' ⟨o,e,c,d⟩ k=>⟨o,k o e,c,d⟩
 got:=by
  intro X hP hw hK i pins s σ H I hf st hg
  subst hP hw hK
  have hs:∃ xs,SqL X.K H a xs:=by
   rcases hg with ⟨xs,x,h,_⟩|⟨xs,h,_⟩ <;> exact ⟨xs,h⟩
  obtain ⟨xs,hq⟩:=hs
  obtain ⟨its,rv,p,hz⟩:=I.list hq
  have hl:=rv.length
  refine ⟨[a],_,_,_,zaO ia a its.toArray ((zen I hq).far I hf),⟨st,p.isList⟩,fun j h z=>z.1,fun ⟨ys,y,h1,h2⟩=>?_,fun ⟨ys,h1,h2⟩=>?_,fun v hv=>?_,fun b hb=>?_⟩
  ·have e:=I.list_inj h1 hq;subst e
   have:=(List.getElem?_eq_some_iff.mp h2).1
   simp;omega
  ·have e:=I.list_inj h1 hq;subst e
   simp;omega
  ·have hv':its[i]?=some v:=by simpa using hv
   obtain ⟨x,e1,r1⟩:=z5s rv hv'
   exact ⟨x,r1,rfl,fun ys hy=>by rw [I.list_inj hy hq];exact e1⟩
  ·have:b=a:=by simpa using hb
   subst this;exact zen I hq
theorem in_str (x:Str) (t:Tok) (ia:Addr):zg8 P w K (Its x) ia (fun i h=>h.IsStrIter ia "str_ascii_iterator" x t i) where
 obj:=fun i h ⟨o,e,c,d⟩=>⟨o,e,fun v z=>by rw [d] at z;cases z⟩
 keep:=fun i h h' ⟨o,e,c,d⟩ k=>⟨o,k o e,c,d⟩
 got:=by
  intro X hP hw hK i pins s σ H I hf st hg
  subst hP hw hK
  refine ⟨[],_,_,_,zbV ia x t,st,fun j h z=>z,fun z=>z,fun z=>z,fun v ⟨c,tk,e,hv⟩=>?_,fun b hb=>by cases hb⟩
  subst hv
  exact ⟨.str ⟨#[c]⟩,⟨_,rfl⟩,rfl,c,e,rfl⟩
end
def Itw (J1 J2:It):It:=
 ⟨fun i H=>J1.go i H/\J2.go i H,fun i H v H'=>∃ p x y,H p=none/\v=.ref p/\J1.yld i H x H/\J2.yld i H y H/\H'=upd H p (.tup [x,y]),fun i H=>J1.stop i H/\(J2.go i H \/ J2.stop i H) \/ J1.go i H/\J2.stop i H⟩
def zkz (z t o i j:Addr) (S1 S2:Nat->Heap->Prop) (n:Nat) (h:Heap):Prop:=IsZip h z t o .none/\IsPair h t (.ref i) (.ref j)/\(∃ a b,IsPair h o a b)/\S1 n h/\S2 n h
theorem zaD {P:Program} {w:World} {K:PySem.W.Frag} {J1 J2:It} {S1 S2:Nat->Heap->Prop} {es:List Expr} {kt} {pt:Pos} (z t o i j:Addr) (ap:[z,t,o,i,j].Nodup) (N1:zg8 P w K J1 i S1) (N2:zg8 P w K J2 j S2):zbD P w K (.Tuple es kt pt) (Itw J1 J2) [z,t,o,i,j] z (zkz z t o i j S1 S2):=by
 simp only [List.nodup_cons,List.mem_cons,List.not_mem_nil,or_false,not_or,List.nodup_nil,and_true] at ap
 obtain ⟨⟨a1,a2,a3,a4⟩,⟨b1,b2,b3⟩,⟨c1,c2⟩,d1,_⟩:=ap
 have zap:∀ {X:Cx} {pins:List (Addr × Obj)} {s:Shared} {σ:St} {H:Hp} {fp1 fp2:List Addr},L2.Inv X pins σ H s->(∀ b ∈ [z,t,o,i,j],z7e X pins H b)->(∀ b ∈ fp1,Held X H s.heap b)->(∀ b ∈ fp2,Held X H s.heap b)->ZAp z t o i j fp1 fp2:=fun {X pins s σ H fp1 fp2} I hf h1 h2=>
  ⟨Ne.symm a1,Ne.symm a2,b1,fun b hb=>(List.mem_cons.mp hb).elim (fun e=>by rw [e];exact ⟨Ne.symm a3,Ne.symm c1⟩) fun hb=>⟨(h1 b hb).far I (hf z (by simp)),(h1 b hb).far I (hf o (by simp))⟩,
   fun b hb=>(List.mem_cons.mp hb).elim (fun e=>by rw [e];exact ⟨Ne.symm a4,Ne.symm c2⟩) fun hb=>⟨(h2 b hb).far I (hf z (by simp)),(h2 b hb).far I (hf o (by simp))⟩,
   fun hb=>(List.mem_cons.mp hb).elim d1 fun hb=>(h2 i hb).far I (hf i (by simp)) rfl,fun hb=>(List.mem_cons.mp hb).elim (Ne.symm d1) fun hb=>(h1 j hb).far I (hf j (by simp)) rfl,b2,b3⟩
 refine ⟨by simp,fun n h st b hb=>?_,fun n h h' st k=>?_,?_,?_,fun A n s Q E st q=>wpAny_pyIter_zip st.1 q⟩
 ·obtain ⟨hz,ht,⟨a,b',ho⟩,hi,hj⟩:=st
  simp only [List.mem_cons,List.not_mem_nil,or_false] at hb
  rcases hb with rfl|rfl|rfl|rfl|rfl
  ·exact ⟨_,hz,fun v e=>by cases e⟩
  ·exact ⟨_,ht,fun v e=>by cases e⟩
  ·exact ⟨_,ho,fun v e=>by cases e⟩
  ·exact N1.obj n h hi
  ·exact N2.obj n h hj
 ·obtain ⟨hz,ht,⟨a,b',ho⟩,hi,hj⟩:=st
  exact ⟨k z (by simp) _ hz,k t (by simp) _ ht,⟨a,b',k o (by simp) _ ho⟩,N1.keep n h h' hi (k i (by simp)),N2.keep n h h' hj (k j (by simp))⟩
 ·intro X hP hw hK hc n pins s σ H E I hf st hg
  obtain ⟨g1,g2⟩:=hg
  obtain ⟨hz,ht,⟨a,b,ho⟩,hi,hj⟩:=st
  obtain ⟨fp1,n1,P1,T1,Z1,s1,u1,go1,st1,y1,f1⟩:=N1.got X hP hw hK n pins s σ H I (hf i (by simp)) hi (.inl g1)
  obtain ⟨fp2,n2,P2,T2,Z2,s2,u2,go2,st2,y2,f2⟩:=N2.got X hP hw hK n pins s σ H I (hf j (by simp)) hj (.inl g2)
  have D:=zap I hf f1 f2
  subst hP hw hK
  refine wT I (zgj Z1 Z2 D hz ht ho s1 s2 (go1 g1) (go2 g2) fun x y h' tk px py q1 q2 q3 q4 q5 hk htk=>⟨_,rfl,?_⟩)
  obtain ⟨vx,rx,yx⟩:=y1 x px
  obtain ⟨vy,ry,yy⟩:=y2 y py
  refine wpAny_letOwnedTupleGo_zip q1 fun h'' e1 e2=>?_
  have nb:∀ q ∈ [z,t,o,i,j],s.heap.objs.size ≠ q:=fun q hq e=>by
   have:∃ ob,s.heap.get? q=some ob:=by
    simp only [List.mem_cons,List.not_mem_nil,or_false] at hq
    rcases hq with rfl|rfl|rfl|rfl|rfl
    ·exact ⟨_,hz⟩
    ·exact ⟨_,ht⟩
    ·exact ⟨_,ho⟩
    ·obtain ⟨ob,g,_⟩:=N1.obj n _ hi;exact ⟨_,g⟩
    ·obtain ⟨ob,g,_⟩:=N2.obj n _ hj;exact ⟨_,g⟩
   obtain ⟨ob,g⟩:=this
   exact absurd (Heap.lt_size g) (by rw [e];exact Nat.lt_irrefl _)
  have keep:∀ c ob,c ∉ [z,t,o,i,j]->s.heap.get? c=some ob->h''.get? c=some ob:=fun c ob hc e=>by
   simp only [List.mem_cons,List.not_mem_nil,or_false,not_or] at hc
   exact e2.extBut _ _ hc.1 (hk c ob hc.1 hc.2.2.1 hc.2.2.2.1 hc.2.2.2.2 e)
  have I1:L2.Inv X pins σ H { s with heap:=h'',toks:=tk }:=Inv.turns [z,t,o,i,j] I keep hf
  have hnew:h''.get? s.heap.objs.size=some { cls:=.type "tuple",data:=.seq #[x,y] }:=e2.extBut _ _ (nb z (by simp)) q5
  have fr:H s.heap.objs.size=none:=I.hok.fresh (Nat.le_refl _)
  have I2:L2.Inv X pins σ (upd H s.heap.objs.size (.tup [vx,vy])) { s with heap:=h'',toks:=tk }:=by
   have un:Un (frs X.stack) [z,t,o,i,j] H (upd H s.heap.objs.size (.tup [vx,vy])) s.heap h'':=by
    refine ⟨fun c ob e _ _ hc=>keep c ob hc e,fun c ob e _ _ hc=>⟨ob.slots,keep c ob hc e⟩,fun c ob e hn _=>?_,fun c ob e hc=>⟨ob,keep c ob hc e⟩,fun c zs e=>?_,fun c ob u e=>?_,fun c ps e=>⟨#[],?_⟩⟩
    ·rw [z1q (Nat.ne_of_lt (Heap.lt_size e))];exact hn
    ·rw [z1q (z1r e fr)];exact e
    ·rw [z1q (z1r e fr)];exact e
    ·rw [z1q (z1r e fr),e];simp
   have hok:HOk X.prog X.w (upd H s.heap.objs.size (.tup [vx,vy])) h'':=by
    intro c u' e
    by_cases hc:c=s.heap.objs.size
    ·subst hc
     rw [z1z] at e;cases e
     exact ⟨by show 2 <= sizeLine;decide,[x,y],.cons rx (.cons ry .nil),⟨_,hnew,rfl,⟨_,rfl⟩,rfl⟩⟩
    ·rw [z1q hc] at e
     refine (I1.hok c u' e).stay (fun _ _ _ q=>q) (fun p q=>?_) fun p zs q=>?_
     ·by_cases hp:p=s.heap.objs.size
      ·subst hp;rw [fr] at q;cases q
      ·rw [z1q hp];exact q
     ·by_cases hp:p=s.heap.objs.size
      ·subst hp;rw [fr] at q;cases q
      ·rw [z1q hp];exact q
   exact I.call (t':=tk) (d':=s.drawn) un hok I.bare fun b hb=>let ⟨_,f1,_,f3,f4,f5⟩:=hf b hb;⟨f3,f1,f4,f5⟩
  refine ⟨.ref s.heap.objs.size,_,I2,rfl,⟨_,vx,vy,fr,rfl,yx,yy,rfl⟩,⟨e1,?_,⟨_,_,e2.extBut _ _ D.a2 q2⟩,?_,?_⟩,fun b hb=>?_⟩
  ·exact e2.extBut _ _ D.a1 (hk _ _ D.a1 D.a3 D.d1 D.d2 ht)
  ·exact u1 _ _ (Z1.but q3 e2.extBut fun b hb=>(D.b1 b hb).1)
  ·exact u2 _ _ (Z2.but q4 e2.extBut fun b hb=>(D.b2 b hb).1)
  ·rw [z1q (Ne.symm (nb b hb))];exact (hf b hb).1
 ·intro X hP hw hK hc n pins s σ H E I hf st hg
  obtain ⟨hz,ht,⟨a,b,ho⟩,hi,hj⟩:=st
  have k1:J1.go n H \/ J1.stop n H:=hg.elim (fun z=>.inr z.1) fun z=>.inl z.1
  have k2:J2.go n H \/ J2.stop n H:=hg.elim (fun z=>z.2) fun z=>.inr z.2
  obtain ⟨fp1,n1,P1,T1,Z1,s1,u1,go1,st1,y1,f1⟩:=N1.got X hP hw hK n pins s σ H I (hf i (by simp)) hi k1
  obtain ⟨fp2,n2,P2,T2,Z2,s2,u2,go2,st2,y2,f2⟩:=N2.got X hP hw hK n pins s σ H I (hf j (by simp)) hj k2
  have D:=zap I hf f1 f2
  subst hP hw hK
  refine wT I (zhH (I.ok.hd hc) Z1 Z2 D hz ht ho s1 s2 (hg.elim (fun q=>.inl (st1 q.1)) fun q=>.inr ⟨go1 q.1,st2 q.2⟩) fun h' tk hk htk=>⟨rfl,?_⟩)
  refine Inv.turns (t':=tk) [z,t,o,i,j] I (fun c ob hc e=>?_) hf
  simp only [List.mem_cons,List.not_mem_nil,or_false,not_or] at hc
  exact hk c ob hc.1 hc.2.2.1 hc.2.2.2.1 hc.2.2.2.2 e
def zkD:D->Option Src
 | .lst ds=>some (.val ds)
 | .own k=>some (.own k)
 | .tup ds=>some (.val ds)
 | .str cs=>if cs.all (· < 128)=true then some (.val (cs.map fun c=>.str [c])) else none
 | _=>none
def z8b (t:DA):DI:=fun σ O=>(t σ O).bnd fun xs O1=>match xs with
 | [x,y]=>match zkD x,zkD y with
  | some p,some q=>.ok (.zip p q) O1
  | _,_=>.bad
 | _=>.bad
theorem SrcAt.zipW {K:PySem.W.Frag} {J1 J2:It} {s1 s2:Src} {H:Hp} {hid μ:List Addr} (h1:SrcAt K J1 s1 H hid μ) (h2:SrcAt K J2 s2 H hid μ):SrcAt K (Itw J1 J2) (.zip s1 s2) H hid μ:=by
 intro hid' H' μ' O' m c i
 have q1:=h1 hid' H' μ' O' m c i
 have q2:=h2 hid' H' μ' O' m c i
 show match (match s1.get O' i,s2.get O' i with|some x,some y=>some (D.tup [x,y])|_,_=>none) with|some d=>_|none=>_
 cases e1:s1.get O' i with
 | none=>
  rw [e1] at q1
  refine .inl ⟨q1,?_⟩
  cases e2:s2.get O' i with
  | none=>rw [e2] at q2;exact .inr q2
  | some d=>rw [e2] at q2;exact .inl q2.1
 | some d1=>
  rw [e1] at q1
  cases e2:s2.get O' i with
  | none=>rw [e2] at q2;exact .inr ⟨q1.1,q2⟩
  | some d2=>
   rw [e2] at q2
   refine ⟨⟨q1.1,q2.1⟩,fun v H'' yl=>?_⟩
   obtain ⟨p,x,y,hp,rfl,y1,y2,rfl⟩:=yl
   exact ⟨.laid hp,c.laid hp,Dat.newT c hp (.cons (q1.2 x H' y1).2.2 (.cons (q2.2 y H' y2).2.2 .nil))⟩
section
variable {X:Cx} {Ex:Nat->Hp->Prop} {pos:Pos} {a b c e:Expr} {pins:List (Addr × Obj)} {σv:St} {H:Hp} {s:Shared} {hid μ:List Addr} {O:Ow}
theorem zfX {d:D} {v:V} {u:Value} {src:Src} (I:L2.Inv X pins σv H s) (c:Cells X.K H hid μ O) (h:Dat X.K H hid μ d v) (r:RelV v u) (e:zkD d=some src):
  ∃ (k:ZK) (J:It),k.val=u/\k.pre s.heap/\SrcAt X.K J src H hid μ/\∀ ia,∃ S,zg8 X.prog X.w X.K J ia S/\∀ h:Heap,h.get? ia=some k.obj->S 0 h:=by
 cases d with
 | lst ds=>
  unfold Dat at h
  obtain ⟨q,vs,rfl,l,dd⟩:=h
  cases e;cases r
  obtain ⟨its,_,p,_⟩:=I.list l.sq
  exact ⟨.lst q its.toArray,_,rfl,p.isList,.val l dd,fun ia=>⟨_,zeD q ia,fun h z=>⟨_,z,rfl,rfl⟩⟩⟩
 | own k=>
  unfold Dat at h
  obtain ⟨q,rfl,hk⟩:=h
  cases e;cases r
  obtain ⟨ds,vs,h1,h2,h3⟩:=c.at_ k q hk
  obtain ⟨its,_,p,_⟩:=I.list (a:=q) (xs:=vs) (.of h2)
  exact ⟨.lst q its.toArray,_,rfl,p.isList,.own hk,fun ia=>⟨_,zeD q ia,fun h z=>⟨_,z,rfl,rfl⟩⟩⟩
 | tup ds=>
  unfold Dat at h
  obtain ⟨q,vs,rfl,l,dd⟩:=h
  cases e;cases r
  obtain ⟨its,_,p,_⟩:=I.tuple l.sq
  exact ⟨.tup q its.toArray,_,rfl,p,.tup l dd,fun ia=>⟨_,zhG q ia,fun h z=>⟨_,z,rfl,rfl⟩⟩⟩
 | str cs=>
  unfold Dat at h
  subst h
  obtain ⟨t,rfl⟩:=r
  have e':(if cs.all (· < 128)=true then some (Src.val (cs.map fun c=>D.str [c])) else none)=some src:=e
  by_cases ha:cs.all (· < 128)=true
  ·rw [if_pos ha] at e'
   cases e'
   refine ⟨.str ⟨cs.toArray⟩ t,_,rfl,?_,.str,fun ia=>⟨_,in_str _ t ia,fun h z=>⟨_,z,rfl,rfl⟩⟩⟩
   show cs.toArray.all (· < 128)=true
   simpa using ha
  ·rw [if_neg ha] at e';cases e'
 | _=>cases e
theorem zdY {es':List Expr} {kt} {pt:Pos} {t:DA} {p:Pos} (hg:Gl X "zip") (hm:X.mg "zip" = none) (ha:PDA X Ex [a,b] t) (hs:starEach [a,b] X.env=[(false,eval a X.env),(false,eval b X.env)]:=by rfl) (hs2:starEach [b] X.env=[(false,eval b X.env)]:=by rfl):
  PDI X Ex (.Tuple es' kt pt) (.Call (.Name "zip" p) [a,b] [] pos) (z8b t):=by
 refine ⟨?_⟩
 rintro pins s σv H Rr I ⟨hid,μ,σ,O,e1,c1,q⟩
 refine PyProof.Rows.Call_ (z6n I hg hm ze6 (PyProof.Rows.callWith_type1 (thn (ha.out pos pins s σv H _ I (rdA.go e1 c1 q (Q1:=fun vs H1=>∃ hid μ1 O1 ds,Cells X.K H1 hid μ1 O1/\Dats X.K H1 hid μ1 ds vs/\
   post Ex X.K (fun H' μ' s J=>SrcAt X.K J s H' hid μ') H1 hid μ1 (match ds with|[x,y]=>(match zkD x,zkD y with|some p,some q=>.ok (.zip p q) O1|_,_=>.bad)|_=>.bad) Rr)
  fun ds O1 vs H1 μ1 e2 x cl d p=>⟨hid,μ1,O1,ds,cl,d,p⟩)) fun us s1 ⟨vs,H1,I1,r1,hid,μ1,O1,ds,cl,d,p⟩=>?_) (by rw [hs,hs2]) (by rw [hs2];rfl)))
 split at p
 ·rename_i x y
  split at p
  ·rename_i sp sq e1 e2
   obtain ⟨v,w,rfl,dx,dy⟩:=zaB d
   obtain ⟨u1,u2,rfl,ru1,ru2⟩:=z8Z r1
   obtain ⟨k1,J1,v1,p1,t1,i1⟩:=zfX I1 cl dx ru1 e1
   obtain ⟨k2,J2,v2,p2,t2,i2⟩:=zfX I1 cl dy ru2 e2
   rw [<- v1,<- v2]
   refine zaM k1 k2 p1 p2 fun h' g5 g3 g4 g1 g2 hk=>?_
   refine wpAny_pyIter_zip g5 ?_
   have I2:L2.Inv X pins σv H1 { s1 with heap:=h',toks:=s1.toks }:=I1.kept hk
   obtain ⟨S1,N1,z1⟩:=i1 s1.heap.objs.size
   obtain ⟨S2,N2,z2⟩:=i2 (s1.heap.objs.size + 1)
   refine ⟨s1.heap.objs.size + 4,[s1.heap.objs.size + 4,s1.heap.objs.size + 2,s1.heap.objs.size + 3,s1.heap.objs.size,s1.heap.objs.size + 1],_,_,H1,rfl,I2,zaD _ _ _ _ _ ?_ N1 N2,⟨g5,g3,⟨_,_,g4⟩,z1 _ g1,z2 _ g2⟩,fun b hb=>?_,post.here p cl (.zipW t1 t2)⟩
   ·have nn:∀ (n:Addr),[n + 4,n + 2,n + 3,n,n + 1].Nodup:=fun n=>by
     simp only [List.nodup_cons,List.mem_cons,List.not_mem_nil,or_false,not_or,List.nodup_nil,and_true]
     refine ⟨⟨?_,?_,?_,?_⟩,⟨?_,?_,?_⟩,⟨?_,?_⟩,?_,not_false⟩ <;> simp [Addr] at * <;> omega
    exact nn _
   ·have hb':s1.heap.objs.size <= b:=by
     simp only [List.mem_cons,List.not_mem_nil,or_false] at hb
     rcases hb with rfl|rfl|rfl|rfl|rfl <;> omega
    exact I1.fpOk (H':=H1) hb' (I1.hok.fresh hb')
  ·exact False.elim p
 ·exact False.elim p
end
end DL
namespace DL
open PySem L2
open AutoSeq1 (wpAny_loadPart')
section
variable {P:Program} {w:World} {A:Around} {E:Value->Shared->Prop} {s:Shared}
variable {ea ia:Addr} {fp:List Addr} {n k:Nat} {Pv:Nat->Value->Prop} {Sx:Nat->Heap->Prop} {old:Value}
theorem zdK {Q:Option Value->Shared->Prop} (J:Inner P w ia fp n Pv Sx) (he:IsEnum s.heap ea ia (k:Nat) old) (hx:Sx k s.heap) (hk:k < n) (ne:∀ b ∈ ia :: fp,b ≠ ea)
  (hq:∀ x h' tk ti,Pv k x->IsEnumOut h' ea ia ((k:Int) + 1) x s.heap.objs.size->Sx (k + 1) h'->h'.get? s.heap.objs.size=some { cls:=.type "tuple",data:=.seq #[.int (k:Nat) ti,x] }->(∀ b o,b ≠ ea->b ≠ ia->s.heap.get? b=some o->h'.get? b=some o)->Q (some (.ref s.heap.objs.size)) { s with heap:=h',toks:=tk }):
  wpAny (model P w) A (pyNext (.ref ea)) Q E s:=by
 have ht:s.TypeIs (.ref ea) "enumerate":=⟨_,he,rfl⟩
 have nia:ea ≠ ia:=Ne.symm (ne ia List.mem_cons_self)
 unfold pyNext
 refine wpAny_bind (wpAny_attempt (wpAny_callSpecial?_slot (name := "__next__") ht F.slot_enumerate_next (wpAny_call_entry F.slot_enumerate_next ht F.entry_enumerate_next ?_ (F.args_enumerate_next_1 _))))
 obtain ⟨hp,g,d,tk,os⟩:=s
 show wpAny _ _ (field (.ref ea) 2 >>= _) _ _ _
 refine wpAny_bind (wpAny_field he rfl (x:=.ref ia) rfl (wpAny_bind (J.item _ k _ _ _ hk hx fun x h1 tk1 px sx1 s1=>?_)))
 have s1:Heap.SameBut ia hp h1:=s1
 have e1:IsEnum h1 ea ia (k:Nat) old:=(s1.2 ea nia).trans he
 show wpAny _ _ (field (.ref ea) 3 >>= _) _ _ ⟨h1,g,d,tk1,os⟩
 refine wpAny_bind (wpAny_field e1 rfl (x:=rawInt (k:Nat)) rfl ?_)
 show wpAny _ _ (field (.ref ea) 4 >>= _) _ _ ⟨h1,g,d,tk1,os⟩
 refine wpAny_bind (wpAny_field e1 rfl (x:=(.none)) rfl ?_)
 show wpAny _ _ (mkInt (k:Nat) >>= _) _ _ ⟨h1,g,d,tk1,os⟩
 refine wpAny_bind (wpAny_mkInt ?_)
 show wpAny _ _ (setField (.ref ea) 3 (rawInt ((k:Int) + 1)) >>= _) _ _ ⟨h1,g,d,tk1 + 1,os⟩
 refine wpAny_bind (wpAny_setField_rec e1 (by simp) fun h2 e2 s2=>?_)
 have s2:Heap.SameBut ea h1 h2:=s2
 have e2:IsEnum h2 ea ia ((k:Int) + 1) old:=e2
 show wpAny _ _ (setField (.ref ea) 4 .none >>= _) _ _ ⟨h2,g,d,tk1 + 1,os⟩
 refine wpAny_bind (wpAny_setField_rec e2 (by simp) fun h3 e3 s3=>?_)
 have s3:Heap.SameBut ea h2 h3:=s3
 have e3:IsEnum h3 ea ia ((k:Int) + 1) old:=e3
 show wpAny _ _ (newTuple [.int (k:Nat) tk1,x] >>= _) _ _ ⟨h3,g,d,tk1 + 1,os⟩
 refine wpAny_bind (wpAny_newTuple ?_)
 have e4:IsEnum (h3.push { cls:=.type "tuple",data:=.seq #[.int (k:Nat) tk1,x] }) ea ia ((k:Int) + 1) old:=Heap.get?_push_of_some _ e3
 have hsz:h3.objs.size=hp.objs.size:=by rw [s3.1,s2.1,s1.1]
 have hel:ea < hp.objs.size:=Heap.lt_size he
 have t4:(h3.push { cls:=.type "tuple",data:=.seq #[.int (k:Nat) tk1,x] }).get? hp.objs.size=some { cls:=.type "tuple",data:=.seq #[.int (k:Nat) tk1,x] }:=by rw [<- hsz];exact Heap.get?_push_size _ rfl
 have k4:∀ b o,b ≠ ea->b ≠ ia->hp.get? b=some o->(h3.push { cls:=.type "tuple",data:=.seq #[.int (k:Nat) tk1,x] }).get? b=some o:=fun b o q1 q2 z=>Heap.get?_push_of_some _ (s3.extBut b o q1 (s2.extBut b o q1 (s1.extBut b o q2 z)))
 have x4:Sx (k + 1) (h3.push { cls:=.type "tuple",data:=.seq #[.int (k:Nat) tk1,x] }):=J.stab _ _ _ (J.but (J.but sx1 s2.extBut ne) s3.extBut ne) fun b _ o z=>Heap.get?_push_of_some _ z
 generalize h3.push { cls:=.type "tuple",data:=.seq #[.int (k:Nat) tk1,x] } = h4 at e4 t4 k4 x4
 show wpAny _ _ (Builtin.SmallTypes.ownedTupleIsFree (.ref ea) >>= _) _ _ ⟨h4,g,d,tk1 + 1,os⟩
 rw [hsz]
 refine wpAny_bind ?_;unfold Builtin.SmallTypes.ownedTupleIsFree
 refine wpAny_bind (wpAny_field e4 rfl (x:=(.none)) rfl (wpAny_pure ?_))
 simp only [if_true];refine wpAny_bind (wpAny_rule (wpAny_bind (wpAny_field e4 rfl (x:=old) rfl (wpAny_bind (wpAny_setField_rec e4 (by simp) fun h5 e5 s5=>?_)))))
 have s5:Heap.SameBut ea h4 h5:=s5
 have e5:IsEnum h5 ea ia ((k:Int) + 1) x:=e5
 show wpAny _ _ (Builtin.SmallTypes.ownedTupleHandOut (.ref ea) (.ref hp.objs.size) >>= _) _ _ ⟨h5,g,d,tk1 + 1,os⟩
 refine wpAny_bind ?_;unfold Builtin.SmallTypes.ownedTupleHandOut
 refine wpAny_bind (wpAny_setField_rec e5 (by simp) fun h6 e6 s6=>?_)
 have s6:Heap.SameBut ea h5 h6:=s6
 have e6:IsEnumOut h6 ea ia ((k:Int) + 1) x hp.objs.size:=e6
 refine wpAny_setField_rec e6 (by simp) fun h7 e7 s7=>?_
 have s7:Heap.SameBut ea h6 h7:=s7
 have e7:IsEnumOut h7 ea ia ((k:Int) + 1) x hp.objs.size:=e7
 refine wpAny_bind (wpAny_letGo (wpAny_pure ⟨_,rfl,wpAny_pure (hq x h7 _ tk1 px e7 (J.but (J.but (J.but x4 s5.extBut ne) s6.extBut ne) s7.extBut ne) ?_ fun b o q1 q2 z=>s7.extBut b o q1 (s6.extBut b o q1 (s5.extBut b o q1 (k4 b o q1 q2 z))))⟩))
 exact s7.extBut _ _ (Nat.ne_of_gt hel) (s6.extBut _ _ (Nat.ne_of_gt hel) (s5.extBut _ _ (Nat.ne_of_gt hel) t4))
theorem zfC {Q:Option Value->Shared->Prop} (hh:A.handled=none) (J:Inner P w ia fp n Pv Sx) (he:IsEnum s.heap ea ia (k:Nat) old) (hx:Sx k s.heap) (hk:n <= k) (hq:∀ h',Heap.ExtBut ia s.heap h'->Q none { s with heap:=h' }):wpAny (model P w) A (pyNext (.ref ea)) Q E s:=by
 have ht:s.TypeIs (.ref ea) "enumerate":=⟨_,he,rfl⟩
 unfold pyNext
 refine wpAny_bind (wpAny_attempt (wpAny_callSpecial?_slot (name := "__next__") ht F.slot_enumerate_next (wpAny_call_entry F.slot_enumerate_next ht F.entry_enumerate_next ?_ (F.args_enumerate_next_1 _))))
 show wpAny _ _ (field (.ref ea) 2 >>= _) _ _ _
 refine wpAny_bind (wpAny_field he rfl (x:=.ref ia) rfl (wpAny_bind (J.done _ k _ _ _ hh hk hx fun h' e eb hs=>?_)))
 obtain ⟨oe,ho,hc⟩:=hs
 exact wpAny_bind (wpAny_isInstance (T := "StopIteration") (b:=true) ⟨oe,ho,hc⟩ isSubtype_stop (wpAny_pure (hq _ eb)))
end
end DL
namespace DL
open PySem L2
def Ite (J:It):It:=⟨J.go,fun i H v H'=>∃ p x,H p=none/\v=.ref p/\J.yld i H x H/\H'=upd H p (.tup [.int (i:Nat),x]),J.stop⟩
def zkw (ea ia:Addr) (S:Nat->Heap->Prop) (n:Nat) (h:Heap):Prop:=(∃ old,IsEnum h ea ia (n:Nat) old)/\S n h
theorem zcs {P:Program} {w:World} {K:PySem.W.Frag} {J:It} {S:Nat->Heap->Prop} {es:List Expr} {kt} {pt:Pos} (ea ia:Addr) (ap:ea ≠ ia) (N:zg8 P w K J ia S) (hself:∀ (A:Around) (n:Nat) (s:Shared) (Q E:Value->Shared->Prop),(∃ old,IsEnum s.heap ea ia (n:Nat) old)->Q (.ref ea) s->wpAny (model P w) A (pyIter (.ref ea)) Q E s):zbD P w K (.Tuple es kt pt) (Ite J) [ea,ia] ea (zkw ea ia S):=by
 refine ⟨by simp,fun n h st b hb=>?_,fun n h h' st k=>?_,?_,?_,fun A n s Q E st q=>hself A n s Q E st.1 q⟩
 ·obtain ⟨⟨old,he⟩,hi⟩:=st
  simp only [List.mem_cons,List.not_mem_nil,or_false] at hb
  rcases hb with rfl|rfl
  ·exact ⟨_,he,fun v e=>by cases e⟩
  ·exact N.obj n h hi
 ·obtain ⟨⟨old,he⟩,hi⟩:=st
  exact ⟨⟨old,k ea (by simp) _ he⟩,N.keep n h h' hi (k ia (by simp))⟩
 ·intro X hP hw hK hc n pins s σ H E I hf st hg
  have hg:J.go n H:=hg
  obtain ⟨⟨old,he⟩,hi⟩:=st
  obtain ⟨fp,m,Pv,T,Z,s1,u1,go1,st1,y1,f1⟩:=N.got X hP hw hK n pins s σ H I (hf ia (by simp)) hi (.inl hg)
  subst hP hw hK
  have ne:∀ b ∈ ia :: fp,b ≠ ea:=fun b hb=>(List.mem_cons.mp hb).elim (fun e=>by rw [e];exact Ne.symm ap) fun hb=>(f1 b hb).far I (hf ea (by simp))
  refine wT I (zdK Z he s1 (go1 hg) ne fun x h' tk tki px q1 q2 q3 hk htk=>⟨_,rfl,?_⟩)
  obtain ⟨vx,rx,yx⟩:=y1 x px
  refine wpAny_letOwnedTupleGo_enum q1 fun h'' e1 e2=>?_
  have nb:∀ q ∈ [ea,ia],s.heap.objs.size ≠ q:=fun q hq e=>by
   have:∃ ob,s.heap.get? q=some ob:=by
    simp only [List.mem_cons,List.not_mem_nil,or_false] at hq
    rcases hq with rfl|rfl
    ·exact ⟨_,he⟩
    ·obtain ⟨ob,g,_⟩:=N.obj n _ hi;exact ⟨_,g⟩
   obtain ⟨ob,g⟩:=this
   exact absurd (Heap.lt_size g) (by rw [e];exact Nat.lt_irrefl _)
  have keep:∀ c ob,c ∉ [ea,ia]->s.heap.get? c=some ob->h''.get? c=some ob:=fun c ob hc e=>by
   simp only [List.mem_cons,List.not_mem_nil,or_false,not_or] at hc
   exact e2.extBut _ _ hc.1 (hk c ob hc.1 hc.2 e)
  have I1:L2.Inv X pins σ H { s with heap:=h'',toks:=tk }:=Inv.turns [ea,ia] I keep hf
  have hnew:h''.get? s.heap.objs.size=some { cls:=.type "tuple",data:=.seq #[.int (n:Nat) tki,x] }:=e2.extBut _ _ (nb ea (by simp)) q3
  have fr:H s.heap.objs.size=none:=I.hok.fresh (Nat.le_refl _)
  have I2:L2.Inv X pins σ (upd H s.heap.objs.size (.tup [.int (n:Nat),vx])) { s with heap:=h'',toks:=tk }:=by
   have un:Un (frs X.stack) [ea,ia] H (upd H s.heap.objs.size (.tup [.int (n:Nat),vx])) s.heap h'':=by
    refine ⟨fun c ob e _ _ hc=>keep c ob hc e,fun c ob e _ _ hc=>⟨ob.slots,keep c ob hc e⟩,fun c ob e hn _=>?_,fun c ob e hc=>⟨ob,keep c ob hc e⟩,fun c zs e=>?_,fun c ob u e=>?_,fun c ps e=>⟨#[],?_⟩⟩
    ·rw [z1q (Nat.ne_of_lt (Heap.lt_size e))];exact hn
    ·rw [z1q (z1r e fr)];exact e
    ·rw [z1q (z1r e fr)];exact e
    ·rw [z1q (z1r e fr),e];simp
   have hok:HOk X.prog X.w (upd H s.heap.objs.size (.tup [.int (n:Nat),vx])) h'':=by
    intro c u' e
    by_cases hc:c=s.heap.objs.size
    ·subst hc
     rw [z1z] at e;cases e
     exact ⟨by show 2 <= sizeLine;decide,[.int (n:Nat) tki,x],.cons ⟨_,rfl⟩ (.cons rx .nil),⟨_,hnew,rfl,⟨_,rfl⟩,rfl⟩⟩
    ·rw [z1q hc] at e
     refine (I1.hok c u' e).stay (fun _ _ _ q=>q) (fun p q=>?_) fun p zs q=>?_
     ·by_cases hp:p=s.heap.objs.size
      ·subst hp;rw [fr] at q;cases q
      ·rw [z1q hp];exact q
     ·by_cases hp:p=s.heap.objs.size
      ·subst hp;rw [fr] at q;cases q
      ·rw [z1q hp];exact q
   exact I.call (t':=tk) (d':=s.drawn) un hok I.bare fun b hb=>let ⟨_,f1,_,f3,f4,f5⟩:=hf b hb;⟨f3,f1,f4,f5⟩
  refine ⟨.ref s.heap.objs.size,_,I2,rfl,⟨_,vx,fr,rfl,yx,rfl⟩,⟨⟨_,by exact_mod_cast e1⟩,?_⟩,fun b hb=>?_⟩
  ·exact u1 _ _ (Z.but q2 e2.extBut ne)
  ·rw [z1q (Ne.symm (nb b hb))];exact (hf b hb).1
 ·intro X hP hw hK hc n pins s σ H E I hf st hg
  have hg:J.stop n H:=hg
  obtain ⟨⟨old,he⟩,hi⟩:=st
  obtain ⟨fp,m,Pv,T,Z,s1,u1,go1,st1,y1,f1⟩:=N.got X hP hw hK n pins s σ H I (hf ia (by simp)) hi (.inr hg)
  subst hP hw hK
  refine zfC (I.ok.hd hc) Z he s1 (st1 hg) fun h' eb=>⟨rfl,?_⟩
  refine Inv.turns (t':=s.toks) [ea,ia] I (fun c ob hc e=>?_) hf
  simp only [List.mem_cons,List.not_mem_nil,or_false,not_or] at hc
  exact eb c ob hc.2 e
def z9W (ds:List D):List D:=ds.zipIdx.map fun q=>.tup [.int (q.2:Nat),q.1]
theorem zbj (ds:List D) (i:Nat):(z9W ds)[i]?=(ds[i]?).map fun d=>D.tup [.int (i:Nat),d]:=by
 unfold z9W
 rw [List.getElem?_map,List.getElem?_zipIdx]
 cases ds[i]? <;> simp
theorem SrcAt.enum {K:PySem.W.Frag} {J:It} {ds:List D} {H:Hp} {hid μ:List Addr} (h1:SrcAt K J (.val ds) H hid μ):SrcAt K (Ite J) (.val (z9W ds)) H hid μ:=by
 intro hid' H' μ' O' m c i
 have q1:match ds[i]? with|some d=>J.go i H'/\∀ x H'',J.yld i H' x H''->Ext H' μ' H'' μ'/\Cells K H'' hid' μ' O'/\Dat K H'' hid' μ' d x|none=>J.stop i H':=h1 hid' H' μ' O' m c i
 show match (z9W ds)[i]? with|some d=>_|none=>_
 rw [zbj]
 cases e1:ds[i]? with
 | none=>rw [e1] at q1;exact q1
 | some d1=>
  rw [e1] at q1
  refine ⟨q1.1,fun v H'' yl=>?_⟩
  obtain ⟨p,x,hp,rfl,y1,rfl⟩:=yl
  exact ⟨.laid hp,c.laid hp,Dat.newT c hp (.cons z1T (.cons (q1.2 x H' y1).2.2 .nil))⟩
section
variable {s:Shared}
theorem zcC:bootBuiltins "enumerate" = some (.type "enumerate"):=by boot_by_name
theorem z7x {P:Program} {w:World} (ea ia:Addr) (A:Around) (n:Nat) (s:Shared) (Q E:Value->Shared->Prop) (h:∃ old,IsEnum s.heap ea ia (n:Nat) old) (q:Q (.ref ea) s):wpAny (model P w) A (pyIter (.ref ea)) Q E s:=by
 obtain ⟨old,h⟩:=h
 have ht:s.TypeIs (.ref ea) "enumerate":=⟨_,h,rfl⟩
 refine wpAny_pyIter_slot ht F.slot_enumerate_iter (wpAny_call_entry F.slot_enumerate_iter ht F.entry_enumerate_iter ?_ (F.args_enumerate_iter_1 _))
 show wpAny _ _ (ret (.ref ea)) _ _ s
 exact wpAny_pure ⟨_,rfl, "enumerate",_,ht,F.slot_enumerate_next.lookup,q⟩
end
end DL
namespace DL
open PySem L2
open PyProof.Rows hiding St
section
variable {X:Cx} {Ex:Nat->Hp->Prop} {pos:Pos} {a b c e:Expr} {ta tb te:DE} {pins:List (Addr × Obj)} {σv:L2.St} {H:Hp} {s:Shared} {hid μ:List Addr} {O:Ow}
def zhh (K:PySem.W.Frag):R2:=fun x y H Q=>∃ a b ys,x=.ref a/\y=.ref b/\SqT K H a []/\SqT K H b ys/\Q (.ref b) H
theorem zfh:OpR X (binaryOp .Add) (zhh X.K):=by
 intro pins s σ H x y v u Q I rx ry h
 obtain ⟨p,q,ys,rfl,rfl,ha,hb,hq⟩:=h
 cases rx;cases ry
 obtain ⟨its,r1,⟨⟨c1,d1,dt1,l1⟩,g1,k1,n1,e1⟩,_⟩:=I.tuple ha
 obtain ⟨its2,r2,⟨⟨c2,d2,dt2,l2⟩,g2,k2,n2,e2⟩,_⟩:=I.tuple hb
 have hz:its=[]:=by cases r1;rfl
 subst hz
 have k1:c1=.type "tuple":=k1
 have k2:c2=.type "tuple":=k2
 have e1:dt1=.seq #[] n1:=e1
 have e2:dt2=.seq its2.toArray n2:=e2
 subst k1;subst k2;subst e1;subst e2
 exact concat_meets ⟨_,g1,rfl⟩ ⟨_,g2,rfl⟩ noFill_tuple_add seq_tuple_add PySem.F.slot_tuple_add PySem.F.entry_tuple_add (PySem.F.args_tuple_add_2 _ _) (PyProof.Rows.tuple_addW0 p q #[] its2.toArray n1 n2 d1 d2 l1 l2 rfl) ⟨g1,g2,⟨.ref q,H,I,rfl,hq⟩⟩
def z32:Ow->D->D->R D:=fun O x y=>match x,y with
 | .tup [],.tup ys=>.ok (.tup ys) O
 | x,y=>z3Z O x y
theorem zdL:OpD X Ex (fun x y H Q=>zhh X.K x y H Q \/ zgw X.K x y H Q) z32:=by
 intro H hid μ O x y v w Q c dx dy q
 unfold z32 at q
 split at q
 ·rename_i ys
  have dy':=dy
  unfold Dat at dx dy
  obtain ⟨p,vs,rfl,l,d1⟩:=dx
  obtain ⟨p2,vs2,rfl,l2,d2⟩:=dy
  unfold Dats at d1;subst d1
  exact .inl ⟨p,p2,vs2,rfl,rfl,l.sq,l2.sq,post.here q c dy'⟩
 ·exact .inr (zcv H hid μ O _ _ v w Q c dx dy q)
theorem zgd (ha:PD X Ex a ta) (hb:PD X Ex b tb):PD X Ex (.BinOp a .Add b pos) (dOp z32 ta tb):=z5j (OpR.or zfh zbc) zdL ha hb
def zjZ (K:PySem.W.Frag):V->Option Int->Option Int->Hp->VK->Prop:=fun x lo hi H Q=>∃ a xs,x=.ref a/\SqT K H a xs/\(HT.sIx xs.length 0 lo=0/\HT.sIx xs.length xs.length hi=xs.length)/\Q (.ref a) H
theorem z6M {P:Program} {w:World} {A:Around} {E:Value->Shared->Prop} {s:Shared} {t sl:Addr} {items:Array Value} {vl vu:Value} {lo hi:Option Int} {Q:Value->Shared->Prop} (ht:IsTup s.heap t items) (hs:s.heap.IsSliceOf sl vl vu .none) (pl:IsPart vl lo) (pu:IsPart vu hi)
  (hw:HT.sIx items.size 0 lo=0/\HT.sIx items.size items.size hi=items.size) (h:Q (.ref t) s):wpAny (model P w) A (getItem (.ref t) (.ref sl)) Q E s:=by
 obtain ⟨ob,hob,hcb,hdb⟩:=id hs
 have hTs:s.TypeIs (.ref sl) "slice":=⟨ob,hob,hcb⟩
 unfold getItem
 try with_reducible refine wpAny_holding ?_
 first|refine wpAny_bind (wpAny_pure ?_)|skip
 refine wpAny_bind (wpAny_sequenceKey ht.typeIs (by decide) (wpAny_bind (wpAny_callSpecial?_slot (name := "__getitem__") ht.typeIs PyProof.Rows.slot_tuple_getitem (wpAny_call_entry PyProof.Rows.slot_tuple_getitem ht.typeIs entry_tuple_getitem ?_ (args_tuple_getitem _ _)))))
 show wpAny _ _ (Builtin.Tuple.tupleItemsOf (.ref t) >>= _) _ _ s
 refine wpAny_bind (tupleItemsOf_ ht (wpAny_bind (wpAny_typeOf hTs ?_)))
 rw [if_pos (by decide)]
 refine wpAny_bind (HT.sliceApplied_gen hs pl pu ?_)
 have hyes:(((HT.sIx items.size 0 lo:Nat):Int) == 0 && (1:Int) == 1 && (HT.sIx items.size items.size hi - HT.sIx items.size 0 lo) == items.size)=true:=by
  rw [hw.1,hw.2];simp
 show wpAny _ _ (if (((HT.sIx items.size 0 lo:Nat):Int) == 0 && (1:Int) == 1 && (HT.sIx items.size items.size hi - HT.sIx items.size 0 lo) == items.size)=true then _ else _) _ _ s
 rw [if_pos hyes]
 refine wpAny_bind (m:=Builtin.Tuple.tupleIsExact (.ref t)) ?_
 unfold Builtin.Tuple.tupleIsExact
 refine wpAny_bind (wpAny_typeOf ht.typeIs (wpAny_pure ?_))
 rw [if_pos (by decide)]
 exact wpAny_bind (wpAny_rule (wpAny_pure ⟨_,rfl,wpAny_pure h⟩))
theorem zdj:SlR X (zjZ X.K):=by
 intro pins s σ H x v vl vu lo hi sl Q I rx hs pl pu h
 obtain ⟨p,xs,rfl,hx,hw,q⟩:=h
 cases rx
 obtain ⟨its,r,ht,hz⟩:=I.tuple hx
 have hlen:its.toArray.size=xs.length:=by rw [List.size_toArray];exact r.length.symm
 exact ⟨"tuple",_,PyProof.Rows.slot_tuple_getitem.lookup,ht.typeIs,z6M ht hs pl pu (by rw [hlen];exact hw) ⟨.ref p,H,I,rfl,q⟩⟩
def zkn (O:Ow) (x:D) (lo hi:Option Int):R D:=match x with
 | .tup ds=>if HT.sIx ds.length 0 lo=0/\HT.sIx ds.length ds.length hi=ds.length then .ok (.tup ds) O else .ok (.tup (z9t ds lo hi)) O
 | x=>fSl O x lo hi
def z7f (te:DE) (tl th:DO):DE:=fun σ O=>(te σ O).bnd fun x O1=>(tl σ O1).bnd fun lo O2=>(th σ O2).bnd fun hi O3=>zkn O3 x lo hi
theorem zhM {lo hi:Option Expr} {tl th:DO} {p2:Pos} (he:PD X Ex e te) (hl:PDO X Ex lo tl) (hu:PDO X Ex hi th):PD X Ex (.Subscript e (.Slice lo hi none p2) pos) (z7f te tl th):=
 z2a (z9E (r:=fun x lo hi H Q=>zjZ X.K x lo hi H Q \/ zkl X.K x lo hi H Q) (SlR.or zdj (SlR.or zeI (SlR.or zem zaS))) he.out hl.out hu.out) fun hid μ σ O σv H Q e1 c1 q=>rd.go e1 c1 q fun d O1 v H1 μ1 e2 x cl r p=>rdO.go e2 cl p fun l O2 H2 μ2 e3 x3 c3 p3=>rdO.go e3 c3 p3 fun u O3 H3 μ3 e4 x4 c4 p4=>by
  have r':=(r.ext x3).ext x4
  cases d with
  | tup ds=>
   have rr:=r'
   unfold Dat at r'
   obtain ⟨pa,vs,rfl,la,q1⟩:=r'
   have p4':z1I Ex X.K H3 hid μ3 (if HT.sIx ds.length 0 l=0/\HT.sIx ds.length ds.length u=ds.length then .ok (.tup ds) O3 else .ok (.tup (z9t ds l u)) O3) Q:=p4
   split at p4'
   ·rename_i hw
    exact .inl ⟨pa,vs,rfl,la.sq,by rw [<- q1.length];exact hw,post.here p4' c4 rr⟩
   ·rename_i hw
    exact .inr (.inr (.inl ⟨pa,vs,rfl,la.sq,by rw [<- q1.length];exact hw,fun l' hl'=>post.ok p4' (.laid hl') (c4.laid hl') (Dat.newT c4 hl' (z4m q1 l u))⟩))
  | str i=>
   unfold Dat at r';subst r'
   have p4':z1I Ex X.K H3 hid μ3 (if i.length <= 100000 then .ok (.str (Txt.slice ⟨i.toArray⟩ l u).cps.toList) O3 else .bad) Q:=p4
   obtain ⟨hll,p4'⟩:=post.ite p4'
   refine .inr (.inl ⟨_,rfl,?_,post.here p4' c4 ?_⟩)
   ·show i.toArray.size <= _
    rw [List.size_toArray];exact z1O hll
   ·unfold Dat;rw [z4Q]
  | lst ds=>
   have p4':z1I Ex X.K H3 hid μ3 (.ok (.lst (z9t ds l u)) O3) Q:=p4
   obtain ⟨pa,vs,rfl,sq,q1⟩:=z35 c4 r' (show lsV O3 (.lst ds)=some ds from rfl)
   exact .inr (.inr (.inr ⟨pa,vs,rfl,sq,fun l' hl'=>post.ok p4' (.laid hl') (c4.laid hl') (Dat.newL c4 hl' (z4m q1 l u))⟩))
  | own k=>
   have p4':z1I Ex X.K H3 hid μ3 (match O3[k]? with|some ds=>.ok (.lst (z9t ds l u)) O3|none=>.bad) Q:=p4
   split at p4'
   ·rename_i ds eds
    obtain ⟨pa,vs,rfl,sq,q1⟩:=z35 c4 r' (show lsV O3 (.own k)=some ds from eds)
    exact .inr (.inr (.inr ⟨pa,vs,rfl,sq,fun l' hl'=>post.ok p4' (.laid hl') (c4.laid hl') (Dat.newL c4 hl' (z4m q1 l u))⟩))
   ·exact False.elim p4'
  | _=>exact False.elim p4
end
end DL
namespace DL
open PySem L2
section
variable {X:Cx} {Ex:Nat->Hp->Prop}
def ziF:Ow->D->D->R D:=fun O x y=>match x,y with
 | .int i,.int j=>.ok (.bl (decide (i < j))) O
 | .str p,.str q=>.ok (.bl (decide (p < q))) O
 | _,_=>.bad
theorem zib:OpR X (compareOp .Lt) (fun x y H Q=>(∃ i j,x=.str i/\y=.str j/\Q (.bl (decide (i.cps.toList < j.cps.toList))) H) \/ rI0 (fun i j=>.bl (decide (i < j))) x y H Q):=OpR.or zbe zfc
theorem zfw:OpD X Ex (fun x y H Q=>(∃ i j,x=.str i/\y=.str j/\Q (.bl (decide (i.cps.toList < j.cps.toList))) H) \/ rI0 (fun i j=>.bl (decide (i < j))) x y H Q) ziF:=by
 intro H hid μ O x y v w Q c dx dy q
 unfold ziF at q
 split at q
 ·rename_i i j
  exact .inr (zcL H hid μ O (.int i) (.int j) v w Q c dx dy q)
 ·unfold Dat at dx dy;subst dx;subst dy
  exact .inl ⟨_,_,rfl,rfl,post.here q c z2r⟩
 ·exact False.elim q
end
section
variable {X:Cx} {Ex:Nat->Hp->Prop} {pos:Pos} {e:Expr} {te to:DE} {pins:List (Addr × Obj)} {σv:St} {H:Hp} {s:Shared} {hid μ:List Addr} {O:Ow}
def dS0 (g:List Nat->Option D) (to:DE):DE:=fun σ O=>(to σ O).bnd fun x O1=>match x with
 | .str i=>match g i with
  | some d=>.ok d O1
  | none=>.bad
 | _=>.bad
structure zjE (mg:Str->Option Value) (x:Str) (i:Int):Prop where
 ex:∃ t,mg x=some (.int i t)
theorem zeZ {x:Str} {i:Int} (h:zjE X.mg x i) (hg:Gl X x:=by rfl) (hd:(x == ("__debug__":Str))=false:=by decide):PD X Ex (.Name x pos) (dC (.int i)):=by
 obtain ⟨t,h⟩:=h.ex
 exact z2a (z5N (v:=.int i) hg h ⟨_,rfl⟩ hd) fun hid μ σ O σv H Q e1 c1 q=>post.here q c1 z1T
def ziX (t:DE):DE:=fun σ O=>(t σ O).bnd fun d O1=>match d with
 | .int i=>if i.natAbs < 2 ^ 64 then .ok (.str (zgg i)) O1 else .bad
 | _=>.bad
theorem ziL {e:Expr} {p:Pos} (h:PD X Ex e te):PD X Ex (.FormattedValue e (-1) none p) (ziX te):=by
 refine ⟨?_⟩
 rintro pins s σv H Q I ⟨hid,μ,σ,O,e1,c1,q⟩
 refine PyProof.Rows.FormattedValue_plain (thn (h.out pins s σv H (fun v H1=>∃ i,v=.int i/\i.natAbs < 2 ^ 64/\Q (.str ⟨(zgg i).toArray⟩) H1) I (rd.go e1 c1 q fun d O1 v H1 μ1 e2 x cl r p=>?_)) fun u s1 ⟨v,H1,I1,r1,i,hv,hi,hq⟩=>?_)
 ·cases d with
  | int i=>
   unfold Dat at r;subst r
   have p':z1I Ex X.K H1 hid μ1 (if i.natAbs < 2 ^ 64 then .ok (.str (zgg i)) O1 else .bad) Q:=p
   obtain ⟨hl,p'⟩:=post.ite p'
   refine ⟨i,rfl,hl,post.here p' cl ?_⟩
   unfold Dat;rfl
  | _=>exact False.elim p
 ·subst hv
  obtain ⟨t,rfl⟩:=r1
  refine PyProof.Rows.formatField_int_small (z6g hi) ⟨.str ⟨(zgg i).toArray⟩,H1,I1.tok _,⟨s1.toks + 1,by unfold zgg;rw [z4Q]⟩,hq⟩
def goJ (out:List Nat):List DE->DE
 | []=>fun _ O=>.ok (.str out) O
 | t :: ts=>fun σ O=>(t σ O).bnd fun d O1=>match d with
  | .str cs=>if (out ++ cs).length <= 100000 then goJ (out ++ cs) ts σ O1 else .bad
  | _=>.bad
def dJs (ts:List DE):DE:=goJ [] ts
theorem zjJ {es:List Expr} {ts:List DE} (h:PySem.Paired (fun e t=>PD X Ex e t) es ts):∀ (out:List Nat) (pins:List (Addr × Obj)) (s:Shared) (σv:St) (H:Hp) (Q:VK),out.length <= 100000->L2.Inv X pins σv H s->rd Ex X.K (goJ out ts) σv H Q->
  wpAny (model X.prog X.w) X.A (joinParts ⟨out.toArray⟩ (evalEach es X.env)) (EP X pins σv Q) X.xe s:=by
 induction h with
 | nil=>
  rintro out pins s σv H Q ho I ⟨hid,μ,σ,O,e1,c1,q⟩
  refine PyProof.Rows.joinParts_nil ⟨.str ⟨out.toArray⟩,H,I.tok _,⟨_,rfl⟩,post.here q c1 ?_⟩ ?_
  ·unfold Dat;rfl
  ·show out.toArray.size <= _
   rw [List.size_toArray];exact z1O ho
 | @cons e t es ts h1 h2 ih=>
  rintro out pins s σv H Q ho I ⟨hid,μ,σ,O,e1,c1,q⟩
  show wpAny _ _ (joinParts ⟨out.toArray⟩ (eval e X.env :: evalEach es X.env)) _ _ s
  refine PyProof.Rows.joinParts_cons (thn (h1.out pins s σv H (fun v H1=>∃ cs,v=.str ⟨cs.toArray⟩/\(out ++ cs).length <= 100000/\rd Ex X.K (goJ (out ++ cs) ts) σv H1 Q) I (rd.go e1 c1 q fun d O1 v H1 μ1 e2 x cl r p=>?_)) fun u s1 ⟨v,H1,I1,r1,cs,hv,hl,hq⟩=>?_)
  ·cases d with
   | str cs=>
    unfold Dat at r;subst r
    have p':z1I Ex X.K H1 hid μ1 (if (out ++ cs).length <= 100000 then goJ (out ++ cs) ts σ O1 else .bad) Q:=p
    obtain ⟨hl,p'⟩:=post.ite p'
    exact ⟨cs,rfl,hl,hid,μ1,σ,O1,e2,cl,p'⟩
   | _=>exact False.elim p
  ·subst hv
   obtain ⟨t,rfl⟩:=r1
   have ee:((⟨out.toArray⟩:Str) ++ (⟨cs.toArray⟩:Str))=⟨(out ++ cs).toArray⟩:=by
    show (⟨out.toArray ++ cs.toArray⟩:Str)=_
    simp
   show ((⟨out.toArray⟩:Str) ++ (⟨cs.toArray⟩:Str)).length <= sizeLine/\_
   rw [ee]
   refine ⟨?_,ih (out ++ cs) pins s1 σv H1 Q hl I1 hq⟩
   show (out ++ cs).toArray.size <= _
   rw [List.size_toArray];exact z1O hl
theorem zbT {v1 v2:Expr} {z2C:List Expr} {ts:List DE} {p:Pos} (h:PySem.Paired (fun e t=>PD X Ex e t) (v1 :: v2 :: z2C) ts):PD X Ex (.JoinedStr (v1 :: v2 :: z2C) p) (dJs ts):=
 ⟨fun pins s σv H Q I q=>PyProof.Rows.JoinedStr_many (zjJ h [] pins s σv H Q (by simp) I q)⟩
end
end DL
namespace DL
open PySem L2 PySem.Spec PyProof.Rows
section
theorem zcN {xs:List V} {us:List Value} (r:Vals xs us):Vals xs.reverse us.reverse:=by
 induction r with
 | nil=>exact .nil
 | cons r t ih=>
  rw [List.reverse_cons,List.reverse_cons]
  exact Vals.append ih (.cons r .nil)
end
end DL
namespace DL
open PySem L2 PySem.Spec PyProof.Rows
open Sem (wp)
theorem z3v:fillsNumberSlot (.type "tuple") "mul" = pure false:=
 PySem.fillsNumberSlot_seq (id := "tuple.__mul__") (r:=some (.builtin "tuple.__rmul__")) PySem.F.slot_tuple_mul.lookup (by decide +kernel) PySem.F.slot_tuple_rmul.lookup (by decide +kernel)
theorem z5a:seqRepeat? (.type "tuple")=pure (some (.builtin "tuple.__mul__")):=by
 unfold seqRepeat?
 rw [PySem.seqSlot_of (T := "tuple") (name := "__mul__") (id := "tuple.__mul__") PySem.F.slot_tuple_mul.lookup (by decide +kernel),PySem.seqSlot_of (T := "tuple") (name := "__rmul__") (id := "tuple.__rmul__") PySem.F.slot_tuple_rmul.lookup (by decide +kernel)]
 rfl
theorem z56 (a:Int) (t:Tok) (l:Addr) (items:Array Value) (n:Nat) (dd:Option Addr) (sl):
  Meets (Builtin.«int.__rmul__» ⟨[.int a t,.ref l],[]⟩) (fun _ R s=>s.heap.get? l=some { cls:=.type "tuple",dict:=dd,data:=.seq items n,slots:=sl }/\R (.ok (.ret Value.notImplemented)) s):=
 .of_wp fun prog w A R s h=>by obtain ⟨hp,g,d,tk,os⟩:=s;obtain ⟨hl,h⟩:=h;wp_walk;exact ⟨_,rfl,h⟩
end DL
namespace DL
open PySem L2 PySem.Spec PyProof.Rows
end DL
namespace DL
open PySem
theorem zi5:bootBuiltins "set" = some (.type "set"):=by boot_by_name
end DL
namespace DL
open PySem L2
open AutoSeq1 (wpAny_loadPart')
section
variable {X:Cx} {Ex:Nat->Hp->Prop} {b e o:Expr} {to:DE}
def zj4:Int->Int->Option D:=fun i j=>if 0 <= j then some (.int (i / 2 ^ j.toNat)) else none
def zji:Int->Int->Option D:=gI Builtin.bitAnd
theorem zgL:OpD X Ex (rI (fun _ j=>0 <= j) fun i j=>.int (i / 2 ^ j.toNat)) (fI zj4):=z4H fun i j d h=>by
 unfold zj4 at h
 split at h
 ·rename_i hc;cases h;exact ⟨hc,fun _ _ _ _=>z1T⟩
 ·cases h
theorem zeW:OpD X Ex (rI0 fun i j=>.int (Builtin.bitAnd i j)) (fI zji):=z4w fun i j d h _ _ _ _=>by cases h;exact z1T
theorem zcG (l:Addr) (xs:Array Value) (n:Nat) (b:Addr) (ys:Array Value) (m:Nat) (sl:Array (Option Value)) (hc0:¬(!xs.isEmpty && Builtin.List.listTooLong (xs.size + ys.size))=true) (hc1:xs.size <= sizeLine) (hs2:xs.size + ys.size <= sizeLine + 1):
  Meets (Builtin.«list.extend» ⟨[.ref l,.ref b],[]⟩) (fun _ R s=>s.heap.get? l=some { cls:=.type "list",data:=.seq xs n }/\s.heap.get? b=some { cls:=.type "list",data:=.seq ys m,slots:=sl }/\R (.ok (.ret .none)) { s with heap:=s.heap.update l (Obj.mapSeq fun x=>x ++ ys) }):=
 .of_wp fun prog w A R s h=>by
  obtain ⟨hp,g,d,tk,os⟩:=s
  obtain ⟨gl,gb,h⟩:=h
  have f1:=AutoSeq1.sub_tuple_tuple
  have f2:=AutoSeq1.sub_list_list
  have f3:=AutoSeq1.sub_tuple_list
  have f4:=AutoSeq1.sub_list_tuple
  have hz:(xs ++ ys).size <= sizeLine + 1:=by rw [Array.size_append];exact hs2
  wp_walk using (wpAny_updateSeq gl rfl (hz:=hc1) (_hz':=hz)),wpAny_loadPart' gl,wpAny_loadPart' gb
  exact ⟨_,rfl,h⟩
def zkJ (K:PySem.W.Frag):V->List V->Hp->VK->Prop:=fun x vs H Q=>∃ l b xs zs,x=.ref l/\vs=[.ref b]/\H l=some (.lst xs)/\SqL K H b zs/\xs.length + zs.length <= sizeLine/\Q .non (upd H l (.lst (xs ++ zs)))
theorem zhO:MtM X "list.extend" (zkJ X.K):=by
 intro pins s σ H x vs v us Q I rx rv h
 obtain ⟨l,b,xs,zs,rfl,rfl,hH,hB,hz,q⟩:=h
 cases rx
 obtain ⟨u,rfl,ru⟩:=rv.one
 cases ru
 obtain ⟨z,its,n,r,hl,e⟩:=I.lstM hH
 obtain ⟨its2,r2,⟨ob,n2,e2,hc2,hd2,hs2⟩,_⟩:=I.list hB
 obtain ⟨cc,dct,dt,sl⟩:=ob
 have hc2:cc=.type "list":=hc2
 have hd2:dct=none:=hd2
 have hs2:dt=.seq its2.toArray n2:=hs2
 subst hc2;subst hd2;subst hs2
 have hl2:=r2.length
 have hsz:its.toArray.size + its2.toArray.size <= sizeLine:=by rw [List.size_toArray,List.size_toArray];omega
 have hlong:¬ (!its.toArray.isEmpty && Builtin.List.listTooLong (its.toArray.size + its2.toArray.size))=true:=by
  rw [zcP hsz,Bool.and_false]
  exact Bool.false_ne_true
 refine call_meets F.slot_list_extend ⟨_,e,rfl⟩ F.entry_list_extend (F.args_list_extend_2 _ _)
  (zcG l its.toArray n b its2.toArray n2 sl hlong (by rw [List.size_toArray];omega) (by omega)) ⟨e,e2,?_⟩
 refine ⟨.non,_,I.lset (its':=its ++ its2) hH e (by simp) (r.append r2) ?_,rfl,q⟩
 rw [List.length_append]
 omega
def zfj (to:DE) (t:DA):DE:=fun σ O=>(to σ O).bnd fun x O1=>match x with
 | .own k=>(t σ O1).bnd fun ys O2=>match ys,O2[k]? with
  | [y],some ds=>match lsV O2 y with
   | some es=>if ds.length + es.length <= 100000 then .ok .non (O2.set k (ds ++ es)) else .bad
   | none=>.bad
  | _,_=>.bad
 | _=>.bad
theorem zaE {o:Expr} {to:DE} {t:DA} {es:List Expr} {apos cpos:Pos} (ho:PD X Ex o to) (ha:PDA X Ex (e :: es) t) (hbase:attributeBase o "extend" X.env (eval o X.env)=eval o X.env:=by rfl)
  (hfew:((backTo cpos (starEach (e :: es) X.env)).all (fun x=>!x.1) && (backToKw cpos (keywordEach [] X.env)).all (fun x=>x.1.isSome) && decide ((e :: es).length + ([]:List Keyword).length + (if ([]:List Keyword).isEmpty then 0 else 1) < 30))=true:=by rfl)
  (hline:(apos.endLine == cpos.line)=true:=by rfl) (hs:starEach (e :: es) X.env=(false,eval e X.env) :: starEach es X.env:=by rfl) (hplain:(backTo cpos (starEach es X.env)).any (·.1)=false:=by rfl):
  PD X Ex (.Call (.Attribute o "extend" apos) (e :: es) [] cpos) (zfj to t):=
 z2a (z8w PySem.F.plainAttrs_list PySem.F.slot_list_extend PySem.F.type_list_extend zhO ho.out ha.out hbase hfew hline hs hplain) fun hid μ σ O σv H Q e1 c1 q=>rd.go e1 c1 q fun d O1 v H1 μ1 e2 x cl r p=>by
  cases d with
  | own k=>
   have hr:=r
   unfold Dat at r
   obtain ⟨A,rfl,hk⟩:=r
   obtain ⟨ds,vs,h1,h2,h3⟩:=cl.at_ k A hk
   refine ⟨.inl ⟨rfl,vs,.of h2⟩,rdA.go e2 cl p fun ys O2 ws H2 μ2 e3 x3 c3 d3 p3=>?_⟩
   split at p3
   ·rename_i y es' hds
    split at p3
    ·rename_i zs hz
     obtain ⟨hl,p3⟩:=post.ite p3
     obtain ⟨w,rfl,dw⟩:=z42 d3
     have hk2:μ2[k]?=some A:=by
      have:=hr.ext x3
      unfold Dat at this
      obtain ⟨A',e',hk'⟩:=this
      cases e';exact hk'
     obtain ⟨ds2,vs2,g1,g2,g3⟩:=c3.at_ k A hk2
     rw [hds] at g1;cases g1
     obtain ⟨pb,vz,rfl,sq,dz⟩:=z35 c3 dw hz
     refine ⟨A,pb,vs2,vz,rfl,rfl,g2,sq,Nat.le_trans (by rw [<- g3.length,<- dz.length];exact hl) (by decide),?_⟩
     exact post.ok p3 (.put (List.mem_of_getElem? hk2) ⟨_,g2⟩) (c3.put hk2 (g3.append dz)) z4U
    ·exact False.elim p3
   ·exact False.elim p3
  | _=>exact False.elim p
end
set_option maxHeartbeats 1000000 in
theorem zaA (q:ZK) (va:Value) (ea:q.val=va):
  Meets (Builtin.«enumerate.__new__» ⟨[.type "enumerate",va],[]⟩) (fun _ R s=>q.pre s.heap/\
   R (.ok (.ret (.ref (s.heap.push q.obj).objs.size))) { s with heap:=(s.heap.push q.obj).push { cls:=.type "enumerate",data:=.fields #[.none,.bool false,.ref s.heap.objs.size,rawInt 0,.none,.none] } }):=
 .of_wp fun P w A R s h=>by
  obtain ⟨hp,g,d,tk,os⟩:=s;obtain ⟨h1,h⟩:=h
  have hsub:=sub_enumerate
  have i1:∀ {A:Around} {E:Value->Shared->Prop} {Q:Value->Shared->Prop},Q (.ref hp.objs.size) ⟨hp.push q.obj,g,d,tk,os⟩->wpAny (model P w) A (pyIter va) Q E ⟨hp,g,d,tk,os⟩:=fun {A E Q} hq=>by rw [<- ea];exact q.iter (s:=⟨hp,g,d,tk,os⟩) h1 hq
  wp_walk
  refine wpAny_stack_any fun st=>wpAny_pure (?_)
  split
  ·rename_i cc _ _ _ _ _
   cases (cc == Value.type "enumerate")
   ·wp_walk using i1
    exact ⟨_,rfl,h⟩
   ·wp_walk using i1
    exact ⟨_,rfl,h⟩
  ·wp_walk using i1
   exact ⟨_,rfl,h⟩
section
variable {P:Program} {w:World} {A:Around} {E:Value->Shared->Prop} {s:Shared}
theorem za0 (q:ZK) {Q:Value->Shared->Prop} (hT:q.pre s.heap)
  (h:∀ h',IsEnum h' (s.heap.objs.size + 1) s.heap.objs.size 0 .none->h'.get? s.heap.objs.size=some q.obj->(∀ b o,s.heap.get? b=some o->h'.get? b=some o)->Q (.ref (s.heap.objs.size + 1)) { s with heap:=h' }):
  wpAny (model P w) A (call (.type "enumerate") [q.val]) Q E s:=by
 refine callType_new F.called_enumerate (by decide) (F.typeCall_enumerate_1 _) (F.newCall_enumerate_1 _) (fun obj=>F.args_object_init_2 obj _) F.entry_enumerate_new (zaA q _ rfl) ⟨hT,?_⟩
 have fa:q.obj.isFreed=false:=by cases q <;> rfl
 have hz:(s.heap.push q.obj).objs.size=s.heap.objs.size + 1:=Heap.size_push ..
 show _/\_
 rw [hz]
 have he:IsEnum ((s.heap.push q.obj).push { cls:=.type "enumerate",data:=.fields #[.none,.bool false,.ref s.heap.objs.size,rawInt 0,.none,.none] }) (s.heap.objs.size + 1) s.heap.objs.size 0 .none:=by
  have q:=Heap.get?_push_size (s.heap.push q.obj) (o:={ cls:=.type "enumerate",data:=.fields #[.none,.bool false,.ref s.heap.objs.size,rawInt 0,.none,.none] }) rfl
  rw [hz] at q;exact q
 exact ⟨⟨_,he,rfl⟩,h _ he (Heap.get?_push_of_some _ (Heap.get?_push_size _ fa)) fun b o x=>Heap.get?_push_of_some _ (Heap.get?_push_of_some _ x)⟩
end
def zaU (t:DA):DI:=fun σ O=>(t σ O).bnd fun xs O1=>match xs with
 | [x]=>match zkD x with
  | some (.val ds)=>.ok (.val (z9W ds)) O1
  | _=>.bad
 | _=>.bad
section
variable {X:Cx} {Ex:Nat->Hp->Prop} {pos:Pos} {a b:Expr} {pins:List (Addr × Obj)} {σv:St} {H:Hp} {s:Shared} {hid μ:List Addr} {O:Ow}
theorem zba {es':List Expr} {kt} {pt:Pos} {t:DA} {p:Pos} (hg:Gl X "enumerate") (hm:X.mg "enumerate" = none) (ha:PDA X Ex [a] t) (hs:starEach [a] X.env=[(false,eval a X.env)]:=by rfl):
  PDI X Ex (.Tuple es' kt pt) (.Call (.Name "enumerate" p) [a] [] pos) (zaU t):=by
 refine ⟨?_⟩
 rintro pins s σv H Rr I ⟨hid,μ,σ,O,e1,c1,q⟩
 refine PyProof.Rows.Call_ (z6n I hg hm zcC (PyProof.Rows.callWith_type1 (thn (ha.out pos pins s σv H _ I (rdA.go e1 c1 q (Q1:=fun vs H1=>∃ hid μ1 O1 ds,Cells X.K H1 hid μ1 O1/\Dats X.K H1 hid μ1 ds vs/\
   post Ex X.K (fun H' μ' s J=>SrcAt X.K J s H' hid μ') H1 hid μ1 (match ds with|[x]=>(match zkD x with|some (.val ds)=>.ok (.val (z9W ds)) O1|_=>.bad)|_=>.bad) Rr)
  fun ds O1 vs H1 μ1 e2 x cl d p=>⟨hid,μ1,O1,ds,cl,d,p⟩)) fun us s1 ⟨vs,H1,I1,r1,hid,μ1,O1,ds,cl,d,p⟩=>?_) (by rw [hs];rfl) (by rfl)))
 split at p
 ·rename_i x
  split at p
  ·rename_i ts hz
   obtain ⟨v,rfl,dx⟩:=z42 d
   obtain ⟨u1,rfl,ru1⟩:=z4X r1
   obtain ⟨k1,J1,v1,p1,t1,i1⟩:=zfX I1 cl dx ru1 hz
   rw [<- v1]
   refine za0 k1 p1 fun h' g1 g2 hk=>?_
   refine z7x (s1.heap.objs.size + 1) s1.heap.objs.size _ 0 _ _ _ ⟨_,g1⟩ ?_
   have I2:L2.Inv X pins σv H1 { s1 with heap:=h',toks:=s1.toks }:=I1.kept hk
   obtain ⟨S1,N1,z1⟩:=i1 s1.heap.objs.size
   refine ⟨s1.heap.objs.size + 1,[s1.heap.objs.size + 1,s1.heap.objs.size],_,_,H1,rfl,I2,zcs _ _ (Nat.succ_ne_self _) N1 (z7x _ _),⟨⟨_,g1⟩,z1 _ g2⟩,fun b hb=>?_,post.here p cl (.enum t1)⟩
   have hb':s1.heap.objs.size <= b:=by
    simp only [List.mem_cons,List.not_mem_nil,or_false] at hb
    rcases hb with rfl|rfl <;> omega
   exact I1.fpOk (H':=H1) hb' (I1.hok.fresh hb')
  ·exact False.elim p
 ·exact False.elim p
end
end DL
namespace DL
open PySem
theorem zg5 (t:SetTable) (es:Array (Int × Value)) (h:Int) (x:Value):(layNew t es h x).2.1.led=t.led:=by
 unfold layNew
 split
 ·rename_i slot wd _
  show ((t.put slot).1.orStandIn _).led=_
  unfold SetTable.orStandIn
  split <;> rfl
 ·rfl
theorem zch (t:SetTable) (es:Array (Int × Value)) (n:Nat):(relayAll t es n).2.1.led=t.led/\(t.plain=false->(relayAll t es n).2.1.plain=false):=by
 unfold relayAll
 cases h:t.relaid (es.map (·.1)) n with
 | none=>exact ⟨rfl,fun _=>rfl⟩
 | some p=>
  obtain ⟨t',order⟩:=p
  have hl:t'.led=t.led/\t'.plain=t.plain:=by
   unfold SetTable.relaid SetTable.laid at h
   cases hc:SetTable.layClean (SetTable.sizeAbove n - 1) (es.map (·.1)) with
   | none=>rw [hc] at h;cases h
   | some ow=>rw [hc] at h;cases h;exact ⟨rfl,rfl⟩
  dsimp only
  split
  ·exact ⟨hl.1,fun e=>hl.2.trans e⟩
  ·exact ⟨rfl,fun _=>rfl⟩
def byT (w:World):Bool:=w.params.followText "set-order"
def z5T (e:Int × Value):Str:=match e.2 with
 | .str x _=>x
 | _=>⟨#[]⟩
def SetX (P:Program) (w:World) (a:Addr) (ks:List Str) (h:Heap):Prop:=
 ∃ o es ep t,h.get? a=some o/\o.ExactSet/\o.data=.set es ep t/\ElemsOf (strKind P w) es.toList/\(es.toList.map z5T).Perm ks/\ks.Nodup/\es.size < scanBound/\t.fits es.size=true/\(byT w=false->t.led=true)/\(es.size ≠ 0->t.plain=false)
section
variable {P:Program} {w:World} {A:Around} {E:Value->Shared->Prop} {s:Shared} {a:Addr} {ks:List Str}
theorem SetX.keep {h h':Heap} (k:∀ o,h.get? a=some o->h'.get? a=some o):SetX P w a ks h->SetX P w a ks h':=fun ⟨o,es,ep,t,ho,r⟩=>⟨o,es,ep,t,k o ho,r⟩
theorem SetX.size {h:Heap} (x:SetX P w a ks h):∃ o es ep t,h.get? a=some o/\o.data=.set es ep t/\es.size=ks.length:=by
 obtain ⟨o,es,ep,t,ho,hx,hd,hel,hp,_⟩:=x
 exact ⟨o,es,ep,t,ho,hd,by rw [<- hp.length_eq];simp⟩
theorem z6U {l:List (Int × Value)} (h:ElemsOf (strKind P w) l) {e:Int × Value} (he:e ∈ l):∃ t,e.2=.str (z5T e) t:=by
 obtain ⟨⟨k,hk,_⟩,_⟩:=h e he
 obtain ⟨t,ht⟩:=Value.isStrOf_shape (x:=k) (v:=e.2) hk
 exact ⟨t,by unfold z5T;rw [ht]⟩
theorem zeM {e:Int × Value} {t:Tok} (h:e.2=.str (z5T e) t) (x:Str):(strKind P w).is x e.2=true ↔ z5T e=x:=by
 rw [h]
 constructor
 ·intro q
  obtain ⟨t',e'⟩:=Value.isStrOf_shape (x:=x) (v:=.str (z5T e) t) q
  injection e'
 ·intro q
  rw [q]
  show Value.isStrOf x (.str x t)=true
  simp [Value.isStrOf]
def z8K (ks:List Str) (x:Str):List Str:=if ks.contains x=true then ks else ks ++ [x]
theorem zeb {h:Heap} {o:Obj} {es es':Array (Int × Value)} {ep:Nat} {t t':SetTable} {ks':List Str} (ho:h.get? a=some o) (hx:o.ExactSet) (hd:o.data=.set es ep t) (hel:ElemsOf (strKind P w) es'.toList) (hp:(es'.toList.map z5T).Perm ks') (hn:ks'.Nodup)
  (hb:es'.size < scanBound) (hf:t'.fits es'.size=true) (hl:byT w=false->t'.led=true) (hpl:es'.size ≠ 0->t'.plain=false):SetX P w a ks' (h.update a (Obj.putSet es' t'))/\(h.update a (Obj.putSet es' t')).get? a=some { o with data:=.set es' (ep + 1) t' }:=by
 have g:=Heap.get?_update_self (Obj.putSet es' t') ho (by rw [putSet_of es' t' hd];rfl)
 rw [putSet_of es' t' hd] at g
 exact ⟨⟨_,es',ep + 1,t',g,hx,rfl,hel,hp,hn,hb,hf,hl,hpl⟩,g⟩
theorem zkm {x:Str} {tk:Tok} {Q:Bool->Shared->Prop} (hS:SetX P w a ks s.heap) (hroom:ks.length + 1 < scanBound)
  (h:∀ b h',Heap.SameBut a s.heap h'->SetX P w a (z8K ks x) h'->Q b { s with heap:=h' }):
  wpAny (model P w) A (setAddHashed a (.str x tk) ((strKind P w).hash x)) Q E s:=by
 obtain ⟨o,es,ep,t,ho,hx,hd,hel,hp,hn,hb,hf,hl,hpl⟩:=hS
 have hkey:(strKind P w).is x (.str x tk)=true:=by show Value.isStrOf x (.str x tk)=true;simp [Value.isStrOf]
 have hsz:es.size=ks.length:=by rw [<- hp.length_eq];simp
 unfold setAddHashed setAddHashedIn
 refine wpAny_holding (wpAny_bind (wpAny_setState_of ho hd hf ?_))
 dsimp only
 rw [byScan_of (x:=.str x tk) rfl hb hel,if_pos rfl]
 unfold setAddByScan
 refine wpAny_bind (wpAny_bind (wpAny_rule (wpAny_bind (wpAny_setScan_of hkey ho hd hf hel ?_))))
 cases hr:List.findIdx? (fun e=>(strKind P w).is x e.2) es.toList with
 | some j=>
  dsimp only
  obtain ⟨hj,hpj,_⟩:=List.findIdx?_eq_some_iff_getElem.mp hr
  have hin:x ∈ ks:=by
   obtain ⟨t',ht'⟩:=z6U hel (List.getElem_mem hj)
   have:=(zeM ht' x).mp hpj
   exact hp.mem_iff.mp (List.mem_map.mpr ⟨_,List.getElem_mem hj,this⟩)
  refine wpAny_pure (wpAny_pure ?_)
  have:=h false s.heap (Heap.SameBut.refl a s.heap) (by
   unfold z8K
   rw [if_pos (List.contains_iff_mem.mpr hin)]
   exact ⟨o,es,ep,t,ho,hx,hd,hel,hp,hn,hb,hf,hl,hpl⟩)
  cases s;exact this
 | none=>
  dsimp only
  have hnin:x ∉ ks:=fun hm=>by
   obtain ⟨e,he,ek⟩:=List.mem_map.mp (hp.mem_iff.mpr hm)
   obtain ⟨t',ht'⟩:=z6U hel he
   have:=List.findIdx?_eq_none_iff.mp hr e he
   rw [(zeM ht' x).mpr ek] at this
   cases this
  have ea:z8K ks x=ks ++ [x]:=by unfold z8K;rw [if_neg (fun z=>hnin (List.contains_iff_mem.mp z))]
  have hpm:=layNew_perm t es ((strKind P w).hash x) (.str x tk)
  have hft:=layNew_fits t es ((strKind P w).hash x) (.str x tk)
  have hld:=zg5 t es ((strKind P w).hash x) (.str x tk)
  generalize layNew t es ((strKind P w).hash x) (.str x tk)=L at hpm hft hld ⊢
  obtain ⟨es1,t1,wd,gv⟩:=L
  dsimp only at hpm hft hld ⊢
  rw [Array.toList_push] at hpm
  have hel1:ElemsOf (strKind P w) es1.toList:=(hel.push hkey rfl).perm hpm
  have hp1:(es1.toList.map z5T).Perm (ks ++ [x]):=by
   refine (hpm.map z5T).trans ?_
   rw [List.map_append]
   exact hp.append_right _
  have hn1:(ks ++ [x]).Nodup:=by
   rw [List.nodup_append]
   exact ⟨hn,by simp,fun p hp q hq=>by
    have:q=x:=by simpa using hq
    subst this;rintro rfl;exact hnin hp⟩
  have hs1:es1.size=ks.length + 1:=by rw [<- Array.length_toList,<- List.length_map (f:=z5T),hp1.length_eq];simp
  have hb1:es1.size < scanBound:=by rw [hs1];exact hroom
  have gw:∀ (b:Bool) {s1:Shared} {Q':Unit->Shared->Prop},Q' () s1->wpAny (model P w) A (match b with|true=>rule "set.scan.the-table-gave-way"|false=>pure ()) Q' E s1:=fun b s1 Q' hq=>by
   cases b
   ·exact wpAny_pure hq
   ·exact wpAny_rule hq
  refine wpAny_bind (gw _ ?_)
  have tail:∀ t2:SetTable,t2.led=t.led->t2.plain=false->t2.fits es1.size=true->wpAny (model P w) A (do
    storeSet a es1 t2
    if (!wd && t2.tooFull)=true then do
      (match (relayAll t2 es1 (SetTable.grown es1.size)).2.2 with|true=>rule "set.scan.the-table-gave-way"|false=>pure ())
      storeSet a (relayAll t2 es1 (SetTable.grown es1.size)).1 (relayAll t2 es1 (SetTable.grown es1.size)).2.1
      pure (some true)
     else pure (some true)) (fun r s'=>wpAny (model P w) A (match r with|some added=>(pure added:Sem Bool)|none=>setAddHashedIn a (.str x tk) ((strKind P w).hash x) 99999) Q E s') E s:=by
   intro t2 h1 h2 h3
   obtain ⟨S1,g1⟩:=zeb (P:=P) (w:=w) (ks':=ks ++ [x]) (es':=es1) (t':=t2) ho hx hd hel1 hp1 hn1 hb1 h3 (fun e=>h1.trans (hl e)) (fun _=>h2)
   have sb:=Heap.SameBut.update s.heap a (Obj.putSet es1 t2)
   refine wpAny_bind (wpAny_storeSet_of ho hd ?_ (fits_of_scanBound hb1))
   split
   ·have rp:=relayAll_perm t2 es1 (SetTable.grown es1.size)
    have rf:=relayAll_fits t2 es1 (SetTable.grown es1.size)
    have rl:=zch t2 es1 (SetTable.grown es1.size)
    generalize relayAll t2 es1 (SetTable.grown es1.size)=R at rp rf rl ⊢
    obtain ⟨es2,t3,gv2⟩:=R
    dsimp only at rp rf rl ⊢
    have s2:es2.size=es1.size:=by rw [<- Array.length_toList,rp.length_eq,Array.length_toList]
    have b2:es2.size < scanBound:=by rw [s2];exact hb1
    refine wpAny_bind (gw _ (wpAny_bind (wpAny_storeSet_of g1 rfl ?_ (fits_of_scanBound b2))))
    obtain ⟨S2,_⟩:=zeb (P:=P) (w:=w) (ks':=ks ++ [x]) (es':=es2) (t':=t3) g1 hx rfl (hel1.perm rp) ((rp.map z5T).trans hp1) hn1 b2 rf (fun e=>rl.1.trans (h1.trans (hl e))) (fun _=>rl.2 h2)
    exact wpAny_pure (wpAny_pure (h true _ (sb.trans (Heap.SameBut.update _ a _)) (by rw [ea];exact S2)))
   ·exact wpAny_pure (wpAny_pure (h true _ sb (by rw [ea];exact S1)))
  split
  ·rename_i hpt
   refine wpAny_bind ?_
   rw [hashByValue_scannable 8 (x:=.str x tk) rfl]
   refine wpAny_pure ?_
   exact tail { t1 with plain:=false } hld rfl (SetTable.fits_plain_off hft)
  ·rename_i hpt
   refine wpAny_bind (wpAny_pure ?_)
   rw [if_pos rfl]
   exact tail t1 hld (by simpa using hpt) hft
end
def ded (l:List Str):List Str:=l.foldl z8K []
theorem z9P (l:List Str) (x:Str):ded (l ++ [x])=z8K (ded l) x:=by unfold ded;rw [List.foldl_append];rfl
theorem zd6 (ks:List Str) (x:Str):(z8K ks x).length <= ks.length + 1:=by unfold z8K;split <;> simp
theorem z8U:∀ (l:List Str),(ded l).length <= l.length:=fun l=>by
 have:∀ (l ks:List Str),(l.foldl z8K ks).length <= ks.length + l.length:=by
  intro l
  induction l with
  | nil=>intro ks;exact Nat.le_refl _
  | cons x l ih=>intro ks;refine Nat.le_trans (ih (z8K ks x)) ?_;have:=zd6 ks x;rw [List.length_cons];omega
 have h:=this l []
 simpa [ded] using h
theorem zcY {ks:List Str} {x y:Str}:y ∈ z8K ks x ↔ y ∈ ks \/ y=x:=by
 unfold z8K
 split
 ·rename_i h
  exact ⟨.inl,fun q=>q.elim id fun e=>by rw [e];exact List.contains_iff_mem.mp h⟩
 ·rw [List.mem_append,List.mem_singleton]
theorem z8v {y:Str}:∀ (l:List Str),y ∈ ded l ↔ y ∈ l:=fun l=>by
 have:∀ (l ks:List Str),y ∈ l.foldl z8K ks ↔ y ∈ ks \/ y ∈ l:=by
  intro l
  induction l with
  | nil=>intro ks;simp
  | cons x l ih=>intro ks;rw [List.foldl_cons,ih,zcY,List.mem_cons];exact ⟨fun h=>by rcases h with (h|h)|h <;> simp [h],fun h=>by rcases h with h|h|h <;> simp [h]⟩
 rw [ded,this];simp
section
variable {P:Program} {w:World} {A:Around} {E:Value->Shared->Prop} {s:Shared} {a:Addr} {ks:List Str} {R:Result->Shared->Prop}
theorem zf6 {x:Str} {tk:Tok} {Q:Value->Shared->Prop} (hS:SetX P w a ks s.heap) (hroom:ks.length + 1 < scanBound)
  (h:∀ h',Heap.SameBut a s.heap h'->SetX P w a (z8K ks x) h'->Q .none { s with heap:=h',toks:=s.toks + 1 }):
  wpAny (model P w) A (call (.builtin "set.add") [.ref a,.str x tk]) Q E s:=by
 obtain ⟨o,es,ep,t,ho,hx,r⟩:=id hS
 refine wpAny_call_entry F.slot_set_add ⟨o,ho,hx.1⟩ F.entry_set_add ?_ (F.args_set_add_2 _ _)
 unfold Builtin.«set.add» Builtin.Frozenset.oneOther
 simp only [List.isEmpty_nil,bind_assoc]
 unfold Builtin.Frozenset.addrOf setAdd
 refine wpAny_bind (wpAny_pure (wpAny_bind (wpAny_pure (wpAny_bind (wpAny_holding (wpAny_bind ((strKind P w).pyHash (k:=x) (by show Value.isStrOf x (.str x tk)=true;simp [Value.isStrOf]) ?_)))))))
 refine zkm (s:={ s with toks:=s.toks + 1 }) hS hroom fun b h' sb S'=>?_
 exact wpAny_pure ⟨_,rfl,h h' sb S'⟩
variable {I:Addr} {fp wr:List Addr} {n:Nat} {Pv:Nat->Value->Prop} {St:Nat->Heap->Prop}
theorem zkP (W:Walks P w A.in1 I fp wr n Pv St) (S:Addr) (hSf:S ∉ fp) (vs:List Str) (hl:vs.length=n) (hval:∀ i v,Pv i v->i < n->∃ t,v=.str (vs.getD i ⟨#[]⟩) t) (hb:n + 1 < scanBound):
  ∀ (k i:Nat) (s:Shared),n - i=k->i <= n->St i s.heap->SetX P w S (ded (vs.take i)) s.heap->
   (∀ h' tk,(∀ b o,b ∉ S :: wr->s.heap.get? b=some o->h'.get? b=some o)->SetX P w S (ded vs) h'->R (.ok (.ret .none)) { s with heap:=h',toks:=tk })->
   codeAny (model P w) A (.builtin "set.update.loop" ⟨[.ref S,.ref I],[]⟩) R s:=by
 have hSw:S ∉ wr:=fun h=>hSf (W.sub _ h)
 intro k
 induction k with
 | zero=>
  intro i s hk hi st hS hR
  have e:i=n:=by omega
  subst e
  refine codeAny_builtin PyProof.Rows.F.entry_set_update_loop ?_
  rw [Around.under_plainId PyProof.Rows.F.plain_set_update_loop _]
  show wpAny _ A.in1 (pyNext (.ref I) >>= _) _ _ s
  refine wpAny_bind (W.done s _ _ st fun h' tk hm=>?_)
  refine wpAny_pure (hR h' tk (fun b o hb z=>hm b o (fun q=>hb (List.mem_cons_of_mem _ q)) z) ?_)
  rw [<- hl,List.take_length] at hS
  exact hS.keep fun o z=>hm S o hSw z
 | succ k ih=>
  intro i s hk hi st hS hR
  have hlt:i < n:=by omega
  refine codeAny_builtin PyProof.Rows.F.entry_set_update_loop ?_
  rw [Around.under_plainId PyProof.Rows.F.plain_set_update_loop _]
  show wpAny _ A.in1 (pyNext (.ref I) >>= _) _ _ s
  refine wpAny_bind (W.item i s _ _ hlt st fun v h1 tk1 pv st1 hm=>?_)
  obtain ⟨t,rfl⟩:=hval i v pv hlt
  have S1:SetX P w S (ded (vs.take i)) h1:=hS.keep fun o z=>hm S o hSw z
  show wpAny _ A.in1 (holding [_] (setAdd S _) >>= _) _ _ _
  unfold setAdd
  refine wpAny_bind (wpAny_holding (wpAny_holding (wpAny_bind ((strKind P w).pyHash (k:=vs.getD i ⟨#[]⟩) (by show Value.isStrOf _ (.str _ t)=true;simp [Value.isStrOf]) ?_))))
  refine zkm (s:={ s with heap:=h1,toks:=tk1 + 1 }) S1 (by have:=z8U (vs.take i);rw [List.length_take] at this;omega) fun b h2 sb S2=>?_
  have e2:z8K (ded (vs.take i)) (vs.getD i ⟨#[]⟩)=ded (vs.take (i + 1)):=by
   rw [<- z9P,List.take_succ,List.getD_eq_getElem?_getD,List.getElem?_eq_getElem (by omega)];rfl
  rw [e2] at S2
  refine wpAny_pure ⟨plainId_quiet PyProof.Rows.F.plain_set_update_loop _,ih (i + 1) _ (by omega) hlt (W.frame _ _ _ st1 fun b hb o z=>?_) S2 fun h' tk hk2 S'=>?_⟩
  ·rw [sb.2 b (fun q:b=S=>hSf (by rw [<- q];exact hb))];exact z
  ·refine hR h' tk (fun b o hb z=>hk2 b o hb ?_) S'
   rw [sb.2 b (fun q:b=S=>hb (by rw [q];exact List.mem_cons_self))]
   exact hm b o (fun q=>hb (List.mem_cons_of_mem _ q)) z
end
section
variable {P:Program} {w:World} {A:Around} {E:Value->Shared->Prop} {s:Shared}
abbrev z2R (w:World):Obj:={ cls:=.type "set",dict:=none,data:=.set #[] 0 (.fresh 0 0 (!byT w)) }
theorem zkv (w:World) (h:Heap):SetX P w h.objs.size [] (h.push (z2R w)):=
 ⟨_,#[],0,_,Heap.get?_push_size _ rfl,⟨rfl,rfl,rfl⟩,rfl,fun e he=>by simp at he,by simp,by simp,by decide,by rfl,fun e=>by show (!byT w)=true;rw [e];rfl,fun e=>absurd rfl e⟩
theorem zaN (v:Value) {Q1:Value->Shared->Prop} (h:Q1 (.ref s.heap.objs.size) { s with heap:=s.heap.push (z2R w) }):
  codeAny (model P w) A (.call (.builtin "set.__new__") ⟨[.type "set",v],[]⟩) (wants Q1 E) s:=by
 refine codeAny_of_tree ?_
 show wpAny _ A.in1 (do checkBuiltinCall "set.__new__" ⟨[.type "set",v],[]⟩;again (.builtin "set.__new__" ⟨[.type "set",v],[]⟩)) _ _ s
 refine wpAny_bind (wpAny_of_eq (F.newCall_set_1 v) (wpAny_pure ⟨plainId_quiet F.plain_set_new _,codeAny_builtin F.entry_set_new ?_⟩))
 rw [Around.under_plainId F.plain_set_new _]
 unfold Builtin.«set.__new__» Builtin.Frozenset.newClass
 have hsub:=sub_set_self
 obtain ⟨hp,g,d,tk,os⟩:=s
 dsimp only
 wp_walk
 refine wpAny_askSetting (wpAny_pure ?_)
 dsimp only
 simp only [newObj]
 exact wpAny_bind (wpAny_alloc (wpAny_pure (wpAny_pure h)))
def ZK.ty:ZK->String
 | .tup _ _ => "tuple"
 | .str _ _ => "str"
 | .lst _ _ => "list"
theorem zhC:isSubtype (.type "tuple") (.type "set")=pure false:=by rw [isSubtype_type];kernel_rfl
theorem zin:isSubtype (.type "tuple") (.type "frozenset")=pure false:=by rw [isSubtype_type];kernel_rfl
theorem ZK.typ (q:ZK) (h:q.pre s.heap) (hn:∀ x t,q ≠ .str x t):∃ ob a,q.val=.ref a/\s.heap.get? a=some ob/\ob.cls=.type q.ty:=by
 cases q with
 | tup t items=>obtain ⟨o,e,c,_⟩:=h;exact ⟨o,t,rfl,e,c⟩
 | str x t=>exact absurd rfl (hn x t)
 | lst l items=>obtain ⟨o,e,c,_⟩:=h;exact ⟨o,l,rfl,e,c⟩
def ZK.vals:ZK->Array Value
 | .tup _ its=>its
 | .str _ _=>#[]
 | .lst _ its=>its
theorem ZK.walks (q:ZK) (hh:A.handled=none) (hn:∀ x t,q ≠ .str x t) (I:Addr) {h:Heap} (hp:q.pre h) (hI:h.get? I=some q.obj) (hne:q.val ≠ .ref I):
  ∃ ax St,q.val=.ref ax/\Walks P w A I [I,ax] [I] q.vals.size (fun i v=>q.vals[i]?=some v) St/\St 0 h:=by
 cases q with
 | tup t items=>exact ⟨t,_,rfl,Walks.tuple hh I t (fun e=>hne (by rw [e];rfl)) items,⟨_,hI,rfl,rfl⟩,hp⟩
 | str x t=>exact absurd rfl (hn x t)
 | lst l items=>exact ⟨l,_,rfl,Walks.list hh I l (fun e=>hne (by rw [e];rfl)) items,⟨_,hI,rfl,rfl⟩,hp⟩
set_option maxHeartbeats 4000000 in
theorem zcD (q:ZK) {Q:Value->Shared->Prop} (hh:A.handled=none) (hp:q.pre s.heap) (hn:∀ x t,q ≠ .str x t) (vs:List Str) (hl:vs.length=q.vals.size) (hv:∀ i (v:Value),q.vals[i]?=some v->∃ t:Tok,v=Value.str (vs.getD i ⟨#[]⟩) t) (hb:vs.length + 1 < scanBound)
  (h:∀ h' tk,SetX P w s.heap.objs.size (ded vs) h'->(∀ b o,b < s.heap.objs.size->s.heap.get? b=some o->h'.get? b=some o)->Q (.ref s.heap.objs.size) { s with heap:=h',toks:=tk }):
  wpAny (model P w) A (call (.type "set") [q.val]) Q E s:=by
 obtain ⟨c,tl,hmro⟩:=F.called_set.mro
 have hmade:=F.called_set.made
 have hsub:=F.called_set.sub
 obtain ⟨ob,l,el,hol,hcl⟩:=q.typ hp hn
 rw [el]
 refine wpAny_call (codeAny_of_tree ?_)
 show wpAny _ _ (callAny (.type "set") _) _ _ _
 refine wpAny_pure ⟨Code.quiet_builtin _ (by decide +kernel),codeAny_builtin F.entry_type_call ?_⟩
 rw [Around.under_plain (weight_type_call_type "set" [.ref l] []) rfl]
 have h1:=F.called_set.notType
 have h2:=F.called_set.canCreate
 have hct:=F.typeCall_set_1 (.ref l)
 repeat (any_goals (first|assumption|wp_step))
 refine codeAny_mono (zaN (.ref l) (E:=E) (Q1:=fun obj s1=>obj=.ref s.heap.objs.size/\s1={ s with heap:=s.heap.push (z2R w) }) ⟨rfl,rfl⟩) fun r s1 hr=>?_
 cases r with
 | error e=>exact hr
 | ok fl=>
  cases fl with
  | ret obj=>
   obtain ⟨rfl,rfl⟩:=hr
   have hS:(s.heap.push (z2R w)).get? s.heap.objs.size=some (z2R w):=Heap.get?_push_size _ rfl
   have hT:Shared.TypeIs { s with heap:=s.heap.push (z2R w) } (.ref s.heap.objs.size) "set":=⟨_,hS,rfl⟩
   have hli:=F.called_set.init.lookup
   have hbi:=F.called_set.init.bind (.ref s.heap.objs.size)
   repeat (any_goals (first|assumption|wp_step))
   refine codeAny_mono (codeAny_call_builtin (R:=wants (fun r s2=>r=.none/\∃ h' tk,s2={ s with heap:=h',toks:=tk }/\SetX P w s.heap.objs.size (ded vs) h'/\(∀ b o,b < s.heap.objs.size->s.heap.get? b=some o->h'.get? b=some o)) E) F.called_set.init.plain F.entry_set_init (check_set_init_1 hT ?_)) fun r2 s2 hr2=>?_
   ·obtain ⟨ocls,odict,odata,oslots⟩:=ob
    have hcl:ocls=.type q.ty:=hcl
    subst hcl
    have hol':(s.heap.push (z2R w)).get? l=some { cls:=.type q.ty,dict:=odict,data:=odata,slots:=oslots }:=Heap.get?_push_of_some _ hol
    have hp1:q.pre (s.heap.push (z2R w)):=q.keep (fun b o e=>Heap.get?_push_of_some _ e) hp
    have hlS:l < s.heap.objs.size:=Heap.lt_size hol
    have i1:∀ {B:Around} {E':Value->Shared->Prop} {Q':Value->Shared->Prop} {tk:Nat},Q' (.ref (s.heap.push (z2R w)).objs.size) { s with heap:=(s.heap.push (z2R w)).push q.obj,toks:=tk }->wpAny (model P w) B (pyIter (.ref l)) Q' E' { s with heap:=s.heap.push (z2R w),toks:=tk }:=fun {B E' Q' tk} hq=>by
     rw [<- el];exact q.iter (s:={ s with heap:=s.heap.push (z2R w),toks:=tk }) hp1 hq
    have hs1:isSubtype (.type q.ty) (.type "set")=pure false:=by
     cases q with
     | tup _ _=>exact zhC
     | str x t=>exact absurd rfl (hn x t)
     | lst _ _=>exact F.sub_list_set
    have hs2:isSubtype (.type q.ty) (.type "frozenset")=pure false:=by
     cases q with
     | tup _ _=>exact zin
     | str x t=>exact absurd rfl (hn x t)
     | lst _ _=>exact F.sub_list_frozenset
    have hnd:(Value.type q.ty == Value.type "dict")=false:=by cases q <;> rfl
    unfold Builtin.«set.__init__» noKeywords Builtin.Frozenset.updateFrom
    generalize hPI:pyIter=PI
    wp_walk
    subst hPI
    refine i1 ?_
    refine wpAny_bind (wpAny_runValue ?_)
    have hh3:A.in1.in1.in1.handled=none:=by simp [hh]
    have hsz:(s.heap.push (z2R w)).objs.size=s.heap.objs.size + 1:=Heap.size_push ..
    have fo:q.obj.isFreed=false:=by cases q <;> rfl
    obtain ⟨ax,St,ea,W,st0⟩:=q.walks (P:=P) (w:=w) (A:=A.in1.in1.in1) hh3 hn (s.heap.push (z2R w)).objs.size (h:=(s.heap.push (z2R w)).push q.obj) (q.keep (fun b o e=>Heap.get?_push_of_some _ e) hp1) (Heap.get?_push_size _ fo) (by rw [el,hsz];intro e;injection e with e;exact absurd hlS (by rw [e];exact Nat.not_lt.mpr (Nat.le_succ _)))
    have eax:ax=l:=by rw [el] at ea;injection ea with ea;exact ea.symm
    subst eax
    refine zkP W s.heap.objs.size (by
      rw [hsz]
      simp only [List.mem_cons,List.not_mem_nil,or_false,not_or]
      exact ⟨Nat.ne_of_lt (Nat.lt_succ_self _),Nat.ne_of_gt hlS⟩) vs hl (fun i v e _=>hv i v e) (by rw [<- hl];exact hb) (q.vals.size - 0) 0 _ (by omega) (Nat.zero_le _) st0 ?_ fun h' tk hk S'=>?_
    ·exact (zkv (P:=P) w s.heap).keep fun o e=>Heap.get?_push_of_some _ e
    ·refine wpAny_pure (wpAny_pure ⟨rfl,h',tk,rfl,S',fun b o hb e=>hk b o ?_ (Heap.get?_push_of_some _ (Heap.get?_push_of_some _ e))⟩)
     rw [hsz]
     simp only [List.mem_cons,List.not_mem_nil,or_false,not_or]
     exact ⟨Nat.ne_of_lt hb,Nat.ne_of_lt (Nat.lt_succ_of_lt hb)⟩
   ·cases r2 with
    | error e=>exact hr2
    | ok fl2=>
     cases fl2 with
     | ret r=>
      obtain ⟨rfl,h',tk,rfl,S',hk⟩:=hr2
      repeat (any_goals (first|assumption|wp_step))
      exact h _ _ S' hk
     | _=>exact hr2.elim
  | _=>exact hr.elim
end
theorem zew:Manifest.owners.lookup (String.ofList ['r','o','t','a','r','e','t','i','_','t','e','s'].reverse)=some Manifest.sig_set_iterator:=by kernel_rfl
theorem slot_sn:Slot "set_iterator" "__next__" "set_iterator.__next__":=Slot.of (owner := "set_iterator") (n := "__next__") (by rw [typeLookup_type,builtinLookup_eq_fast];kernel_rfl) (by decide +kernel) (by decide +kernel) (by decide +kernel) (by first|exact .inl (by decide +kernel)|exact .inr (by decide +kernel)) (by rw [isSubtype_type];kernel_rfl)
theorem zbd:Slot "set_iterator" "__iter__" "set_iterator.__iter__":=Slot.of (owner := "set_iterator") (n := "__iter__") (by rw [typeLookup_type,builtinLookup_eq_fast];kernel_rfl) (by decide +kernel) (by decide +kernel) (by decide +kernel) (by first|exact .inl (by decide +kernel)|exact .inr (by decide +kernel)) (by rw [isSubtype_type];kernel_rfl)
theorem zcS:entryFor table "set_iterator.__next__" = some Builtin.«set_iterator.__next__»:=entryFor_of_tree (by kernel_rfl)
theorem zfl (a:Value):argsOk "set_iterator.__next__" ⟨[a],[]⟩:=by
 unfold argsOk
 rw [signature?_of (id := "set_iterator.__next__") (n:=['_','_','t','x','e','n','_','_']) (o:=['r','o','t','a','r','e','t','i','_','t','e','s']) (by kernel_rfl) zew]
 kernel_rfl
theorem zfI (a:Value):argsOk "set_iterator.__iter__" ⟨[a],[]⟩:=by
 unfold argsOk
 rw [signature?_of (id := "set_iterator.__iter__") (n:=['_','_','r','e','t','i','_','_']) (o:=['r','o','t','a','r','e','t','i','_','t','e','s']) (by kernel_rfl) zew]
 kernel_rfl
theorem zcW:entryFor table "set.__iter__" = some Builtin.«frozenset.__iter__»:=entryFor_alias (id' := "frozenset.__iter__") (by kernel_rfl) rfl (by decide +kernel) (by kernel_rfl)
theorem ze9:entryFor table "set_iterator.__iter__" = some Builtin.«dict_keyiterator.__iter__»:=entryFor_alias (id' := "dict_keyiterator.__iter__") (by kernel_rfl) rfl (by decide +kernel) (by kernel_rfl)
theorem z6r {α:Type} {l:List α} {i:Nat} {x:α} (h:l[i]?=some x):(x :: l.eraseIdx i).Perm l:=by
 obtain ⟨hi,e⟩:=List.getElem?_eq_some_iff.mp h
 have q:l.take i ++ x :: l.drop (i + 1)=l:=by rw [<- e,List.getElem_cons_drop hi,List.take_append_drop]
 rw [List.eraseIdx_eq_take_drop_succ]
 exact List.perm_middle.symm.trans (by rw [q])
theorem z7C {α:Type} (next:Nat->Nat):∀ (fuel k:Nat) (left:List α) (out:Array α),left.length=fuel->(pickOrder.go next fuel k left out).toList.Perm (out.toList ++ left)
 | 0,k,left,out,h=>by
  have:left=[]:=List.length_eq_zero_iff.mp h
  subst this
  unfold pickOrder.go
  simp
 | fuel + 1,k,left,out,h=>by
  unfold pickOrder.go
  have hl:next k % left.length < left.length:=Nat.mod_lt _ (by omega)
  rw [List.getElem?_eq_getElem hl]
  dsimp only
  have e:=List.length_eraseIdx_of_lt hl
  refine (z7C next fuel (k + 1) _ _ (by rw [e];omega)).trans ?_
  rw [Array.toList_push,List.append_assoc]
  exact List.Perm.append_left _ (z6r (List.getElem?_eq_getElem hl))
theorem z2I {α:Type} (next:Nat->Nat) (xs:Array α):(pickOrder next xs).toList.Perm xs.toList:=by
 unfold pickOrder
 have:=z7C next xs.size 0 xs.toList #[] (by simp)
 simpa using this
section
variable {P:Program} {w:World} {A:Around} {E:Value->Shared->Prop} {s:Shared} {a:Addr}
theorem zgv {src:Source} {n:Nat} {Q:Nat->Shared->Prop} (hn:n ≠ 0) (h:∀ i d,i < n->Q i { s with drawn:=d }):wpAny (model P w) A (choose src n) Q E s:=
 fun Γ p _=>⟨hn,h _ _ (Nat.mod_lt _ (Nat.pos_of_ne_zero hn))⟩
theorem ziO {α:Type}:∀ (n:Nat) (xs:List α) (s:Shared) (Q:List α->Shared->Prop),xs.length=n->(∀ ys d,ys.Perm xs->Q ys { s with drawn:=d })->wpAny (model P w) A (drawOrder n xs) Q E s
 | 0,xs,s,Q,h,hq=>by
  have:xs=[]:=List.length_eq_zero_iff.mp h
  subst this
  unfold drawOrder
  exact wpAny_pure (by have:=hq [] s.drawn (List.Perm.refl _);cases s;exact this)
 | n + 1,[],s,Q,h,hq=>by simp at h
 | n + 1,x :: xs,s,Q,h,hq=>by
  unfold drawOrder
  refine wpAny_bind (zgv (by simp) fun i d hi=>?_)
  rw [List.getElem?_eq_getElem hi]
  refine wpAny_bind (ziO n _ _ _ (by rw [List.length_eraseIdx_of_lt hi];simpa using h) fun ys d' hp=>wpAny_pure ?_)
  exact hq _ d' ((List.Perm.cons _ hp).trans (z6r (List.getElem?_eq_getElem hi)))
abbrev itO (first:Value) (i:Nat) (a:Addr) (n ep:Nat):Obj:={ cls:=.type "set_iterator",data:=.fields #[first,rawInt i,.ref a,rawInt n,rawInt ep] }
theorem zik {I:Addr} {Q:Option Value->Shared->Prop} (hT:s.TypeIs (.ref I) "set_iterator") (h:wpAny (model P w) A.in1 (Builtin.«set_iterator.__next__» ⟨[.ref I],[]⟩) (fun f s'=>∃ v,f=.done (.ret v)/\Q (some v) s') (fun e s'=>∃ o,e=.ref o/\(∃ ob,s'.heap.get? o=some ob/\ob.cls=.type "StopIteration")/\Q none s') s):
  wpAny (model P w) A (pyNext (.ref I)) Q E s:=by
 unfold pyNext
 refine wpAny_bind (wpAny_attempt (wpAny_callSpecial?_slot (name := "__next__") hT slot_sn (wpAny_call_entry slot_sn hT zcS ?_ (zfl _))))
 refine wpAny_mono h (fun f s' hf=>?_) fun e s' he=>?_
 ·obtain ⟨v,rfl,q⟩:=hf
  exact ⟨v,rfl,wpAny_pure q⟩
 ·obtain ⟨o,rfl,⟨ob,ho,hc⟩,q⟩:=he
  exact wpAny_bind (wpAny_isInstance (T := "StopIteration") (b:=true) ⟨ob,ho,hc⟩ isSubtype_stop (wpAny_pure q))
end
section
variable {P:Program} {w:World} {A:Around} {E:Value->Shared->Prop} {s:Shared} {a:Addr} {o:Obj} {es:Array (Int × Value)} {ep:Nat} {t:SetTable}
theorem z7W {α:Type} {Q:α->Shared->Prop} (hh:A.handled=none) (h:∀ h' e,(∀ b o,s.heap.get? b=some o->h'.get? b=some o)->(∃ o,h'.get? e=some o/\o.cls=.type "StopIteration")->E (.ref e) { s with heap:=h' }):
  wpAny (model P w) A (newExc (.type "StopIteration") [] >>= fun e=>(raiseNew e:Sem α)) Q E s:=by
 refine wpAny_bind ?_
 simp only [newExc,newTuple]
 refine wpAny_bind (wpAny_newObj_type (?_) (by size_fits))
 refine wpAny_bind (m:=firstArgMember _ _) (wpAny_of_eq (a:=.none) (by first|rfl|(simp only [firstArgMember];rfl)) (wpAny_newObj_type ?_ (by size_fits)))
 simp only [raiseNew]
 refine wpAny_bind (wpAny_handled ?_);rw [hh]
 refine wpAny_bind (wpAny_pure (wpAny_throw (h _ _ (fun b o e=>Heap.get?_push_of_some _ (Heap.get?_push_of_some _ e)) ⟨_,Heap.get?_push_size _ rfl,rfl⟩)))
theorem zev {sl i:Nat} {Q:Option (Value × Nat)->Shared->Prop} (ho:s.heap.get? a=some o) (hd:o.data=.set es ep t) (hf:t.fits es.size=true) (hb:byT w=true) (h:Q (((pickOrder (w.params.setOrder a ep) es)[i]?).map fun e=>(e.2,sl)) s):
  wpAny (model P w) A (setNext a sl i ep) Q E s:=by
 have hb':(model P w).w.params.followText "set-order" = true:=hb
 unfold setNext setsByText
 refine wpAny_bind (wpAny_setState_of ho hd hf ?_)
 dsimp only
 refine wpAny_bind (wpAny_bind (wpAny_askSetting (wpAny_pure ?_)))
 rw [hb',if_pos rfl,if_neg (by simp)]
 refine wpAny_bind ?_
 unfold setWalk setsByText
 refine wpAny_bind (wpAny_setState_of ho hd hf ?_)
 dsimp only
 refine wpAny_bind (wpAny_bind (wpAny_askSetting (wpAny_pure ?_)))
 rw [hb',if_pos rfl]
 exact wpAny_bind (wpAny_askSetting (wpAny_pure (wpAny_pure h)))
theorem zcu {sl i:Nat} {Q:Option (Value × Nat)->Shared->Prop} (ho:s.heap.get? a=some o) (hd:o.data=.set es ep t) (hf:t.fits es.size=true) (hb:byT w=false) (hs:es.size <= 1) (hl:t.led=true)
  (h:Q (match es[SetTable.below t.place sl]?,t.place[SetTable.below t.place sl]? with|some (_,x),some j=>some (x,j + 1)|_,_=>none) s):
  wpAny (model P w) A (setNext a sl i ep) Q E s:=by
 have hb':(model P w).w.params.followText "set-order" = false:=hb
 unfold setNext setsByText
 refine wpAny_bind (wpAny_setState_of ho hd hf ?_)
 dsimp only
 refine wpAny_bind (wpAny_bind (wpAny_askSetting (wpAny_pure ?_)))
 rw [hb',if_neg (by simp)]
 show wpAny _ _ (if (!t.plain && decide (es.size > 1))=true then _ else _) _ _ _
 have h1:(!t.plain && decide (es.size > 1))=false:=by
  rw [decide_eq_false (by omega)];simp
 rw [h1,if_neg (by simp)]
 refine wpAny_bind ?_
 show wpAny _ _ (if (!t.led && !es.isEmpty)=true then _ else _) _ _ _
 rw [hl,if_neg (by simp)]
 exact wpAny_pure (wpAny_pure h)
theorem zb7 {pl:Nat} {x:Int × Value} {Q:Value->Shared->Prop} (ho:s.heap.get? a=some o) (hd:o.data=.set es ep t) (hf:t.fits es.size=true) (hx:es[pl]?=some x) (h:Q x.2 s):
  wpAny (model P w) A (setNextDrawn a pl ep) Q E s:=by
 unfold setNextDrawn
 refine wpAny_bind (wpAny_setState_of ho hd hf ?_)
 dsimp only
 rw [if_neg (by simp),hx]
 exact wpAny_pure h
theorem zfa {Q:Bool->Shared->Prop} (ho:s.heap.get? a=some o) (hd:o.data=.set es ep t) (hf:t.fits es.size=true) (hpl:es.size ≠ 0->t.plain=false) (h:Q (!byT w && decide (es.size > 1)) s):wpAny (model P w) A (setDrawn a) Q E s:=by
 unfold setDrawn setsByText
 refine wpAny_bind (wpAny_setState_of ho hd hf ?_)
 dsimp only
 refine wpAny_bind (wpAny_bind (wpAny_askSetting (wpAny_pure (wpAny_pure ?_))))
 have e:(!t.plain && decide (es.size > 1))=decide (es.size > 1):=by
  by_cases q:es.size > 1
  ·rw [hpl (by omega),decide_eq_true q];rfl
  ·rw [decide_eq_false q];simp
 show Q (!byT w && (!t.plain && decide (es.size > 1))) s
 rw [e];exact h
theorem zdJ {I:Addr} {sl i:Nat} {R:Option (Value × Nat)} {Q:Option Value->Shared->Prop} (ho:s.heap.get? a=some o) (hd:o.data=.set es ep t) (hf:t.fits es.size=true) (hI:s.heap.get? I=some (itO (rawInt sl) i a es.size ep)) (hne:a ≠ I) (hh:A.handled=none)
  (hn:∀ (B:Around) (Q':Option (Value × Nat)->Shared->Prop) (E':Value->Shared->Prop),Q' R s->wpAny (model P w) B (setNext a sl i ep) Q' E' s)
  (hq:∀ v j,R=some (v,j)->∀ h',Heap.SameBut I s.heap h'->h'.get? I=some (itO (rawInt j) (i + 1) a es.size ep)->Q (some v) { s with heap:=h' })
  (hz:R=none->∀ h',Heap.ExtBut I s.heap h'->Q none { s with heap:=h' }):wpAny (model P w) A (pyNext (.ref I)) Q E s:=by
 refine zik ⟨_,hI,rfl⟩ ?_
 unfold Builtin.«set_iterator.__next__» slotArgs
 dsimp only
 rw [if_neg (by simp),if_neg (by simp)]
 refine wpAny_bind (wpAny_pure (wpAny_bind (wpAny_fieldsOf hI rfl ?_)))
 show wpAny _ _ (setEntries a >>= _) _ _ _
 refine wpAny_bind (wpAny_setEntries_of ho hd hf ?_)
 rw [if_neg (by simp)]
 show wpAny _ _ (setNext a sl i ep >>= _) _ _ _
 refine wpAny_bind (hn _ _ _ ?_)
 obtain ⟨hp,g,d,tk,os⟩:=s
 cases hR:R with
 | some p=>
  obtain ⟨v,j⟩:=p
  dsimp only
  refine wpAny_bind (wpAny_setField_rec hI (by simp) fun h1 e1 s1=>?_)
  refine wpAny_bind (wpAny_setField_rec e1 (by simp) fun h2 e2 s2=>?_)
  exact wpAny_pure ⟨v,rfl,hq v j hR h2 (s1.trans s2) e2⟩
 | none=>
  dsimp only
  refine wpAny_bind (wpAny_setField_rec hI (by simp) fun h1 e1 s1=>?_)
  refine z7W (by simpa using hh) fun h' e he hc=>⟨e,rfl,hc,hz hR h' fun b ob hb z=>he b ob (s1.extBut b ob hb z)⟩
theorem zhV {I tt:Addr} {i:Nat} {first:Value} {ps:List Nat} {Q:Option Value->Shared->Prop} (ho:s.heap.get? a=some o) (hd:o.data=.set es ep t) (hf:t.fits es.size=true) (hI:s.heap.get? I=some (itO (.ref tt) i a es.size ep)) (ht:s.heap.get? tt=some { cls:=.type "tuple",data:=.seq (ps.map fun (j:Nat)=>rawInt (j:Int)).toArray }) (hh:A.handled=none)
  (hq:∀ j x,ps[i]?=some j->es[j]?=some x->∀ h',Heap.SameBut I s.heap h'->h'.get? I=some (itO (.ref tt) (i + 1) a es.size ep)->Q (some x.2) { s with heap:=h' }) (hin:∀ j,ps[i]?=some j->j < es.size)
  (hz:ps[i]?=none->∀ h',Heap.ExtBut I s.heap h'->Q none { s with heap:=h' }):wpAny (model P w) A (pyNext (.ref I)) Q E s:=by
 refine zik ⟨_,hI,rfl⟩ ?_
 unfold Builtin.«set_iterator.__next__» slotArgs
 dsimp only
 rw [if_neg (by simp),if_neg (by simp)]
 refine wpAny_bind (wpAny_pure (wpAny_bind (wpAny_fieldsOf hI rfl ?_)))
 show wpAny _ _ (setEntries a >>= _) _ _ _
 refine wpAny_bind (wpAny_setEntries_of ho hd hf ?_)
 rw [if_neg (by simp)]
 show wpAny _ _ (seqItems? (.ref tt) >>= _) _ _ _
 refine wpAny_bind (wpAny_seqItems ht rfl ?_)
 obtain ⟨hp,g,d,tk,os⟩:=s
 have e0:((ps.map fun (j:Nat)=>rawInt (j:Int)).toArray)[((i:Int)).toNat]?=(ps[i]?).map fun (j:Nat)=>rawInt (j:Int):=by
  rw [Int.toNat_natCast,List.getElem?_toArray,List.getElem?_map]
 dsimp only
 rw [e0]
 cases hR:ps[i]? with
 | some j=>
  have hj:=hin j hR
  dsimp only [Option.map_some,rawInt]
  refine wpAny_bind (zb7 (pl:=j) (x:=es[j]) ho hd hf (Array.getElem?_eq_getElem hj) ?_)
  refine wpAny_bind (wpAny_setField_rec hI (by simp) fun h1 e1 s1=>?_)
  exact wpAny_pure ⟨_,rfl,hq j _ hR (Array.getElem?_eq_getElem hj) h1 s1 e1⟩
 | none=>
  dsimp only [Option.map_none]
  refine wpAny_bind (wpAny_setField_rec hI (by simp) fun h1 e1 s1=>?_)
  refine wpAny_bind (wpAny_setField_rec e1 (by simp) fun h2 e2 s2=>?_)
  refine z7W (by simpa using hh) fun h' e he hc=>⟨e,rfl,hc,hz hR h' fun b ob hb z=>he b ob (s2.extBut b ob hb (s1.extBut b ob hb z))⟩
end
section
variable {P:Program} {w:World} {A:Around} {E:Value->Shared->Prop} {s:Shared} {a:Addr} {o:Obj} {es:Array (Int × Value)} {ep:Nat} {t:SetTable} {I tt:Addr}
abbrev PvS (os:List Str):Nat->Value->Prop:=fun i v=>∃ tk:Tok,v=.str (os.getD i ⟨#[]⟩) tk
theorem zf7 {Q:Value->Shared->Prop} (h:∃ ob,s.heap.get? I=some ob/\ob.cls=.type "set_iterator") (q:Q (.ref I) s):wpAny (model P w) A (pyIter (.ref I)) Q E s:=by
 have ht:s.TypeIs (.ref I) "set_iterator":=h
 refine wpAny_pyIter_slot ht zbd (wpAny_call_entry zbd ht ze9 ?_ (zfI _))
 unfold Builtin.«dict_keyiterator.__iter__»
 obtain ⟨hp,g,d,tk,os⟩:=s
 wp_walk
 exact ⟨_,rfl, "set_iterator",_,ht,slot_sn.lookup,q⟩
theorem zc2 {l:List (Int × Value)} (hel:ElemsOf (strKind P w) l) {i:Nat} {e:Int × Value} (h:l[i]?=some e):PvS (l.map z5T) i e.2:=by
 obtain ⟨tk,ht⟩:=z6U hel (List.mem_of_getElem? h)
 refine ⟨tk,?_⟩
 rw [List.getD_eq_getElem?_getD,List.getElem?_map,h]
 exact ht
theorem zfV (hd:o.data=.set es ep t) (hf:t.fits es.size=true) (hel:ElemsOf (strKind P w) es.toList) (hb:byT w=true) (hh:A.handled=none) (hne:a ≠ I):
  Walks P w A I [I,a] [I] es.size (PvS ((pickOrder (w.params.setOrder a ep) es).toList.map z5T)) (fun i h=>(∃ sl:Nat,h.get? I=some (itO (rawInt sl) i a es.size ep))/\h.get? a=some o) where
 sub:=fun b hb=>by simp at hb;simp [hb]
 frame:=fun i h h' st hk=>⟨let ⟨sl,e⟩:=st.1;⟨sl,hk I (by simp) _ e⟩,hk a (by simp) _ st.2⟩
 item:=fun i s Q E hi st hq=>by
  obtain ⟨⟨sl,hI⟩,ho⟩:=st
  have hpm:=z2I (w.params.setOrder a ep) es
  have hsz:(pickOrder (w.params.setOrder a ep) es).size=es.size:=by rw [<- Array.length_toList,hpm.length_eq,Array.length_toList]
  have hi':i < (pickOrder (w.params.setOrder a ep) es).size:=by omega
  refine zdJ (R:=some ((pickOrder (w.params.setOrder a ep) es)[i].2,sl)) ho hd hf hI hne hh (fun B Q' E' h=>zev ho hd hf hb (by rw [Array.getElem?_eq_getElem hi'];exact h)) (fun v j e h' sb e'=>?_) fun e=>by cases e
  cases e
  refine hq _ h' s.toks (zc2 (hel.perm hpm) (by rw [Array.getElem?_toList];exact Array.getElem?_eq_getElem hi')) ⟨⟨_,e'⟩,?_⟩ fun b ob hb z=>?_
  ·rw [sb.2 a hne];exact ho
  ·rw [sb.2 b (by simpa using hb)];exact z
 done:=fun s Q E st hq=>by
  obtain ⟨⟨sl,hI⟩,ho⟩:=st
  have hpm:=z2I (w.params.setOrder a ep) es
  have hsz:(pickOrder (w.params.setOrder a ep) es).size=es.size:=by rw [<- Array.length_toList,hpm.length_eq,Array.length_toList]
  refine zdJ (R:=none) ho hd hf hI hne hh (fun B Q' E' h=>zev ho hd hf hb (by rw [Array.getElem?_eq_none (by omega)];exact h)) (fun v j e=>by cases e) fun _ h' eb=>hq h' s.toks fun b ob hb z=>eb b ob (by simpa using hb) z
 self:=fun i s Q E st hq=>zf7 (let ⟨⟨sl,e⟩,_⟩:=st;⟨_,e,rfl⟩) hq
theorem zgB (hd:o.data=.set es ep t) (hf:t.fits es.size=true) (hel:ElemsOf (strKind P w) es.toList) (hh:A.handled=none) (hne:a ≠ I) (hnt:tt ≠ I) {ps:List Nat} (hps:ps.Perm (List.range es.size)):
  Walks P w A I [I,a,tt] [I] es.size (PvS ((ps.filterMap fun j=>es[j]?).map z5T)) (fun i h=>h.get? I=some (itO (.ref tt) i a es.size ep)/\h.get? a=some o/\h.get? tt=some { cls:=.type "tuple",data:=.seq (ps.map fun (j:Nat)=>rawInt (j:Int)).toArray }) where
 sub:=fun b hb=>by simp at hb;simp [hb]
 frame:=fun i h h' st hk=>⟨hk I (by simp) _ st.1,hk a (by simp) _ st.2.1,hk tt (by simp) _ st.2.2⟩
 item:=fun i s Q E hi st hq=>by
  obtain ⟨hI,ho,ht⟩:=st
  have hlen:ps.length=es.size:=by rw [hps.length_eq];simp
  have hin:∀ j ∈ ps,j < es.size:=fun j hj=>List.mem_range.mp (hps.mem_iff.mp hj)
  refine zhV (first:=.ref tt) ho hd hf hI ht hh (fun j x e1 e2 h' sb e'=>?_) (fun j e=>hin j (List.mem_of_getElem? e)) fun e=>absurd (List.getElem?_eq_none_iff.mp e) (by omega)
  have hfm:∀ (l:List Nat),(∀ j ∈ l,j < es.size)->(l.filterMap fun j=>es[j]?)=l.map fun j=>es.getD j default:=by
   intro l
   induction l with
   | nil=>intro _;rfl
   | cons q l ih=>
    intro h
    have hq':=h q List.mem_cons_self
    rw [List.filterMap_cons,Array.getElem?_eq_getElem hq',ih fun j hj=>h j (List.mem_cons_of_mem _ hj),List.map_cons]
    simp [Array.getD,hq']
  have hx:(ps.filterMap fun j=>es[j]?)[i]?=some x:=by
   rw [hfm ps hin,List.getElem?_map,e1]
   have hj:=hin j (List.mem_of_getElem? e1)
   rw [Array.getElem?_eq_getElem hj] at e2
   have:es[j]=x:=Option.some.inj e2
   simp [Array.getD,hj,this]
  have hel':ElemsOf (strKind P w) (ps.filterMap fun j=>es[j]?):=fun e he=>by
   obtain ⟨j,_,hj⟩:=List.mem_filterMap.mp he
   exact hel e (by rw [<- Array.getElem?_toList] at hj;exact List.mem_of_getElem? hj)
  refine hq _ h' s.toks (zc2 hel' hx) ⟨e',?_,?_⟩ fun b ob hb z=>?_
  ·rw [sb.2 a hne];exact ho
  ·rw [sb.2 tt hnt];exact ht
  ·rw [sb.2 b (by simpa using hb)];exact z
 done:=fun s Q E st hq=>by
  obtain ⟨hI,ho,ht⟩:=st
  have hlen:ps.length=es.size:=by rw [hps.length_eq];simp
  have hn:ps[es.size]?=none:=List.getElem?_eq_none_iff.mpr (by omega)
  exact zhV (first:=.ref tt) ho hd hf hI ht hh (fun j x e1=>by rw [hn] at e1;cases e1) (fun j e=>by rw [hn] at e;cases e) fun _ h' eb=>hq h' s.toks fun b ob hb z=>eb b ob (by simpa using hb) z
 self:=fun i s Q E st hq=>zf7 ⟨_,st.1,rfl⟩ hq
theorem zfB (xs:Array Nat) (h:xs.size <= 1):SetTable.below xs 0=0:=by
 unfold SetTable.below
 have:xs.size=0 \/ xs.size=1:=by omega
 rcases this with e|e
 ·rw [e];rfl
 ·rw [e]
  unfold SetTable.below.go
  rw [if_pos (by omega)]
  dsimp only
  rw [if_neg (by simp)]
  unfold SetTable.below.go
  rfl
theorem zgn (xs:Array Nat) (p:Nat) (h:xs.size=1) (hp:xs[0]?=some p):SetTable.below xs (p + 1)=1:=by
 unfold SetTable.below
 rw [h]
 unfold SetTable.below.go
 rw [if_pos (by omega)]
 dsimp only
 have e:xs.getD ((0 + 1) / 2) (p + 1)=p:=by
  show xs.getD 0 (p + 1)=p
  rw [Array.getD_eq_getD_getElem?,hp];rfl
 rw [e,if_pos (by omega)]
 unfold SetTable.below.go
 rfl
theorem zd8 (hd:o.data=.set es ep t) (hf:t.fits es.size=true) (hel:ElemsOf (strKind P w) es.toList) (hb:byT w=false) (hs:es.size <= 1) (hl:t.led=true) (hh:A.handled=none) (hne:a ≠ I):
  Walks P w A I [I,a] [I] es.size (PvS (es.toList.map z5T)) (fun i h=>(∃ sl:Nat,h.get? I=some (itO (rawInt sl) i a es.size ep)/\SetTable.below t.place sl=i)/\h.get? a=some o) where
 sub:=fun b hb=>by simp at hb;simp [hb]
 frame:=fun i h h' st hk=>⟨let ⟨sl,e,q⟩:=st.1;⟨sl,hk I (by simp) _ e,q⟩,hk a (by simp) _ st.2⟩
 item:=fun i s Q E hi st hq=>by
  obtain ⟨⟨sl,hI,hbl⟩,ho⟩:=st
  have hpz:t.place.size=es.size:=by simp only [SetTable.fits,Bool.and_eq_true,beq_iff_eq] at hf;exact hf.1
  have h1:es.size=1:=by omega
  have h0:i=0:=by omega
  subst h0
  have hp1:t.place.size=1:=by omega
  refine zdJ (R:=some (es[0].2,t.place[0] + 1)) ho hd hf hI hne hh (fun B Q' E' h=>zcu ho hd hf hb hs hl (by rw [hbl,Array.getElem?_eq_getElem hi,Array.getElem?_eq_getElem (by omega)];exact h)) (fun v j e h' sb e'=>?_) fun e=>by cases e
  cases e
  refine hq _ h' s.toks (zc2 hel (by rw [Array.getElem?_toList];exact Array.getElem?_eq_getElem hi)) ⟨⟨_,e',zgn _ _ hp1 (Array.getElem?_eq_getElem _)⟩,?_⟩ fun b ob hb z=>?_
  ·rw [sb.2 a hne];exact ho
  ·rw [sb.2 b (by simpa using hb)];exact z
 done:=fun s Q E st hq=>by
  obtain ⟨⟨sl,hI,hbl⟩,ho⟩:=st
  refine zdJ (R:=none) ho hd hf hI hne hh (fun B Q' E' h=>zcu ho hd hf hb hs hl (by rw [hbl,Array.getElem?_eq_none (Nat.le_refl _)];exact h)) (fun v j e=>by cases e) fun _ h' eb=>hq h' s.toks fun b ob hb z=>eb b ob (by simpa using hb) z
 self:=fun i s Q E st hq=>zf7 (let ⟨⟨sl,e,_⟩,_⟩:=st;⟨_,e,rfl⟩) hq
end
section
variable {P:Program} {w:World} {A:Around} {E:Value->Shared->Prop} {s:Shared} {a:Addr} {ks:List Str}
theorem zet (es:Array (Int × Value)):∀ (l:List Nat),(∀ j ∈ l,j < es.size)->(l.filterMap fun j=>es[j]?).length=l.length
 | [],_=>rfl
 | q :: l,h=>by
  rw [List.filterMap_cons,Array.getElem?_eq_getElem (h q List.mem_cons_self)]
  show (_ :: _).length=_
  rw [List.length_cons,List.length_cons,zet es l fun j hj=>h j (List.mem_cons_of_mem _ hj)]
structure ItX (P:Program) (w:World) (a:Addr) (ks:List Str) (s:Shared) (I:Addr) (s1:Shared):Prop where
 ex:∃ (os:List Str) (fp:List Addr) (St:Nat->Heap->Prop),os.Perm ks/\I ∈ fp/\(∀ b ∈ fp,b < s1.heap.objs.size)/\(∀ b ∈ fp,b=a \/ s.heap.objs.size <= b)/\(∀ B:Around,B.handled=none->Walks P w B I fp [I] os.length (PvS os) St)/\St 0 s1.heap
 keep:∀ b o,s.heap.get? b=some o->s1.heap.get? b=some o
 ty:∃ ob,s1.heap.get? I=some ob/\ob.cls=.type "set_iterator"
 new:s.heap.objs.size <= I
 gens:s1.gens=s.gens
 os:s1.os=s.os
theorem zjH {Q:Value->Shared->Prop} (hS:SetX P w a ks s.heap) (h:∀ I s1,ItX P w a ks s I s1->Q (.ref I) s1):wpAny (model P w) A (pyIter (.ref a)) Q E s:=by
 obtain ⟨o,es,ep,t,ho,hx,hd,hel,hp,hn,hb,hf,hl,hpl⟩:=hS
 have hT:s.TypeIs (.ref a) "set":=⟨o,ho,hx.1⟩
 have hsz:es.size=ks.length:=by rw [<- hp.length_eq];simp
 have halt:a < s.heap.objs.size:=Heap.lt_size ho
 refine wpAny_pyIter_slot hT F.slot_set_iter (wpAny_call_entry F.slot_set_iter hT zcW ?_ (F.args_set_iter_1 _))
 unfold Builtin.«frozenset.__iter__» Builtin.Frozenset.slot0 slotArgs
 simp only [List.isEmpty_nil,Bool.not_true,Bool.false_eq_true,↓reduceIte,bind_assoc,List.length_nil,bne_self_eq_false]
 unfold Builtin.Frozenset.addrOf Builtin.Frozenset.sizeOf
 refine wpAny_bind (wpAny_pure (wpAny_bind (wpAny_pure (wpAny_bind (wpAny_bind (wpAny_setEntries_of ho hd hf (wpAny_pure ?_)))))))
 refine wpAny_bind (zfa ho hd hf hpl ?_)
 have fin:∀ (first:Value) (h1:Heap) (d:Drawn),(∀ b ob,s.heap.get? b=some ob->h1.get? b=some ob)->s.heap.objs.size <= h1.objs.size->
   (∃ (os:List Str) (fp:List Addr) (St:Nat->Heap->Prop),os.Perm ks/\h1.objs.size ∈ fp/\(∀ b ∈ fp,b < h1.objs.size + 1)/\(∀ b ∈ fp,b=a \/ s.heap.objs.size <= b)/\(∀ B:Around,B.handled=none->Walks P w B h1.objs.size fp [h1.objs.size] os.length (PvS os) St)/\St 0 (h1.push (itO first 0 a es.size ep)))->
   wpAny (model P w) A.in1 (setEpoch a >>= fun e=>newFields "set_iterator" [first,rawInt 0,.ref a,rawInt es.size,rawInt e] >>= fun v=>ret v) (fun f s'=>∃ r,f=.done (.ret r)/\∃ T' r',s'.TypeIs r T'/\typeLookup (.type T') "__next__" = pure (some r')/\Q r s') E { s with heap:=h1,drawn:=d }:=by
  intro first h1 d hk hz ⟨os,fp,St,p1,p2,p3,p6,p4,p5⟩
  refine wpAny_bind (wpAny_setEpoch_of (hk a o ho) hd hf ?_)
  unfold newFields
  refine wpAny_bind (wpAny_newObj_type ?_ (by size_fits))
  have g:(h1.push (itO first 0 a es.size ep)).get? h1.objs.size=some (itO first 0 a es.size ep):=Heap.get?_push_size _ rfl
  refine wpAny_pure ⟨_,rfl, "set_iterator",_,⟨_,g,rfl⟩,slot_sn.lookup,h _ _ ⟨⟨os,fp,St,p1,p2,fun b hb=>?_,p6,p4,p5⟩,fun b ob e=>Heap.get?_push_of_some _ (hk b ob e),⟨_,g,rfl⟩,hz,rfl,rfl⟩⟩
  rw [Heap.size_push];exact p3 b hb
 cases hdr:(!byT w && decide (es.size > 1)) with
 | true=>
  rw [if_pos rfl]
  refine wpAny_bind (ziO es.size (List.range es.size) _ _ (by simp) fun ps d hps=>wpAny_bind (wpAny_newTuple ?_ ?_))
  ·have hsz1:(s.heap.push { cls:=.type "tuple",data:=.seq (ps.map fun (j:Nat)=>rawInt (j:Int)).toArray }).objs.size=s.heap.objs.size + 1:=Heap.size_push ..
   refine fin (.ref s.heap.objs.size) _ d (fun b ob e=>Heap.get?_push_of_some _ e) (by rw [hsz1];exact Nat.le_succ _) ?_
   refine ⟨(ps.filterMap fun j=>es[j]?).map z5T,[(s.heap.push { cls:=.type "tuple",data:=.seq (ps.map fun (j:Nat)=>rawInt (j:Int)).toArray }).objs.size,a,s.heap.objs.size],(fun i h=>h.get? (s.heap.push { cls:=.type "tuple",data:=.seq (ps.map fun (j:Nat)=>rawInt (j:Int)).toArray }).objs.size=some (itO (.ref s.heap.objs.size) i a es.size ep)/\h.get? a=some o/\h.get? s.heap.objs.size=some { cls:=.type "tuple",data:=.seq (ps.map fun (j:Nat)=>rawInt (j:Int)).toArray }),?_,by simp,?_,?_,fun B hB=>?_,Heap.get?_push_size _ rfl,Heap.get?_push_of_some _ (Heap.get?_push_of_some _ ho),Heap.get?_push_of_some _ (Heap.get?_push_size _ rfl)⟩
   ·refine (List.Perm.map z5T ?_).trans hp
    have e1:(List.range es.size).filterMap (fun j=>es[j]?)=es.toList:=by
     apply List.ext_getElem?
     intro i
     have hfm:∀ n,n <= es.size->(List.range n).filterMap (fun j=>es[j]?)=es.toList.take n:=by
      intro n
      induction n with
      | zero=>intro _;simp
      | succ n ih=>
       intro hn'
       rw [List.range_succ,List.filterMap_append,ih (by omega),List.filterMap_cons,List.filterMap_nil,Array.getElem?_eq_getElem (by omega),List.take_succ,Array.getElem?_toList,Array.getElem?_eq_getElem (by omega)]
       rfl
     rw [hfm es.size (Nat.le_refl _),List.take_of_length_le (by simp)]
    rw [<- e1]
    exact hps.filterMap _
   ·intro b hb
    rw [hsz1] at hb ⊢
    simp only [List.mem_cons,List.not_mem_nil,or_false] at hb
    rcases hb with rfl|rfl|rfl
    ·exact Nat.lt_succ_self _
    ·exact Nat.lt_succ_of_lt (Nat.lt_succ_of_lt halt)
    ·exact Nat.lt_succ_of_lt (Nat.lt_succ_self _)
   ·intro b hb
    rw [hsz1] at hb
    simp only [List.mem_cons,List.not_mem_nil,or_false] at hb
    rcases hb with rfl|rfl|rfl
    ·exact .inr (Nat.le_succ _)
    ·exact .inl rfl
    ·exact .inr (Nat.le_refl _)
   ·have hlen:((ps.filterMap fun j=>es[j]?).map z5T).length=es.size:=by
     have e0:=zet es ps fun j hj=>List.mem_range.mp (hps.mem_iff.mp hj)
     rw [List.length_map,e0,hps.length_eq];simp
    rw [hlen]
    exact zgB hd hf hel hB (by rw [hsz1];exact Nat.ne_of_lt (Nat.lt_succ_of_lt halt)) (by rw [hsz1];exact Nat.ne_of_lt (Nat.lt_succ_self _)) hps
  ·rw [List.length_map,hps.length_eq,List.length_range];exact fits_of_scanBound hb
 | false=>
  rw [if_neg (by simp)]
  have this:=fin (rawInt 0) s.heap s.drawn (fun b ob e=>e) (Nat.le_refl _)
  have e0:({ s with heap:=s.heap,drawn:=s.drawn }:Shared)=s:=by cases s;rfl
  rw [e0] at this
  refine this ?_
  by_cases hbt:byT w=true
  ·refine ⟨(pickOrder (w.params.setOrder a ep) es).toList.map z5T,[s.heap.objs.size,a],(fun i h=>(∃ sl:Nat,h.get? s.heap.objs.size=some (itO (rawInt sl) i a es.size ep))/\h.get? a=some o),((z2I _ es).map z5T).trans hp,by simp,?_,?_,fun B hB=>?_,⟨0,Heap.get?_push_size _ rfl⟩,Heap.get?_push_of_some _ ho⟩
   ·intro b hb
    simp only [List.mem_cons,List.not_mem_nil,or_false] at hb
    rcases hb with rfl|rfl
    ·exact Nat.lt_succ_self _
    ·exact Nat.lt_succ_of_lt halt
   ·intro b hb
    simp only [List.mem_cons,List.not_mem_nil,or_false] at hb
    rcases hb with rfl|rfl
    ·exact .inr (Nat.le_refl _)
    ·exact .inl rfl
   ·have hlen:((pickOrder (w.params.setOrder a ep) es).toList.map z5T).length=es.size:=by rw [List.length_map,(z2I _ es).length_eq];simp
    rw [hlen]
    exact zfV hd hf hel hbt hB (Nat.ne_of_lt halt)
  ·have hbt:byT w=false:=by simpa using hbt
   have h1:es.size <= 1:=by
    rw [hbt] at hdr
    simp at hdr;exact hdr
   have hpz:t.place.size=es.size:=by simp only [SetTable.fits,Bool.and_eq_true,beq_iff_eq] at hf;exact hf.1
   refine ⟨es.toList.map z5T,[s.heap.objs.size,a],(fun i h=>(∃ sl:Nat,h.get? s.heap.objs.size=some (itO (rawInt sl) i a es.size ep)/\SetTable.below t.place sl=i)/\h.get? a=some o),hp,by simp,?_,?_,fun B hB=>?_,⟨0,Heap.get?_push_size _ rfl,zfB _ (by omega)⟩,Heap.get?_push_of_some _ ho⟩
   ·intro b hb
    simp only [List.mem_cons,List.not_mem_nil,or_false] at hb
    rcases hb with rfl|rfl
    ·exact Nat.lt_succ_self _
    ·exact Nat.lt_succ_of_lt halt
   ·intro b hb
    simp only [List.mem_cons,List.not_mem_nil,or_false] at hb
    rcases hb with rfl|rfl
    ·exact .inr (Nat.le_refl _)
    ·exact .inl rfl
   ·have hlen:(es.toList.map z5T).length=es.size:=by simp
    rw [hlen]
    exact zd8 hd hf hel hbt h1 (hl hbt) hB (Nat.ne_of_lt halt)
end
section
variable {P:Program} {w:World} {A:Around} {E:Value->Shared->Prop} {s:Shared} {a:Addr} {ks:List Str}
theorem zjQ {Q:Bool->Shared->Prop} (hT:s.TypeIs (.ref a) "set") (h:Q false s):wpAny (model P w) A (Builtin.List.listLengthHint (.ref a)) Q E s:=by
 unfold Builtin.List.listLengthHint
 refine wpAny_bind (wpAny_specialOf hT F.slot_set_len.lookup ?_)
 have hsp:splitId "set.__len__" = some ("set", "__len__"):=by kernel_rfl
 have hss:=sub_set_self
 obtain ⟨hp,g,d,tk,os⟩:=s
 dsimp only
 rw [hsp]
 dsimp only
 refine wpAny_bind (wpAny_isInstance hT hss ?_)
 rw [if_neg (by simp),if_pos (by kernel_rfl)]
 exact wpAny_bind (wpAny_typeOf hT (wpAny_pure h))
theorem z4E:∀ (os:List Str) (vs:List Value),vs.length=os.length->(∀ j v,vs[j]?=some v->PvS os j v)->PyProof.Rows.StrsAre vs os
 | [],[],_,_=>.nil
 | [],_ :: _,h,_=>by simp at h
 | _ :: _,[],h,_=>by simp at h
 | x :: os,v :: vs,h,q=>by
  obtain ⟨tk,e⟩:=q 0 v rfl
  have e:v=.str x tk:=e
  subst e
  exact .cons x tk (z4E os vs (by simpa using h) fun j u z=>by
   obtain ⟨t',e'⟩:=q (j + 1) u (by simpa using z)
   exact ⟨t',by simpa [List.getD] using e'⟩)
theorem zdQ {Q:List Value->Shared->Prop} (hh:A.handled=none) (hS:SetX P w a ks s.heap) (hn:ks.length <= 1000)
  (h:∀ (vs:List Value) (os:List Str) s1,os.Perm ks->PyProof.Rows.StrsAre vs os->s.heap.objs.size <= s1.heap.objs.size->(∀ b o,s.heap.get? b=some o->s1.heap.get? b=some o)->s1.gens=s.gens->s1.os=s.os->Q vs s1):
  wpAny (model P w) A (collect (.ref a)) Q E s:=by
 obtain ⟨o,es,ep,t,ho,hx,r⟩:=id hS
 have hT:s.TypeIs (.ref a) "set":=⟨o,ho,hx.1⟩
 have halt:a < s.heap.objs.size:=Heap.lt_size ho
 unfold collect
 refine wpAny_bind (wpAny_runValue (codeAny_builtin F.entry_proto_collect ?_))
 rw [Around.under_plainId F.plain_proto_collect _]
 show wpAny _ A.in1 (newList [] >>= fun l=>again (.builtin "list.__iadd__" ⟨[l,.ref a],[]⟩)) _ _ s
 refine wpAny_bind (wpAny_newObj_type (wpAny_pure ⟨plainId_quiet F.plain_list_iadd _,codeAny_builtin F.entry_list_iadd ?_⟩))
 rw [Around.under_plainId F.plain_list_iadd _]
 have g0:(s.heap.push { cls:=.type "list",data:=.seq ([]:List Value).toArray }).get? s.heap.objs.size=some { cls:=.type "list",data:=.seq ([]:List Value).toArray }:=Heap.get?_push_size _ rfl
 have S0:SetX P w a ks (s.heap.push { cls:=.type "list",data:=.seq ([]:List Value).toArray }):=hS.keep fun o e=>Heap.get?_push_of_some _ e
 have T0:Shared.TypeIs { s with heap:=s.heap.push { cls:=.type "list",data:=.seq ([]:List Value).toArray } } (.ref a) "set":=⟨o,Heap.get?_push_of_some _ ho,hx.1⟩
 show wpAny _ A.in1 (Builtin.List.listExtendWith (.ref s.heap.objs.size) (.ref a) (.ref s.heap.objs.size)) _ _ _
 unfold Builtin.List.listExtendWith
 refine wpAny_bind (wpAny_typeOf T0 ?_)
 have h1:Builtin.List.listSameRef (.ref s.heap.objs.size) (.ref a)=false:=by simp [Builtin.List.listSameRef,Nat.ne_of_gt halt]
 rw [if_neg (by rw [h1];decide)]
 refine wpAny_bind (zjH (s:={ s with heap:=s.heap.push { cls:=.type "list",data:=.seq ([]:List Value).toArray } }) S0 fun I s1 X=>?_)
 obtain ⟨⟨os,fp,St,p1,p2,p3,p6,p4,p5⟩,kp,ty,nw,gn,oo⟩:=X
 refine wpAny_bind (wpAny_holding (zjQ ⟨o,kp a o (Heap.get?_push_of_some _ ho),hx.1⟩ ?_))
 rw [if_pos (by kernel_rfl)]
 refine wpAny_bind (wpAny_rule ?_)
 refine wpAny_bind ?_
 obtain ⟨hp,g,d,tk,oss⟩:=s1
 have gS:hp.get? s.heap.objs.size=some { cls:=.type "list",data:=.seq ([]:List Value).toArray }:=kp _ _ g0
 show wpAny _ A.in1 (updateSeq s.heap.objs.size (·.push .none) >>= fun _=>updateSeq s.heap.objs.size (·.pop)) _ _ _
 refine wpAny_bind (wpAny_updateSeq gS rfl ?_)
 have g2:=Heap.get?_update_self (Obj.mapSeq (·.push Value.none)) gS rfl
 refine wpAny_updateSeq g2 rfl ?_
 have g3:=Heap.get?_update_self (Obj.mapSeq (·.pop)) g2 rfl
 have hz1:(Shared.heap { s with heap:=s.heap.push { cls:=.type "list",data:=.seq ([]:List Value).toArray } }).objs.size=s.heap.objs.size + 1:=Heap.size_push ..
 have hSf:s.heap.objs.size ∉ fp:=fun m=>by
  rcases p6 _ m with e|e
  ·exact Nat.lt_irrefl _ (e ▸ halt)
  ·rw [hz1] at e;exact Nat.not_succ_le_self _ e
 have W:=(p4 A.in1 (by simpa using hh)).toS
 have oth:∀ b ob,b ≠ s.heap.objs.size->hp.get? b=some ob->((hp.update s.heap.objs.size (Obj.mapSeq (·.push Value.none))).update s.heap.objs.size (Obj.mapSeq (·.pop))).get? b=some ob:=
  fun b ob hb e=>(Heap.get?_update_other _ _ (Ne.symm hb)).trans ((Heap.get?_update_other _ _ (Ne.symm hb)).trans e)
 refine wpAny_pure ⟨plainId_quiet F.plain_extend_loop _,codeAny_extend_loopS W (Nat.le_trans (by rw [p1.length_eq];exact hn) (by decide)) _ hSf _ os.length 0 _ _ _ rfl (Nat.zero_le _) ((p4 A.in1 (by simpa using hh)).frame 0 hp _ p5 fun b hb ob e=>oth b ob (fun q=>hSf (q ▸ hb)) e) g3 (ItemsOf.nil _) fun s' acc c' hm hS' hacc=>?_⟩
 show wpAny _ A (load s.heap.objs.size >>= _) _ _ s'
 refine wpAny_bind (wpAny_load hS' (wpAny_pure ?_))
 have hst:PyProof.Rows.StrsAre acc.toList os:=z4E os acc.toList (by simpa using hacc.1) fun j v e=>hacc.2 j v (by rw [<- Array.getElem?_toList];exact e)
 refine h acc.toList os s' p1 hst (Nat.le_of_lt (Heap.lt_size hS')) (fun b ob e=>hm.heap b ob ?_ (oth b ob ?_ (kp b ob (Heap.get?_push_of_some _ e)))) (hm.gens.trans gn) (hm.os.trans oo)
 ·simp only [List.mem_cons,List.not_mem_nil,or_false,not_or]
  refine ⟨fun q=>absurd (Heap.lt_size e) (by rw [q];exact Nat.lt_irrefl _),fun q=>?_⟩
  have hb:=Heap.lt_size e
  rw [hz1] at nw
  exact absurd (Nat.lt_of_lt_of_le hb (Nat.le_of_succ_le nw)) (by rw [q];exact Nat.lt_irrefl _)
 ·exact fun q=>absurd (Heap.lt_size e) (by rw [q];exact Nat.lt_irrefl _)
end
end DL
namespace DL
open PySem PyProof.Rows
section
variable {P:Program} {w:World} {A:Around} {E:Value->Shared->Prop} {s:Shared} {a:Addr} {ks:List Str}
theorem zgl {Q:Value->Shared->Prop} (hh:A.handled=none) (hS:SetX P w a ks s.heap) (hn:ks.length < 64)
  (h:∀ (out:Array Value) (os:List Str) l s1 c,os.Perm ks->sortedS os=true->StrsAre out.toList os->s.heap.objs.size <= l->s1.heap.get? l=some { cls:=.type "list",data:=.seq out c }->(∀ b o,s.heap.get? b=some o->s1.heap.get? b=some o)->s1.gens=s.gens->s1.os=s.os->Q (.ref l) s1):
  wpAny (model P w) A (call (.builtin "sorted") [.ref a]) Q E s:=by
 refine Calls.call_function_entry kind_sorted plain_sorted entry_sorted (args_sorted1 _) ?_
 unfold Builtin.«sorted»
 refine wpAny_bind (m:=checkCount "sorted" 1 1 _) (wpAny_pure ?_)
 refine wpAny_bind (zdQ (by simpa using hh) hS (by omega) fun vs os s1 hp hst hsz kp gn oo=>?_)
 have hlen:vs.length=os.length:=hst.length
 have h64:vs.length < 64:=by rw [hlen,hp.length_eq];exact hn
 refine wpAny_bind (wpAny_newList ?_)
 have gl:(s1.heap.push (seqObj "list" vs.toArray 0)).get? s1.heap.objs.size=some (seqObj "list" vs.toArray 0):=Heap.get?_push_size _ rfl
 refine wpAny_bind (wpAny_holding (wpAny_call_entry slot_list_sort ⟨_,gl,rfl⟩ entry_list_sort (list_sort_treeK strKind_oneLt gl hst.keysOf (fun v1 v2 z2C e=>keyKind_strs (by rw [<- e];exact hst)) h64 fun st' a1 a2=>⟨_,rfl,?_⟩) (args_list_sort _)))
 obtain ⟨os',q1,q2,q3⟩:=sorted_out_str hst a1 a2
 refine wpAny_pure ⟨_,rfl,?_⟩
 have g1:=Heap.get?_update_self (Obj.mapSeq fun _=>#[]) gl rfl
 have g2:=Heap.get?_push_of_some (seqObj "list" #[] 0) (Heap.get?_push_of_some (seqObj "tuple" vs.toArray 0) g1)
 have g3:=Heap.get?_update_self (Obj.mapSeq fun _=>(arrOf st').map (·.2)) g2 rfl
 refine h _ os' _ _ _ (q2.trans hp) q3 q1 ?_ g3 (fun b o e=>?_) gn oo
 ·exact hsz
 ·have e1:=kp b o e
  have ne:s1.heap.objs.size ≠ b:=fun q=>absurd (Heap.lt_size e1) (by rw [<- q];exact Nat.lt_irrefl _)
  exact (Heap.get?_update_other _ _ ne).trans (Heap.get?_push_of_some _ (Heap.get?_push_of_some _ ((Heap.get?_update_other _ _ ne).trans (Heap.get?_push_of_some _ e1))))
end
end DL
namespace DL
open PySem L2 PyProof.Rows
def z97 (x:List Nat):List (List Nat)->List (List Nat)
 | []=>[x]
 | y :: r=>if x < y then x :: y :: r else if x=y then y :: r else y :: z97 x r
def z3X (ss:List (List Nat)):List (List Nat):=ss.foldl (fun l x=>z97 x l) []
theorem mem_insD {x y:List Nat}:∀ {l:List (List Nat)},y ∈ z97 x l ↔ y=x \/ y ∈ l
 | []=>by simp [z97]
 | z :: r=>by
  unfold z97
  split
  ·simp
  ·split
   ·rename_i h;subst h;simp
   ·rw [List.mem_cons,mem_insD,List.mem_cons];exact ⟨fun h=>by rcases h with h|h|h <;> simp [h],fun h=>by rcases h with h|h|h <;> simp [h]⟩
theorem z9G {x:List Nat}:∀ {l:List (List Nat)},l.Pairwise (· < ·)->(z97 x l).Pairwise (· < ·)
 | [],_=>by simp [z97]
 | z :: r,h=>by
  obtain ⟨h1,h2⟩:=List.pairwise_cons.mp h
  unfold z97
  split
  ·rename_i hxz
   exact List.pairwise_cons.mpr ⟨fun y hy=>by
    rcases List.mem_cons.mp hy with rfl|hy
    ·exact hxz
    ·exact List.lt_trans hxz (h1 y hy),h⟩
  ·rename_i hxz
   split
   ·exact h
   ·rename_i hne
    refine List.pairwise_cons.mpr ⟨fun y hy=>?_,z9G h2⟩
    rcases mem_insD.mp hy with rfl|hy
    ·exact Classical.byContradiction fun q=>hne (List.le_antisymm (List.not_lt.mp q) (List.not_lt.mp hxz))
    ·exact h1 y hy
theorem z3o {y:List Nat} (ss:List (List Nat)):y ∈ z3X ss ↔ y ∈ ss:=by
 have:∀ (ss l:List (List Nat)),y ∈ ss.foldl (fun l x=>z97 x l) l ↔ y ∈ l \/ y ∈ ss:=by
  intro ss
  induction ss with
  | nil=>intro l;simp
  | cons x ss ih=>intro l;rw [List.foldl_cons,ih,mem_insD,List.mem_cons];exact ⟨fun h=>by rcases h with (h|h)|h <;> simp [h],fun h=>by rcases h with h|h|h <;> simp [h]⟩
 rw [z3X,this];simp
theorem z4G (ss:List (List Nat)):(z3X ss).Pairwise (· < ·):=by
 have:∀ (ss l:List (List Nat)),l.Pairwise (· < ·)->(ss.foldl (fun l x=>z97 x l) l).Pairwise (· < ·):=by
  intro ss
  induction ss with
  | nil=>intro l h;exact h
  | cons x ss ih=>intro l h;exact ih _ (z9G h)
 exact this ss [] List.Pairwise.nil
theorem z6F:∀ {l m:List (List Nat)},l.Pairwise (· < ·)->m.Pairwise (· < ·)->(∀ x,x ∈ l ↔ x ∈ m)->l=m
 | [],[],_,_,_=>rfl
 | [],y :: m,_,_,h=>absurd ((h y).mpr List.mem_cons_self) (by simp)
 | x :: l,[],_,_,h=>absurd ((h x).mp List.mem_cons_self) (by simp)
 | x :: l,y :: m,hl,hm,h=>by
  obtain ⟨l1,l2⟩:=List.pairwise_cons.mp hl
  obtain ⟨m1,m2⟩:=List.pairwise_cons.mp hm
  have exy:x=y:=by
   rcases List.mem_cons.mp ((h x).mp List.mem_cons_self) with e|e
   ·exact e
   ·rcases List.mem_cons.mp ((h y).mpr List.mem_cons_self) with e'|e'
    ·exact e'.symm
    ·exact absurd (List.lt_trans (m1 x e) (l1 y e')) (List.lt_irrefl _)
  subst exy
  rw [z6F l2 m2 fun z=>⟨fun hz=>by
    rcases List.mem_cons.mp ((h z).mp (List.mem_cons_of_mem _ hz)) with e|e
    ·subst e;exact absurd (l1 z hz) (List.lt_irrefl _)
    ·exact e,fun hz=>by
    rcases List.mem_cons.mp ((h z).mpr (List.mem_cons_of_mem _ hz)) with e|e
    ·subst e;exact absurd (m1 z hz) (List.lt_irrefl _)
    ·exact e⟩]
abbrev toS (cs:List Nat):Str:=⟨cs.toArray⟩
theorem z8e:∀ (p:Str) (l:List Str),risingS p l=true->(p :: l).Nodup->((p :: l).map (·.cps.toList)).Pairwise (· < ·)
 | p,[],_,_=>by simp
 | p,x :: r,h,nd=>by
  unfold risingS at h
  rw [Bool.and_eq_true,Bool.not_eq_true',ltCps_eq,decide_eq_false_iff_not] at h
  obtain ⟨n1,n2⟩:=List.nodup_cons.mp nd
  have ih:=z8e x r h.2 n2
  have hpx:p.cps.toList < x.cps.toList:=Classical.byContradiction fun q=>n1 (by
   have:=List.le_antisymm (List.not_lt.mp h.1) (List.not_lt.mp q)
   have e:p=x:=by
    obtain ⟨pc⟩:=p;obtain ⟨xc⟩:=x
    have this:pc.toList=xc.toList:=this
    rw [show pc=xc from Array.toList_inj.mp this]
   rw [e];exact List.mem_cons_self)
  rw [List.map_cons]
  refine List.pairwise_cons.mpr ⟨fun y hy=>?_,ih⟩
  rw [List.map_cons] at hy ih
  rcases List.mem_cons.mp hy with rfl|hy
  ·exact hpx
  ·exact List.lt_trans hpx ((List.pairwise_cons.mp ih).1 y hy)
theorem zeu {ss:List (List Nat)} {os:List Str} (hp:os.Perm (ded (ss.map toS))) (hn:(ded (ss.map toS)).Nodup) (hs:sortedS os=true):os=(z3X ss).map toS:=by
 have h1:(os.map (·.cps.toList)).Pairwise (· < ·):=by
  cases os with
  | nil=>exact List.Pairwise.nil
  | cons p l=>exact z8e p l hs (hp.nodup_iff.mpr hn)
 have h2:os.map (·.cps.toList)=z3X ss:=z6F h1 (z4G ss) fun x=>by
  rw [z3o,List.mem_map]
  constructor
  ·rintro ⟨o,ho,rfl⟩
   have:=(z8v _).mp (hp.mem_iff.mp ho)
   obtain ⟨cs,hcs,rfl⟩:=List.mem_map.mp this
   exact hcs
  ·intro hx
   exact ⟨toS x,hp.mem_iff.mpr ((z8v _).mpr (List.mem_map.mpr ⟨x,hx,rfl⟩)),rfl⟩
 rw [<- h2,List.map_map]
 refine (List.map_id os).symm.trans (List.map_congr_left fun o _=>?_)
 obtain ⟨c⟩:=o
 rfl
theorem SetX.nd {P:Program} {w:World} {a:Addr} {ks:List Str} {h:Heap} (x:SetX P w a ks h):ks.Nodup:=by
 obtain ⟨_,_,_,_,_,_,_,_,_,hn,_⟩:=x
 exact hn
section
variable {X:Cx} {p:Pos} {e:Expr} {t:DA}
def zjp (K:PySem.W.Frag) (P:Program) (w:World):List V->Hp->VK->Prop:=fun xs H Q=>∃ (p:Addr) (ss:List (List Nat)),xs=[.ref p]/\(SqL K H p (ss.map fun cs=>V.str (toS cs)) \/ SqT K H p (ss.map fun cs=>V.str (toS cs)))/\ss.length <= 1000/\∀ l,H l=none->Q (.ref l) (upd H l (.ext (SetX P w l (ded (ss.map toS)))))
theorem zdi {ss:List (List Nat)} {its:List Value} (r:Vals (ss.map fun cs=>V.str (toS cs)) its) {i:Nat} {v:Value} (h:its[i]?=some v):∃ t:Tok,v=Value.str ((ss.map toS).getD i ⟨#[]⟩) t:=by
 obtain ⟨x,hx,rv⟩:=z5s r h
 rw [List.getElem?_map] at hx
 cases hs:ss[i]? with
 | none=>rw [hs] at hx;cases hx
 | some cs=>
  rw [hs] at hx;cases hx
  obtain ⟨t,rfl⟩:=rv
  exact ⟨t,by rw [List.getD_eq_getElem?_getD,List.getElem?_map,hs];rfl⟩
theorem zaI (hc:X.calm=true):CallR X (.type "set") (zjp X.K X.prog X.w):=by
 intro pins s σ H xs us Q I r h
 obtain ⟨p,ss,rfl,sq,hl,q⟩:=h
 obtain ⟨u,rfl,ru⟩:=z4X r
 cases ru
 have main:∀ (z:ZK) (its:List Value),z.val=.ref p->z.pre s.heap->(∀ x t,z ≠ .str x t)->z.vals=its.toArray->Vals (ss.map fun cs=>V.str (toS cs)) its->wpAny (model X.prog X.w) X.A (call (.type "set") [.ref p]) (EP X pins σ Q) X.xe s:=by
  intro z its hv hp hn hi rv
  have hlen:its.length=ss.length:=by rw [<- rv.length];simp
  rw [<- hv]
  refine wT I (zcD z (I.ok.hd hc) hp hn (ss.map toS) (by rw [hi];simp [hlen]) (fun i v e=>zdi rv (by rw [hi] at e;simpa using e)) (by rw [List.length_map];unfold scanBound;omega) fun h' tk S' hk htk=>?_)
  refine ⟨.ref s.heap.objs.size,_,I.laid (t':=tk) (o:=.ext (SetX X.prog X.w s.heap.objs.size (ded (ss.map toS)))) (fun b ob z=>hk b ob (Heap.lt_size z) z) (Nat.le_refl _) ?_,rfl,q _ (I.hok.fresh (Nat.le_refl _))⟩
  exact ⟨S',let ⟨o,_,_,_,ho,_⟩:=S';⟨o,ho⟩,fun h1 h2 x k=>x.keep k⟩
 rcases sq with sq|sq
 ·obtain ⟨its,rv,pl,_⟩:=I.list sq
  exact main (.lst p its.toArray) its rfl pl.isList (fun _ _ e=>by cases e) rfl rv
 ·obtain ⟨its,rv,pl,_⟩:=I.tuple sq
  exact main (.tup p its.toArray) its rfl pl (fun _ _ e=>by cases e) rfl rv
theorem z7l:∀ {vs:List Value} {os:List Str},StrsAre vs os->Vals (os.map V.str) vs
 | _,_,.nil=>.nil
 | _,_,.cons y t h=>.cons ⟨t,rfl⟩ (z7l h)
theorem z7r (hc:X.calm=true):CallR X (.builtin "sorted") (fun xs H Q=>∃ a ks,xs=[.ref a]/\H a=some (.ext (SetX X.prog X.w a ks))/\ks.length < 64/\∀ l os,os.Perm ks->ks.Nodup->sortedS os=true->H l=none->Q (.ref l) (upd H l (.lst (os.map V.str)))):=by
 intro pins s σ H xs us Q I r h
 obtain ⟨a,ks,rfl,hH,hn,q⟩:=h
 obtain ⟨u,rfl,ru⟩:=z4X r
 cases ru
 have hS:SetX X.prog X.w a ks s.heap:=(I.hok a _ hH).1
 refine wT I (zgl (I.ok.hd hc) hS hn fun out os l s1 c hp hs hst hl gl kp gn oo htk=>?_)
 have fr:H l=none:=I.hok.fresh hl
 have hlen:os.length <= sizeLine:=Nat.le_trans (Nat.le_of_lt (by rw [hp.length_eq];exact hn)) (by decide)
 have new:ObjOk X.prog X.w (upd H l (.lst (os.map V.str))) s1.heap l (.lst (os.map V.str)):=⟨by rw [List.length_map];exact hlen,out.toList,c,z7l hst,by rw [gl]⟩
 have hok:=I.hok.laid kp hl new
 refine ⟨.ref l,_,?_,rfl,q l os hp hS.nd hs fr⟩
 exact I.call' oo (Un.laid kp hl fr) hok (by rw [gn];exact I.bare) (fun b (hb:b ∈ ([]:List Addr))=>absurd hb (List.not_mem_nil))
end
def emS (te:DE):Em:=fun σ O acc=>(te σ O).bnd fun v O1=>match v with
 | .str cs=>if acc.length < 1000 then .ok (acc ++ [.str cs]) O1 else .bad
 | _=>.bad
def zb2 (elt:Expr):z9s where
 ex:=fun gens scope pos=>.SetComp elt gens scope pos
 emit:=fun acc env=>do let v <- eval elt env;standAt elt.pos;let _ <- call (.builtin "set.add") [acc,v]
 new:=newSet (.type "set")
 ho:=fun P w a=>.ext (SetX P w a [])
 G:=fun _ P w A _ H _ acc=>∃ ss:List (List Nat),acc=ss.map D.str/\H A=some (.ext (SetX P w A (ded (ss.map toS))))
theorem zk3 {P:Program} {w:World} {H:Hp} {h:Heap} {a:Addr} {ks:List Str} (S:SetX P w a ks h):ObjOk P w H h a (.ext (SetX P w a ks)):=
 ⟨S,let ⟨o,_,_,_,ho,_⟩:=S;⟨o,ho⟩,fun h1 h2 x k=>x.keep k⟩
theorem zcV (elt:Expr):z5C (zb2 elt) where
 cl:=fun _ _ _=>rfl
 turn:=fun gens scope pos k it acc env tg iter ifs hk hn=>by
  show compTurn (.SetComp elt gens scope pos) k it acc env=_
  unfold compTurn z8A
  rcases hn with hn|⟨tg',iter',ifs',hn⟩
  ·simp only [hk,hn]
   rfl
  ·simp only [hk,hn,bne_self_eq_false,Bool.false_eq_true,if_false,bind_assoc,pure_bind]
   first|rfl|congr 1
 keep:=fun ⟨ss,e,hA⟩ nA x=>⟨ss,e,x.keep _ _ hA nA⟩
 new:=fun {P w A E Q s} h=>by
  unfold zb2 newSet setsByText
  refine wpAny_bind (wpAny_bind (wpAny_askSetting (wpAny_pure ?_)))
  dsimp only
  simp only [newObj]
  refine wpAny_bind (wpAny_alloc (wpAny_pure (h (z2R w) rfl fun H h a _ e=>zk3 ?_)))
  exact ⟨_,#[],0,_,e,⟨rfl,rfl,rfl⟩,rfl,fun e he=>by simp at he,by simp,by simp,by decide,by rfl,fun e=>by show (!byT w)=true;rw [e];rfl,fun e=>absurd rfl e⟩
 g0:=⟨[],rfl,z1z⟩
 q1:=fun _ _ _ _ _ _ _=>rfl
 u1:=fun _ _ _ _ _ _ _ _=>rfl
 d1:=fun _ _ _ _ _ _ _ _ _=>rfl
 u2:=fun _ _ _ _ _ _ _ _=>rfl
 d2:=fun _ _ _ _ _ _ _ _ _=>rfl
theorem ziR {P:Program} {w:World} {H:Hp} {A:Addr} {ks:List Str} {h:Heap} {o:HO} (hA:H A=some (.ext (SetX P w A ks))) (S:SetX P w A ks h):∀ P2,Tidy H P2->Tidy (upd H A o) P2:=by
 rintro P2 ⟨ps,h1,h2,h3⟩
 have n1:P2 ≠ A:=by rintro rfl;rw [hA] at h1;cases h1
 refine ⟨ps,by rw [z1q n1];exact h1,h2,fun pos cv e=>?_⟩
 obtain ⟨c,φ,rfl,hc,hf⟩:=h3 pos cv e
 have n2:c ≠ A:=by
  rintro rfl
  rw [hA] at hc
  cases hc
  obtain ⟨q,c',o',vs,t,e1,e2,e3,_⟩:=hf h S
  cases e1
  obtain ⟨o2,es,ep,t',ho,_,hd,_⟩:=S
  rw [ho] at e2;cases e2
  rw [hd] at e3;cases e3
 exact ⟨c,φ,rfl,by rw [z1q n2];exact hc,hf⟩
section
variable {X:Cx} {A:Addr} {hid:List Addr} {elt:Expr} {gens:List Comprehension} {te:DE}
theorem zbL {Z:L2.St->Hp->List Addr->Prop} {k:Nat} {e:Expr} (hx:X.xe=fun _ _=>False) (he:PD X Ex0 elt te) (hk:gens[k]?=none):z57 X Z (zb2 elt) A hid e gens (emS te) k []:=by
 intro pins s σv H μ σ O acc Q E _ B q
 unfold z8A
 rw [hk]
 show wpAny _ _ (do let v <- eval elt X.env;standAt elt.pos;let _ <- call (.builtin "set.add") [.ref A,v]) _ _ s
 obtain ⟨ss,rfl,hA⟩:=B.grown
 cases hte:te σ O with
 | ok d O1=>
  have q1:=q
  unfold z3D emS at q1
  rw [hte] at q1
  cases d with
  | str cs=>
   have q2:z4A X (zb2 elt) A hid pins σv H μ (z1t []) (if (ss.map D.str).length < 1000 then .ok (ss.map D.str ++ [.str cs]) O1 else .bad) Q:=q1
   by_cases hl:(ss.map D.str).length < 1000
   ·rw [if_pos hl] at q2
    refine wpAny_bind (z2F hx (he.out pins s σv H (fun v H1=>∃ μ1,Ext H μ H1 μ1/\Cells X.K H1 (A :: hid) μ1 O1/\Dat X.K H1 (A :: hid) μ1 (.str cs) v) B.inv ⟨A :: hid,μ,σ,O,B.env,B.cells,by rw [hte];exact fun v H' μ' x c r=>⟨μ',x,c,r⟩⟩)
     fun u s1 ⟨v,H1,I1,ru,μ1,x,c,r⟩=>?_)
    have nA:A ∉ μ:=fun m=>B.cells.nh A m (by simp)
    have hA1:=x.keep A _ hA nA
    unfold Dat at r
    subst r
    obtain ⟨t,rfl⟩:=ru
    have S:SetX X.prog X.w A (ded (ss.map toS)) s1.heap:=(I1.hok A _ hA1).1
    have hr:(ded (ss.map toS)).length + 1 < scanBound:=by
     have h1:=z8U (ss.map toS)
     rw [List.length_map] at h1 hl
     unfold scanBound
     omega
    refine wpAny_bind (wpAny_standAt (wpAny_bind (zf6 S hr fun h' sb S'=>wpAny_pure ?_)))
    rw [<- z9P] at S'
    have S':SetX X.prog X.w A (ded ((ss ++ [cs]).map toS)) h':=by rw [List.map_append];exact S'
    have heo:∃ u,h'.get? A=some u:=let ⟨o,_,_,_,ho,_⟩:=S';⟨o,ho⟩
    exact q2 _ σv _ μ1 (I1.write (x:=A) (e:=A) (by rw [hA1];exact trivial) (.inl rfl) (fun b u hb hu=>(sb.2 b hb).trans hu) heo (zk3 S')) (x.ea.trans (.putX (ziR hA1 S))) (c.putX (ziR hA1 S)) ⟨ss ++ [cs],by simp,z1z⟩ rfl fun _ _=>rfl
   ·rw [if_neg hl] at q2;exact q2.elim
  | _=>exact False.elim q1
 | exc c O1=>
  unfold z3D emS at q;rw [hte] at q;exact q.elim
 | bad=>
  unfold z3D emS at q;rw [hte] at q;exact q.elim
end
section
variable {X:Cx} {Ex:Nat->Hp->Prop}
theorem zaf {elt tg iter:Expr} {ifs:List Expr} {gs:List Comprehension} {scope:Scope} {pos:Pos} (ext:List Str) {it0:DI} {g:Tg} {ts:List DT} {cs:List Cl} {te:DE} (hcalm:X.calm=true) (hi:PDI X Ex tg iter it0) (hb:BOk X.env.scope scope (X.N ++ ext) (z1t (⟨it0,g,ts⟩ :: cs)))
  (blk:∀ cells C s H fp,PG (cxB X (X.N ++ ext) scope cells C s H fp) tg (g.rd X.K)/\PySem.Paired (fun e t=>PDT (cxB X (X.N ++ ext) scope cells C s H fp) Ex0 e t) ifs ts/\ClsOk (cxB X (X.N ++ ext) scope cells C s H fp) gs cs/\PD (cxB X (X.N ++ ext) scope cells C s H fp) Ex0 elt te)
  (hs:∀ x,foldedSetIterable iter X.env x=pure x:=by intro _;rfl):PE X (.SetComp elt (⟨tg,iter,ifs,0⟩ :: gs) scope pos) (fun σv H Q=>∃ hid μ σ O,EnvOk X.K H hid μ σ σv/\Cells X.K H hid μ O/\zbN (zb2 elt) Ex X.K X.prog X.w H hid μ (z37 ext.length it0 g ts cs (emS te) σ O) fun L H'=>Q (.ref L) H'):=by
 rintro pins s σv H Q I ⟨hid,μ,σ,O,e1,c1,q⟩
 show wpAny _ _ (comprehension (.SetComp elt (⟨tg,iter,ifs,0⟩ :: gs) scope pos) scope X.env _ (newSet (.type "set")) false (eval iter X.env)) _ _ s
 refine z5p (zcV elt) (use:=none) hcalm hi hb (fun cells Cn s H fp _ _ _=>let ⟨h1,h2,h3,h4⟩:=blk cells Cn s H fp;⟨h1,h2,h3,fun _ _ _ hk=>zbL rfl h4 hk⟩) hs I e1 c1 ?_
 cases hr:z37 ext.length it0 g ts cs (emS te) σ O with
 | bad=>rw [hr] at q;exact q
 | exc c' O'=>rw [hr] at q;exact q
 | ok acc O'=>
  rw [hr] at q
  intro L H' μ' nL x c gv s' C I' ns nC l1 y1 ce pn
  obtain ⟨m,hn⟩:=ns
  exact ⟨m,hn,fun h' hs'=>⟨.ref L,H',Inv.bare I' hs' nC l1 y1 ce pn,rfl,q L H' μ' nL x c gv⟩⟩
theorem z3Q {K:PySem.W.Frag} {H:Hp} {hid μ:List Addr}:∀ ss:List (List Nat),Dats K H hid μ (ss.map D.str) (ss.map fun cs=>V.str (toS cs))
 | []=>.nil
 | cs :: r=>.cons z8X (z3Q r)
def zk6 (o:Bool) (r:R (List D)):R D:=r.bnd fun acc O1=>match zaR acc with
 | some ss=>if ss.length < 64 then (if o=true then .ok (.own O1.length) (O1 ++ [(z3X ss).map .str]) else .ok (.lst ((z3X ss).map .str)) O1) else .bad
 | none=>.bad
theorem strL_map:∀ ss:List (List Nat),zaR (ss.map D.str)=some ss
 | []=>rfl
 | cs :: r=>by show (zaR (r.map D.str)).map _=_;rw [strL_map r];rfl
theorem zfi {P:Program} {w:World} {H H':Hp} {hid μ μ':List Addr} {O':Ow} {L:Addr} {Q:VK} {o:Bool} {ss:List (List Nat)} {K:PySem.W.Frag} (x:Ext H μ H' μ') (c:Cells K H' hid μ' O') (hA:H' L=some (.ext (SetX P w L (ded (ss.map toS))))) (hl:ss.length < 64)
  (q:z1I Ex K H hid μ (if o=true then .ok (.own O'.length) (O' ++ [(z3X ss).map .str]) else .ok (.lst ((z3X ss).map .str)) O') Q):
  ∃ a ks,[V.ref L]=[V.ref a]/\H' a=some (.ext (SetX P w a ks))/\ks.length < 64/\∀ l os,os.Perm ks->ks.Nodup->sortedS os=true->H' l=none->Q (.ref l) (upd H' l (.lst (os.map V.str))):=by
 refine ⟨L,_,rfl,hA,Nat.lt_of_le_of_lt (z8U _) (by rw [List.length_map];exact hl),fun l os hp hn hs hf=>?_⟩
 have e:=zeu hp hn hs
 subst e
 rw [List.map_map]
 cases o with
 | true=>exact post.ok (show z1I Ex K H hid μ (.ok (.own O'.length) (O' ++ [(z3X ss).map .str])) Q from q) (x.trans (.cell hf)) (c.cell hf (z3Q _)) (z2d c.len)
 | false=>exact post.ok (show z1I Ex K H hid μ (.ok (.lst ((z3X ss).map .str)) O') Q from q) (x.trans (.laid hf)) (c.laid hf) (Dat.newL c hf (z3Q _))
end
section
variable {X:Cx} {Ex:Nat->Hp->Prop} {pos pos2 p p2:Pos} {e:Expr} {es:List Expr} {t:DA}
def z86 (o:Bool) (t:DA):DE:=fun σ O=>(t σ O).bnd fun xs O1=>match xs with
 | [x]=>match (match lsV O1 x with|some ds=>some ds|none=>tpV x) with
  | some ds=>zk6 o (.ok ds O1)
  | none=>.bad
 | _=>.bad
theorem zfJ (o:Bool) (hc:X.calm=true) {x y:Str} (hg:Gl X x) (hm:X.mg x=none) (hv:bootBuiltins x=some (.builtin "sorted")) (hg2:Gl X y) (hm2:X.mg y=none) (hv2:bootBuiltins y=some (.type "set")) (ha:PDA X Ex (e :: es) t)
  (hn:x ≠ "__name__":=by decide) (hdb:(x == ("__debug__":Str))=false:=by decide) (hn2:y ≠ "__name__":=by decide) (hdb2:(y == ("__debug__":Str))=false:=by decide) (he:starEach (e :: es) X.env=(false,eval e X.env) :: starEach es X.env:=by rfl) (hpl:(backTo pos2 (starEach es X.env)).any (·.1)=false:=by rfl)
  (he':starEach [.Call (.Name y p2) (e :: es) [] pos2] X.env=(false,eval (.Call (.Name y p2) (e :: es) [] pos2) X.env) :: starEach [] X.env:=by rfl):
  PD X Ex (.Call (.Name x p) [.Call (.Name y p2) (e :: es) [] pos2] [] pos) (z86 o t):=
 z2a (z3t (z7r hc) hg hm hv (z23 (z7D (zaI hc) hg2 hm2 hv2 ha.out hn2 hdb2 he hpl) z39 he') hn hdb he' (by rfl)) fun hid μ σ O σv H Q e1 c1 q=>
  rdA.go e1 c1 q fun xs O1 vs H1 μ1 e2 x2 c d p=>by
   split at p
   ·rename_i x
    obtain ⟨v,rfl,dx⟩:=z42 d
    split at p
    ·rename_i ds eds
     have h:∃ pa ws,v=.ref pa/\(SqL X.K H1 pa ws \/ SqT X.K H1 pa ws)/\Dats X.K H1 hid μ1 ds ws:=by
      cases e1:lsV O1 x with
      | some es=>
       rw [e1] at eds;cases eds
       obtain ⟨p,ws,h1,sq,dd⟩:=z35 c dx e1
       exact ⟨p,ws,h1,.inl sq,dd⟩
      | none=>
       rw [e1] at eds
       obtain ⟨p,ws,h1,sq,dd⟩:=z6k dx eds
       exact ⟨p,ws,h1,.inr sq,dd⟩
     obtain ⟨pa,ws,rfl,sq,dd⟩:=h
     have p:z1I Ex X.K H1 hid μ1 (match zaR ds with|some ss=>if ss.length < 64 then (if o=true then .ok (.own O1.length) (O1 ++ [(z3X ss).map .str]) else .ok (.lst ((z3X ss).map .str)) O1) else .bad|none=>.bad) Q:=p
     split at p
     ·rename_i ss ens
      obtain ⟨hl,p⟩:=post.ite p
      have ev:=zcl dd ens
      subst ev
      exact ⟨pa,ss,rfl,sq,by omega,fun l hl'=>zfi (.laid hl') (c.laid hl') z1z hl p⟩
     ·exact False.elim p
    ·exact False.elim p
   ·exact False.elim p
end
end DL
namespace DL
open PySem L2
structure Nx (l:List Str):Prop
section
variable {X:Cx} {Ex:Nat->Hp->Prop} {elt tg iter:Expr} {ifs:List Expr} {gs:List Comprehension} {scope:Scope} {pos spos py:Pos} {x y:Str} {i k:Nat} {ext:List Str} {it0:DI} {g:Tg} {ts:List DT} {cs:List Cl} {te:DE}
abbrev zgu (X:Cx) (ext:List Str) (scope:Scope) (tg:Expr) (g:Tg) (ifs:List Expr) (ts:List DT) (gs:List Comprehension) (cs:List Cl) (elt:Expr) (te:DE):Prop:=∀ cells C s H fp,PG (cxB X (X.N ++ ext) scope cells C s H fp) tg (g.rd X.K)/\PySem.Paired (fun e t=>PDT (cxB X (X.N ++ ext) scope cells C s H fp) Ex0 e t) ifs ts/\ClsOk (cxB X (X.N ++ ext) scope cells C s H fp) gs cs/\PD (cxB X (X.N ++ ext) scope cells C s H fp) Ex0 elt te
theorem z6x (_:Nx ext) (o:Bool) (hc:X.calm=true) (hb:BOk X.env.scope scope (X.N ++ ext) (z1t (⟨it0,g,ts⟩ :: cs))) (hi:PDI X Ex tg iter it0) (blk:zgu X ext scope tg g ifs ts gs cs elt te) (hk:ext.length=k:=by rfl) (hs:∀ x,foldedSetIterable iter X.env x=pure x:=by intro _;rfl):
  PD X Ex (.ListComp elt (⟨tg,iter,ifs,0⟩ :: gs) scope pos) (z1R o k it0 g ts cs te):=hk ▸ zgZ o ext hc hi hb blk hs
theorem z3R (_:Nx ext) (o:Bool) (hc:X.calm=true) (hN:X.N.Nodup) (hiy:X.N[i]?=some y) (hy:X.env.scope.names.lookup y=some .local) (hb:BOk X.env.scope scope (X.N ++ ext) (z1t (⟨it0,g,ts⟩ :: cs))) (hi:PDI X Ex tg iter it0) (blk:zgu X ext scope tg g ifs ts gs cs elt te)
  (hsw:swapsWith (.ListComp elt (⟨tg,iter,ifs,0⟩ :: gs) scope pos) (some (.Name y py)) spos.line X.env=pure true) (hk:ext.length=k:=by rfl) (hs:∀ x,foldedSetIterable iter X.env x=pure x:=by intro _;rfl):
  PDS X Ex (.Assign [.Name y py] (.ListComp elt (⟨tg,iter,ifs,0⟩ :: gs) scope pos) spos) (z2U i (z1R o k it0 g ts cs te)):=hk ▸ z8y o ext hc hN hiy hy hi hb blk hsw hs
end
end DL
namespace DL
open PySem L2 PyProof.Rows
theorem zgh {a b:List Nat} (h:toS a=toS b):a=b:=by
 have e:(toS a).cps=(toS b).cps:=congrArg Str.cps h
 simpa using e
theorem zfL (ss:List (List Nat)) (hn:(ded (ss.map toS)).Nodup):(ded (ss.map toS)).length=(z3X ss).length:=by
 have h2:((z3X ss).map toS).Nodup:=by
  have:=z4G ss
  rw [List.nodup_iff_pairwise_ne,List.pairwise_map]
  refine this.imp fun h e=>?_
  rw [zgh e] at h
  exact absurd h (List.lt_irrefl _)
 have hp:(ded (ss.map toS)).Perm ((z3X ss).map toS):=(List.perm_ext_iff_of_nodup hn h2).mpr fun a=>by
  rw [z8v,List.mem_map,List.mem_map]
  exact ⟨fun ⟨x,hx,e⟩=>⟨x,(z3o ss).mpr hx,e⟩,fun ⟨x,hx,e⟩=>⟨x,(z3o ss).mp hx,e⟩⟩
 rw [hp.length_eq,List.length_map]
def zkx (o:Bool) (r:R (List D)):R D:=r.bnd fun acc O1=>match zaR acc with
 | some ss=>if (z3X ss).length < 64 then (if o=true then .ok (.own O1.length) (O1 ++ [(z3X ss).map .str]) else .ok (.lst ((z3X ss).map .str)) O1) else .bad
 | none=>.bad
def zc8 (o:Bool) (ext:Nat) (it0:DI) (g:Tg) (ts:List DT) (cs:List Cl) (te:DE):DE:=fun σ O=>zkx o (z37 ext it0 g ts cs (emS te) σ O)
section
variable {X:Cx} {Ex:Nat->Hp->Prop}
theorem zby (hc:X.calm=true):CallR X (.builtin "sorted") (fun xs H Q=>∃ a ks,xs=[.ref a]/\H a=some (.ext (SetX X.prog X.w a ks))/\(ks.Nodup->ks.length < 64)/\∀ l os,os.Perm ks->ks.Nodup->sortedS os=true->H l=none->Q (.ref l) (upd H l (.lst (os.map V.str)))):=by
 intro pins s σ H xs us Q I r h
 obtain ⟨a,ks,rfl,hH,hn,q⟩:=h
 have hS:SetX X.prog X.w a ks s.heap:=(I.hok a _ hH).1
 exact z7r hc pins s σ H _ us Q I r ⟨a,ks,rfl,hH,hn hS.nd,q⟩
theorem zf5 {elt tg iter:Expr} {ifs:List Expr} {gs:List Comprehension} {scope:Scope} {pos pos2 p:Pos} {x:Str} (o:Bool) (ext:List Str) {it0:DI} {g:Tg} {ts:List DT} {cs:List Cl} {te:DE} (hcalm:X.calm=true) (hg:Gl X x) (hm:X.mg x=none) (hv:bootBuiltins x=some (.builtin "sorted")) (hi:PDI X Ex tg iter it0) (hb:BOk X.env.scope scope (X.N ++ ext) (z1t (⟨it0,g,ts⟩ :: cs)))
  (blk:∀ cells C s H fp,PG (cxB X (X.N ++ ext) scope cells C s H fp) tg (g.rd X.K)/\PySem.Paired (fun e t=>PDT (cxB X (X.N ++ ext) scope cells C s H fp) Ex0 e t) ifs ts/\ClsOk (cxB X (X.N ++ ext) scope cells C s H fp) gs cs/\PD (cxB X (X.N ++ ext) scope cells C s H fp) Ex0 elt te)
  (hs:∀ x,foldedSetIterable iter X.env x=pure x:=by intro _;rfl) (hn:x ≠ "__name__":=by decide) (hdb:(x == ("__debug__":Str))=false:=by decide):
  PD X Ex (.Call (.Name x p) [.SetComp elt (⟨tg,iter,ifs,0⟩ :: gs) scope pos] [] pos2) (zc8 o ext.length it0 g ts cs te):=
 z2a (z3t (zby hcalm) hg hm hv (z23 (zaf ext hcalm hi hb blk hs) z39 (by rfl)) hn hdb (by rfl) (by rfl)) fun hid μ σ O σv H Q e1 c1 q=>by
  refine ⟨hid,μ,σ,O,e1,c1,?_⟩
  unfold zc8 at q
  cases hr:z37 ext.length it0 g ts cs (emS te) σ O with
  | bad=>rw [hr] at q;exact q
  | exc c' O'=>rw [hr] at q;exact q
  | ok acc O'=>
   rw [hr] at q
   rintro L H' μ' nL x c ⟨ss,rfl,hA⟩
   have q:z1I Ex X.K H hid μ (match zaR (ss.map D.str) with|some ss=>if (z3X ss).length < 64 then (if o=true then .ok (.own O'.length) (O' ++ [(z3X ss).map .str]) else .ok (.lst ((z3X ss).map .str)) O') else .bad|none=>.bad) Q:=q
   rw [strL_map] at q
   obtain ⟨hl,q⟩:=post.ite q
   have c:=c.unhide
   refine ⟨L,_,rfl,hA,fun hn=>by rw [zfL ss hn];exact hl,fun l os hp hn hs hf=>?_⟩
   have e:=zeu hp hn hs
   subst e
   rw [List.map_map]
   cases o with
   | true=>exact post.ok (show z1I Ex X.K H hid μ (.ok (.own O'.length) (O' ++ [(z3X ss).map .str])) Q from q) (x.trans (.cell hf)) (c.cell hf (z3Q _)) (z2d c.len)
   | false=>exact post.ok (show z1I Ex X.K H hid μ (.ok (.lst ((z3X ss).map .str)) O') Q from q) (x.trans (.laid hf)) (c.laid hf) (Dat.newL c hf (z3Q _))
theorem z7a {elt tg iter:Expr} {ifs:List Expr} {gs:List Comprehension} {scope:Scope} {pos pos2 p:Pos} {x:Str} {k:Nat} {ext:List Str} {it0:DI} {g:Tg} {ts:List DT} {cs:List Cl} {te:DE} (_:Nx ext) (o:Bool) (hc:X.calm=true) (hg:Gl X x) (hm:X.mg x=none) (hv:bootBuiltins x=some (.builtin "sorted")) (hb:BOk X.env.scope scope (X.N ++ ext) (z1t (⟨it0,g,ts⟩ :: cs))) (hi:PDI X Ex tg iter it0) (blk:zgu X ext scope tg g ifs ts gs cs elt te) (hk:ext.length=k:=by rfl) (hs:∀ x,foldedSetIterable iter X.env x=pure x:=by intro _;rfl)
  (hn:x ≠ "__name__":=by decide) (hdb:(x == ("__debug__":Str))=false:=by decide):PD X Ex (.Call (.Name x p) [.SetComp elt (⟨tg,iter,ifs,0⟩ :: gs) scope pos] [] pos2) (zc8 o k it0 g ts cs te):=hk ▸ zf5 o ext hc hg hm hv hi hb blk hs hn hdb
end
def zd9 (y z:List Nat) (to:DE):DE:=fun σ O=>(to σ O).bnd fun x O1=>match x with
 | .str i=>if i.length <= 1000 then .ok (.str (Txt.replace ⟨i.toArray⟩ ⟨y.toArray⟩ ⟨z.toArray⟩).cps.toList) O1 else .bad
 | _=>.bad
section
variable {X:Cx} {Ex:Nat->Hp->Prop} {o:Expr} {to:DE} {apos cpos p1 p2:Pos}
theorem zf2 {ys zs:Str} {j1 j2:Nat} (y z:List Nat) (hy:ys=⟨y.toArray⟩) (hz:zs=⟨z.toArray⟩) (hyz:(ys == zs)=false) (hzl:z.length <= 14) (ho:PD X Ex o to) (hbase:attributeBase o "replace" X.env (eval o X.env)=eval o X.env:=by rfl)
  (hline:(apos.endLine == cpos.line)=true:=by rfl):PD X Ex (.Call (.Attribute o "replace" apos) [.Constant (.str ys) j1 p1,.Constant (.str zs) j2 p2] [] cpos) (zd9 y z to):=by
 refine ⟨?_⟩
 rintro pins s σv H Q I ⟨hid,μ,σ,O,e1,c1,q⟩
 refine wpAny_Call_method_late hbase rfl hline rfl (thn (ho.out pins s σv H (fun v H1=>∃ i:List Nat,v=.str ⟨i.toArray⟩/\i.length <= 1000/\Q (.str (Txt.replace ⟨i.toArray⟩ ⟨y.toArray⟩ ⟨z.toArray⟩)) H1) I (rd.go e1 c1 q fun d O1 v H1 μ1 e2 x cl r p=>?_)) fun v s1 ⟨x,H1,I1,r1,i,ex,hl,q1⟩=>?_)
 ·cases d with
  | str i=>
   unfold Dat at r
   obtain ⟨h1,q⟩:=post.ite p
   exact ⟨i,r,h1,post.here q cl (by unfold Dat;rw [z4Q])⟩
  | _=>exact False.elim p
 ·subst ex
  obtain ⟨t,rfl⟩:=r1
  refine ⟨"str", "str.replace",PySem.F.plainAttrs_str,PySem.F.slot_str_replace,PySem.F.type_str_replace,typeIs_str _ _ _,(fun a e=>by cases e),?_⟩
  refine Calls.callWith_builtin rfl (Calls.evalArgs_plain ?_)
  show wpAny _ _ (spliced ((false,eval (.Constant (.str ys) j1 p1) X.env) :: (false,eval (.Constant (.str zs) j2 p2) X.env) :: [])) _ _ s1
  refine Calls.spliced_cons (Calls.Constant_str (Calls.spliced_cons (Calls.Constant_str (Calls.spliced_nil ?_))))
  have hi:(⟨i.toArray⟩:Str).length <= 1048576:=Nat.le_trans (show i.toArray.size <= 1000 by simpa using hl) (by decide)
  subst hy hz
  refine wpAny_with_toks (n:=1) (Nat.le_add_left _ _) (SC.replaceW (Nat.ne_of_gt I1.tk) (Nat.succ_ne_zero _) (Nat.ne_of_lt (Nat.lt_succ_self _)) hyz hi (show z.toArray.size <= 14 by simpa using hzl) fun t' k htk=>⟨.str _,H1,I1.tok k htk,⟨_,rfl⟩,q1⟩)
end
end DL
namespace DL
open PySem L2
open PyProof.Rows (AllBare)
structure z8Y (Cl:Nat->Value) (P:Program) (w:World) (K:PySem.W.Frag) (mg:Str->Option Value) (base:Heap) (x:Str) (k n:Nat) (Pt:Addr) (F:List D->Ow->R D):Prop where
 ex:∃ f fd ps,mg x=some (.ref f)/\PySem.W.keepIn K (.ref f)=true/\Binds K fd ps []/\FnOk P w K mg base (CXr P w Cl) k f fd ps (ze1 K (Xk Cl) n Pt F)
structure zi0 (K:PySem.W.Frag) (mg:Str->Option Value) (x:Str) (st:Stmt) (c:Addr):Prop where
 ex:∃ f fd,mg x=some (.ref f)/\L2.Fun K x x st f fd/\fd.code=.ref c
theorem zkF {Cl:Nat->Value} {P:Program} {w:World} {K:PySem.W.Frag} {mg:Str->Option Value} {base:Heap} {k i:Nat} {c Pt:Addr} {x z:Str} {st:Stmt} {N ps:List Str} {t:DS} (h:zi0 K mg x st c) (S:z1v N ps (z1o st)) (hi:N[i]?=some z) (hz:¬ Vis (z1o st) z)
  (hb:∀ (kV doc pm:Value) (an:Option Addr) (cdv ct:Value) (us:List Value),us.length=ps.length->bindArgs (PySem.W.fnOf x x (z2x st) (z1U st) (z1o st) .none kV doc pm an cdv ct) ⟨us,[]⟩=pure (ps.zip us))
  (hbody:∀ (f:Addr) (A:Around) (outer:List Env) (s:Shared) (H:Hp) (E:XK),Room k (A.deeper (PyProof.Rows.envOfC x (z1o st) s.heap.objs.size f (.ref c)))->z51 (cxX Cl P w K mg base N x (z1o st) f (.ref c) A outer s H E) (Xk Cl E) (z1U st) t):
  z8Y Cl P w K mg base x (k + 1) ps.length Pt (zeT N.length i Pt t):=by
 obtain ⟨f,fd,hm,F,hc⟩:=h.ex
 exact ⟨f,fd,ps,hm,F.kp,F.binds hb,fnT F hc S hi hz fun A outer s H E hr=>hbody f A outer s H E hr⟩
def zgi (Pt iT n:Nat) (F:List D->Ow->R D) (t:DA):DE:=fun σ O=>match σ[iT]? with
 | some (some (.tab p))=>if p=Pt then dFn n F t σ O else .bad
 | _=>.bad
theorem zhx {Cl:Nat->Value} {X:Cx} {E:XK} {x:Str} {k j n Pt iT:Nat} {F:List D->Ow->R D} {p pos:Pos} {e:Expr} {es:List Expr} {t:DA} (c:z8Y Cl X.prog X.w X.K X.mg X.base x k n Pt F) (hx:z5G (CXr X.prog X.w Cl) X E) (hr:Room j X.A) (hk:k <= j) (hg:Gl X x) (ha:PDA X (Xk Cl E) (e :: es) t)
  (hdb:(x == ("__debug__":Str))=false:=by decide) (he:starEach (e :: es) X.env=(false,eval e X.env) :: starEach es X.env:=by rfl) (hpl:(backTo pos (starEach es X.env)).any (·.1)=false:=by rfl):
  PD X (Xk Cl E) (.Call (.Name x p) (e :: es) [] pos) (zgi Pt iT n F t):=by
 obtain ⟨f,fd,ps,hm,hkp,hb,G⟩:=c.ex
 refine z2a (zb3 (dvs:=[]) (ds:=[]) (G.mono hk) hr hg hm hkp hb .nil hx ha.out hdb he hpl) fun hid μ σ O σv H Q e1 c1 q=>?_
 obtain ⟨ti,q⟩:Tidy H Pt/\z1I (Xk Cl E) X.K H hid μ (dFn n F t σ O) Q:=by
  unfold zgi at q
  split at q
  ·rename_i p hp
   by_cases hpp:p=Pt
   ·rw [if_pos hpp] at q
    obtain ⟨v,_,d⟩:=e1.at_ iT _ hp
    unfold Dat at d
    rw [hpp] at d
    exact ⟨d.2,q⟩
   ·rw [if_neg hpp] at q;exact False.elim q
  ·exact False.elim q
 refine rdA.go e1 c1 q fun ds O1 vs H1 μ1 e2 x2 c2 d2 q2=>?_
 obtain ⟨hl,q2⟩:=post.ite q2
 refine ⟨by rw [List.append_nil,<- d2.length];exact hl,hid,μ1,ds,O1,?_,c2,x2.tab _ ti,q2⟩
 rw [List.append_nil];exact d2
theorem zkO {Cl:Nat->Value} {P:Program} {w:World} {K:PySem.W.Frag} {mg:Str->Option Value} {base:Heap} {k i:Nat} {f Pt:Addr} {fd:FuncData} {x z:Str} {st:Stmt} {N ps:List Str} {t:DS} (hF:L2.Fun K x x st f fd) (S:z1v N ps (z1o st)) (hi:N[i]?=some z) (hz:¬ Vis (z1o st) z)
  (hbody:∀ (cdv:Value) (A:Around) (outer:List Env) (s:Shared) (H:Hp) (E:XK),Room k (A.deeper (PyProof.Rows.envOfC x (z1o st) s.heap.objs.size f cdv))->z51 (cxX Cl P w K mg base N x (z1o st) f cdv A outer s H E) (Xk Cl E) (z1U st) t):
  FnOk P w K mg base (CXr P w Cl) (k + 1) f fd ps (ze1 K (Xk Cl) ps.length Pt (zeT N.length i Pt t)):=by
 obtain ⟨oc,od,kV,doc,pm,an,cdv,ct,osl,rfl,lk,hcd⟩:=hF.ex
 exact zey lk hcd S hi hz (hbody cdv)
theorem walkT2 {l:PySem.W.OpenLaw} {q:Program} {loose:List Str} {XP:(Str->Option Value)->Heap->Prop} {YP:World->Heap->Prop} {d:DefRec} {K:Params->PySem.W.Frag} {Cl:Nat->Value} {k:Nat} {x xd:Str} {F:Nat->List D->Ow->R D} {α:Type} {Yf:Shared->α} {Ya:World->α} (hn:l.most=some 63) (hdf:d.params.defaults=[]) (hr:Room k callerA)
  (hYf:∀ w s,Yf s=Ya w->YP w s.heap) (hYk:∀ w h h',YP w h->(∀ b o,h.get? b=some o->h'.get? b=some o)->YP w h')
  (hY:∀ (w:World) (h:Heap),YP w h->(K w.params).In h) (hrec:((PyProof.Rows.recsOf q).find? (fun e=>e.name == xd)).isSome=true)
  (hF:∀ (w:World) (mg:Str->Option Value) (fa:Addr) (h:Heap),(K w.params).In h->h.Ns mainGlobals mg->mg d.name=some (.ref fa)->
   PySem.W.noTabs (K w.params)=true/\∃ (c Pt:Addr),PySem.W.tabIn (K w.params) xd=some (c,Pt)/\∃ fd:FuncData,(∀ (s:Shared) (u:Value),BindsTo s fd ⟨[u],[]⟩ [(x,u)])/\∀ base:Heap,(K w.params).In base->base.Ns mainGlobals mg->z5u mg base c Pt->FnOk l.prog w (K w.params) mg base (CXr l.prog w Cl) k fa fd [x] (ze1 (K w.params) (Xk Cl) 1 Pt (F Pt)))
  (pure_:∀ (Pt:Nat) (ns:List Int),ns.length <= 63->∃ O,F Pt [.lst (ns.map .int)] []=.ok (.bl true) O):
  PySem.W.WalkX q loose XP (fun s=>(Yf s,decide (0 < s.toks))) (fun w=>(Ya w,true)) l.row.toRowW d [] (fun f vs=>PySem.call f vs):=by
 refine Att.attach_call hn hdf hYf hYk fun w s₀ s₁ mg mb fa o pm cd doc a vs ns G Y ho hd hcd hmg hobj hints hlen hg htk=>?_
 have KX:=hY w _ Y
 obtain ⟨hK,c,Pt,ht,fd,hb,hG⟩:=hF w mg fa _ KX G.T.g hmg
 obtain ⟨dd,hdd⟩:=Option.isSome_iff_exists.mp hrec
 have hnm:dd.name=xd:=by simpa using List.find?_some hdd
 subst hnm
 obtain ⟨hC,hP⟩:=PySem.W.tab_of G.T KX hdd ht
 have hB:s₁.heap.BuiltinsAt mg Pt:=by
  obtain ⟨bm,ob,b1,b2,b3,b4,b5,b6⟩:=G.T.bmain
  refine ⟨bm,ob,b1,b2,fun q=>?_,fun q=>?_,b3,b4,b5,b6⟩
  ·obtain ⟨o,es,ep,e,hd,_⟩:=G.T.g
   rw [q,e] at b3;cases b3;rw [hd] at b6;cases b6
  ·rw [q,hP] at b3;cases b3;cases b4
 exact zbY KX G.T.g G.T.b G.T.builtins G.T.nolimit hg htk hobj hints (Nat.le_trans hlen (by decide)) hr hC hP hK hB hG hb (fun H hT hS=>zit (pure_ Pt ns hlen) hT hS) fun H e s' ⟨_,_,_,_,_,_,_,_,_,_,z⟩=>z
structure Lam where
 params:Arguments
 body:Expr
 scope:Scope
 tE:DE
def z9F (X:Cx) (L:Lam) (c:Addr) (ct:Value):Obj:={ cls:=.type "function",data:=.func (PySem.W.kla_fn "<lambda>" (X.env.qual ++ "<lambda>") L.params L.body L.scope (z1L X.env.cells L.scope.names []) ((X.mg "__name__").getD .none) (.ref c) ct) }
def LamIn (X:Cx) (L:Lam) (H:Hp) (a:Addr):Prop:=∃ c φ ct,H a=some (.ext fun h=>h.get? a=some (z9F X L c ct))/\H c=some (.ext φ)/\∀ h:Heap,φ h->∃ q,h.CodeRec (.ref c) q
structure zeO (Cl:Nat->Value) (X:Cx) (k:Nat) (L:Lam):Prop where
 ls:z4g X.env.scope L.scope
 df:defaultsOf L.params X.env=([],[])
 bl:∀ (name qual:Str) (cl:List (Str × Addr)) (pm cd ct:Value),bindArgs (PySem.W.kla_fn name qual L.params L.body L.scope cl pm cd ct) ⟨[],[]⟩=pure []
 E:∀ (q:Str) (lam:Addr) (cd:Value) (cl:List (Str × Addr)) (A:Around) (outer:List Env) (s:Shared) (H:Hp) (E:XK),Room k (A.deeper (z8z q L.scope s.heap.objs.size lam cd cl))->PD (cxL (CXr X.prog X.w Cl) X.prog X.w X.K X.mg X.base X.N (z8z q L.scope s.heap.objs.size lam cd cl) A outer s H E) (Xk Cl E) L.body L.tE
def zjn (Cl:Nat->Value) (Ca:Nat->Nat) (P:Program) (w:World) (K:PySem.W.Frag) (mg:Str->Option Value) (base:Heap) (x:Str) (n j:Nat) (tR:DS):Prop:=∃ f,mg x=some (.ref f)/\PySem.W.keepIn K (.ref f)=true/\
 ∀ (k:Nat) (Y:Cx) (pins:List (Addr × Obj)) (σ1:St) (H:Hp) (s:Shared) (lam:Addr) (hid μ:List Addr) (r:R D) (Q:VK) (Ex:Nat->Hp->Prop),Y.prog=P->Y.w=w->Y.K=K->Y.mg=mg->Y.base=base->L2.Inv Y pins σ1 H s->Room (k + 1) Y.A->
  (∀ s2:Shared,Un (frs Y.stack) [] H H s.heap s2.heap->HOk P w H s2.heap->PySem.W.FnAt lam s2.heap)->Thk Cl P w K mg base (frs Y.stack) H s.heap lam k hid μ r->z1I Ex K H hid μ (z6j Ca n j tR r) Q->wpAny (model P w) Y.A (call (.ref f) [.ref lam]) (EP Y pins σ1 Q) Y.xe s
theorem zjG {Cl:Nat->Value} {Ca:Nat->Nat} {P:Program} {w:World} {K:PySem.W.Frag} {mg:Str->Option Value} {base:Heap} {i j:Nat} {T:Addr} {x nf n y xT:Str} {st:Stmt} {N:List Str} {z2C:List Stmt} {tR:DS} {p0 p1 p2 p3 p4 p5 p6 p7 p8 pq pc pos:Pos} {kc:_}
  (h:z1Y K mg x st)
  (hbd:z1U st=.Assign [.Name y pq] (.Constant .none kc pc) p0 :: .Try [.Expr (.Call (.Name nf p1) [] [] p2) p3] [.ExceptHandler (some (.Name xT p4)) (some n) [.Assign [.Name y p5] (.Name n p6) p7] p8] [] [] pos :: z2C)
  (S:z1v N [nf] (z1o st)) (hN:N.Nodup) (hk0:N[0]?=some nf) (hi:N[i]?=some n) (hj:N[j]?=some y) (hij:i ≠ j) (hj0:j ≠ 0) (hn:(z1o st).names.lookup n=some .local) (hy:(z1o st).names.lookup y=some .local) (hvf:Vis (z1o st) nf)
  (hb:∀ (kV doc pm:Value) (an:Option Addr) (cdv ct:Value) (us:List Value),us.length=1->bindArgs (PySem.W.fnOf x x (z2x st) (z1U st) (z1o st) .none kV doc pm an cdv ct) ⟨us,[]⟩=pure ([nf].zip us))
  (hgT:(z1o st).names.lookup xT=some .globalImplicit) (hmT:mg xT=some (.ref T)) (hcls:∀ c,Cl c=.ref (Ca c)/\XcK K (Ca c)/\PySem.W.exmOne K (.ref (Ca c)) (.ref T)=some true)
  (hrest:∀ (k:Nat) (A:Around) (outer:List Env) (f:Addr) (cdv:Value) (s:Shared) (H:Hp),Room k (A.deeper (PyProof.Rows.envOfC x (z1o st) s.heap.objs.size f cdv))->z51 (cxX Cl P w K mg base N x (z1o st) f cdv A outer s H E0) (Xk Cl E0) z2C tR)
  (Z:ziD nf n y xT p0 p1 p2 p3 p5 p6 p7 pq pc kc:=by exact {}):zjn Cl Ca P w K mg base x N.length j tR:=by
 obtain ⟨f,fd,hm,F⟩:=h
 refine ⟨f,hm,F.kp,fun k Y pins σ1 H s lam hid μ r Q Ex e1 e2 e3 e4 e5 I hr hlam th q=>?_⟩
 subst e1;subst e2;subst e3;subst e4;subst e5
 exact z9o (Y:=Y) (k:=k) (fs:=frs Y.stack) (h0:=s.heap) (hid:=hid) (μ:=μ) (r:=r) I F hr hbd S hN hk0 hi hj hij hj0 hn hy hvf hb hgT hmT hcls (fun f cdv s H hh=>hrest _ _ _ f cdv s H hh) hlam th (fun _ un=>un) q Z
section
variable {X:Cx} {pins:List (Addr × Obj)} {σ:St} {H H':Hp} {s s0:Shared}
theorem Inv.adopt {H0:Hp} {a:Addr} {o:HO} (I0:L2.Inv X pins σ H0 s0) (I:L2.Inv X pins σ H s) (hge:s0.heap.objs.size <= a) (hn:H a=none) (new:ObjOk X.prog X.w (upd H a o) s.heap a o):L2.Inv X pins σ (upd H a o) s:=by
 have nb:∀ {b:Addr} {u:Obj},X.s₀.heap.get? b=some u->b ≠ a:=fun e z=>absurd (Nat.lt_of_lt_of_le (Heap.lt_size e) (Nat.le_trans I0.sz hge)) (by rw [z];exact Nat.lt_irrefl _)
 refine ⟨I.ok,I.os,I.bare,⟨I.base.keep,I.base.slot,fun b u e n hx=>by rw [z1q (nb e)];exact I.base.free b u e n hx,I.base.there,fun b xs e=>?_,fun b u v e=>?_,fun b ps e=>?_⟩,I.loc,I.cell,?_,fun x c e=>?_,fun p hp=>?_,fun b u e=>?_,I.len,I.tk⟩
 ·have:=I.base.tups b xs e
  rw [z1q (z1r this hn)];exact this
 ·have:=I.base.frzs b u v e
  rw [z1q (z1r this hn)];exact this
 ·obtain ⟨more,this⟩:=I.base.tbls b ps e
  exact ⟨more,by rw [z1q (z1r this hn)];exact this⟩
 ·rw [z1q (Nat.ne_of_lt (Nat.lt_of_lt_of_le I0.lt hge))];exact I.free
 ·obtain ⟨v,z⟩:=I0.cell x c e
  rw [z1q (Nat.ne_of_lt (Nat.lt_of_lt_of_le z.lt hge))];exact I.freeC x c e
 ·obtain ⟨h1,h2,h3⟩:=I.pin p hp
  have hl:=Heap.lt_size (I0.pin p hp).1
  exact ⟨h1,by rw [z1q (Nat.ne_of_lt (Nat.lt_of_lt_of_le hl hge))];exact h2,h3⟩
 ·by_cases hb:b=a
  ·subst hb
   rw [z1z] at e;cases e;exact new
  ·rw [z1q hb] at e
   exact (I.hok b u e).stay (fun _ _ _ z=>z) (fun b2 z=>by rw [z1q (z1r z hn)];exact z) fun b2 xs z=>by rw [z1q (z1r z hn)];exact z
theorem LamIn.ext {L:Lam} {a:Addr} (h:LamIn X L H a) (x:Ext H [] H' []):LamIn X L H' a:=by
 obtain ⟨c,φ,ct,h1,h2,h3⟩:=h
 exact ⟨c,φ,ct,x.keep _ _ h1 (by simp),x.keep _ _ h2 (by simp),h3⟩
theorem LamIn.put {L:Lam} {a l:Addr} {vs:List V} {o:HO} (h:LamIn X L H a) (hl:H l=some (.lst vs)):LamIn X L (upd H l o) a:=by
 obtain ⟨c,φ,ct,h1,h2,h3⟩:=h
 have n:∀ {b:Addr} {φ:Heap->Prop},H b=some (.ext φ)->b ≠ l:=fun e z=>by rw [z,hl] at e;cases e
 exact ⟨c,φ,ct,by rw [z1q (n h1)];exact h1,by rw [z1q (n h2)];exact h2,h3⟩
theorem z6p {Pt c:Addr} {L:Lam} {pos:Pos} (Lk:z5u X.mg X.base c Pt) (hcode:X.env.code=.ref c) (ls:z4g X.env.scope L.scope) (df:defaultsOf L.params X.env=([],[])):PE X (.Lambda L.params L.body L.scope pos) (fun _ H Q=>Tidy H Pt/\∀ a H',H a=none->Ext H [] H' []->LamIn X L H' a->Q (.ref a) H'):=by
 intro pins s σ H Q I ⟨ti,q⟩
 have hfree:∀ y ∈ L.scope.names,y.2=.free->∃ c,X.env.cells.lookup y.1=some c:=fun y hy hf=>I.ok.has y.1 (ls.frees y hy hf)
 refine zeH I Lk hcode ti (z3p hfree) df fun lam cd ctv h' tk H' I1 ext cells hlN hge hget hrec=>?_
 obtain ⟨cc,φ,rfl,hcc,hφ⟩:=hrec
 have new:ObjOk X.prog X.w (upd H' lam (.ext fun h=>h.get? lam=some (z9F X L cc ctv))) h' lam (.ext fun h=>h.get? lam=some (z9F X L cc ctv)):=⟨hget,⟨_,hget⟩,fun h1 h2 z k=>k _ z⟩
 exact ⟨.ref lam,_,Inv.adopt (s0:=s) I I1 hge hlN new,rfl,q lam _ (I.hok.fresh hge) ((ext []).trans (.laid hlN)) ⟨cc,φ,ctv,z1z,by rw [z1q (z1r hcc hlN)];exact hcc,hφ⟩⟩
end
structure Bld (X:Cx) (H0:Hp) (l:Addr) (ls:List Lam) (as:List Addr) (H:Hp):Prop where
 nl:H0 l=none
 ea:Ea l H0 [] H []
 at_:H l=some (.lst (as.map V.ref))
 lam:PySem.Paired (fun L a=>LamIn X L H a) ls as
 nd:as.Nodup
theorem Paired.imp' {α β:Type} {p q:α->β->Prop} (h:∀ a b,p a b->q a b):∀ {l:List α} {m:List β},PySem.Paired p l m->PySem.Paired q l m
 | _,_,.nil=>.nil
 | _,_,.cons x r=>.cons (h _ _ x) (Paired.imp' h r)
theorem Paired.snoc' {α β:Type} {p:α->β->Prop} {x:α} {y:β} (h:p x y):∀ {l:List α} {m:List β},PySem.Paired p l m->PySem.Paired p (l ++ [x]) (m ++ [y])
 | _,_,.nil=>.cons h .nil
 | _,_,.cons z r=>.cons z (Paired.snoc' h r)
theorem Paired.right' {α β:Type} {p:α->β->Prop} {y:β}:∀ {l:List α} {m:List β},PySem.Paired p l m->y ∈ m->∃ x,p x y
 | _,_,.cons z r,h=>by
  rcases List.mem_cons.mp h with rfl|h
  ·exact ⟨_,z⟩
  ·exact Paired.right' r h
theorem Bld.more {X:Cx} {H0 H H':Hp} {l a:Addr} {ls:List Lam} {as:List Addr} {L:Lam} (b:Bld X H0 l ls as H) (n:H a=none) (x:Ext H [] H' []) (k:LamIn X L H' a):Bld X H0 l (ls ++ [L]) (as ++ [a]) (upd H' l (.lst (as.map V.ref ++ [.ref a]))):=by
 have hl:H' l=some (.lst (as.map V.ref)):=x.keep _ _ b.at_ (by simp)
 refine ⟨b.nl,(b.ea.trans x.ea).trans (.put ⟨_,hl⟩),by rw [z1z];simp,Paired.snoc' (p:=fun L c=>LamIn X L (upd H' l (.lst (as.map V.ref ++ [.ref a]))) c) (k.put hl) (Paired.imp' (p:=fun L c=>LamIn X L H c) (fun _ _ z=>(LamIn.ext z x).put hl) b.lam),?_⟩
 rw [List.nodup_append]
 refine ⟨b.nd,by simp,fun y hy z hz=>?_⟩
 have:z=a:=by simpa using hz
 subst this
 rintro rfl
 obtain ⟨L',c,φ,ct,h1,_⟩:=Paired.right' b.lam hy
 rw [n] at h1;cases h1
theorem Bld.ext {X:Cx} {H0 H:Hp} {l:Addr} {ls:List Lam} {as:List Addr} (b:Bld X H0 l ls as H) (μ:List Addr):Ext H0 μ H μ:=
 ⟨⟨[],by simp⟩,fun c o h _ ht=>b.ea.kept c o h (by simp) (z1r h b.nl) ht,fun _ m=>.inl m,b.ea.there,b.ea.tab⟩
theorem Bld.cells {X:Cx} {K:PySem.W.Frag} {H0 H:Hp} {l:Addr} {ls:List Lam} {as:List Addr} {hid μ:List Addr} {O:Ow} (b:Bld X H0 l ls as H) (c:Cells K H0 hid μ O):Cells K H hid μ O:=by
 refine ⟨c.len,c.nd,c.nh,fun a m=>b.ea.there a (c.ht a m),fun k a e=>?_⟩
 obtain ⟨ds,vs,h1,h2,h3⟩:=c.at_ k a e
 exact ⟨ds,vs,h1,b.ea.kept a _ h2 (by simp) (z1r h2 b.nl) (by intro ps z;cases z),h3.ext (b.ext μ)⟩
def z59 (f:R D->R D):List DE->Sg->Ow->List D->R (List D)
 | [],_,O,acc=>.ok acc O
 | t :: ts,σ,O,acc=>(f (t σ O)).bnd fun v O1=>z59 f ts σ O1 (acc ++ [v])
def z2N (f:R D->R D) (ts:List DE):DE:=fun σ O=>(noX (z59 f ts σ O [])).bnd fun acc O1=>.ok (.lst acc) O1
def teL (f:R D->R D) (n ic ix:Nat) (al:List (Addr × Lam)):DE:=fun σ O=>match σ[ix]? with
 | some (some (.adr a))=>match al.lookup a with
  | some L=>f (L.tE ((σ.take n).set ic none) O)
  | none=>.bad
 | _=>.bad
theorem z6q {f:R D->R D} {n ic:Nat} {al:List (Addr × Lam)} {it0:DI} {σ:Sg} (hn:σ.length=n) (nd:(al.map (·.1)).Nodup) (hs:al.length <= 1000):∀ (bl:List (Addr × Lam)) (i:Nat) (O:Ow) (acc:List D),al.drop i=bl->acc.length=i->
  z1M (.val (al.map fun p=>.adr p.1)) (z4c ⟨it0,.one n,[]⟩ [] (teL f n ic n al) (clr (σ ++ List.replicate 1 none) (z1t [⟨it0,.one n,[]⟩]))) bl.length i O acc=z59 f (bl.map fun p=>p.2.tE) (σ.set ic none) O acc
 | [],i,O,acc,hd,hi=>by
  have e:(Src.val (al.map fun p=>D.adr p.1)).get O i=none:=by
   show (al.map fun p=>D.adr p.1)[i]?=none
   have:=congrArg List.length hd
   simp at this
   simp;omega
  show z1M _ _ 0 i O acc=_
  unfold z1M
  rw [e];rfl
 | (a,L) :: bl,i,O,acc,hd,hi=>by
  have e0:al[i]?=some (a,L):=by
   have:(al.drop i)[0]?=some (a,L):=by rw [hd];rfl
   simpa using this
  have e:(Src.val (al.map fun p=>D.adr p.1)).get O i=some (.adr a):=by
   show (al.map fun p=>D.adr p.1)[i]?=_
   rw [List.getElem?_map,e0];rfl
  have hlk:al.lookup a=some L:=by
   have m:=List.mem_of_getElem? e0
   clear e e0 hd hi hs
   induction al with
   | nil=>cases m
   | cons p r ih=>
    obtain ⟨n1,n2⟩:=List.nodup_cons.mp nd
    rcases List.mem_cons.mp m with rfl|m
    ·simp [List.lookup_cons]
    ·have:(a == p.1)=false:=by
      have:a ≠ p.1:=fun z=>n1 (List.mem_map.mpr ⟨(a,L),m,z⟩)
      simpa using this
     rw [List.lookup_cons,this]
     exact ih n2 m
  have hil:i < al.length:=(List.getElem?_eq_some_iff.mp e0).1
  have hσ:clr (clr (σ ++ List.replicate 1 none) [n]) [n]=σ ++ [none]:=by
   show ((σ ++ [none]).set n none).set n none=_
   rw [List.set_set]
   subst hn
   simp
  have step:z4c ⟨it0,.one n,[]⟩ [] (teL f n ic n al) (clr (σ ++ List.replicate 1 none) (z1t [⟨it0,.one n,[]⟩])) (.adr a) O acc=(f (L.tE (σ.set ic none) O)).bnd fun v O1=>.ok (acc ++ [v]) O1:=by
   have e1:(σ ++ [none]).set n (some (D.adr a))=σ ++ [some (.adr a)]:=by subst hn;simp
   have hput:(Tg.one n).put (.adr a) (clr (clr (σ ++ List.replicate 1 none) (z1t [⟨it0,.one n,[]⟩])) (z1t [⟨it0,.one n,[]⟩]))=some (σ ++ [some (.adr a)]):=by
    show some ((clr (clr (σ ++ List.replicate 1 none) [n]) [n]).set n (some (D.adr a)))=_
    rw [hσ,e1]
   unfold z4c
   simp only [hput]
   show (z3E [] (teL f n ic n al) (σ ++ [some (.adr a)]) O acc)=_
   unfold z3E
   have e2:teL f n ic n al (σ ++ [some (.adr a)]) O=f (L.tE (σ.set ic none) O):=by
    unfold teL
    have:(σ ++ [some (D.adr a)])[n]?=some (some (.adr a)):=by subst hn;simp
    rw [this]
    simp only [hlk]
    have:(σ ++ [some (D.adr a)]).take n=σ:=by subst hn;simp
    rw [this]
   rw [e2]
   cases f (L.tE (σ.set ic none) O) with
   | ok v O1=>show (if acc.length < 100000 then _ else _)=_;rw [if_pos (by omega)];rfl
   | exc c O1=>rfl
   | bad=>rfl
  show z1M _ _ (bl.length + 1) i O acc=_
  unfold z1M
  rw [e]
  show (z4c _ _ _ _ (.adr a) O acc).bnd _=_
  rw [step]
  show _=(f (L.tE (σ.set ic none) O)).bnd _
  cases f (L.tE (σ.set ic none) O) with
  | ok v O1=>exact z6q hn nd hs bl (i + 1) O1 (acc ++ [v]) (by
    have:=congrArg (List.drop 1) hd
    simpa [List.drop_drop,Nat.add_comm] using this) (by simp [hi])
  | exc c O1=>rfl
  | bad=>rfl
theorem EnvOk.take {K:PySem.W.Frag} {H:Hp} {hid μ:List Addr} {σ:Sg} {σv:St} (e:EnvOk K H hid μ σ σv) (n:Nat):EnvOk K H hid μ (σ.take n) (σv.take n):=
 ⟨by simp [e.len],fun i d h=>by
  rw [List.getElem?_take] at h
  split at h
  ·rename_i hi
   obtain ⟨v,h1,h2⟩:=e.at_ i d h
   exact ⟨v,by rw [List.getElem?_take,if_pos hi];exact h1,h2⟩
  ·cases h⟩
theorem EnvOk.drop {K:PySem.W.Frag} {H:Hp} {hid μ:List Addr} {σ:Sg} {σv:St} (e:EnvOk K H hid μ σ σv) (i:Nat):EnvOk K H hid μ (σ.set i none) σv:=
 ⟨by simp [e.len],fun j d h=>by
  by_cases hj:i=j
  ·subst hj
   by_cases hl:i < σ.length
   ·rw [List.getElem?_set_self hl] at h;cases h
   ·rw [List.getElem?_eq_none_iff.mpr (by simp;omega)] at h;cases h
  ·rw [List.getElem?_set_ne hj] at h
   exact e.at_ j d h⟩
section
variable {X:Cx} {Cl:Nat->Value}
theorem zcx {k ic:Nat} {pins:List (Addr × Obj)} {σ0:St} {H0 H:Hp} {s0:Shared} {h:Heap} {fp:List Addr} {a:Addr} {L:Lam} {σv:St} {σ:Sg} {hid μ:List Addr} {O:Ow}
  (I0:L2.Inv X pins σ0 H0 s0) (hfp:∀ b ∈ fp,z7e X pins H0 b) (un0:Un (frs X.stack) fp H0 H s0.heap h) (R:zeO Cl X k L) (lam:LamIn X L H a) (ag:∀ i,i < X.N.length->σv[i]?=σ0[i]?) (ev:EnvOk X.K H hid μ σ σv) (cl:Cells X.K H hid μ O) (hl:X.N.length <= σv.length):
  Thk Cl X.prog X.w X.K X.mg X.base (frs X.stack) H h a (k + 1) hid μ (L.tE ((σ.take X.N.length).set ic none) O):=by
 intro A outer s2 Q E hr e0 un qq
 obtain ⟨cc,φ,ct,h1,h2,h3⟩:=lam
 have hget:s2.heap.get? a=some (z9F X L cc ct):=(e0.hok a _ h1).1
 obtain ⟨qn,hqn⟩:=h3 _ (e0.hok cc _ h2).1
 have hfree:∀ y ∈ L.scope.names,y.2=.free->∃ c,X.env.cells.lookup y.1=some c:=fun y hy hf=>I0.ok.has y.1 (R.ls.frees y hy hf)
 have hcl:∀ x c,(z1L X.env.cells L.scope.names []).lookup x=some c->X.env.cells.lookup x=some c:=fun x c e=>by
  rcases z3g _ _ (PySem.mem_of_lookup e) with m|⟨m,z⟩
  ·cases m
  ·obtain ⟨c',hc'⟩:=hfree (x,.free) m rfl
   have hc2:X.env.cells.lookup x=some c':=hc'
   rw [hc2] at z ⊢;rw [z];rfl
 have hasF:∀ x,L.scope.names.lookup x=some .free->∃ c,(z1L X.env.cells L.scope.names []).lookup x=some c:=fun x e=>by
  have m:=z3f (cells:=X.env.cells) L.scope.names [] (PySem.mem_of_lookup e)
  exact ⟨_,z21 (z2J _ _ R.ls.nd (by simp) (by intro p hp;cases hp)) m⟩
 have hfv:∀ x,L.scope.names.lookup x=some .free->X.env.scope.names.lookup x=some .cell \/ X.env.scope.names.lookup x=some .free:=fun x e=>R.ls.frees (x,.free) (PySem.mem_of_lookup e) rfl
 have hvis:∀ x,Vis L.scope x->L.scope.names.lookup x=some .free:=fun x hx=>by
  rcases hx with z|z|z
  ·exact absurd rfl (R.ls.loc _ (PySem.mem_of_lookup z))
  ·exact absurd rfl (R.ls.cell _ (PySem.mem_of_lookup z))
  ·exact z
 -- the cells of the frame are as they were
 have kp:∀ x c v,X.env.cells.lookup x=some c->s0.heap.IsCell c v->s2.heap.IsCell c v/\H c=none:=fun x c v e z=>by
  have nf:c ∉ fp:=fun m=>(hfp c m).2.2.2.2.1 x c e rfl
  obtain ⟨o,ho,hd⟩:=z
  obtain ⟨sl,e1⟩:=un0.any ho (I0.freeC x c e) nf
  have n1:=un0.free c o ho (I0.freeC x c e) nf
  obtain ⟨sl2,e2⟩:=un.any e1 n1 (by simp)
  exact ⟨⟨_,e2,hd⟩,n1⟩
 refine zij (k:=k) (t:=L.tE) (N:=X.N) (σ:=σv.take X.N.length) (σd:=(σ.take X.N.length).set ic none) (cl:=z1L X.env.cells L.scope.names []) (cd:=.ref cc) hr e0 hget hqn R.ls.co R.ls.gen R.ls.kind R.ls.cell (R.bl _ _ _ _ _ _) hvis (fun x c e=>?_) (fun x y c e1 e2=>I0.ok.inj x y c (hcl x c e1) (hcl y c e2)) hasF (fun i x v e1 e2 e3=>?_) (by simp;omega) (R.E _ _ _ _ _ _ _ _ _) ((ev.take _).drop ic) cl qq
 ·obtain ⟨v,z⟩:=I0.cell x c (hcl x c e)
  obtain ⟨z1,z2⟩:=kp x c v (hcl x c e) z
  exact ⟨⟨v,z1⟩,z2⟩
 ·have hi:i < X.N.length:=(List.getElem?_eq_some_iff.mp e1).1
  rw [List.getElem?_take,if_pos hi,ag i hi] at e2
  obtain ⟨m,hn,hlk⟩:=I0.loc
  obtain ⟨u,r,l⟩:=hlk i x v e1 e2 (.inr (hfv x e3))
  obtain ⟨c,hc⟩:=hasF x e3
  refine ⟨u,c,r,hc,?_⟩
  rcases l with ⟨z,_⟩|⟨_,c',g1,g2⟩
  ·have z':X.env.scope.names.lookup x=some .local:=z
   rcases hfv x e3 with q|q <;> (rw [z'] at q;cases q)
  ·have:=hcl x c hc
   rw [g1] at this;cases this
   exact (kp x _ _ g1 g2).1
end
theorem LamIn.mono {X:Cx} {L:Lam} {H H':Hp} {a:Addr} (h:LamIn X L H a) (k:∀ b φ,H b=some (.ext φ)->H' b=some (.ext φ)):LamIn X L H' a:=by
 obtain ⟨c,φ,ct,h1,h2,h3⟩:=h
 exact ⟨c,φ,ct,k _ _ h1,k _ _ h2,h3⟩
theorem Cells.lsts {K:PySem.W.Frag} {H:Hp} {hid μ:List Addr} {O:Ow} (c:Cells K H hid μ O):∀ a ∈ μ,∃ vs,H a=some (.lst vs):=fun a m=>by
 obtain ⟨k,e⟩:=List.getElem?_of_mem m
 obtain ⟨_,vs,_,h2,_⟩:=c.at_ k a e
 exact ⟨vs,h2⟩
theorem Paired.zip' {α β:Type} {p:α->β->Prop} {x:α} {y:β}:∀ {l:List α} {m:List β},PySem.Paired p l m->(y,x) ∈ m.zip l->p x y/\x ∈ l
 | _,_,.cons z r,h=>by
  rcases List.mem_cons.mp h with e|h
  ·cases e;exact ⟨z,by simp⟩
  ·obtain ⟨h1,h2⟩:=Paired.zip' r h
   exact ⟨h1,List.mem_cons_of_mem _ h2⟩
theorem Paired.len' {α β:Type} {p:α->β->Prop}:∀ {l:List α} {m:List β},PySem.Paired p l m->l.length=m.length
 | _,_,.nil=>rfl
 | _,_,.cons z r=>by simp [Paired.len' r]
theorem zb9 {β:Type} {a:Nat} {b:β}:∀ {l:List (Nat × β)},l.lookup a=some b->(a,b) ∈ l
 | (k,v) :: r,h=>by
  rw [List.lookup_cons] at h
  split at h
  ·rename_i e
   cases h
   rw [show a=k from by simpa using e];simp
  ·exact List.mem_cons_of_mem _ (zb9 h)
def zh4 (X:Cx) (Pt:Addr) (L:Lam):TE:=fun _ H Q=>Tidy H Pt/\∀ a H',H a=none->Ext H [] H' []->LamIn X L H' a->Q (.ref a) H'
def zay (Cl:Nat->Value) (f:R D->R D) (ic k:Nat) (Ex:Nat->Hp->Prop) (X:Cx):TE:=fun σv H Q=>∃ l as ls,σv[ic]?=some (some (.ref l))/\H l=some (.lst (as.map V.ref))/\PySem.Paired (fun L a=>LamIn X L H a) ls as/\as.Nodup/\as.length <= 1000/\(∀ L ∈ ls,zeO Cl X k L)/\
 ∃ hid μ σ O,EnvOk X.K H hid μ σ σv/\Cells X.K H hid μ O/\l ∉ hid/\l ∉ μ/\z1I Ex X.K H hid μ (z2N f (ls.map Lam.tE) (σ.set ic none) O) Q
section
variable {X:Cx} {Ex:Nat->Hp->Prop} {Cl:Nat->Value} {Ca:Nat->Nat}
theorem z9u {k ic n j:Nat} {tR:DS} {xr xc xs:Str} {scope:Scope} {pr pv pcall pt pi pos:Pos} (rc:zjn Cl Ca X.prog X.w X.K X.mg X.base xr n j tR) (hr:Room (k + 2) X.A) (hcalm:X.calm=true) (hb:BOk X.env.scope scope (X.N ++ [xc]) [X.N.length]) (hic:X.N[ic]?=some xs) (hvs:Vis X.env.scope xs)
  (hN:(X.N ++ [xc]).Nodup) (hgl:(relabel scope X.env).names.lookup xr=some .globalImplicit) (hvc:(relabel scope X.env).names.lookup xc=some .local)
  (hs:∀ x,foldedSetIterable (.Name xs pi) X.env x=pure x:=by intro _;rfl) (hdb:(xr == ("__debug__":Str))=false:=by decide) (hd1:(xc == ("__debug__":Str))=false:=by decide) (hd2:(xc == ("__classdict__":Str))=false:=by decide) (hd3:(xs == ("__debug__":Str))=false:=by decide) (hd4:(xs == ("__classdict__":Str))=false:=by decide):
  PE X (.ListComp (.Call (.Name xr pr) [.Name xc pv] [] pcall) [⟨.Name xc pt,.Name xs pi,[],0⟩] scope pos) (zay Cl (z6j Ca n j tR) ic k Ex X):=by
 rintro pins s σv H Q I ⟨l,as,ls,hl,hH,hp,nd,hsz,hR,hid,μ,σ,O,e1,c1,n1,n2,q⟩
 have hlen:=Paired.len' hp
 have hm1:(as.zip ls).map (·.1)=as:=by rw [List.map_fst_zip];omega
 have hm2:(as.zip ls).map (·.2)=ls:=by rw [List.map_snd_zip];omega
 have hσl:σ.length=X.N.length:=e1.len.trans I.len
 have dats:∀ as:List Addr,Dats X.K H hid μ (as.map D.adr) (as.map V.ref):=fun as=>by
  induction as with
  | nil=>exact .nil
  | cons a r ih=>exact .cons (by unfold Dat;rfl) ih
 have e1':EnvOk X.K H hid μ (σ.set ic (some (.lst (as.map D.adr)))) σv:=by
  have:=e1.set (d:=.lst (as.map D.adr)) (v:=.ref l) (by unfold Dat;exact ⟨l,_,rfl,.inl ⟨.inl hH,n1,n2⟩,dats as⟩) ic
  rwa [show σv.set ic (some (.ref l))=σv from by
   have hi:=(List.getElem?_eq_some_iff.mp hl).1
   have he:=(List.getElem?_eq_some_iff.mp hl).2
   rw [<- he];simp] at this
 rw [eval_ListComp]
 refine z5p (Ex:=Ex) (z74 _) (em:=emL (teL (z6j Ca n j tR) X.N.length ic X.N.length (as.zip ls))) (it0:=dIt (z1n ic)) (g:=.one X.N.length) (ts:=[]) (cs:=[]) (ext:=[xc]) (gs:=[]) (σ:=σ.set ic (some (.lst (as.map D.adr)))) (O:=O) (use:=none) hcalm (zaV (zeA hic hvs hd3 hd4)) hb (fun cells Cn s0 H0 fp I0 hfp hx=>?_) hs I e1' c1 (z9H (o:=false) (Q:=Q) c1 ?_ fun L H' hQ s' C I' ns nC l1 y1 ce pn=>?_)
 ·obtain ⟨μx,hx⟩:=hx
  refine ⟨zer (i:=X.N.length) hN (by show (X.N ++ [xc])[X.N.length]?=some xc;simp) (.inl hvc) (.inr hvc),.nil,.nil,fun A hid' kk hk=>z9O rfl ?_ hk⟩
  rintro pins6 s6 σ6 H6 Q6 I6 ⟨μ6,σ6d,O6,⟨za,zn,μ0,o0,zea,zμ⟩,e6,c6,q6⟩
  unfold teL at q6
  split at q6
  ·rename_i a ha
   split at q6
   ·rename_i L hL
    obtain ⟨v,hv,dv⟩:=e6.at_ _ _ ha
    unfold Dat at dv
    subst dv
    obtain ⟨lam,mem⟩:=Paired.zip' hp (zb9 hL)
    have lam6:LamIn X L H6 a:=(lam.mono (H':=H0) fun b φ e=>hx.keep b _ e fun m=>by
     obtain ⟨vs,z⟩:=c1.lsts b m
     rw [z] at e;cases e).mono fun b φ e=>zea.kept b _ (by rw [z1q (z1r e zn)];exact e) (fun m=>by
      obtain ⟨vs,z⟩:=zμ b m
      rw [z] at e;cases e) (z1r e zn) (by intro ps z;cases z)
    obtain ⟨f,hm,hkp,RC⟩:=rc
    refine wpAny_Call_Name_kw (z4P I6 hgl hm ?_ hdb)
    refine PySem.W.callWith_K (h₀:=X.base) I6.ok.mod.kin hkp ?_ (by rfl) (by rfl)
    show wpAny _ _ (spliced ((false,eval (.Name xc pv) (cxB X (X.N ++ [xc]) scope cells Cn s0 H0 fp).env) :: backTo pcall (starEach [] (cxB X (X.N ++ [xc]) scope cells Cn s0 H0 fp).env))) _ _ s6
    refine Calls.spliced_cons (thn (z55 (X:=cxB X (X.N ++ [xc]) scope cells Cn s0 H0 fp) (i:=X.N.length) (pos:=pv) (by show (X.N ++ [xc])[X.N.length]?=some xc;simp) (.inl hvc) hd1 hd2 pins6 s6 σ6 H6 (fun v H7=>v=.ref a/\H7=H6) I6 ⟨_,hv,rfl,rfl⟩) fun u s7 ⟨v,H7,I7,rv,hv,hH7⟩=>?_)
    subst hv;subst hH7;cases rv
    refine Calls.spliced_nil ⟨I7.kIn,?_⟩
    have l6:σ6.length=X.N.length + 1:=by rw [I6.len];show (X.N ++ [xc]).length=_;simp
    refine RC (k + 1) (cxB X (X.N ++ [xc]) scope cells Cn s0 H0 fp) pins6 σ6 H7 s7 a (A :: hid') μ6 _ Q6 Ex0 rfl rfl rfl rfl rfl I7 hr (fun s2 _ hok=>?_) (zcx (k:=k) (ic:=ic) I0 hfp I7.base (hR L mem) lam6 (fun i hi=>?_) e6 c6 (by omega)) q6
    ·obtain ⟨c,φ,ct,h1,h2,h3⟩:=lam6
     exact ⟨_,_,_,_,(hok a _ h1).1⟩
    ·rw [za i (fun m=>absurd hi (by rw [show i=X.N.length from by simpa [z1t,Tg.slots] using m];exact Nat.lt_irrefl _)),List.getElem?_append_left (by rw [I.len];exact hi)]
   ·exact False.elim q6
  ·exact False.elim q6
 ·rw [z4R]
  have hw:=z6q (f:=z6j Ca n j tR) (ic:=ic) (al:=as.zip ls) (it0:=dIt (z1n ic)) (σ:=σ.set ic (some (.lst (as.map D.adr)))) (n:=X.N.length) (by simp [hσl]) (by rw [hm1];exact nd) (by rw [List.length_zip];omega) (as.zip ls) 0 O [] rfl rfl
  have hsrc:dIt (z1n ic) (σ.set ic (some (.lst (as.map D.adr)))) O=.ok (.val (as.map D.adr)) O:=by
   have hi:ic < σ.length:=by rw [hσl];exact (List.getElem?_eq_some_iff.mp hic).1
   unfold dIt z1n
   rw [List.getElem?_set_self hi]
   rfl
  have hz:(as.zip ls).map (fun p=>D.adr p.1)=as.map D.adr:=by
   rw [<- hm1,List.map_map];rw [hm1];rfl
  have hz2:(as.zip ls).map (fun p=>p.2.tE)=ls.map Lam.tE:=by
   rw [<- hm2,List.map_map];rw [hm2];rfl
  rw [hz,hz2,List.set_set] at hw
  have hzl:(as.zip ls).length=as.length:=by rw [List.length_zip];omega
  unfold z3r
  rw [hsrc]
  show z1I Ex X.K H hid μ (z8l false (noX (z1M (.val (as.map D.adr)) _ ((as.map D.adr).length) 0 O []))) Q
  rw [List.length_map,<- hzl]
  show z1I Ex X.K H hid μ (z8l false (noX (z1M (.val (as.map D.adr)) (z4c ⟨dIt (z1n ic),.one X.N.length,[]⟩ [] (teL (z6j Ca n j tR) X.N.length ic X.N.length (as.zip ls)) (clr (σ.set ic (some (.lst (as.map D.adr))) ++ List.replicate 1 none) (z1t [⟨dIt (z1n ic),.one X.N.length,[]⟩]))) (as.zip ls).length 0 O []))) Q
  rw [hw]
  exact q
 ·obtain ⟨m,hn⟩:=ns
  exact ⟨m,hn,fun h' hs'=>⟨.ref L,H',Inv.bare I' hs' nC l1 y1 ce pn,rfl,hQ⟩⟩
def z9y (Pt iT ic:Nat) (f:R D->R D) (ts:List DE) (tb:DE):DS:=fun σ O=>match σ[iT]? with
 | some (some (.tab p))=>if p=Pt then z22 (dOp (fPy eqF) (z2N f ts) tb) (σ.set ic none) O else .bad
 | _=>.bad
theorem EnvOk.set0 {K:PySem.W.Frag} {H:Hp} {hid μ:List Addr} {σ:Sg} {σv:St} (e:EnvOk K H hid μ σ σv) (i:Nat) (x:Option V):EnvOk K H hid μ (σ.set i none) (σv.set i x):=
 ⟨by simp [e.len],fun j d h=>by
  by_cases hj:i=j
  ·subst hj
   by_cases hl:i < σ.length
   ·rw [List.getElem?_set_self hl] at h;cases h
   ·rw [List.getElem?_eq_none_iff.mpr (by simp;omega)] at h;cases h
  ·rw [List.getElem?_set_ne hj] at h ⊢
   exact e.at_ j d h⟩
theorem z9T {Pt iT ic k:Nat} {f:R D->R D} {t1 t2 t3 tb:DE} {p1 p2 p3:Arguments} {b1 b2 b3:Expr} {s1 s2 s3:Scope} {S1 S2 S3 S4:Stmt}
  (h1:PS X S1 (zj0 (zjr (z8q (zh4 X Pt ⟨p1,b1,s1,t1⟩) zgx)) (z93 ic))) (h2:PS X S2 (zct (tBM X.K "list" z5U (zh2 ic) (z8q (zh4 X Pt ⟨p2,b2,s2,t2⟩) zgx)))) (h3:PS X S3 (zct (tBM X.K "list" z5U (zh2 ic) (z8q (zh4 X Pt ⟨p3,b3,s3,t3⟩) zgx))))
  (h4:PS X S4 (zkc (tOp (rPy X.K eqF) (zay Cl f ic k Ex X) (rd Ex X.K tb)))) (R1:zeO Cl X k ⟨p1,b1,s1,t1⟩) (R2:zeO Cl X k ⟨p2,b2,s2,t2⟩) (R3:zeO Cl X k ⟨p3,b3,s3,t3⟩) (hic:ic < X.N.length):z51 X Ex [S1,S2,S3,S4] (z9y Pt iT ic f [t1,t2,t3] tb):=by
 refine ⟨?_⟩
 rintro pins s σv H E I ⟨hid,μ,σ,O,e1,c1,q⟩
 obtain ⟨ti,q⟩:Tidy H Pt/\postS Ex X.K H hid μ (z22 (dOp (fPy eqF) (z2N f [t1,t2,t3]) tb) (σ.set ic none) O) E:=by
  unfold z9y at q
  split at q
  ·rename_i p hp
   by_cases hpp:p=Pt
   ·rw [if_pos hpp] at q
    obtain ⟨v,_,d⟩:=e1.at_ iT _ hp
    unfold Dat at d
    rw [hpp] at d
    exact ⟨d.2,q⟩
   ·rw [if_neg hpp] at q;exact False.elim q
  ·exact False.elim q
 have hi:ic < σv.length:=by rw [I.len];exact hic
 refine (z2S h1 (z2S h2 (z2S h3 (zcp h4)))) pins s σv H E I ⟨ti,fun a1 H1 n1 x1 l1=>⟨by show 1 <= sizeLine;decide,fun l nl=>?_⟩⟩
 have b1:Bld X H l [⟨p1,b1,s1,t1⟩] [a1] (upd H1 l (.lst [.ref a1])):=⟨x1.none nl,x1.ea.trans (Ext.laid nl).ea,z1z,.cons (LamIn.ext l1 (.laid nl)) .nil,by simp⟩
 have hget:(σv.set ic (some (V.ref l)))[ic]?=some (some (.ref l)):=List.getElem?_set_self hi
 refine ⟨.ref l,hget,.inl ⟨rfl,_,.of b1.at_⟩,b1.ea.tab _ ti,fun a2 H2 n2 x2 l2=>⟨l,_,.ref a2,rfl,rfl,x2.keep _ _ b1.at_ (by simp),by show 1 < sizeLine;decide,?_⟩⟩
 have b2:=b1.more n2 x2 l2
 refine ⟨.ref l,hget,.inl ⟨rfl,_,.of b2.at_⟩,b2.ea.tab _ ti,fun a3 H3 n3 x3 l3=>⟨l,_,.ref a3,rfl,rfl,x3.keep _ _ b2.at_ (by simp),by show 2 < sizeLine;decide,?_⟩⟩
 have b3:=b2.more n3 x3 l3
 have ev:=(e1.ext (b3.ext μ)).set0 ic (some (.ref l))
 obtain ⟨nh,nm⟩:=c1.not_in b3.nl
 have q2:z1I Ex X.K H hid μ ((z2N f [t1,t2,t3] (σ.set ic none) O).bnd fun x O1=>(tb (σ.set ic none) O1).bnd fun y O2=>fPy eqF O2 x y) E.rt:=by
  have q:postS Ex X.K H hid μ (((z2N f [t1,t2,t3] (σ.set ic none) O).bnd fun x O1=>(tb (σ.set ic none) O1).bnd fun y O2=>fPy eqF O2 x y).bnS fun d O1=>.rt d O1) E:=q
  generalize ((z2N f [t1,t2,t3] (σ.set ic none) O).bnd fun x O1=>(tb (σ.set ic none) O1).bnd fun y O2=>fPy eqF O2 x y)=r at q ⊢
  cases r with
  | ok d O1=>exact q
  | exc c O1=>exact q
  | bad=>exact q
 refine ⟨l,_,_,hget,b3.at_,b3.lam,b3.nd,by show 3 <= 1000;decide,fun L m=>?_,hid,μ,σ.set ic none,O,ev,b3.cells c1,nh,nm,?_⟩
 ·simp only [List.cons_append,List.nil_append,List.mem_cons,List.not_mem_nil,or_false] at m
  rcases m with rfl|rfl|rfl
  ·exact R1
  ·exact R2
  ·exact R3
 ·rw [List.set_set]
  exact post.bnd (post.ext q2 (b3.ext μ)) fun x O1 v H4 μ4 x4 c4 d4 p4=>rd.go (ev.ext x4) c4 p4 fun y O2 w H5 μ5 e5 x5 c5 d5 p5=>z53 H5 hid μ5 O2 x y v w E.rt c5 (d4.ext x5) d5 p5
end
end DL
namespace DL
open PySem L2 PySem.Spec PyProof.Rows
open Sem (wp)
theorem z9f (its:List Value):∀ (k:Nat) (acc:List Value),(List.replicate k its.toArray).foldl (· ++ ·) acc.toArray=(acc ++ (List.replicate k its).flatten).toArray
 | 0,acc=>by simp
 | k + 1,acc=>by
  rw [List.replicate_succ,List.foldl_cons,show acc.toArray ++ its.toArray=(acc ++ its).toArray from by simp,z9f its k (acc ++ its),List.replicate_succ]
  simp
theorem z7F (its:List Value) (k:Nat):(List.replicate k its.toArray).foldl (· ++ ·) #[]=((List.replicate k its).flatten).toArray:=by
 have:=z9f its k []
 simpa using this
theorem z4F {α:Type} (l:List α):∀ k:Nat,(List.replicate k l).flatten.length=k * l.length
 | 0=>by simp
 | k + 1=>by rw [List.replicate_succ,List.flatten_cons,List.length_append,z4F l k,Nat.succ_mul,Nat.add_comm]
theorem Vals.flat {vs:List V} {us:List Value} (r:Vals vs us):∀ k:Nat,Vals (List.replicate k vs).flatten (List.replicate k us).flatten
 | 0=>.nil
 | k + 1=>by rw [List.replicate_succ,List.replicate_succ,List.flatten_cons,List.flatten_cons];exact r.append (Vals.flat r k)
theorem Dats.flat {K:PySem.W.Frag} {H:Hp} {hid μ:List Addr} {ds:List D} {vs:List V} (r:Dats K H hid μ ds vs):∀ k:Nat,Dats K H hid μ (List.replicate k ds).flatten (List.replicate k vs).flatten
 | 0=>.nil
 | k + 1=>by rw [List.replicate_succ,List.replicate_succ,List.flatten_cons,List.flatten_cons];exact r.append (Dats.flat r k)
theorem zdX (l:Addr) (items:Array Value) (n:Nat) (u:Tok) (dd:Option Addr) (sl):
  Meets (Builtin.«tuple.__mul__» ⟨[.ref l,.int 1 u],[]⟩) (fun _ R s=>s.heap.get? l=some { cls:=.type "tuple",dict:=dd,data:=.seq items n,slots:=sl }/\R (.ok (.ret (.ref l))) s):=
 .of_wp fun prog w A R s h=>by obtain ⟨hp,g,d,tk,os⟩:=s;obtain ⟨hl,h⟩:=h;wp_walk;exact ⟨_,rfl,h⟩
theorem zcZ (l:Addr) (items:List Value) (n:Nat) (x:Int) (u:Tok) (dd:Option Addr) (sl) (h0:items ≠ []) (h1:items.length <= 1000) (hx:2 <= x) (hx2:x <= 64):
  Meets (Builtin.«tuple.__mul__» ⟨[.ref l,.int x u],[]⟩) (fun _ R s=>s.heap.get? l=some { cls:=.type "tuple",dict:=dd,data:=.seq items.toArray n,slots:=sl }/\R (.ok (.ret (Value.ref s.heap.objs.size))) { s with heap:=s.heap.push { cls:=.type "tuple",data:=.seq ((List.replicate x.toNat items).flatten).toArray } }):=
 .of_wp fun prog w A R s h=>by
  obtain ⟨hp,g,d,tk,os⟩:=s;obtain ⟨hl,h⟩:=h
  have hz:items.toArray ≠ #[]:=by intro e;exact h0 (by simpa using e)
  have hb:(items.toArray.size:Int) * x <= 64000:=by
   rw [List.size_toArray]
   calc (items.length:Int) * x <= 1000 * x:=Int.mul_le_mul_of_nonneg_right (by omega) (by omega)
    _ <= 64000:=by omega
  have c0:¬ (decide (x < -2 ^ 63) || decide (x ≥ 2 ^ 63))=true:=by simp;omega
  have c1:¬ ((items.toArray.size:Int) * x > (2 ^ 63 - 1) / 8):=by
   have:((2 ^ 63 - 1) / 8:Int)=1152921504606846975:=by decide
   omega
  have c2:Builtin.Tuple.tupleTooMany ((items.toArray.size:Int) * x)=false:=by
   unfold Builtin.Tuple.tupleTooMany
   have:sizeLine=16777216:=sizeLine_eq
   rw [this]
   exact decide_eq_false (by omega)
  have c3:=z7F items x.toNat
  have e1:(items.toArray.isEmpty || x == 1)=false:=by
   have:(x == 1)=false:=by simp;omega
   rw [this];simpa using h0
  have e2:(decide (x <= 0) || items.toArray.isEmpty)=false:=by
   have:decide (x <= 0)=false:=decide_eq_false (by omega)
   rw [this];simpa using h0
  wp_walk
  rw [if_neg c0]
  wp_walk
  rw [if_neg (by rw [e1];decide)]
  rw [if_neg (by rw [e2];decide)]
  rw [if_neg c1]
  dsimp only
  rw [if_neg (show ¬ Builtin.Tuple.tupleTooMany ((items.toArray.size:Int) * x)=true by rw [c2];decide),c3]
  have hs:((List.replicate x.toNat items).flatten).toArray.size <= sizeLine:=by
   have:sizeLine=16777216:=sizeLine_eq
   rw [List.size_toArray,z4F]
   have:x.toNat <= 64:=by omega
   calc x.toNat * items.length <= 64 * 1000:=Nat.mul_le_mul this h1
    _ <= _:=by omega
  exact wpAny_bind (m:=Builtin.Tuple.tupleExact _) (wpAny_newObj_type (wpAny_pure ⟨_,rfl,h⟩) hs)
theorem z82 (a:Int) (t:Tok) (l:Addr) (items:Array Value) (n:Nat) (dd:Option Addr) (sl):
  Meets (Builtin.«int.__rmul__» ⟨[.int a t,.ref l],[]⟩) (fun _ R s=>s.heap.get? l=some { cls:=.type "list",dict:=dd,data:=.seq items n,slots:=sl }/\R (.ok (.ret Value.notImplemented)) s):=
 .of_wp fun prog w A R s h=>by obtain ⟨hp,g,d,tk,os⟩:=s;obtain ⟨hl,h⟩:=h;wp_walk;exact ⟨_,rfl,h⟩
theorem zda (l:Addr) (items:List Value) (n:Nat) (x:Int) (u:Tok) (dd:Option Addr) (sl) (h0:items ≠ []) (h1:items.length <= 1000) (hx:1 <= x) (hx2:x <= 64):
  Meets (Builtin.«list.__mul__» ⟨[.ref l,.int x u],[]⟩) (fun _ R s=>s.heap.get? l=some { cls:=.type "list",dict:=dd,data:=.seq items.toArray n,slots:=sl }/\R (.ok (.ret (Value.ref s.heap.objs.size))) { s with heap:=s.heap.push { cls:=.type "list",data:=.seq ((List.replicate x.toNat items).flatten).toArray } }):=
 .of_wp fun prog w A R s h=>by
  obtain ⟨hp,g,d,tk,os⟩:=s;obtain ⟨hl,h⟩:=h
  have hxn:x.toNat <= 64:=by omega
  have hb:items.toArray.size * x.toNat <= 64000:=by
   rw [List.size_toArray]
   calc items.length * x.toNat <= 1000 * 64:=Nat.mul_le_mul h1 hxn
    _ <= 64000:=by omega
  have hc0:¬(!Builtin.List.listFitsIndex x)=true:=by
   unfold Builtin.List.listFitsIndex
   simp;omega
  have hc1:¬items.toArray.size * x.toNat > (2 ^ 63 - 1) / 8:=by
   have:((2 ^ 63 - 1) / 8:Nat)=1152921504606846975:=by decide
   omega
  have hc2:¬Builtin.List.listTooLong (items.toArray.size * x.toNat)=true:=by
   unfold Builtin.List.listTooLong
   have h2:sizeLine=16777216:=sizeLine_eq
   rw [h2]
   simpa using (by omega:items.toArray.size * x.toNat <= 16777216)
  have c3:=z7F items x.toNat
  have e1:items.toArray.isEmpty=false:=by simpa using h0
  have hs:((List.replicate x.toNat items).flatten).toArray.size <= sizeLine:=by
   have:sizeLine=16777216:=sizeLine_eq
   rw [List.size_toArray,z4F]
   calc x.toNat * items.length <= 64 * 1000:=Nat.mul_le_mul hxn h1
    _ <= _:=by omega
  wp_walk
  rw [if_neg hc1]
  dsimp only
  rw [if_neg hc2,e1,if_neg (by decide),c3]
  exact wpAny_bind (m:=newObj _ _) (wpAny_newObj_type (wpAny_pure ⟨_,rfl,h⟩) hs)
section
variable {X:Cx} {Ex:Nat->Hp->Prop}
def ziQ (K:PySem.W.Frag):R2:=fun x y H Q=>∃ a xs i,x=.ref a/\y=.int i/\xs ≠ []/\xs.length <= 1000/\i <= 64/\
 ((SqT K H a xs/\i=1/\Q (.ref a) H) \/ (SqT K H a xs/\2 <= i/\∀ p,H p=none->Q (.ref p) (upd H p (.tup (List.replicate i.toNat xs).flatten))) \/ (SqL K H a xs/\1 <= i/\∀ p,H p=none->Q (.ref p) (upd H p (.lst (List.replicate i.toNat xs).flatten))))
theorem zgf:OpR X (binaryOp .Mult) (ziQ X.K):=by
 intro pins s σ H x y v u Q I rx ry h
 obtain ⟨a,xs,i,rfl,rfl,hx,hz,hi,h⟩:=h
 cases rx
 obtain ⟨t,rfl⟩:=ry
 have hne:∀ {its:List Value},Vals xs its->its ≠ []/\its.length <= 1000:=fun {its} r=>by
  have hlen:=r.length
  refine ⟨fun e=>hx ?_,by omega⟩
  subst e
  exact List.length_eq_zero_iff.mp (by simpa using hlen)
 have hsz:i.toNat * xs.length <= sizeLine:=by
  have:sizeLine=16777216:=sizeLine_eq
  have h16:i.toNat <= 64:=by omega
  calc i.toNat * xs.length <= 64 * 1000:=Nat.mul_le_mul h16 hz
   _ <= _:=by omega
 rcases h with ⟨sq,rfl,q⟩|⟨sq,h2,q⟩|⟨sq,h2,q⟩
 ·obtain ⟨its,r,⟨⟨cls,dd,data,sl⟩,ho,hc,n,hd⟩,_⟩:=I.tuple sq
  simp only at hc hd
  subst hc hd
  exact wpAny_binaryOp_repeat_ref (T := "tuple") (U := "int") (by decide) ⟨_,ho,rfl⟩ (fun s'=>typeIs_int s' 1 t) z3v PySem.F.fills_int_mul PySem.F.slot_int_rmul z5a PySem.F.slot_int_index.lookup
   (call_meets PySem.F.slot_int_rmul (typeIs_int s 1 t) PySem.F.entry_int_rmul (PySem.F.args_int_rmul_2 _ _) (z56 1 t a its.toArray n dd sl)
    ⟨ho,rfl,⟨_,ho,rfl⟩,call_meets PySem.F.slot_tuple_mul ⟨_,ho,rfl⟩ PySem.F.entry_tuple_mul (PySem.F.args_tuple_mul_2 _ _) (zdX a its.toArray n t dd sl) ⟨ho,.ref a,H,I,rfl,q⟩⟩)
 ·obtain ⟨its,r,⟨⟨cls,dd,data,sl⟩,ho,hc,n,hd⟩,_⟩:=I.tuple sq
  simp only at hc hd
  subst hc hd
  obtain ⟨n1,n2⟩:=hne r
  refine wpAny_binaryOp_repeat_ref (T := "tuple") (U := "int") (by decide) ⟨_,ho,rfl⟩ (fun s'=>typeIs_int s' i t) z3v PySem.F.fills_int_mul PySem.F.slot_int_rmul z5a PySem.F.slot_int_index.lookup
   (call_meets PySem.F.slot_int_rmul (typeIs_int s i t) PySem.F.entry_int_rmul (PySem.F.args_int_rmul_2 _ _) (z56 i t a its.toArray n dd sl)
    ⟨ho,rfl,⟨_,ho,rfl⟩,call_meets PySem.F.slot_tuple_mul ⟨_,ho,rfl⟩ PySem.F.entry_tuple_mul (PySem.F.args_tuple_mul_2 _ _) (zcZ a its n i t dd sl n1 n2 h2 hi) ⟨ho,?_⟩⟩)
  exact ⟨.ref s.heap.objs.size,_,I.laid (t':=s.toks) (o:=.tup (List.replicate i.toNat xs).flatten) (fun b ob q=>Heap.get?_push_of_some _ q) (Nat.le_refl _) ⟨by rw [z4F];exact hsz,_,Vals.flat r _,IsTupD.new _ _⟩,rfl,q _ (I.hok.fresh (Nat.le_refl _))⟩
 ·obtain ⟨its,r,pl,_⟩:=I.list sq
  obtain ⟨⟨cls,dd,data,sl⟩,ho,hc,n,hd⟩:=pl.isList
  simp only at hc hd
  subst hc hd
  obtain ⟨n1,n2⟩:=hne r
  refine wpAny_binaryOp_repeat_ref (T := "list") (U := "int") (by decide) ⟨_,ho,rfl⟩ (fun s'=>typeIs_int s' i t) PySem.noFill_list_mul PySem.F.fills_int_mul PySem.F.slot_int_rmul PySem.repeat_list PySem.F.slot_int_index.lookup
   (call_meets PySem.F.slot_int_rmul (typeIs_int s i t) PySem.F.entry_int_rmul (PySem.F.args_int_rmul_2 _ _) (z82 i t a its.toArray n dd sl)
    ⟨ho,rfl,⟨_,ho,rfl⟩,call_meets PySem.F.slot_list_mul ⟨_,ho,rfl⟩ PySem.F.entry_list_mul (PySem.F.args_list_mul_2 _ _) (zda a its n i t dd sl n1 n2 h2 hi) ⟨ho,?_⟩⟩)
  exact ⟨.ref s.heap.objs.size,_,I.laid (t':=s.toks) (o:=.lst (List.replicate i.toNat xs).flatten) (fun b ob q=>Heap.get?_push_of_some _ q) (Nat.le_refl _) ⟨by rw [z4F];exact hsz,_,_,Vals.flat r _,Heap.get?_push_size _ rfl⟩,rfl,q _ (I.hok.fresh (Nat.le_refl _))⟩
def z8T (o:Bool):Ow->D->D->R D:=fun O x y=>match y with
 | .int i=>if i <= 64 then match x with
  | .tup ds=>if ds ≠ []/\ds.length <= 1000/\1 <= i then .ok (.tup (List.replicate i.toNat ds).flatten) O else .bad
  | .lst ds=>if ds ≠ []/\ds.length <= 1000/\1 <= i then (if o=true then .ok (.own O.length) (O ++ [(List.replicate i.toNat ds).flatten]) else .ok (.lst (List.replicate i.toNat ds).flatten) O) else .bad
  | _=>.bad
  else .bad
 | _=>.bad
theorem zdd (o:Bool):OpD X Ex (ziQ X.K) (z8T o):=by
 intro H hid μ O x y v w Q c dx dy q
 unfold z8T at q
 split at q
 ·rename_i i
  obtain ⟨hi,q⟩:=post.ite q
  unfold Dat at dy;subst dy
  have nn:∀ {ds:List D} {vs:List V},Dats X.K H hid μ ds vs->ds ≠ []->vs ≠ []:=fun {ds vs} d h e=>h (by have:=d.length;rw [e] at this;simpa using this)
  cases x with
  | tup ds=>
   obtain ⟨⟨h1,h2,h3⟩,q⟩:=post.ite q
   have dx0:=dx
   unfold Dat at dx
   obtain ⟨a,vs,rfl,l,dd⟩:=dx
   refine ⟨a,vs,i,rfl,rfl,nn dd h1,by rw [<- dd.length];exact h2,hi,?_⟩
   by_cases e:i=1
   ·subst e
    refine .inl ⟨l.sq,rfl,post.here q c ?_⟩
    have:(List.replicate (1:Int).toNat ds).flatten=ds:=by simp
    rw [this];exact dx0
   ·exact .inr (.inl ⟨l.sq,by omega,fun p hp=>post.ok q (.laid hp) (c.laid hp) (Dat.newT c hp (dd.flat _))⟩)
  | lst ds=>
   obtain ⟨⟨h1,h2,h3⟩,q⟩:=post.ite q
   unfold Dat at dx
   obtain ⟨a,vs,rfl,l,dd⟩:=dx
   refine ⟨a,vs,i,rfl,rfl,nn dd h1,by rw [<- dd.length];exact h2,hi,.inr (.inr ⟨l.sq,h3,fun p hp=>?_⟩)⟩
   cases o with
   | false=>exact post.ok (show z1I Ex X.K H hid μ (.ok (.lst (List.replicate i.toNat ds).flatten) O) Q from q) (.laid hp) (c.laid hp) (Dat.newL c hp (dd.flat _))
   | true=>
    have q:z1I Ex X.K H hid μ (.ok (.own O.length) (O ++ [(List.replicate i.toNat ds).flatten])) Q:=q
    exact post.ok q (.cell hp) (c.cell hp (dd.flat _)) (z2d c.len)
  | _=>exact False.elim q
 ·exact False.elim q
end
end DL
namespace DL
open PySem L2 PySem.Spec PyProof.Rows
open Sem (wp)
open AutoSeq1 (wpAny_loadPart')
end DL
namespace DL
open PySem L2 PySem.Spec PyProof.Rows
section
end
theorem zai (n:Nat):Builtin.Slice.slicePlaces ((n:Int) - 1) (-1) (-1)=n:=by
 unfold Builtin.Slice.slicePlaces
 rw [if_neg (by decide)]
 by_cases h:(n:Int) - 1 > -1
 ·rw [if_pos h]
  have e:(-(-1:Int))=1:=by decide
  rw [e,Int.ediv_one];omega
 ·rw [if_neg h];omega
theorem z5b {P:Program} {w:World} {A:Around} {E:Value->Shared->Prop} {s:Shared} {sl:Addr} {vs:Value} {n:Nat} {Q:Int × Int × Nat->Shared->Prop} (hs:s.heap.IsSliceOf sl .none .none vs) (ps:IsPart vs (some (-1)))
  (h:Q ((n:Int) - 1,-1,n) s):wpAny (model P w) A (Builtin.Slice.sliceApplied (.ref sl) (pure (n:Int))) Q E s:=by
 obtain ⟨ob,hob,hcb,hdb⟩:=id hs
 unfold Builtin.Slice.sliceApplied Builtin.Slice.sliceFields
 refine wpAny_bind (wpAny_bind (wpAny_field hob hdb (x:=.none) rfl (wpAny_bind (wpAny_field hob hdb (x:=.none) rfl (wpAny_bind (wpAny_field hob hdb (x:=vs) rfl (wpAny_pure ?_)))))))
 refine wpAny_bind (HT.slicePart_ ps ?_)
 show wpAny _ _ (if ((-1:Int) == 0)=true then _ else _) _ _ s
 rw [if_neg (by decide)]
 refine wpAny_bind (slicePart_none (wpAny_bind (slicePart_none (wpAny_bind (wpAny_pure ?_)))))
 show wpAny _ _ (pure ((n:Int) - 1,(-1:Int),Builtin.Slice.slicePlaces ((n:Int) - 1) (-1) (-1))) _ _ s
 rw [zai]
 exact wpAny_pure h
theorem zci (its:List Value):((List.range its.length).filterMap fun (m:Nat)=>its.toArray[(((its.length:Int) - 1) + (m:Int) * (-1)).toNat]?).toArray=its.reverse.toArray:=by
 congr 1
 have e:∀ l:List Nat,(∀ k ∈ l,k < its.length)->l.filterMap (fun (m:Nat)=>its.toArray[(((its.length:Int) - 1) + (m:Int) * (-1)).toNat]?)=l.map fun k=>its.reverse.getD k .none:=by
  intro l
  induction l with
  | nil=>intro _;rfl
  | cons k l ih=>
   intro h
   have hk:k < its.length:=h k (by simp)
   have e0:(((its.length:Int) - 1) + (k:Int) * (-1)).toNat=its.length - 1 - k:=by omega
   have e1:its.toArray[(((its.length:Int) - 1) + (k:Int) * (-1)).toNat]?=some (its.reverse.getD k .none):=by
    rw [e0,List.getElem?_toArray,List.getD_eq_getElem?_getD,List.getElem?_reverse hk,List.getElem?_eq_getElem (by omega)]
    rfl
   rw [List.filterMap_cons,List.map_cons,e1,ih fun j hj=>h j (by simp [hj])]
 rw [e _ fun k hk=>List.mem_range.mp hk]
 refine List.ext_getElem (by simp) fun i h1 h2=>?_
 rw [List.getElem_map,List.getElem_range,List.getD_eq_getElem?_getD,List.getElem?_eq_getElem h2]
 rfl
theorem z7u {P:Program} {w:World} {A:Around} {E:Value->Shared->Prop} {s:Shared} {t sl:Addr} {its:List Value} {vs:Value} {Q:Value->Shared->Prop} (ht:IsTup s.heap t its.toArray) (hs:s.heap.IsSliceOf sl .none .none vs) (ps:IsPart vs (some (-1)))
  (h:Q (.ref s.heap.objs.size) { s with heap:=s.heap.push { cls:=.type "tuple",data:=.seq its.reverse.toArray } }) (hsz:its.length <= sizeLine):wpAny (model P w) A (getItem (.ref t) (.ref sl)) Q E s:=by
 have hok:sizeOk (.seq its.reverse.toArray):=by
  show its.reverse.toArray.size <= sizeLine
  rw [List.size_toArray,List.length_reverse];exact hsz
 obtain ⟨ob,hob,hcb,hdb⟩:=id hs
 have hTs:s.TypeIs (.ref sl) "slice":=⟨ob,hob,hcb⟩
 unfold getItem
 try with_reducible refine wpAny_holding ?_
 first|refine wpAny_bind (wpAny_pure ?_)|skip
 refine wpAny_bind (wpAny_sequenceKey ht.typeIs (by decide) (wpAny_bind (wpAny_callSpecial?_slot (name := "__getitem__") ht.typeIs PyProof.Rows.slot_tuple_getitem (wpAny_call_entry PyProof.Rows.slot_tuple_getitem ht.typeIs entry_tuple_getitem ?_ (args_tuple_getitem _ _)))))
 show wpAny _ _ (Builtin.Tuple.tupleItemsOf (.ref t) >>= _) _ _ s
 refine wpAny_bind (tupleItemsOf_ ht (wpAny_bind (wpAny_typeOf hTs ?_)))
 rw [if_pos (by decide)]
 have hn:its.toArray.size=its.length:=List.size_toArray
 refine wpAny_bind (z5b (n:=its.toArray.size) hs ps ?_)
 have hno:¬ ((((its.toArray.size:Int) - 1) == 0 && (-1:Int) == 1 && its.toArray.size == its.toArray.size)=true):=by
  intro q
  rw [Bool.and_eq_true,Bool.and_eq_true] at q
  exact absurd q.1.2 (by decide)
 show wpAny _ _ (if ((((its.toArray.size:Int) - 1) == 0 && (-1:Int) == 1 && its.toArray.size == its.toArray.size))=true then _ else _) _ _ s
 rw [if_neg hno,hn,zci]
 first
  | exact wpAny_bind (m:=Builtin.Tuple.tupleExact _) (wpAny_newObj_type (wpAny_pure ⟨_,rfl,wpAny_pure h⟩) hok)
  | exact wpAny_bind (m:=Builtin.Tuple.tupleExact _) (wpAny_newObj_type (wpAny_bind (wpAny_pure (wpAny_pure ⟨_,rfl,wpAny_pure h⟩))) hok)
  | exact wpAny_bind (wpAny_bind (m:=Builtin.Tuple.tupleExact _) (wpAny_newObj_type (wpAny_pure (wpAny_pure ⟨_,rfl,wpAny_pure h⟩)) hok))
  | exact wpAny_bind (wpAny_bind (m:=Builtin.Tuple.tupleExact _) (wpAny_newObj_type (wpAny_pure ⟨_,rfl,wpAny_pure h⟩) hok))
section
variable {X:Cx} {Ex:Nat->Hp->Prop} {pos p2:Pos} {e st:Expr} {te:DE} {ts:DO}
def zjd (K:PySem.W.Frag) (te:TE) (ts:TO):TE:=fun σ H Q=>te σ H fun x H1=>ts σ H1 fun o H2=>o=some (-1)/\∃ a xs,x=.ref a/\SqT K H2 a xs/\∀ p,H2 p=none->Q (.ref p) (upd H2 p (.tup xs.reverse))
theorem zgq {te:TE} {ts:TO} (he:PE X e te) (hs:PO X (some st) ts):PE X (.Subscript e (.Slice none none (some st) p2) pos) (zjd X.K te ts):=by
 intro pins s σ H Q I h
 refine Subscript_ (thn (he pins s σ H _ I h) fun v s1 ⟨x,H1,I1,r1,q1⟩=>?_)
 refine wpAny_Slice ?_
 rw [evalPart_none]
 refine wpAny_pure (wpAny_pure (thn (hs pins s1 σ H1 _ I1 q1) fun vs s3 ⟨o,H3,I3,ps,q3⟩=>?_))
 obtain ⟨rfl,a,xs,rfl,sq,q⟩:=q3
 cases r1
 have I4:Inv X pins σ H3 { s3 with heap:=s3.heap.push { cls:=.type "slice",data:=.fields #[.none,.none,vs] } }:=I3.kept (t':=s3.toks) fun b ob q=>Heap.get?_push_of_some _ q
 obtain ⟨its,r,ht,hz⟩:=I4.tuple sq
 have hlen:=r.length
 show wpAny (model X.prog X.w) X.A (subscriptTail e (.Slice none none (some st) p2) (.ref a) (.ref s3.heap.objs.size)) (EP X pins σ Q) X.xe { s3 with heap:=s3.heap.push { cls:=.type "slice",data:=.fields #[.none,.none,vs] } }
 refine tail_any (ops:=[.ref a,.ref s3.heap.objs.size]) ht.typeIs PyProof.Rows.slot_tuple_getitem.lookup ?_ (by with_unfolding_all rfl)
 refine z7u ht (Heap.IsSliceOf.new ..) ps ?_ (by omega)
 refine ⟨.ref _,_,I4.laid (t':=s3.toks) (o:=.tup xs.reverse) (fun b ob q=>Heap.get?_push_of_some _ q) (Nat.le_refl _) ?_,rfl,q _ (I4.hok.fresh (Nat.le_refl _))⟩
 exact ⟨by rw [List.length_reverse];exact hz,_,zcN r,IsTupD.new _ _⟩
def zd2 (te:DE) (ts:DO):DE:=fun σ O=>(te σ O).bnd fun x O1=>(ts σ O1).bnd fun o O2=>if o=some (-1) then match x with
 | .tup ds=>.ok (.tup ds.reverse) O2
 | _=>.bad else .bad
theorem zgb (he:PD X Ex e te) (hs:PDO X Ex (some st) ts):PD X Ex (.Subscript e (.Slice none none (some st) p2) pos) (zd2 te ts):=
 z2a (zgq he.out hs.out) fun hid μ σ O σv H Q e1 c1 q=>rd.go e1 c1 q fun d O1 v H1 μ1 e2 x cl r p=>rdO.go e2 cl p fun l O2 H2 μ2 e3 x3 c3 p3=>by
  have r':=r.ext x3
  obtain ⟨hl,p3⟩:=post.ite p3
  cases d with
  | tup ds=>
   unfold Dat at r'
   obtain ⟨pa,vs,rfl,la,q1⟩:=r'
   exact ⟨hl,pa,vs,rfl,la.sq,fun l' hl'=>post.ok p3 (.laid hl') (c3.laid hl') (Dat.newT c3 hl' q1.rev)⟩
  | _=>exact False.elim p3
end
end DL
namespace DL
open PySem L2
section
variable {X:Cx} {Ex:Nat->Hp->Prop} {Cl:Nat->Value}
def z73 (Pt iT ic:Nat) (f:R D->R D) (ts:List DE) (tb:DE) (ta u:DS):DS:=fun σ O=>match σ[iT]? with
 | some (some (.tab p))=>if p=Pt then z1P (sIf (z2w (dOp (fPy neF) (z2N f ts) tb)) ta z2T) u (σ.set ic none) O else .bad
 | _=>.bad
theorem postS.seq {K:PySem.W.Frag} {H:Hp} {hid μ:List Addr} {t u:DS} {σ:Sg} {O:Ow} {E:za1} (q:postS Ex K H hid μ (z1P t u σ O) E):postS Ex K H hid μ (t σ O) { E with nx:=fun σv H'=>rds Ex K u E σv H' }:=by
 unfold z1P at q
 cases ht:t σ O with
 | nx σ' O'=>
  rw [ht] at q
  exact fun σv' H' μ' e2 a b=>⟨hid,μ',σ',O',a,b,q.ext e2⟩
 | rt d O'=>rw [ht] at q;exact q
 | bk σ' O'=>rw [ht] at q;exact q
 | ct σ' O'=>rw [ht] at q;exact q
 | exc c O'=>rw [ht] at q;exact q
 | bad=>rw [ht] at q;exact q
theorem z98 {Pt iT ic k:Nat} {f:R D->R D} {t1 t2 t3 tb:DE} {p1 p2 p3:Arguments} {b1 b2 b3 c:Expr} {s1 s2 s3:Scope} {S1 S2 S3:Stmt} {a z2C:List Stmt} {ta u:DS} {pos:Pos}
  (h1:PS X S1 (zj0 (zjr (z8q (zh4 X Pt ⟨p1,b1,s1,t1⟩) zgx)) (z93 ic))) (h2:PS X S2 (zct (tBM X.K "list" z5U (zh2 ic) (z8q (zh4 X Pt ⟨p2,b2,s2,t2⟩) zgx)))) (h3:PS X S3 (zct (tBM X.K "list" z5U (zh2 ic) (z8q (zh4 X Pt ⟨p3,b3,s3,t3⟩) zgx))))
  (h4:PT X c (zfR (tOp (rPy X.K neF) (zay Cl f ic k Ex X) (rd Ex X.K tb)))) (ha:z51 X Ex a ta) (hrest:z51 X Ex z2C u) (R1:zeO Cl X k ⟨p1,b1,s1,t1⟩) (R2:zeO Cl X k ⟨p2,b2,s2,t2⟩) (R3:zeO Cl X k ⟨p3,b3,s3,t3⟩) (hic:ic < X.N.length):
  z51 X Ex (S1 :: S2 :: S3 :: .If c a [] pos :: z2C) (z73 Pt iT ic f [t1,t2,t3] tb ta u):=by
 refine ⟨?_⟩
 rintro pins s σv H E I ⟨hid,μ,σ,O,e1,c1,q⟩
 obtain ⟨ti,q⟩:Tidy H Pt/\postS Ex X.K H hid μ (z1P (sIf (z2w (dOp (fPy neF) (z2N f [t1,t2,t3]) tb)) ta z2T) u (σ.set ic none) O) E:=by
  unfold z73 at q
  split at q
  ·rename_i p hp
   by_cases hpp:p=Pt
   ·rw [if_pos hpp] at q
    obtain ⟨v,_,d⟩:=e1.at_ iT _ hp
    unfold Dat at d
    rw [hpp] at d
    exact ⟨d.2,q⟩
   ·rw [if_neg hpp] at q;exact False.elim q
  ·exact False.elim q
 have q:=postS.seq q
 have hi:ic < σv.length:=by rw [I.len];exact hic
 refine (z2S h1 (z2S h2 (z2S h3 (z2S (zhD h4 ha.out (z9C (Ex:=Ex)).out) hrest.out)))) pins s σv H E I ⟨ti,fun a1 H1 n1 x1 l1=>⟨by show 1 <= sizeLine;decide,fun l nl=>?_⟩⟩
 have b1:Bld X H l [⟨p1,b1,s1,t1⟩] [a1] (upd H1 l (.lst [.ref a1])):=⟨x1.none nl,x1.ea.trans (Ext.laid nl).ea,z1z,.cons (LamIn.ext l1 (.laid nl)) .nil,by simp⟩
 have hget:(σv.set ic (some (V.ref l)))[ic]?=some (some (.ref l)):=List.getElem?_set_self hi
 refine ⟨.ref l,hget,.inl ⟨rfl,_,.of b1.at_⟩,b1.ea.tab _ ti,fun a2 H2 n2 x2 l2=>⟨l,_,.ref a2,rfl,rfl,x2.keep _ _ b1.at_ (by simp),by show 1 < sizeLine;decide,?_⟩⟩
 have b2:=b1.more n2 x2 l2
 refine ⟨.ref l,hget,.inl ⟨rfl,_,.of b2.at_⟩,b2.ea.tab _ ti,fun a3 H3 n3 x3 l3=>⟨l,_,.ref a3,rfl,rfl,x3.keep _ _ b2.at_ (by simp),by show 2 < sizeLine;decide,?_⟩⟩
 have b3:=b2.more n3 x3 l3
 have ev:=(e1.ext (b3.ext μ)).set0 ic (some (.ref l))
 obtain ⟨nh,nm⟩:=c1.not_in b3.nl
 refine ⟨l,_,_,hget,b3.at_,b3.lam,b3.nd,by show 3 <= 1000;decide,fun L m=>?_,hid,μ,σ.set ic none,O,ev,b3.cells c1,nh,nm,?_⟩
 ·simp only [List.cons_append,List.nil_append,List.mem_cons,List.not_mem_nil,or_false] at m
  rcases m with rfl|rfl|rfl
  ·exact R1
  ·exact R2
  ·exact R3
 ·rw [List.set_set]
  have q2:postS Ex X.K H hid μ ((z2N f [t1,t2,t3] (σ.set ic none) O).bnS fun x O1=>(tb (σ.set ic none) O1).bnS fun y O2=>(fPy neF O2 x y).bnS fun z O3=>(match z with|.bl k=>R.ok k O3|_=>R.bad).bnS fun b O4=>if b=true then ta (σ.set ic none) O4 else z2T (σ.set ic none) O4) { E with nx:=fun σv H'=>rds Ex X.K u E σv H' }:=by
   have e:sIf (z2w (dOp (fPy neF) (z2N f [t1,t2,t3]) tb)) ta z2T (σ.set ic none) O=((z2N f [t1,t2,t3] (σ.set ic none) O).bnS fun x O1=>(tb (σ.set ic none) O1).bnS fun y O2=>(fPy neF O2 x y).bnS fun z O3=>(match z with|.bl k=>R.ok k O3|_=>R.bad).bnS fun b O4=>if b=true then ta (σ.set ic none) O4 else z2T (σ.set ic none) O4):=by
    unfold sIf z2w dOp
    cases z2N f [t1,t2,t3] (σ.set ic none) O with
    | ok x O1=>
     show (((tb (σ.set ic none) O1).bnd fun y O2=>fPy neF O2 x y).bnd _).bnS _=(tb (σ.set ic none) O1).bnS _
     cases tb (σ.set ic none) O1 with
     | ok y O2=>
      show ((fPy neF O2 x y).bnd _).bnS _=(fPy neF O2 x y).bnS _
      cases fPy neF O2 x y with
      | ok z O3=>cases z <;> rfl
      | exc c O3=>rfl
      | bad=>rfl
     | exc c O2=>rfl
     | bad=>rfl
    | exc c O1=>rfl
    | bad=>rfl
   rw [<- e];exact q
  refine postS.bnS (postS.ext q2 (b3.ext μ)) fun x O1 v H4 μ4 x4 c4 d4 p4=>rd.goS (ev.ext x4) c4 p4 fun y O2 w H5 μ5 e5 x5 c5 d5 p5=>z53 H5 hid μ5 O2 x y v w _ c5 (d4.ext x5) d5 (postS.bnS p5 fun z O3 vz H6 μ6 x6 c6 d6 p6=>?_)
  cases z with
  | bl k=>
   unfold Dat at d6
   refine ⟨k,d6,?_⟩
   cases k with
   | true=>rw [if_pos rfl];exact ⟨hid,μ6,σ.set ic none,O3,e5.ext x6,c6,p6⟩
   | false=>rw [if_neg Bool.false_ne_true];exact ⟨hid,μ6,σ.set ic none,O3,e5.ext x6,c6,p6⟩
  | _=>exact False.elim p6
end
def zj6:List Str->Bool
 | []=>true
 | x :: l=>!(l.contains x) && zj6 l
theorem z2E:∀ {l:List Str},zj6 l=true->l.Nodup
 | [],_=>List.nodup_nil
 | x :: l,h=>by
  unfold zj6 at h
  rw [Bool.and_eq_true,Bool.not_eq_true'] at h
  refine List.nodup_cons.mpr ⟨fun m=>?_,z2E h.2⟩
  rw [List.contains_iff_mem.mpr m] at h
  exact Bool.noConfusion h.1
def zjM:Option NameKind->Bool
 | some .local=>true
 | some .cell=>true
 | _=>false
theorem zgQ {o:Option NameKind} (h:zjM o=true):o=some .local \/ o=some .cell:=by
 unfold zjM at h
 split at h
 ·exact .inl rfl
 ·exact .inr rfl
 ·cases h
def kNf:NameKind->Bool
 | .free=>false
 | _=>true
def fnB (N P:List Str) (sc:Scope):Bool:=zj6 N && (N.take P.length == P) && P.all (fun x=>zjM (sc.names.lookup x)) && sc.names.all (fun y=>kNf y.2)
theorem fnS {N P:List Str} {sc:Scope} (h1:sc.kind=.function) (h2:sc.isCoroutine=false) (h3:sc.isGenerator=false) (h:fnB N P sc=true):z1v N P sc:=by
 unfold fnB at h
 simp only [Bool.and_eq_true] at h
 obtain ⟨⟨⟨a,b⟩,c⟩,d⟩:=h
 refine ⟨h1,h2,h3,z2E a,eq_of_beq b,fun x hx=>zgQ (List.all_eq_true.mp c x hx),fun y hy e=>?_⟩
 have:=List.all_eq_true.mp d y hy
 rw [e] at this
 cases this
end DL
namespace DL
open PySem
def pl:Nat->D->Bool
 | n,.non=>true
 | n,.int _=>true
 | n,.str cs=>cs.all (· < 1114112)
 | n + 1,.lst ds=>ds.all (pl n)
 | n + 1,.tup ds=>ds.all (pl n)
 | _,_=>false
theorem z4y {α β:Type} {f:α->Option β}:∀ {l:List α},(∀ x ∈ l,∃ y,f x=some y)->∃ m,z2l f l=some m
 | [],_=>⟨[],rfl⟩
 | x :: l,h=>by
  obtain ⟨y,hy⟩:=h x List.mem_cons_self
  obtain ⟨m,hm⟩:=z4y (l:=l) fun z hz=>h z (List.mem_cons_of_mem _ hz)
  exact ⟨y :: m,by unfold z2l;rw [hy,hm]⟩
theorem z78 (O:Ow):∀ (n:Nat) (d:D),pl n d=true->∃ p,z31 O n d=some p:=by
 intro n
 induction n with
 | zero=>
  intro d h
  cases d with
  | non=>exact ⟨_,rfl⟩
  | int i=>exact ⟨_,rfl⟩
  | str cs=>
   refine ⟨.str ⟨cs.toArray⟩,?_⟩
   show zar cs=_
   unfold zar;rw [if_pos (by simpa [pl] using h)]
  | _=>simp [pl] at h
 | succ n ih=>
  intro d h
  cases d with
  | non=>exact ⟨_,rfl⟩
  | int i=>exact ⟨_,rfl⟩
  | str cs=>
   refine ⟨.str ⟨cs.toArray⟩,?_⟩
   show zar cs=_
   unfold zar;rw [if_pos (by simpa [pl] using h)]
  | lst ds=>
   have h:ds.all (pl n)=true:=h
   obtain ⟨m,hm⟩:=z4y (f:=z31 O n) (l:=ds) fun x hx=>ih x (List.all_eq_true.mp h x hx)
   exact ⟨.list m,by show (z2l (z31 O n) ds).map PyData.list=_;rw [hm];rfl⟩
  | tup ds=>
   have h:ds.all (pl n)=true:=h
   obtain ⟨m,hm⟩:=z4y (f:=z31 O n) (l:=ds) fun x hx=>ih x (List.all_eq_true.mp h x hx)
   exact ⟨.tuple m,by show (z2l (z31 O n) ds).map PyData.tuple=_;rw [hm];rfl⟩
  | _=>simp [pl] at h
theorem z6f {f:D->Option PyData} (R:∀ x y p q,f x=some p->f y=some q->pl 0 x=pl 0 x->True) {P:D->Prop} (hf:∀ x y p q,P x->P y->f x=some p->f y=some q->(PyData.eqv p q=true ↔ x=y)):
  ∀ (xs ys:List D) (ps qs:List PyData),(∀ x ∈ xs,P x)->(∀ y ∈ ys,P y)->z2l f xs=some ps->z2l f ys=some qs->(PyData.eqvAll ps qs=true ↔ xs=ys)
 | [],[],ps,qs,_,_,e1,e2=>by cases e1;cases e2;simp [PyData.eqvAll]
 | [],y :: ys,ps,qs,_,_,e1,e2=>by
  cases e1
  unfold z2l at e2
  split at e2
  ·cases e2;simp [PyData.eqvAll]
  ·cases e2
 | x :: xs,[],ps,qs,_,_,e1,e2=>by
  cases e2
  unfold z2l at e1
  split at e1
  ·cases e1;simp [PyData.eqvAll]
  ·cases e1
 | x :: xs,y :: ys,ps,qs,h1,h2,e1,e2=>by
  unfold z2l at e1 e2
  split at e1
  ·rename_i p ps' a1 a2
   cases e1
   split at e2
   ·rename_i q qs' b1 b2
    cases e2
    have r1:=hf x y p q (h1 x List.mem_cons_self) (h2 y List.mem_cons_self) a1 b1
    have r2:=z6f R hf xs ys ps' qs' (fun z hz=>h1 z (List.mem_cons_of_mem _ hz)) (fun z hz=>h2 z (List.mem_cons_of_mem _ hz)) a2 b2
    show (PyData.eqv p q && PyData.eqvAll ps' qs')=true ↔ _
    rw [Bool.and_eq_true,r1,r2,List.cons.injEq]
   ·cases e2
  ·cases e1
theorem z29 {cs:List Nat} {p:PyData} (h:zar cs=some p):p=.str ⟨cs.toArray⟩:=by
 unfold zar at h
 split at h
 ·cases h;rfl
 ·cases h
theorem zbq (a b:List Nat):PyData.eqv (.str ⟨a.toArray⟩) (.str ⟨b.toArray⟩)=true ↔ D.str a=D.str b:=by
 show ((⟨a.toArray⟩:Str) == ⟨b.toArray⟩)=true ↔ _
 rw [beq_iff_eq]
 constructor
 ·intro h
  have h:a.toArray=b.toArray:=by injection h
  rw [show a=b by simpa using congrArg Array.toList h]
 ·intro h
  injection h with h
  rw [h]
theorem zes (O:Ow):∀ (n:Nat) (x y:D) (p q:PyData),pl n x=true->pl n y=true->z31 O n x=some p->z31 O n y=some q->(PyData.eqv p q=true ↔ x=y):=by
 intro n
 induction n with
 | zero=>
  intro x y p q hx hy e1 e2
  cases x with
  | non=>cases e1;cases y with
   | non=>cases e2;simp [PyData.eqv]
   | int j=>cases e2;simp [PyData.eqv]
   | str b=>have:=z29 e2;subst this;simp [PyData.eqv]
   | _=>simp [pl] at hy
  | int i=>cases e1;cases y with
   | non=>cases e2;simp [PyData.eqv]
   | int j=>cases e2;simp [PyData.eqv]
   | str b=>have:=z29 e2;subst this;simp [PyData.eqv]
   | _=>simp [pl] at hy
  | str a=>have:=z29 e1;subst this;cases y with
   | non=>cases e2;simp [PyData.eqv]
   | int j=>cases e2;simp [PyData.eqv]
   | str b=>have:=z29 e2;subst this;exact zbq a b
   | _=>simp [pl] at hy
  | _=>simp [pl] at hx
 | succ n ih=>
  have big:∀ xs ys ps qs,(xs.all (pl n))=true->(ys.all (pl n))=true->z2l (z31 O n) xs=some ps->z2l (z31 O n) ys=some qs->(PyData.eqvAll ps qs=true ↔ xs=ys):=fun xs ys ps qs h1 h2 e1 e2=>
   z6f (fun _ _ _ _ _ _ _=>trivial) (P:=fun d=>pl n d=true) (fun x y p q a b c d=>ih x y p q a b c d) xs ys ps qs (List.all_eq_true.mp h1) (List.all_eq_true.mp h2) e1 e2
  have shL:∀ {ds:List D} {p},z31 O (n + 1) (.lst ds)=some p->∃ ps,z2l (z31 O n) ds=some ps/\p=.list ps:=fun {ds p} e=>by
   have e:(z2l (z31 O n) ds).map PyData.list=some p:=e
   cases h:z2l (z31 O n) ds with
   | none=>rw [h] at e;cases e
   | some ps=>rw [h] at e;cases e;exact ⟨ps,rfl,rfl⟩
  have shT:∀ {ds:List D} {p},z31 O (n + 1) (.tup ds)=some p->∃ ps,z2l (z31 O n) ds=some ps/\p=.tuple ps:=fun {ds p} e=>by
   have e:(z2l (z31 O n) ds).map PyData.tuple=some p:=e
   cases h:z2l (z31 O n) ds with
   | none=>rw [h] at e;cases e
   | some ps=>rw [h] at e;cases e;exact ⟨ps,rfl,rfl⟩
  intro x y p q hx hy e1 e2
  cases x with
  | non=>cases e1;cases y with
   | non=>cases e2;simp [PyData.eqv]
   | int j=>cases e2;simp [PyData.eqv]
   | str b=>have:=z29 e2;subst this;simp [PyData.eqv]
   | lst ys=>obtain ⟨_,_,rfl⟩:=shL e2;simp [PyData.eqv]
   | tup ys=>obtain ⟨_,_,rfl⟩:=shT e2;simp [PyData.eqv]
   | _=>simp [pl] at hy
  | int i=>cases e1;cases y with
   | non=>cases e2;simp [PyData.eqv]
   | int j=>cases e2;simp [PyData.eqv]
   | str b=>have:=z29 e2;subst this;simp [PyData.eqv]
   | lst ys=>obtain ⟨_,_,rfl⟩:=shL e2;simp [PyData.eqv]
   | tup ys=>obtain ⟨_,_,rfl⟩:=shT e2;simp [PyData.eqv]
   | _=>simp [pl] at hy
  | str a=>have:=z29 e1;subst this;cases y with
   | non=>cases e2;simp [PyData.eqv]
   | int j=>cases e2;simp [PyData.eqv]
   | str b=>have:=z29 e2;subst this;exact zbq a b
   | lst ys=>obtain ⟨_,_,rfl⟩:=shL e2;simp [PyData.eqv]
   | tup ys=>obtain ⟨_,_,rfl⟩:=shT e2;simp [PyData.eqv]
   | _=>simp [pl] at hy
  | lst xs=>obtain ⟨ps,h1,rfl⟩:=shL e1;cases y with
   | non=>cases e2;simp [PyData.eqv]
   | int j=>cases e2;simp [PyData.eqv]
   | str b=>have:=z29 e2;subst this;simp [PyData.eqv]
   | lst ys=>
    obtain ⟨qs,h2,rfl⟩:=shL e2
    show PyData.eqvAll ps qs=true ↔ _
    rw [big xs ys ps qs hx hy h1 h2,D.lst.injEq]
   | tup ys=>obtain ⟨_,_,rfl⟩:=shT e2;simp [PyData.eqv]
   | _=>simp [pl] at hy
  | tup xs=>obtain ⟨ps,h1,rfl⟩:=shT e1;cases y with
   | non=>cases e2;simp [PyData.eqv]
   | int j=>cases e2;simp [PyData.eqv]
   | str b=>have:=z29 e2;subst this;simp [PyData.eqv]
   | lst ys=>obtain ⟨_,_,rfl⟩:=shL e2;simp [PyData.eqv]
   | tup ys=>
    obtain ⟨qs,h2,rfl⟩:=shT e2
    show PyData.eqvAll ps qs=true ↔ _
    rw [big xs ys ps qs hx hy h1 h2,D.tup.injEq]
   | _=>simp [pl] at hy
  | _=>simp [pl] at hx
theorem zjC (O:Ow) {x y:D} (hx:pl 8 x=true) (hy:pl 8 y=true) {b:Bool} (hb:b=true ↔ x=y):fPy eqF O x y=.ok (.bl b) O/\fPy neF O x y=.ok (.bl !b) O:=by
 obtain ⟨p,hp⟩:=z78 O 8 x hx
 obtain ⟨q,hq⟩:=z78 O 8 y hy
 have h:=zes O 8 x y p q hx hy hp hq
 have:PyData.eqv p q=b:=Bool.eq_iff_iff.mpr (h.trans hb.symm)
 unfold fPy py
 rw [hp,hq]
 subst this
 exact ⟨rfl,rfl⟩
theorem z9J {O:Ow} {n:Nat} {x:D} {p:PyData} (hx:pl n x=true) (hp:z31 O n x=some p):∀ (l:List D) (ps:List PyData),(l.all (pl n))=true->z2l (z31 O n) l=some ps->((ps.any fun y=>PyData.eqv y p)=true ↔ x ∈ l)
 | [],ps,_,e=>by cases e;simp
 | y :: l,ps,h,e=>by
  unfold z2l at e
  split at e
  ·rename_i q qs a1 a2
   cases e
   rw [List.all_cons,Bool.and_eq_true] at h
   rw [List.any_cons,Bool.or_eq_true,zes O n y x q p h.1 hx a1 hp,z9J hx hp l qs h.2 a2,List.mem_cons]
   exact ⟨fun z=>z.imp Eq.symm id,fun z=>z.imp Eq.symm id⟩
  ·cases e
theorem zbC (O:Ow):∀ (n:Nat) (d:D) (p:PyData),pl n d=true->z31 O n d=some p->z31 O (n + 1) d=some p:=by
 intro n
 induction n with
 | zero=>intro d p h e;cases d <;> first|exact e|(simp [pl] at h)
 | succ n ih=>
  have go:∀ (ds:List D) ps,(ds.all (pl n))=true->z2l (z31 O n) ds=some ps->z2l (z31 O (n + 1)) ds=some ps:=by
   intro ds
   induction ds with
   | nil=>intro ps _ e;exact e
   | cons x ds ihd=>
    intro ps h e
    rw [List.all_cons,Bool.and_eq_true] at h
    unfold z2l at e ⊢
    split at e
    ·rename_i q qs a1 a2
     rw [ih x q h.1 a1,ihd qs h.2 a2];exact e
    ·cases e
  intro d p h e
  cases d with
  | lst ds=>
   have e:(z2l (z31 O n) ds).map PyData.list=some p:=e
   show (z2l (z31 O (n + 1)) ds).map PyData.list=some p
   cases hm:z2l (z31 O n) ds with
   | none=>rw [hm] at e;cases e
   | some ps=>rw [hm] at e;rw [go ds ps h hm];exact e
  | tup ds=>
   have e:(z2l (z31 O n) ds).map PyData.tuple=some p:=e
   show (z2l (z31 O (n + 1)) ds).map PyData.tuple=some p
   cases hm:z2l (z31 O n) ds with
   | none=>rw [hm] at e;cases e
   | some ps=>rw [hm] at e;rw [go ds ps h hm];exact e
  | non=>exact e
  | int i=>exact e
  | str cs=>exact e
  | _=>simp [pl] at h
theorem zjD (O:Ow) {x y:D} {l:List D} (hx:pl 7 x=true) (hl:l.all (pl 7)=true) (hy:lsV O y=some l \/ y=.tup l) {b:Bool} (hb:b=true ↔ x ∈ l):fIn O x y=.ok (.bl b) O/\zfd O x y=.ok (.bl !b) O:=by
 obtain ⟨p,hp⟩:=z78 O 7 x hx
 obtain ⟨ps,hps⟩:=z4y (f:=z31 O 7) (l:=l) fun z hz=>z78 O 7 z (List.all_eq_true.mp hl z hz)
 have h:=z9J hx hp l ps hl hps
 have e:(ps.any fun z=>PyData.eqv z p)=b:=Bool.eq_iff_iff.mpr (h.trans hb.symm)
 have h8:py O x=some p:=zbC O 7 x p hx hp
 rcases hy with hy|rfl
 ·have hq:py O y=some (.list ps):=by
   cases y with
   | lst ds=>cases hy;show (z2l (z31 O 7) l).map PyData.list=_;rw [hps];rfl
   | own k=>
    have hy:O[k]?=some l:=hy
    show (match O[k]? with|some ds=>(z2l (z31 O 7) ds).map PyData.list|none=>none)=_
    rw [hy];dsimp only;rw [hps];rfl
   | _=>cases hy
  have a1:fPy inF O x y=.ok (.bl b) O:=by unfold fPy;rw [h8,hq];subst e;rfl
  have a2:fPy zh3 O x y=.ok (.bl !b) O:=by unfold fPy;rw [h8,hq];subst e;rfl
  cases y with
  | lst ds=>exact ⟨a1,a2⟩
  | own k=>exact ⟨a1,a2⟩
  | _=>cases hy
 ·have hq:py O (.tup l)=some (.tuple ps):=by show (z2l (z31 O 7) l).map PyData.tuple=_;rw [hps];rfl
  have a1:fPy inF O x (.tup l)=.ok (.bl b) O:=by unfold fPy;rw [h8,hq];subst e;rfl
  have a2:fPy zh3 O x (.tup l)=.ok (.bl !b) O:=by unfold fPy;rw [h8,hq];subst e;rfl
  exact ⟨a1,a2⟩
theorem z8P {t u:DE} {σ:Sg} {O:Ow} {a b:Bool} (h1:t σ O=.ok (.bl a) O) (h2:a=true->u σ O=.ok (.bl b) O):zas t u σ O=.ok (.bl (a && b)) O:=by
 show ((t σ O).bnd _)=_
 rw [h1]
 cases a with
 | true=>exact h2 rfl
 | false=>rfl
theorem zc6 {t u:DT} {σ:Sg} {O:Ow} {a b:Bool} (h1:t σ O=.ok a O) (h2:a=false->u σ O=.ok b O):za8 t u σ O=.ok (a || b) O:=by
 show ((t σ O).bnd _)=_
 rw [h1]
 cases a with
 | false=>exact h2 rfl
 | true=>rfl
theorem zbB (O:Ow) {x y:List D} (hx:x.all (pl 7)=true) (hy:y.all (pl 7)=true) {b:Bool} (hb:b=true ↔ x=y):fPy eqF O (.lst x) (.lst y)=.ok (.bl b) O/\fPy neF O (.lst x) (.lst y)=.ok (.bl !b) O:=
 zjC O (x:=.lst x) (y:=.lst y) hx hy (hb.trans (by rw [D.lst.injEq]))
theorem zfe (n:Nat) (l:List Nat):(l.map fun (p:Nat)=>D.int (p:Int)).all (pl n)=true:=List.all_eq_true.mpr fun d hd=>by
 obtain ⟨p,_,rfl⟩:=List.mem_map.mp hd
 cases n <;> rfl
section
variable {σ:Sg} {O O1 O2:Ow} {t u:DE} {d a:DS} {x y:D} {r:RS} {i:Nat} {c:DT} {tA:DA} {ds:List D}
theorem z3x (h:t σ O=.ok x O1) (h2:d (σ.set i (some x)) O1=r):z1P (z2U i t) d σ O=r:=by rw [z1N (z5x h)];exact h2
theorem ziN {σ':Sg} (h:a σ O=.nx σ' O1) (h2:d σ' O1=r):z1P a d σ O=r:=by rw [z1N h];exact h2
theorem zc9 (h:t σ O=.ok x O1) (h2:d σ O1=r):z1P (z4b t) d σ O=r:=by rw [z1N (z5n h)];exact h2
theorem z6i {a':DS} (h:c σ O=.ok false O1) (h2:d σ O1=r):z1P (sIf c a' z2T) d σ O=r:=by rw [z1N (σ':=σ) (O1:=O1) (by rw [z2D h];rfl)];exact h2
theorem zed {a' e:DS} (h:c σ O=.ok true O1) (h2:a' σ O1=.rt x O2):z1P (sIf c a' e) d σ O=.rt x O2:=z63 (by rw [z2D h,if_pos rfl];exact h2)
theorem z3q (h:d σ O=.rt x O1):fin (d σ O)=.ok x O1:=by rw [h];rfl
theorem zbv (h:t σ O=.ok x O1):fin (z22 t σ O)=.ok x O1:=by rw [z2e h];rfl
theorem z2L {f:Ow->D->D->R D} {z:R D} (h1:t σ O=.ok x O1) (h2:u σ O1=.ok y O2) (h3:f O2 x y=z):dOp f t u σ O=z:=by rw [z1K h1 h2];exact h3
theorem z2n {f:Ow->List D->R D} {z:R D} (h1:tA σ O=.ok ds O1) (h2:f O1 ds=z):z1B f tA σ O=z:=by rw [z2k h1];exact h2
theorem z1S {n:Nat} {F:List D->Ow->R D} {z:R D} (h1:tA σ O=.ok ds O1) (h2:F ds O1=z) (h3:ds.length=n:=by rfl):dFn n F tA σ O=z:=by rw [z7k h1 h3];exact h2
end
end DL
set_option maxHeartbeats 400000
namespace K52
open PySem L2 DL
def top (i:Nat):Stmt:=PySem.Challenge.pw_leastterms_k52_functions_of_sums_and_pro.main.body.getD i (.Pass ⟨0,0,0,0⟩)
def z1Z:List (Int × Int):=[(1,2),(2,4),(3,8),(4,16)]
def z1D:List (Int × Int):=[(2,1),(4,2),(8,3),(16,4)]
def Ca:Nat->Nat:=fun c=>match c with
 | 1=>49
 | 2=>37
 | _=>73
def Cl:Nat->Value:=fun c=>.ref (Ca c)
def z1c:Nat->Option Bool:=fun C=>match C with
 | 73=>some false
 | 49=>some false
 | 37=>some true
 | _=>none
def z1g:Nat->Option Bool:=fun C=>match C with
 | 73=>some false
 | 49=>some true
 | 37=>some false
 | _=>none
def z1f:Nat->Option Bool:=fun C=>match C with
 | 73=>some false
 | 49=>some false
 | 37=>some false
 | _=>none
def z1e:Nat->Option Bool:=fun C=>match C with
 | 73=>some true
 | 49=>some false
 | 37=>some false
 | _=>none
def z1b:Nat->Option Bool:=fun C=>match C with
 | 73=>some false
 | 49=>some false
 | 37=>some false
 | _=>none
def z19:Nat->Option Bool:=fun C=>match C with
 | 73=>some false
 | 49=>some false
 | 37=>some false
 | _=>none
def z1h:Nat->Option Bool:=fun C=>match C with
 | 73=>some false
 | 49=>some false
 | 37=>some false
 | _=>none
def z1d:Nat->Option Bool:=fun C=>match C with
 | 73=>some false
 | 49=>some false
 | 37=>some false
 | _=>none
def z1a:Nat->Option Bool:=fun C=>match C with
 | 73=>some false
 | 49=>some false
 | 37=>some false
 | _=>none
def z1i:Nat->Option Bool:=fun C=>match C with
 | 73=>some true
 | 49=>some true
 | 37=>some true
 | _=>none
structure Txt (K:PySem.W.Frag) (mg:Str->Option Value):Prop where
 d_is_whole:z1Y K mg "is_whole" (top 13)
 d_is_whole_within:z1Y K mg "is_whole_within" (top 14)
 d_need_whole_within:z1Y K mg "need_whole_within" (top 15)
 d_need_switches:z1Y K mg "need_switches" (top 16)
 d_is_rising:z1Y K mg "is_rising" (top 17)
 d_is_answer:z1Y K mg "is_answer" (top 21)
 d_is_function:z1Y K mg "is_function" (top 22)
 d_need_function:z1Y K mg "need_function" (top 23)
 d_has_term_signs:z1Y K mg "has_term_signs" (top 26)
 d_has_rising_terms:z1Y K mg "has_rising_terms" (top 27)
 d_bits_of:z1Y K mg "bits_of" (top 28)
 d_points_of:z1Y K mg "points_of" (top 29)
 d_lies_in:z1Y K mg "lies_in" (top 30)
 d_meet:z1Y K mg "meet" (top 31)
 d_with_sign:z1Y K mg "with_sign" (top 32)
 d_exchanged:z1Y K mg "exchanged" (top 33)
 d_terms_holding:z1Y K mg "terms_holding" (top 34)
 d_opposite_answer:z1Y K mg "opposite_answer" (top 36)
 d_opposite:z1Y K mg "opposite" (top 37)
 d_need_rising_terms:z1Y K mg "need_rising_terms" (top 38)
 d_function_of_sum:z1Y K mg "function_of_sum" (top 39)
 d_function_of_product:z1Y K mg "function_of_product" (top 40)
 d_picks_of:z1Y K mg "picks_of" (top 41)
 d_widest_of:z1Y K mg "widest_of" (top 42)
 d_multiplied:z1Y K mg "multiplied" (top 43)
 d__law_refused:z1Y K mg "_law_refused" (top 45)
 d__law_is_term:z1Y K mg "_law_is_term" (top 46)
 d__law_are_terms:z1Y K mg "_law_are_terms" (top 47)
 d__law_cell_at:z1Y K mg "_law_cell_at" (top 48)
 d__law_state:z1Y K mg "_law_state" (top 49)
 d__law_take:z1Y K mg "_law_take" (top 50)
 d__law_terms:z1Y K mg "_law_terms" (top 51)
 d__law_some_terms:z1Y K mg "_law_some_terms" (top 52)
 d__law_holds:z1Y K mg "_law_holds" (top 53)
 d__law_same:z1Y K mg "_law_same" (top 54)
 d__law_bent_form:z1Y K mg "_law_bent_form" (top 55)
 d__law_refusals_right:z1Y K mg "_law_refusals_right" (top 56)
 d_law:z1Y K mg "law" (top 57)
 b_ValueError:mg "ValueError" = none
 b_all:mg "all" = none
 b_any:mg "any" = none
 b_bool:mg "bool" = none
 b_enumerate:mg "enumerate" = none
 b_int:mg "int" = none
 b_isinstance:mg "isinstance" = none
 b_len:mg "len" = none
 b_list:mg "list" = none
 b_max:mg "max" = none
 b_min:mg "min" = none
 b_range:mg "range" = none
 b_set:mg "set" = none
 b_sorted:mg "sorted" = none
 b_str:mg "str" = none
 b_tuple:mg "tuple" = none
 b_zip:mg "zip" = none
 c_SIGNS:zjP mg "SIGNS" [45,48,49]
 z0E:zeL K mg "POINTS_BY_SWITCHES" z1Z
 z0F:zeL K mg "SWITCHES_BY_POINTS" z1D
 i_MOST_SWITCHES:zjE mg "MOST_SWITCHES" 4
 z03:mg "NoFunction" = some (.ref 37)
 z07:mg "NoTerm" = some (.ref 49)
 z06:mg "NoPoint" = some (.ref 61)
 z05:mg "NoNumber" = some (.ref 73)
 z02:mg "NoForm" = some (.ref 85)
 z00:mg "NoChange" = some (.ref 97)
 z08:mg "NoText" = some (.ref 109)
 z04:mg "NoLine" = some (.ref 121)
 z01:mg "NoDeed" = some (.ref 133)
 z09:mg "TermError" = some (.ref 24)
 z0W:PySem.W.kitOne K (.type "NoneType") (.ref 37)=some false
 z10:PySem.W.kitOne K (.type "NoneType") (.ref 49)=some false
 z0Z:PySem.W.kitOne K (.type "NoneType") (.ref 61)=some false
 z0Y:PySem.W.kitOne K (.type "NoneType") (.ref 73)=some false
 z0V:PySem.W.kitOne K (.type "NoneType") (.ref 85)=some false
 z0T:PySem.W.kitOne K (.type "NoneType") (.ref 97)=some false
 z11:PySem.W.kitOne K (.type "NoneType") (.ref 109)=some false
 z0X:PySem.W.kitOne K (.type "NoneType") (.ref 121)=some false
 z0U:PySem.W.kitOne K (.type "NoneType") (.ref 133)=some false
 z12:PySem.W.kitOne K (.type "NoneType") (.type "ValueError")=some false
 z0R:PySem.W.exmOne K (.ref 73) (.ref 24)=some true
 z0n:PySem.W.kitOne K (.ref 73) (.ref 37)=some false
 z0r:PySem.W.kitOne K (.ref 73) (.ref 49)=some false
 z0q:PySem.W.kitOne K (.ref 73) (.ref 61)=some false
 z0p:PySem.W.kitOne K (.ref 73) (.ref 73)=some true
 z0m:PySem.W.kitOne K (.ref 73) (.ref 85)=some false
 z0k:PySem.W.kitOne K (.ref 73) (.ref 97)=some false
 z0s:PySem.W.kitOne K (.ref 73) (.ref 109)=some false
 z0o:PySem.W.kitOne K (.ref 73) (.ref 121)=some false
 z0l:PySem.W.kitOne K (.ref 73) (.ref 133)=some false
 z0t:PySem.W.kitOne K (.ref 73) (.type "ValueError")=some true
 z0S:PySem.W.exmOne K (.ref 49) (.ref 24)=some true
 z0x:PySem.W.kitOne K (.ref 49) (.ref 37)=some false
 z0B:PySem.W.kitOne K (.ref 49) (.ref 49)=some true
 z0A:PySem.W.kitOne K (.ref 49) (.ref 61)=some false
 z0z:PySem.W.kitOne K (.ref 49) (.ref 73)=some false
 z0w:PySem.W.kitOne K (.ref 49) (.ref 85)=some false
 z0u:PySem.W.kitOne K (.ref 49) (.ref 97)=some false
 z0C:PySem.W.kitOne K (.ref 49) (.ref 109)=some false
 z0y:PySem.W.kitOne K (.ref 49) (.ref 121)=some false
 z0v:PySem.W.kitOne K (.ref 49) (.ref 133)=some false
 z0D:PySem.W.kitOne K (.ref 49) (.type "ValueError")=some true
 z0Q:PySem.W.exmOne K (.ref 37) (.ref 24)=some true
 z0d:PySem.W.kitOne K (.ref 37) (.ref 37)=some true
 z0h:PySem.W.kitOne K (.ref 37) (.ref 49)=some false
 z0g:PySem.W.kitOne K (.ref 37) (.ref 61)=some false
 z0f:PySem.W.kitOne K (.ref 37) (.ref 73)=some false
 z0c:PySem.W.kitOne K (.ref 37) (.ref 85)=some false
 z0a:PySem.W.kitOne K (.ref 37) (.ref 97)=some false
 z0i:PySem.W.kitOne K (.ref 37) (.ref 109)=some false
 z0e:PySem.W.kitOne K (.ref 37) (.ref 121)=some false
 z0b:PySem.W.kitOne K (.ref 37) (.ref 133)=some false
 z0j:PySem.W.kitOne K (.ref 37) (.type "ValueError")=some true
 z17:XcK K 73
 z18:XcK K 49
 z16:XcK K 37
structure z3u (mg:Str->Option Value) (base:Heap):Prop where
 z14:ziu mg base "NoNumber" 73
 z15:ziu mg base "NoTerm" 49
 z13:ziu mg base "NoFunction" 37
theorem z0J {K:PySem.W.Frag} {mg:Str->Option Value} (T:Txt K mg):∀ C b,z1c C=some b->PySem.W.kitOne K (.ref C) (.ref 37)=some b:=by
 intro C b h
 unfold z1c at h
 split at h <;> first|(cases h;first|exact T.z0n|exact T.z0x|exact T.z0d)|cases h
theorem z0N {K:PySem.W.Frag} {mg:Str->Option Value} (T:Txt K mg):∀ C b,z1g C=some b->PySem.W.kitOne K (.ref C) (.ref 49)=some b:=by
 intro C b h
 unfold z1g at h
 split at h <;> first|(cases h;first|exact T.z0r|exact T.z0B|exact T.z0h)|cases h
theorem z0M {K:PySem.W.Frag} {mg:Str->Option Value} (T:Txt K mg):∀ C b,z1f C=some b->PySem.W.kitOne K (.ref C) (.ref 61)=some b:=by
 intro C b h
 unfold z1f at h
 split at h <;> first|(cases h;first|exact T.z0q|exact T.z0A|exact T.z0g)|cases h
theorem z0L {K:PySem.W.Frag} {mg:Str->Option Value} (T:Txt K mg):∀ C b,z1e C=some b->PySem.W.kitOne K (.ref C) (.ref 73)=some b:=by
 intro C b h
 unfold z1e at h
 split at h <;> first|(cases h;first|exact T.z0p|exact T.z0z|exact T.z0f)|cases h
theorem z0I {K:PySem.W.Frag} {mg:Str->Option Value} (T:Txt K mg):∀ C b,z1b C=some b->PySem.W.kitOne K (.ref C) (.ref 85)=some b:=by
 intro C b h
 unfold z1b at h
 split at h <;> first|(cases h;first|exact T.z0m|exact T.z0w|exact T.z0c)|cases h
theorem z0G {K:PySem.W.Frag} {mg:Str->Option Value} (T:Txt K mg):∀ C b,z19 C=some b->PySem.W.kitOne K (.ref C) (.ref 97)=some b:=by
 intro C b h
 unfold z19 at h
 split at h <;> first|(cases h;first|exact T.z0k|exact T.z0u|exact T.z0a)|cases h
theorem z0O {K:PySem.W.Frag} {mg:Str->Option Value} (T:Txt K mg):∀ C b,z1h C=some b->PySem.W.kitOne K (.ref C) (.ref 109)=some b:=by
 intro C b h
 unfold z1h at h
 split at h <;> first|(cases h;first|exact T.z0s|exact T.z0C|exact T.z0i)|cases h
theorem z0K {K:PySem.W.Frag} {mg:Str->Option Value} (T:Txt K mg):∀ C b,z1d C=some b->PySem.W.kitOne K (.ref C) (.ref 121)=some b:=by
 intro C b h
 unfold z1d at h
 split at h <;> first|(cases h;first|exact T.z0o|exact T.z0y|exact T.z0e)|cases h
theorem z0H {K:PySem.W.Frag} {mg:Str->Option Value} (T:Txt K mg):∀ C b,z1a C=some b->PySem.W.kitOne K (.ref C) (.ref 133)=some b:=by
 intro C b h
 unfold z1a at h
 split at h <;> first|(cases h;first|exact T.z0l|exact T.z0v|exact T.z0b)|cases h
theorem z0P {K:PySem.W.Frag} {mg:Str->Option Value} (T:Txt K mg):∀ C b,z1i C=some b->PySem.W.kitOne K (.ref C) (.type "ValueError")=some b:=by
 intro C b h
 unfold z1i at h
 split at h <;> first|(cases h;first|exact T.z0t|exact T.z0D|exact T.z0j)|cases h
theorem zjW {K:PySem.W.Frag} {mg:Str->Option Value} (T:Txt K mg):∀ c,Cl c=.ref (Ca c)/\XcK K (Ca c)/\PySem.W.exmOne K (.ref (Ca c)) (.ref 24)=some true:=by
 intro c
 refine ⟨rfl,?_⟩
 unfold Ca
 split <;> first|exact ⟨T.z17,T.z0R⟩|exact ⟨T.z18,T.z0S⟩|exact ⟨T.z16,T.z0Q⟩
section
variable {P:Program} {w:World} {K:PySem.W.Frag} {mg:Str->Option Value} {base:Heap}
set_option hygiene false in
local macro_rules|`(tactic| walk_at "v")=>`(tactic| first|exact .inl rfl|exact .inr (.inl rfl)|exact .inr (.inr rfl))
set_option hygiene false in
local macro_rules|`(tactic| walk_at "l")=>`(tactic| first|exact .inl rfl|exact .inr rfl)
set_option hygiene false in
local macro_rules|`(tactic| walk_at "le")=>`(tactic| first|decide|exact Nat.le_refl _)
set_option hygiene false in
local macro_rules|`(tactic| walk_at "fx")=>`(tactic| first|refine zaQ h (z77 rfl z7y) hr (by walk_at "le") rfl ?_<;>walk_at "a"|refine zaQ h (z77 rfl zfH) hr (by walk_at "le") rfl ?_<;>walk_at "a"|refine zgA h hr (by walk_at "le") rfl ?_<;>walk_at "a")
set_option hygiene false in
local macro_rules|`(tactic| walk_at "f")=>`(tactic| first|((with_reducible show PD _ _ _ (dFn _ z4N _));have h:=@z8o P w K mg base T B;walk_at "fx")|((with_reducible show PD _ _ _ (dFn _ z3s _));have h:=@z7t P w K mg base T B;walk_at "fx")|((with_reducible show PD _ _ _ (dFn _ z26 _));have h:=@z4J P w K mg base T B;walk_at "fx")|((with_reducible show PD _ _ _ (dFn _ z5J _));have h:=@za7 P w K mg base T B;walk_at "fx")|((with_reducible show PD _ _ _ (dFn _ z5L _));have h:=@zab P w K mg base T B;walk_at "fx")|((with_reducible show PD _ _ _ (dFn _ zbi _));have h:=@zeX P w K mg base T B;walk_at "fx")|((with_reducible show PD _ _ _ (dFn _ z4e _));have h:=@z7q P w K mg base T B;walk_at "fx")|((with_reducible show PD _ _ _ (dFn _ z4a _));have h:=@z7S P w K mg base T B;walk_at "fx")|((with_reducible show PD _ _ _ (dFn _ z2g _));have h:=@z4p P w K mg base T B;walk_at "fx")|((with_reducible show PD _ _ _ (dFn _ z28 _));have h:=@z61 P w K mg base T B;walk_at "fx")|((with_reducible show PD _ _ _ (dFn _ z2j _));have h:=@z5S P w K mg base T B;walk_at "fx")|((with_reducible show PD _ _ _ (dFn _ z1E _));have h:=@z7V P w K mg base T B;walk_at "fx")|((with_reducible show PD _ _ _ (dFn _ z38 _));have h:=@z6z P w K mg base T B;walk_at "fx")|((with_reducible show PD _ _ _ (dFn _ z2b _));have h:=@z75 P w K mg base T B;walk_at "fx")|((with_reducible show PD _ _ _ (dFn _ z2o _));have h:=@z7X P w K mg base T B;walk_at "fx")|((with_reducible show PD _ _ _ (dFn _ z2i _));have h:=@z4x P w K mg base T B;walk_at "fx")|((with_reducible show PD _ _ _ (dFn _ z1H _));have h:=@z47 P w K mg base T B;walk_at "fx")|((with_reducible show PD _ _ _ (dFn _ z2Y _));have h:=@z7P P w K mg base T B;walk_at "fx")|((with_reducible show PD _ _ _ (dFn _ z4M _));have h:=@z91 P w K mg base T B;walk_at "fx")|((with_reducible show PD _ _ _ (dFn _ z49 _));have h:=@z7Q P w K mg base T B;walk_at "fx")|((with_reducible show PD _ _ _ (dFn _ z1V _));have h:=@z4V P w K mg base T B;walk_at "fx")|((with_reducible show PD _ _ _ (dFn _ z2K _));have h:=@z6J P w K mg base T B;walk_at "fx")|((with_reducible show PD _ _ _ (dFn _ z1J _));have h:=@z4r P w K mg base T B;walk_at "fx")|((with_reducible show PD _ _ _ (dFn _ z25 _));have h:=@z4I P w K mg base T B;walk_at "fx")|((with_reducible show PD _ _ _ (dFn _ z2p _));have h:=@z45 P w K mg base T B;walk_at "fx")|((with_reducible show PD _ _ _ (dFn _ z30 _));have h:=@z8i P w K mg base T B;walk_at "fx")|((with_reducible show PD _ _ _ (dFn _ z2z _));have h:=@z5f P w K mg base T B;walk_at "fx")|((with_reducible show PD _ _ _ (dFn _ z2y _));have h:=@z5h P w K mg base T B;walk_at "fx")|((with_reducible show PD _ _ _ (dFn _ z2u _));have h:=@z68 P w K mg base T B;walk_at "fx")|((with_reducible show PD _ _ _ (dFn _ z2A _));have h:=@z5k P w K mg base T B;walk_at "fx")|((with_reducible show PD _ _ _ (dFn _ z1u _));have h:=@z40 P w K mg base T B;walk_at "fx")|((with_reducible show PD _ _ _ (dFn _ z3Y _));have h:=@z8x P w K mg base T B;walk_at "fx")|((with_reducible show PD _ _ _ (dFn _ z1y _));have h:=@z4t P w K mg base T B;walk_at "fx")|((with_reducible show PD _ _ _ (dFn _ z2c _));have h:=@z6A P w K mg base T B;walk_at "fx")|((with_reducible show PD _ _ _ (dFn _ z1x _));have h:=@z3B P w K mg base T B;walk_at "fx")|((with_reducible show PD _ _ _ (dFn _ _ _));have h:=c_self;walk_at "fx"))
set_option hygiene false in
local macro_rules|`(tactic| walk_at "k")=>`(tactic| first|exact zhl|exact zh9 _ rfl|exact zhk|exact zjx)
set_option hygiene false in
local macro_rules|`(tactic| walk_at "n")=>`(tactic| first|exact zg4 T.c_SIGNS|exact zeZ T.i_MOST_SWITCHES)
set_option hygiene false in
local macro_rules|`(tactic| walk_at "o")=>`(tactic| first|((with_reducible show PD _ _ _ (dOp z3Z _ _));refine ziC ?_ ?_<;>walk_at "e")|((with_reducible show PD _ _ _ (dOp fIx _ _));exact zjj (by walk_at "e") (by walk_at "e") (fun _ _=>rfl))|((with_reducible show PD _ _ _ (dOp z32 _ _));refine zgd ?_ ?_<;>walk_at "e")|((with_reducible show PD _ _ _ (dOp (fI zak) _ _));refine z5j zho zfW ?_ ?_<;>walk_at "e")|((with_reducible show PD _ _ _ (dOp (fI z88) _ _));refine z5j zig zgr ?_ ?_<;>walk_at "e")|((with_reducible show PD _ _ _ (dOp (fI zau) _ _));refine z5j zgP zge ?_ ?_<;>walk_at "e")|((with_reducible show PD _ _ _ (dOp (fI z6t) _ _));refine z5j ziv zfp ?_ ?_<;>walk_at "e")|((with_reducible show PD _ _ _ (dOp (fI z9d) _ _));refine z5j zih zgY ?_ ?_<;>walk_at "e")|((with_reducible show PD _ _ _ (dOp (fI zfF) _ _));refine z5j zhb zfg ?_ ?_<;>walk_at "e")|((with_reducible show PD _ _ _ (dOp (fI zj4) _ _));refine z5j ziH zgL ?_ ?_<;>walk_at "e")|((with_reducible show PD _ _ _ (dOp (fI zji) _ _));refine z5j zhv zeW ?_ ?_<;>walk_at "e")|((with_reducible show PD _ _ _ (dOp (z8T _) _ _));refine z5j zgf (zdd _) ?_ ?_<;>walk_at "e")|((with_reducible show PD _ _ _ (dOp z8O _ _));refine z5j zg2 ze4 ?_ ?_<;>walk_at "e")|((with_reducible show PD _ _ _ (dOp fLt _ _));exact z4D zfc zcL (by walk_at "e") (by walk_at "e") (z2V _))|((with_reducible show PD _ _ _ (dOp fGe _ _));exact z4D zhJ zeC (by walk_at "e") (by walk_at "e") (z2V _))|((with_reducible show PD _ _ _ (dOp (fPy eqF) _ _));exact z4D (z94 hr.units) z53 (by walk_at "e") (by walk_at "e") (z2V _))|((with_reducible show PD _ _ _ (dOp (fPy neF) _ _));exact z4D (z95 hr.units) z53 (by walk_at "e") (by walk_at "e") (z2V _))|((with_reducible show PD _ _ _ (dOp fIn _ _));exact z4D (zeF hr.units) zec (by walk_at "e") (by walk_at "e") rfl)|((with_reducible show PD _ _ _ (dOp zfd _ _));exact z4D (zaT hr.units) zcJ (by walk_at "e") (by walk_at "e") rfl)|((with_reducible show PD _ _ _ (dOp zhn _ _));exact z4D zeJ zaY (by walk_at "e") (by walk_at "e") (z2V _))|((with_reducible show PD _ _ _ (dOp zdz _ _));exact z4D zc1 z9K (by walk_at "e") (by walk_at "e") (z2V _))|((with_reducible show PD _ _ _ (dOp ziF _ _));exact z4D zib zfw (by walk_at "e") (by walk_at "e") (z2V _))|((with_reducible show PD _ _ _ (z4s true z1D _));refine zcc T.z0F rfl ?_<;>walk_at "e")|((with_reducible show PD _ _ _ (zaL fLe fLe _ _ _));refine zdA zhZ zeP zhZ zeP ?_ ?_ ?_<;>walk_at "e"))
set_option hygiene false in
local macro_rules|`(tactic| walk_at "c")=>`(tactic| first|((with_reducible show PD _ _ _ (z1B z3W _));refine z4i zd3 zhE rfl T.b_len zh8 ?_<;>walk_at "a")|((with_reducible show PD _ _ _ (z1B za9 _));refine z4i (zbu rfl) zi3 rfl T.b_all zi6 ?_<;>walk_at "a")|((with_reducible show PD _ _ _ (z1B zhK _));refine z4i (zc5 rfl) ziG rfl T.b_any ziI ?_<;>walk_at "a")|((with_reducible show PD _ _ _ (z1B za5 _));refine z4i (zaF rfl) zfm rfl T.b_max ziT ?_<;>walk_at "a")|((with_reducible show PD _ _ _ (z1B zan _));refine z4i (zbb rfl) zgD rfl T.b_min zhq ?_<;>walk_at "a")|((with_reducible show PD _ _ _ (z1B z5v _));refine z4C zbJ zgG rfl T.b_int zep ?_<;>walk_at "a")|((with_reducible show PD _ _ _ (z1B z36 _));refine z4C z6W zdt rfl T.b_tuple z6E ?_<;>walk_at "a")|((with_reducible show PD _ _ _ (z1B zdT _));refine z4C z8c zfq rfl T.b_str zeo ?_<;>walk_at "a")|((with_reducible show PD _ _ _ (z1B (zal _) _));refine z4C z7z (zf1 _) rfl T.b_list z8F ?_<;>walk_at "a")|((with_reducible show PD _ _ _ (z3k "bool" _));exact z8a (by walk_at "e") (by decide) rfl T.b_isinstance z1A rfl T.b_bool zgK)|((with_reducible show PD _ _ _ (z3k "int" _));exact z8a (by walk_at "e") (by decide) rfl T.b_isinstance z1A rfl T.b_int zep)|((with_reducible show PD _ _ _ (z3k "list" _));exact z8a (by walk_at "e") (by decide) rfl T.b_isinstance z1A rfl T.b_list z8F)|((with_reducible show PD _ _ _ (z3k "str" _));exact z8a (by walk_at "e") (by decide) rfl T.b_isinstance z1A rfl T.b_str zeo)|((with_reducible show PD _ _ _ (z3k "tuple" _));exact z8a (by walk_at "e") (by decide) rfl T.b_isinstance z1A rfl T.b_tuple z6E)|((with_reducible show PD _ _ _ (za6 "tuple" "list" _));exact zf3 (by walk_at "e") (by decide) (by decide) rfl T.b_isinstance z1A rfl T.b_tuple z6E rfl T.b_list z8F)|((with_reducible show PD _ _ _ (z66 z19 _));exact z3n (f:=z19) (by walk_at "e") rfl T.b_isinstance z1A rfl T.z00 T.z0T (z0G T))|((with_reducible show PD _ _ _ (z66 z1a _));exact z3n (f:=z1a) (by walk_at "e") rfl T.b_isinstance z1A rfl T.z01 T.z0U (z0H T))|((with_reducible show PD _ _ _ (z66 z1b _));exact z3n (f:=z1b) (by walk_at "e") rfl T.b_isinstance z1A rfl T.z02 T.z0V (z0I T))|((with_reducible show PD _ _ _ (z66 z1c _));exact z3n (f:=z1c) (by walk_at "e") rfl T.b_isinstance z1A rfl T.z03 T.z0W (z0J T))|((with_reducible show PD _ _ _ (z66 z1d _));exact z3n (f:=z1d) (by walk_at "e") rfl T.b_isinstance z1A rfl T.z04 T.z0X (z0K T))|((with_reducible show PD _ _ _ (z66 z1e _));exact z3n (f:=z1e) (by walk_at "e") rfl T.b_isinstance z1A rfl T.z05 T.z0Y (z0L T))|((with_reducible show PD _ _ _ (z66 z1f _));exact z3n (f:=z1f) (by walk_at "e") rfl T.b_isinstance z1A rfl T.z06 T.z0Z (z0M T))|((with_reducible show PD _ _ _ (z66 z1g _));exact z3n (f:=z1g) (by walk_at "e") rfl T.b_isinstance z1A rfl T.z07 T.z10 (z0N T))|((with_reducible show PD _ _ _ (z66 z1h _));exact z3n (f:=z1h) (by walk_at "e") rfl T.b_isinstance z1A rfl T.z08 T.z11 (z0O T))|((with_reducible show PD _ _ _ (z66 z1i _));exact zft (x := "ValueError") (n := "ValueError") (f:=z1i) (by walk_at "e") rfl T.b_isinstance z1A rfl T.b_ValueError z6X T.z12 (z0P T))|((with_reducible show PD _ _ _ (z86 _ _));refine zfJ _ rfl rfl T.b_sorted z4v rfl T.b_set zi5 ?_<;>walk_at "a")|((with_reducible show PD _ _ _ (zc8 _ _ _ _ _ _ _));first|exact z7a x0 _ rfl rfl T.b_sorted z4v (z3G (by kernel_rfl)) (by walk_at "i") (fun _ _ _ _ _=>⟨by walk_at "g",by walk_at "fs",by walk_at "cs",by walk_at "e"⟩)|exact z7a x1 _ rfl rfl T.b_sorted z4v (z3G (by kernel_rfl)) (by walk_at "i") (fun _ _ _ _ _=>⟨by walk_at "g",by walk_at "fs",by walk_at "cs",by walk_at "e"⟩)|exact z7a x2 _ rfl rfl T.b_sorted z4v (z3G (by kernel_rfl)) (by walk_at "i") (fun _ _ _ _ _=>⟨by walk_at "g",by walk_at "fs",by walk_at "cs",by walk_at "e"⟩))|((with_reducible show PD _ _ _ (zgi _ _ _ _ _));refine zhx (z3A T B hT L) (z77 rfl z7y) hr (by walk_at "le") rfl ?_<;>walk_at "a"))
set_option hygiene false in
local macro_rules|`(tactic| walk_at "so")=>`(tactic| first|((with_reducible show PDO _ _ _ z33);exact zdU)|refine ze3 ?_<;>walk_at "e")
set_option hygiene false in
local macro_rules|`(tactic| walk_at "m")=>`(tactic| first|((with_reducible show PD _ _ _ (zjL _ _));exact zbA (by walk_at "e") (by walk_at "a"))|((with_reducible show PD _ _ _ (zfj _ _));exact zaE (by walk_at "e") (by walk_at "a"))|((with_reducible show PD _ _ _ (zd9 _ _ _));refine zf2 _ _ rfl rfl rfl (Nat.le_of_ble_eq_true rfl) ?_<;>walk_at "e")|((with_reducible show PD _ _ _ (z92 _ _));exact zfG (by walk_at "e") (by walk_at "a"))|((with_reducible show PD _ _ _ (dSl _ _ _));exact zjq (by walk_at "e") (by walk_at "so") (by walk_at "so"))|((with_reducible show PD _ _ _ (z7f _ _ _));exact zhM (by walk_at "e") (by walk_at "so") (by walk_at "so"))|((with_reducible show PD _ _ _ (zd2 _ _));exact zgb (by walk_at "e") (by walk_at "so"))|((with_reducible show PD _ _ _ (zj1 z1Z _));exact zf9 T.z0E rfl (by walk_at "e") (fun _ _=>rfl)))
set_option hygiene false in
local macro_rules|`(tactic| walk_at "e1")=>`(tactic| first|((with_reducible show PD _ _ _ (z1n _));refine zeA rfl ?_<;>walk_at "v")|((with_reducible show PD _ _ _ (dC _));first|walk_at "k"|walk_at "n")|((with_reducible show PD _ _ _ (dOp _ _ _));walk_at "o")|((with_reducible show PD _ _ _ (dFn _ _ _));walk_at "f")|((with_reducible show PD _ _ _ (z3F _));refine zhg ?_<;>walk_at "a")|((with_reducible show PD _ _ _ (z8M _));refine zia ?_<;>walk_at "a")|((with_reducible show PD _ _ _ (z1R _ _ _ _ _ _ _));first|exact z6x x0 _ rfl (z3G (by kernel_rfl)) (by walk_at "i") (fun _ _ _ _ _=>⟨by walk_at "g",by walk_at "fs",by walk_at "cs",by walk_at "e"⟩)|exact z6x x1 _ rfl (z3G (by kernel_rfl)) (by walk_at "i") (fun _ _ _ _ _=>⟨by walk_at "g",by walk_at "fs",by walk_at "cs",by walk_at "e"⟩)|exact z6x x2 _ rfl (z3G (by kernel_rfl)) (by walk_at "i") (fun _ _ _ _ _=>⟨by walk_at "g",by walk_at "fs",by walk_at "cs",by walk_at "e"⟩))|((with_reducible show PD _ _ _ (z1B _ _));walk_at "c")|((with_reducible show PD _ _ _ (z5B _));refine zg7 ?_<;>walk_at "a")|((with_reducible show PD _ _ _ (zas _ _));refine zhI ?_ ?_<;>walk_at "e")|((with_reducible show PD _ _ _ (dOr _ _));refine zjy ?_ ?_<;>walk_at "e")|((with_reducible show PD _ _ _ (zj9 _));refine zhs ?_<;>walk_at "e")|((with_reducible show PD _ _ _ (zaq _));refine zim ?_<;>walk_at "e")|((with_reducible show PD _ _ _ (dIf _ _ _));exact zdE (by walk_at "t") (by walk_at "e") (by walk_at "e"))|((with_reducible show PD _ _ _ ziZ);exact zi2)|((with_reducible show PD _ _ _ (dJs _));refine zbT ?_<;>walk_at "js")|((with_reducible show PD _ _ _ (ziX _));refine ziL ?_<;>walk_at "e")|walk_at "c"|walk_at "m"|walk_at "o")
set_option hygiene false in
local macro_rules|`(tactic| walk_at "e")=>`(tactic| first|(show PD _ _ (.BoolOp _ [_] _) _;refine ziU ?_<;>walk_at "e1")|walk_at "e1")
set_option hygiene false in
local macro_rules|`(tactic| walk_at "js")=>`(tactic| first|exact .nil|exact .cons (by walk_at "e") (by walk_at "js"))
set_option hygiene false in
local macro_rules|`(tactic| walk_at "a")=>`(tactic| first|((with_reducible show PDA _ _ _ z1s);exact zfQ)|exact zdW (by walk_at "e") (by walk_at "a"))
set_option hygiene false in
local macro_rules|`(tactic| walk_at "t")=>`(tactic| first|((with_reducible show PDT _ _ _ (z2w (dOp fLt _ _)));exact z3H zfc zcL (by walk_at "e") (by walk_at "e") (z2V _))|((with_reducible show PDT _ _ _ (z2w (dOp fGe _ _)));exact z3H zhJ zeC (by walk_at "e") (by walk_at "e") (z2V _))|((with_reducible show PDT _ _ _ (z2w (dOp (fPy eqF) _ _)));exact z3H (z94 hr.units) z53 (by walk_at "e") (by walk_at "e") (z2V _))|((with_reducible show PDT _ _ _ (z2w (dOp (fPy neF) _ _)));exact z3H (z95 hr.units) z53 (by walk_at "e") (by walk_at "e") (z2V _))|((with_reducible show PDT _ _ _ (z2w (dOp fIn _ _)));exact z3H (zeF hr.units) zec (by walk_at "e") (by walk_at "e") rfl)|((with_reducible show PDT _ _ _ (z2w (dOp zfd _ _)));exact z3H (zaT hr.units) zcJ (by walk_at "e") (by walk_at "e") rfl)|((with_reducible show PDT _ _ _ (z2w (dOp zhn _ _)));exact z3H zeJ zaY (by walk_at "e") (by walk_at "e") (z2V _))|((with_reducible show PDT _ _ _ (z2w (dOp zdz _ _)));exact z3H zc1 z9K (by walk_at "e") (by walk_at "e") (z2V _))|((with_reducible show PDT _ _ _ (z2w (z4s true z1D _)));refine za2 T.z0F rfl ?_<;>walk_at "e")|(show PDT _ _ (.BoolOp _ _ _) _;refine PDW.pt ?_<;>walk_at "w")|((with_reducible show PDT _ _ _ (z2Q _));refine zgH ?_<;>walk_at "t")|((with_reducible show PDT _ _ _ (z3d _));exact zgE (by walk_at "e") (fun _=>rfl)))
set_option hygiene false in
local macro_rules|`(tactic| walk_at "w")=>`(tactic| first|(show PDW _ _ (.BoolOp .And [_] _) _;refine zdg ?_<;>walk_at "t")|(show PDW _ _ (.BoolOp .Or [_] _) _;refine zgc ?_<;>walk_at "t")|((with_reducible show PDW _ _ _ (zav _ _));exact zfS (by walk_at "t") (by walk_at "w"))|((with_reducible show PDW _ _ _ (za8 _ _));exact ziA (by walk_at "t") (by walk_at "w")))
set_option hygiene false in
local macro_rules|`(tactic| walk_at "i")=>`(tactic| first|((with_reducible show PDI _ _ _ _ (z41 _));refine zaa rfl T.b_range ?_<;>walk_at "a")|((with_reducible show PDI _ _ _ _ (z8b _));refine zdY rfl T.b_zip ?_<;>walk_at "a")|((with_reducible show PDI _ _ _ _ (zaU _));refine zba rfl T.b_enumerate ?_<;>walk_at "a")|refine zaV ?_<;>walk_at "e")
set_option hygiene false in
local macro_rules|`(tactic| walk_at "g")=>`(tactic| first|(show PG _ (.Name _ _) _;refine zer (z2E (by kernel_rfl)) rfl ?_ ?_<;>walk_at "l")|(show PG _ (.Tuple [_,_] _ _) _;refine zil rfl (z2E (by kernel_rfl)) rfl rfl ?_ ?_ ?_ ?_<;>walk_at "l"))
set_option hygiene false in
local macro_rules|`(tactic| walk_at "fs")=>`(tactic| first|exact .nil|exact .cons (by walk_at "t") (by walk_at "fs"))
set_option hygiene false in
local macro_rules|`(tactic| walk_at "cs")=>`(tactic| first|exact .nil|(refine ClsOk.cons ?_ (fun _=>rfl) ?_ ?_ ?_;(dsimp only;walk_at "i");(dsimp only;walk_at "g");(dsimp only;walk_at "fs");walk_at "cs"))
set_option hygiene false in
local macro_rules|`(tactic| walk_at "s")=>`(tactic| first|((with_reducible show PDS _ _ _ (z22 _));refine zff ?_<;>walk_at "e")|((with_reducible show PDS _ _ _ (sIf _ _ _));exact zhP (by walk_at "t") (by walk_at "ss") (by walk_at "ss"))|(show PDS _ _ (.Assign [.Name _ _] (.ListComp _ _ _ _) _) _;first|exact z3R x0 _ rfl (z2E (by kernel_rfl)) rfl rfl (z3G (by kernel_rfl)) (by walk_at "i") (fun _ _ _ _ _=>⟨by walk_at "g",by walk_at "fs",by walk_at "cs",by walk_at "e"⟩) rfl|exact z3R x1 _ rfl (z2E (by kernel_rfl)) rfl rfl (z3G (by kernel_rfl)) (by walk_at "i") (fun _ _ _ _ _=>⟨by walk_at "g",by walk_at "fs",by walk_at "cs",by walk_at "e"⟩) rfl|exact z3R x2 _ rfl (z2E (by kernel_rfl)) rfl rfl (z3G (by kernel_rfl)) (by walk_at "i") (fun _ _ _ _ _=>⟨by walk_at "g",by walk_at "fs",by walk_at "cs",by walk_at "e"⟩) rfl|exact zbW (z2E (by kernel_rfl)) rfl (by walk_at "l") (by walk_at "e"))|((with_reducible show PDS _ _ _ (z2U _ _));exact zbW (z2E (by kernel_rfl)) rfl (by walk_at "l") (by walk_at "e"))|((with_reducible show PDS _ _ _ (z8s _ _ _));exact zgp zfY rfl (by walk_at "i") (by walk_at "g") (by walk_at "ss"))|((with_reducible show PDS _ _ _ (z4b _));refine zdI ?_<;>walk_at "e")|((with_reducible show PDS _ _ _ (zcR _ _ _));refine zfo ?_ ?_ ?_<;>walk_at "e")|((with_reducible show PDS _ _ _ (z52 0 _));refine z5A z7y rfl rfl B.z14 rfl rfl ?_<;>walk_at "a")|((with_reducible show PDS _ _ _ (z52 1 _));refine z5A z7y rfl rfl B.z15 rfl rfl ?_<;>walk_at "a")|((with_reducible show PDS _ _ _ (z52 2 _));refine z5A z7y rfl rfl B.z13 rfl rfl ?_<;>walk_at "a")|((with_reducible show PDS _ _ _ z2T);exact zdr))
set_option hygiene false in
local macro_rules|`(tactic| walk_at "c4")=>`(tactic| first|exact z9T (z9m (z2E (by kernel_rfl)) rfl (by walk_at "l") (z9N (z23 (z6p (L:=⟨_,_,_,_⟩) L rfl (zat (by kernel_rfl)) rfl) z39))) (z67 (z8w PySem.F.plainAttrs_list PySem.F.slot_list_append PySem.F.type_list_append z3e (z55 rfl (by walk_at "v")) (z23 (z6p (L:=⟨_,_,_,_⟩) L rfl (zat (by kernel_rfl)) rfl) z39))) (z67 (z8w PySem.F.plainAttrs_list PySem.F.slot_list_append PySem.F.type_list_append z3e (z55 rfl (by walk_at "v")) (z23 (z6p (L:=⟨_,_,_,_⟩) L rfl (zat (by kernel_rfl)) rfl) z39))) (zee (zbg (z94 hr.units) (z9u (rc T) hr rfl (z3G (by kernel_rfl)) rfl (by walk_at "v") (z2E (by kernel_rfl)) rfl rfl) (PD.out (by walk_at "e")) (z2V _))) ⟨zat (by kernel_rfl),rfl,fun _ _ _ _ _ _=>rfl,fun q lam cd cl A outer s H E hr=>by walk_at "e"⟩ ⟨zat (by kernel_rfl),rfl,fun _ _ _ _ _ _=>rfl,fun q lam cd cl A outer s H E hr=>by walk_at "e"⟩ ⟨zat (by kernel_rfl),rfl,fun _ _ _ _ _ _=>rfl,fun q lam cd cl A outer s H E hr=>by walk_at "e"⟩ (Nat.le_of_ble_eq_true rfl))
set_option hygiene false in
local macro_rules|`(tactic| walk_at "c4i")=>`(tactic| first|exact z98 (z9m (z2E (by kernel_rfl)) rfl (by walk_at "l") (z9N (z23 (z6p (L:=⟨_,_,_,_⟩) L rfl (zat (by kernel_rfl)) rfl) z39))) (z67 (z8w PySem.F.plainAttrs_list PySem.F.slot_list_append PySem.F.type_list_append z3e (z55 rfl (by walk_at "v")) (z23 (z6p (L:=⟨_,_,_,_⟩) L rfl (zat (by kernel_rfl)) rfl) z39))) (z67 (z8w PySem.F.plainAttrs_list PySem.F.slot_list_append PySem.F.type_list_append z3e (z55 rfl (by walk_at "v")) (z23 (z6p (L:=⟨_,_,_,_⟩) L rfl (zat (by kernel_rfl)) rfl) z39))) (zcf (z95 hr.units) (z9u (rc T) hr rfl (z3G (by kernel_rfl)) rfl (by walk_at "v") (z2E (by kernel_rfl)) rfl rfl) (PD.out (by walk_at "e")) (z2V _)) (by walk_at "ss") (by walk_at "ss") ⟨zat (by kernel_rfl),rfl,fun _ _ _ _ _ _=>rfl,fun q lam cd cl A outer s H E hr=>by walk_at "e"⟩ ⟨zat (by kernel_rfl),rfl,fun _ _ _ _ _ _=>rfl,fun q lam cd cl A outer s H E hr=>by walk_at "e"⟩ ⟨zat (by kernel_rfl),rfl,fun _ _ _ _ _ _=>rfl,fun q lam cd cl A outer s H E hr=>by walk_at "e"⟩ (Nat.le_of_ble_eq_true rfl))
set_option hygiene false in
local macro_rules|`(tactic| walk_at "ss")=>`(tactic| first|((with_reducible show z51 _ _ _ (z73 _ _ _ _ _ _ _ _));walk_at "c4i")|((with_reducible show z51 _ _ _ (z9y _ _ _ _ _ _));walk_at "c4")|((with_reducible show z51 _ _ _ z2T);exact z9C)|((with_reducible show z51 _ _ _ (z1P _ _));exact z1p (by walk_at "s") (by walk_at "ss"))|refine z1w ?_<;>walk_at "s")
def z6o:DS:=
 (z22 (zas (z3k "int" (z1n 0)) (zj9 (z3k "bool" (z1n 0)))))
def z4N:List D->Ow->R D:=(z3m 1 z6o)
theorem z8G:z1v ["thing"] ["thing"] (z1o (top 13)):=fnS rfl rfl rfl (by kernel_rfl)
theorem z8o (T:Txt K mg) (B:z3u mg base):CalleeX Cl P w K mg base "is_whole" 1 1 z4N:=
 CalleeX.self (fnX (k:=0) T.d_is_whole z8G (fun _ _ _ _ _ _ us hl=>match us,hl with|[_],_=>rfl) fun f cdv A outer s H E hr=>
  ((z1w (by delta z6o;walk_at "s"))))
def z5K:DS:=
 (z22 (z1B za9 (z1m (z1R false 2 (z8b (z1m (z1n 0) (z1m (z7f (z1n 0) (z2X (dC (.int 1))) z33) z1s))) (.two 1 2) [] [] (dOp ziF (z1n 1) (z1n 2))) z1s)))
def z3s:List D->Ow->R D:=(z3m 1 z5K)
theorem z7G:z1v ["things"] ["things"] (z1o (top 17)):=fnS rfl rfl rfl (by kernel_rfl)
theorem z7t (T:Txt K mg) (B:z3u mg base):CalleeX Cl P w K mg base "is_rising" 1 1 z3s:=
 CalleeX.self (fnX (k:=0) T.d_is_rising z7G (fun _ _ _ _ _ _ us hl=>match us,hl with|[_],_=>rfl) fun f cdv A outer s H E hr=>
  (have x0:Nx ["one", "other"]:=⟨⟩;(z1w (by delta z5K;walk_at "s"))))
def z5l:DS:=
 (z1P (sIf (za8 (z2Q (z3d (z3k "str" (z1n 1)))) (z2w (dOp (fPy neF) (z1B z3W (z1m (z1n 1) z1s)) (z1n 0)))) (z22 (dC (.bl false))) z2T) (z22 (z1B za9 (z1m (z1R false 1 (dIt (z1n 1)) (.one 2) [] [] (dOp fIn (z1n 2) (dC (.str [45,48,49])))) z1s))))
def z26:List D->Ow->R D:=(z3m 2 z5l)
theorem z4T:z1v ["n", "thing"] ["n", "thing"] (z1o (top 26)):=fnS rfl rfl rfl (by kernel_rfl)
theorem z4J (T:Txt K mg) (B:z3u mg base):CalleeX Cl P w K mg base "has_term_signs" 1 2 z26:=
 CalleeX.self (fnX (k:=0) T.d_has_term_signs z4T (fun _ _ _ _ _ _ us hl=>match us,hl with|[_,_],_=>rfl) fun f cdv A outer s H E hr=>
  (have x0:Nx ["sign"]:=⟨⟩;(z1p (by walk_at "s") (z1w (by walk_at "s")))))
def zbO:DS:=
 (z1P (sIf (z2w (dOp (fPy eqF) (z1n 0) (dC (.str [45])))) (z22 (z3F (z1m (dC (.int 0)) (z1m (dC (.int 1)) z1s)))) z2T) (z22 (z3F (z1m (z1B z5v (z1m (z1n 0) z1s)) z1s))))
def z5J:List D->Ow->R D:=(z3m 1 zbO)
theorem za4:z1v ["sign"] ["sign"] (z1o (top 28)):=fnS rfl rfl rfl (by kernel_rfl)
theorem za7 (T:Txt K mg) (B:z3u mg base):CalleeX Cl P w K mg base "bits_of" 1 1 z5J:=
 CalleeX.self (fnX (k:=0) T.d_bits_of za4 (fun _ _ _ _ _ _ us hl=>match us,hl with|[_],_=>rfl) fun f cdv A outer s H E hr=>
  ((z1p (by walk_at "s") (z1w (by walk_at "s")))))
def z8j:DS:=
 (z22 (z1B za9 (z1m (z1R false 2 (z8b (z1m (z1n 0) (z1m (z1n 1) z1s))) (.two 2 3) [] [] (dOr (dOp (fPy eqF) (z1n 3) (dC (.str [45]))) (dOp (fPy eqF) (z1n 3) (z1n 2)))) z1s)))
def z5L:List D->Ow->R D:=(z3m 2 z8j)
theorem z9X:z1v ["one", "other"] ["one", "other"] (z1o (top 30)):=fnS rfl rfl rfl (by kernel_rfl)
theorem zab (T:Txt K mg) (B:z3u mg base):CalleeX Cl P w K mg base "lies_in" 1 2 z5L:=
 CalleeX.self (fnX (k:=0) T.d_lies_in z9X (fun _ _ _ _ _ _ us hl=>match us,hl with|[_,_],_=>rfl) fun f cdv A outer s H E hr=>
  (have x0:Nx ["sign", "wide"]:=⟨⟩;(z1w (by delta z8j;walk_at "s"))))
def zhf:DS:=
 (z1P (z2U 2 (z5B z1s)) (z1P (z8s (z8b (z1m (z1n 0) (z1m (z1n 1) z1s))) (.two 3 4) (z1P (sIf (zav (z2w (dOp (fPy neF) (z1n 3) (dC (.str [45])))) (zav (z2w (dOp (fPy neF) (z1n 4) (dC (.str [45])))) (z2w (dOp (fPy neF) (z1n 3) (z1n 4))))) (z22 (dC .non)) z2T) (z4b (zjL (z1n 2) (z1m (dIf (z2w (dOp (fPy eqF) (z1n 3) (dC (.str [45])))) (z1n 4) (z1n 3)) z1s))))) (z22 (z92 (dC (.str [])) (z1m (z1n 2) z1s)))))
def zbi:List D->Ow->R D:=zjl (z3m 5 zhf)
theorem zgW:z1v ["one", "other", "signs", "left", "right"] ["one", "other"] (z1o (top 31)):=fnS rfl rfl rfl (by kernel_rfl)
theorem zeX (T:Txt K mg) (B:z3u mg base):CalleeX Cl P w K mg base "meet" 1 2 zbi:=
 CalleeX.frz (fnX (k:=0) T.d_meet zgW (fun _ _ _ _ _ _ us hl=>match us,hl with|[_,_],_=>rfl) fun f cdv A outer s H E hr=>
  ((z1p (by walk_at "s") (z1p (by walk_at "s") (z1w (by walk_at "s"))))))
def z5F:DS:=
 (z22 (dOp z3Z (dOp z3Z (dSl (z1n 0) z33 (z2X (z1n 1))) (z1n 2)) (dSl (z1n 0) (z2X (dOp z3Z (z1n 1) (dC (.int 1)))) z33)))
def z4e:List D->Ow->R D:=(z3m 3 z5F)
theorem z7o:z1v ["term", "switch", "sign"] ["term", "switch", "sign"] (z1o (top 32)):=fnS rfl rfl rfl (by kernel_rfl)
theorem z7q (T:Txt K mg) (B:z3u mg base):CalleeX Cl P w K mg base "with_sign" 1 3 z4e:=
 CalleeX.self (fnX (k:=0) T.d_with_sign z7o (fun _ _ _ _ _ _ us hl=>match us,hl with|[_,_,_],_=>rfl) fun f cdv A outer s H E hr=>
  ((z1w (by delta z5F;walk_at "s"))))
def z60:DS:=
 (z22 (dIf (z2w (dOp (fPy eqF) (z1n 0) (dC (.str [48])))) (dC (.str [49])) (dC (.str [48]))))
def z4a:List D->Ow->R D:=(z3m 1 z60)
theorem z7U:z1v ["sign"] ["sign"] (z1o (top 33)):=fnS rfl rfl rfl (by kernel_rfl)
theorem z7S (T:Txt K mg) (B:z3u mg base):CalleeX Cl P w K mg base "exchanged" 1 1 z4a:=
 CalleeX.self (fnX (k:=0) T.d_exchanged z7U (fun _ _ _ _ _ _ us hl=>match us,hl with|[_],_=>rfl) fun f cdv A outer s H E hr=>
  ((z1w (by delta z60;walk_at "s"))))
def z3j:DS:=
 (z22 (dIf (z2w (dOp zhn (z1n 0) (dC .non))) (dC .non) (dOp (fI zak) (dC (.int 1)) (z1n 0))))
def z2g:List D->Ow->R D:=(z3m 1 z3j)
theorem z4n:z1v ["answer"] ["answer"] (z1o (top 36)):=fnS rfl rfl rfl (by kernel_rfl)
theorem z4p (T:Txt K mg) (B:z3u mg base):CalleeX Cl P w K mg base "opposite_answer" 1 1 z2g:=
 CalleeX.self (fnX (k:=0) T.d_opposite_answer z4n (fun _ _ _ _ _ _ us hl=>match us,hl with|[_],_=>rfl) fun f cdv A outer s H E hr=>
  ((z1w (by delta z3j;walk_at "s"))))
def z34:DS:=
 (z1P (z2U 3 (z3F (z1m (z66 z1c (z1n 1)) (z1m (z66 z1g (z1n 1)) (z1m (z66 z1f (z1n 1)) z1s))))) (z1P (z2U 3 (dOp z3Z (z1n 3) (z3F (z1m (z66 z1e (z1n 1)) (z1m (z66 z1h (z1n 1)) (z1m (z66 z1d (z1n 1)) z1s)))))) (z1P (z2U 3 (dOp z3Z (z1n 3) (z3F (z1m (z66 z1a (z1n 1)) (z1m (z66 z1b (z1n 1)) (z1m (z66 z19 (z1n 1)) z1s)))))) (z1P (sIf (z2Q (z3d (z66 z1i (z1n 1)))) (z22 (dC .non)) z2T) (z22 (z1R false 1 (z41 (z1m (dC (.int 9)) z1s)) (.one 4) [(z3d (dOp fIx (z1n 3) (z1n 4)))] [] (z1n 4)))))))
theorem z3N:z1v ["_law_call", "_law_error", "e", "_law_marks"] ["_law_call"] (z1o (top 45)):=fnS rfl rfl rfl (by kernel_rfl)
theorem zkg {X:Cx} {Ex:Nat->Hp->Prop} {k iT:Nat} {c Pt:Addr} {tE:DE} {params:Arguments} {body:Expr} {scope:Scope} {pn pl pp:Pos} (T:Txt X.K X.mg) (hr:Room (k + 2) X.A) (L:z5u X.mg X.base c Pt) (hcode:X.env.code=.ref c) (LS:z4g X.env.scope scope) (hdef:defaultsOf params X.env=([],[]))
  (hbl:∀ (name qual:Str) (cl:List (Str × Addr)) (pm cd ct:Value),bindArgs (PySem.W.kla_fn name qual params body scope cl pm cd ct) ⟨[],[]⟩=pure [])
  (hE:∀ (q:Str) (lam:Addr) (cd:Value) (cl:List (Str × Addr)) (A:Around) (outer:List Env) (s:Shared) (H:Hp) (E:XK),Room k (A.deeper (z8z q scope s.heap.objs.size lam cd cl))->PD (cxL (CXr X.prog X.w Cl) X.prog X.w X.K X.mg X.base X.N (z8z q scope s.heap.objs.size lam cd cl) A outer s H E) (Xk Cl E) body tE)
  (hg:Gl X "_law_refused"):PD X Ex (.Call (.Name "_law_refused" pn) [.Lambda params body scope pl] [] pp) (z6S Pt iT Ca 4 1 tE z34):=
 zao (N:=["_law_call", "_law_error", "e", "_law_marks"]) (i:=2) (j:=1) (nf := "_law_call") (n := "e") (y := "_law_error") (xT := "TermError") (T:=24) (Cl:=Cl) (Ca:=Ca) T.d__law_refused hr rfl z3N (by decide +kernel) rfl rfl rfl (by decide) (by decide) rfl rfl (.inl rfl) (fun _ _ _ _ _ _ us hl=>match us,hl with|[_],_=>rfl) rfl T.z09 (zjW T) (fun f cdv s H hr=>(have x0:Nx ["_law_k"]:=⟨⟩;(z1p (by walk_at "s") (z1p (by walk_at "s") (z1p (by walk_at "s") (z1p (by walk_at "s") (z1w (by walk_at "s")))))))) L hcode LS hdef hbl hE hg
theorem rc (T:Txt K mg):zjn Cl Ca P w K mg base "_law_refused" 4 1 z34:=
 zjG (N:=["_law_call", "_law_error", "e", "_law_marks"]) (i:=2) (j:=1) (nf := "_law_call") (n := "e") (y := "_law_error") (xT := "TermError") (T:=24) T.d__law_refused rfl z3N (by decide +kernel) rfl rfl rfl (by decide) (by decide) rfl rfl (.inl rfl) (fun _ _ _ _ _ _ us hl=>match us,hl with|[_],_=>rfl) rfl T.z09 (zjW T) (fun k A outer f cdv s H hr=>(have x0:Nx ["_law_k"]:=⟨⟩;(z1p (by walk_at "s") (z1p (by walk_at "s") (z1p (by walk_at "s") (z1p (by walk_at "s") (z1w (by walk_at "s"))))))))
def z2H:DS:=
 (z22 (zas (z3k "str" (z1n 1)) (zas (dOp (fPy eqF) (z1B z3W (z1m (z1n 1) z1s)) (z1n 0)) (dOp (fPy eqF) (z1R false 1 (dIt (z1n 1)) (.one 2) [(z2w (dOp zfd (z1n 2) (dC (.str [48,49,45]))))] [] (z1n 2)) (z3F z1s)))))
def z28:List D->Ow->R D:=(z3m 2 z2H)
theorem z5Y:z1v ["_law_n", "_law_thing"] ["_law_n", "_law_thing"] (z1o (top 46)):=fnS rfl rfl rfl (by kernel_rfl)
theorem z61 (T:Txt K mg) (B:z3u mg base):CalleeX Cl P w K mg base "_law_is_term" 1 2 z28:=
 CalleeX.self (fnX (k:=0) T.d__law_is_term z5Y (fun _ _ _ _ _ _ us hl=>match us,hl with|[_,_],_=>rfl) fun f cdv A outer s H E hr=>
  (have x0:Nx ["_law_sign"]:=⟨⟩;(z1w (by delta z2H;walk_at "s"))))
def z6b:DS:=
 (z1P (sIf (z2w (dOp fLt (z1n 1) (z1B z3W (z1m (z1n 0) z1s)))) (z22 (dOp fIx (z1n 0) (z1n 1))) z2T) (z22 (dC (.int 0))))
def z2j:List D->Ow->R D:=(z3m 2 z6b)
theorem z5D:z1v ["_law_script", "_law_k"] ["_law_script", "_law_k"] (z1o (top 48)):=fnS rfl rfl rfl (by kernel_rfl)
theorem z5S (T:Txt K mg) (B:z3u mg base):CalleeX Cl P w K mg base "_law_cell_at" 1 2 z2j:=
 CalleeX.self (fnX (k:=0) T.d__law_cell_at z5D (fun _ _ _ _ _ _ us hl=>match us,hl with|[_,_],_=>rfl) fun f cdv A outer s H E hr=>
  ((z1p (by walk_at "s") (z1w (by walk_at "s")))))
def z99:DS:=
 (z1P (sIf (z3d (dOp fIx (z1n 0) (dC (.int 1)))) (z1P (z2U 2 (dOp (fI z6t) (dOp fIx (z1n 0) (dC (.int 0))) (z1n 1))) (z1P (zcR (dOp (fI zau) (dOp fIx (z1n 0) (dC (.int 0))) (z1n 1)) (z1n 0) (dC (.int 0))) (z22 (z1n 2)))) z2T) (z1P (zcR (dOp (fI z6t) (dOp z3Z (dOp (fI z88) (dOp fIx (z1n 0) (dC (.int 0))) (dC (.int 48271))) (dC (.int 29))) (dC (.int 2147483647))) (z1n 0) (dC (.int 0))) (z1P (z2U 3 (dOp (fI z6t) (dOp z3Z (dOp z3Z (dOp (fI z88) (dOp fIx (z1n 0) (dC (.int 0))) (dOp fIx (z1n 0) (dC (.int 0)))) (dOp (fI z88) (dC (.int 39373)) (dOp fIx (z1n 0) (dC (.int 0))))) (dC (.int 7))) (dC (.int 2147483629)))) (z1P (z2U 3 (dOp (fI z6t) (dOp z3Z (dOp (fI z88) (z1n 3) (z1n 3)) (dOp (fI z88) (dC (.int 16807)) (z1n 3))) (dC (.int 2147483587)))) (z22 (dOp (fI z6t) (dOp (fI zau) (z1n 3) (dC (.int 8))) (z1n 1)))))))
def z1E:List D->Ow->R D:=(z3m 4 z99)
theorem z8g:z1v ["_law_state_here", "_law_many", "_law_found", "_law_stirred"] ["_law_state_here", "_law_many"] (z1o (top 50)):=fnS rfl rfl rfl (by kernel_rfl)
theorem z7V (T:Txt K mg) (B:z3u mg base):CalleeX Cl P w K mg base "_law_take" 1 2 z1E:=
 CalleeX.self (fnX (k:=0) T.d__law_take z8g (fun _ _ _ _ _ _ us hl=>match us,hl with|[_,_],_=>rfl) fun f cdv A outer s H E hr=>
  ((z1p (by walk_at "s") (z1p (by walk_at "s") (z1p (by walk_at "s") (z1p (by walk_at "s") (z1w (by walk_at "s"))))))))
def z3S:DS:=
 (z1P (z2U 1 (z3F (z1m (dC (.str [])) z1s))) (z1P (z8s (z41 (z1m (z1n 0) z1s)) (.one 2) (z1P (z2U 3 (z5B z1s)) (z1P (z8s (dIt (z1n 1)) (.one 4) (z4b (zfj (z1n 3) (z1m (z3F (z1m (dOp z3Z (z1n 4) (dC (.str [45]))) (z1m (dOp z3Z (z1n 4) (dC (.str [48]))) (z1m (dOp z3Z (z1n 4) (dC (.str [49]))) z1s)))) z1s)))) (z2U 1 (z1n 3))))) (z22 (z1n 1))))
def z38:List D->Ow->R D:=zjl (z3m 5 z3S)
theorem z72:z1v ["_law_n", "_law_found", "_law_turn", "_law_longer", "_law_term"] ["_law_n"] (z1o (top 51)):=fnS rfl rfl rfl (by kernel_rfl)
theorem z6z (T:Txt K mg) (B:z3u mg base):CalleeX Cl P w K mg base "_law_terms" 1 1 z38:=
 CalleeX.frz (fnX (k:=0) T.d__law_terms z72 (fun _ _ _ _ _ _ us hl=>match us,hl with|[_],_=>rfl) fun f cdv A outer s H E hr=>
  ((z1p (by walk_at "s") (z1p (by walk_at "s") (z1w (by walk_at "s"))))))
def z7J:DS:=
 (z1P (z2U 2 (z1B z3W (z1m (z1n 0) z1s))) (z1P (z8s (z41 (z1m (z1n 2) z1s)) (.one 3) (sIf (zav (z2w (dOp (fPy neF) (dOp fIx (z1n 0) (z1n 3)) (dC (.str [45])))) (z2w (dOp (fPy neF) (dOp fIx (z1n 0) (z1n 3)) (z1B zdT (z1m (dOp (fI zji) (dOp (fI zj4) (z1n 1) (dOp (fI zak) (dOp (fI zak) (z1n 2) (dC (.int 1))) (z1n 3))) (dC (.int 1))) z1s))))) (z22 (dC (.bl false))) z2T)) (z22 (dC (.bl true)))))
def z2b:List D->Ow->R D:=(z3m 4 z7J)
theorem z6Q:z1v ["_law_term", "_law_point", "_law_n", "_law_k"] ["_law_term", "_law_point"] (z1o (top 53)):=fnS rfl rfl rfl (by kernel_rfl)
theorem z75 (T:Txt K mg) (B:z3u mg base):CalleeX Cl P w K mg base "_law_holds" 1 2 z2b:=
 CalleeX.self (fnX (k:=0) T.d__law_holds z6Q (fun _ _ _ _ _ _ us hl=>match us,hl with|[_,_],_=>rfl) fun f cdv A outer s H E hr=>
  ((z1p (by walk_at "s") (z1p (by walk_at "s") (z1w (by walk_at "s"))))))
def z8J (F:List D->Ow->R D):DS:=
 (z1P (sIf (z3d (za6 "tuple" "list" (z1n 1))) (z1P (sIf (za8 (z2w (dOp (fPy neF) (z3k "tuple" (z1n 0)) (z3k "tuple" (z1n 1)))) (z2w (dOp (fPy neF) (z3k "list" (z1n 0)) (z3k "list" (z1n 1))))) (z22 (dC (.bl false))) z2T) (z1P (sIf (z2w (dOp (fPy neF) (z1B z3W (z1m (z1n 0) z1s)) (z1B z3W (z1m (z1n 1) z1s)))) (z22 (dC (.bl false))) z2T) (z22 (z1B za9 (z1m (z1R false 2 (z8b (z1m (z1n 0) (z1m (z1n 1) z1s))) (.two 2 3) [] [] (dFn 2 F (z1m (z1n 2) (z1m (z1n 3) z1s)))) z1s))))) z2T) (z22 (zas (dOp (fPy eqF) (z1n 0) (z1n 1)) (dOp (fPy eqF) (z3k "bool" (z1n 0)) (z3k "bool" (z1n 1))))))
def z2f:Nat->List D->Ow->R D
 | 0=>fun _ _=>.bad
 | k + 1=>(z3m 2 (z8J (z2f k)))
theorem z54:z1v ["_law_found", "_law_due"] ["_law_found", "_law_due"] (z1o (top 54)):=fnS rfl rfl rfl (by kernel_rfl)
theorem z4f (T:Txt K mg) (B:z3u mg base):∀ k,CalleeX Cl P w K mg base "_law_same" (1 + k) 2 (z2f k)
 | 0=>CalleeX.bad (F:=z3m 2 zjV) (fnX T.d__law_same z54 (fun _ _ _ _ _ _ us hl=>match us,hl with|[_,_],_=>rfl) fun f cdv A outer s H E hr=>zdl)
 | k + 1=>CalleeX.self (fnX (k:=1 + k) T.d__law_same z54 (fun _ _ _ _ _ _ us hl=>match us,hl with|[_,_],_=>rfl) fun f cdv A outer s H E hr=>
  have c_self:=z4f T B k
  (have x0:Nx ["_law_one", "_law_other"]:=⟨⟩;(z1p (by walk_at "s") (z1w (by walk_at "s")))))
def z2o:List D->Ow->R D:=z2f 3
theorem z7X (T:Txt K mg) (B:z3u mg base):CalleeX Cl P w K mg base "_law_same" 4 2 z2o:=z4f T B 3
def z3h:DS:=
 (z22 (zas (dFn 1 z4N (z1m (z1n 0) z1s)) (zaL fLe fLe (z1n 1) (z1n 0) (z1n 2))))
def z2i:List D->Ow->R D:=(z3m 3 z3h)
theorem z4o:z1v ["thing", "least", "most"] ["thing", "least", "most"] (z1o (top 14)):=fnS rfl rfl rfl (by kernel_rfl)
theorem z4x (T:Txt K mg) (B:z3u mg base):CalleeX Cl P w K mg base "is_whole_within" 2 3 z2i:=
 CalleeX.self (fnX (k:=1) T.d_is_whole_within z4o (fun _ _ _ _ _ _ us hl=>match us,hl with|[_,_,_],_=>rfl) fun f cdv A outer s H E hr=>
  ((z1w (by delta z3h;walk_at "s"))))
def z2s:DS:=
 (z1P (sIf (z2Q (z3d (z3k "tuple" (z1n 1)))) (z22 (dC (.bl false))) z2T) (z22 (zas (z1B za9 (z1m (z1R false 1 (dIt (z1n 1)) (.one 2) [] [] (dFn 2 z26 (z1m (z1n 0) (z1m (z1n 2) z1s)))) z1s)) (dFn 1 z3s (z1m (z1n 1) z1s)))))
def z1H:List D->Ow->R D:=(z3m 2 z2s)
theorem z4d:z1v ["n", "thing"] ["n", "thing"] (z1o (top 27)):=fnS rfl rfl rfl (by kernel_rfl)
theorem z47 (T:Txt K mg) (B:z3u mg base):CalleeX Cl P w K mg base "has_rising_terms" 2 2 z1H:=
 CalleeX.self (fnX (k:=1) T.d_has_rising_terms z4d (fun _ _ _ _ _ _ us hl=>match us,hl with|[_,_],_=>rfl) fun f cdv A outer s H E hr=>
  (have x0:Nx ["term"]:=⟨⟩;(z1p (by walk_at "s") (z1w (by walk_at "s")))))
def z8W:DS:=
 (z1P (z2U 1 (z3F (z1m (dC (.int 0)) z1s))) (z1P (z8s (dIt (z1n 0)) (.one 2) (z2U 1 (z1R false 2 (dIt (z1n 1)) (.one 3) [] (⟨(dIt (dFn 1 z5J (z1m (z1n 2) z1s))),(.one 4),[]⟩ :: []) (dOp z3Z (dOp (fI z88) (dC (.int 2)) (z1n 3)) (z1n 4))))) (z22 (z1n 1))))
def z2Y:List D->Ow->R D:=(z3m 3 z8W)
theorem z81:z1v ["term", "points", "sign"] ["term"] (z1o (top 29)):=fnS rfl rfl rfl (by kernel_rfl)
theorem z7P (T:Txt K mg) (B:z3u mg base):CalleeX Cl P w K mg base "points_of" 2 1 z2Y:=
 CalleeX.self (fnX (k:=1) T.d_points_of z81 (fun _ _ _ _ _ _ us hl=>match us,hl with|[_],_=>rfl) fun f cdv A outer s H E hr=>
  (have x0:Nx ["point", "bit"]:=⟨⟩;(z1p (by walk_at "s") (z1p (by walk_at "s") (z1w (by walk_at "s"))))))
def z9Y:DS:=
 (z1P (z2U 1 (dOp z8O (dC (.str [45])) (z1B z3W (z1m (z1n 0) z1s)))) (z22 (z1R false 2 (zaU (z1m (z1n 0) z1s)) (.two 2 3) [(z2w (dOp (fPy neF) (z1n 3) (dC (.str [45]))))] [] (dFn 3 z4e (z1m (z1n 1) (z1m (z1n 2) (z1m (dFn 1 z4a (z1m (z1n 3) z1s)) z1s)))))))
def z4M:List D->Ow->R D:=(z3m 2 z9Y)
theorem z8E:z1v ["clause", "blank"] ["clause"] (z1o (top 41)):=fnS rfl rfl rfl (by kernel_rfl)
theorem z91 (T:Txt K mg) (B:z3u mg base):CalleeX Cl P w K mg base "picks_of" 2 1 z4M:=
 CalleeX.self (fnX (k:=1) T.d_picks_of z8E (fun _ _ _ _ _ _ us hl=>match us,hl with|[_],_=>rfl) fun f cdv A outer s H E hr=>
  (have x0:Nx ["switch", "sign"]:=⟨⟩;(z1p (by walk_at "s") (z1w (by walk_at "s")))))
def z5H:DS:=
 (z22 (z1R true 1 (dIt (z1n 0)) (.one 1) [(z2Q (z3d (z1B zhK (z1m (z1R false 1 (dIt (z1n 0)) (.one 2) [] [] (zas (dOp (fPy neF) (z1n 1) (z1n 2)) (dFn 2 z5L (z1m (z1n 1) (z1m (z1n 2) z1s))))) z1s))))] [] (z1n 1)))
def z49:List D->Ow->R D:=(z3m 1 z5H)
theorem z7H:z1v ["terms"] ["terms"] (z1o (top 42)):=fnS rfl rfl rfl (by kernel_rfl)
theorem z7Q (T:Txt K mg) (B:z3u mg base):CalleeX Cl P w K mg base "widest_of" 2 1 z49:=
 CalleeX.self (fnX (k:=1) T.d_widest_of z7H (fun _ _ _ _ _ _ us hl=>match us,hl with|[_],_=>rfl) fun f cdv A outer s H E hr=>
  (have x0:Nx ["other"]:=⟨⟩;have x1:Nx ["term"]:=⟨⟩;(z1w (by delta z5H;walk_at "s"))))
def z2P:DS:=
 (z1P (sIf (za8 (z2Q (z3d (z3k "tuple" (z1n 1)))) (z2Q (z3d (z1B za9 (z1m (z1R false 1 (dIt (z1n 1)) (.one 2) [] [] (dFn 2 z28 (z1m (z1n 0) (z1m (z1n 2) z1s)))) z1s))))) (z22 (dC (.bl false))) z2T) (z22 (dOp (fPy eqF) (z1B (zal false) (z1m (z1n 1) z1s)) (z86 false (z1m (z1n 1) z1s)))))
def z1V:List D->Ow->R D:=(z3m 2 z2P)
theorem z4O:z1v ["_law_n", "_law_thing"] ["_law_n", "_law_thing"] (z1o (top 47)):=fnS rfl rfl rfl (by kernel_rfl)
theorem z4V (T:Txt K mg) (B:z3u mg base):CalleeX Cl P w K mg base "_law_are_terms" 2 2 z1V:=
 CalleeX.self (fnX (k:=1) T.d__law_are_terms z4O (fun _ _ _ _ _ _ us hl=>match us,hl with|[_,_],_=>rfl) fun f cdv A outer s H E hr=>
  (have x0:Nx ["_law_term"]:=⟨⟩;(z1p (by walk_at "s") (z1w (by walk_at "s")))))
def z84:DS:=
 (z1P (z2U 2 (dFn 2 z2j (z1m (z1n 0) (z1m (z1n 1) z1s)))) (z1P (sIf (z2w (dOp fGe (z1n 2) (dOp (fI z9d) (dC (.int 10)) (dC (.int 18))))) (z22 (z5B (z1m (dOp (fI zak) (z1n 2) (dOp (fI z9d) (dC (.int 10)) (dC (.int 18)))) (z1m (dC (.bl true)) z1s)))) z2T) (z22 (z5B (z1m (dOp (fI z6t) (z1n 2) (dC (.int 2147483647))) (z1m (dC (.bl false)) z1s))))))
def z2K:List D->Ow->R D:=(z3m 3 z84)
theorem z6I:z1v ["_law_script", "_law_k", "_law_cell"] ["_law_script", "_law_k"] (z1o (top 49)):=fnS rfl rfl rfl (by kernel_rfl)
theorem z6J (T:Txt K mg) (B:z3u mg base):CalleeX Cl P w K mg base "_law_state" 2 2 z2K:=
 CalleeX.self (fnX (k:=1) T.d__law_state z6I (fun _ _ _ _ _ _ us hl=>match us,hl with|[_,_],_=>rfl) fun f cdv A outer s H E hr=>
  ((z1p (by walk_at "s") (z1p (by walk_at "s") (z1w (by walk_at "s"))))))
def z2G:DS:=
 (z1P (z2U 3 (dFn 1 z38 (z1m (z1n 1) z1s))) (z1P (z2U 4 (z1R false 1 (z41 (z1m (dFn 2 z1E (z1m (z1n 0) (z1m (dOp z3Z (z1n 2) (dC (.int 1))) z1s))) z1s)) (.one 5) [] [] (dOp fIx (z1n 3) (dFn 2 z1E (z1m (z1n 0) (z1m (z1B z3W (z1m (z1n 3) z1s)) z1s)))))) (z22 (z1B z36 (z1m (z86 false (z1m (z1n 4) z1s)) z1s)))))
def z1J:List D->Ow->R D:=(z3m 5 z2G)
theorem z4z:z1v ["_law_state_here", "_law_n", "_law_most", "_law_some", "_law_found"] ["_law_state_here", "_law_n", "_law_most"] (z1o (top 52)):=fnS rfl rfl rfl (by kernel_rfl)
theorem z4r (T:Txt K mg) (B:z3u mg base):CalleeX Cl P w K mg base "_law_some_terms" 2 3 z1J:=
 CalleeX.self (fnX (k:=1) T.d__law_some_terms z4z (fun _ _ _ _ _ _ us hl=>match us,hl with|[_,_,_],_=>rfl) fun f cdv A outer s H E hr=>
  (have x0:Nx ["_law_turn"]:=⟨⟩;(z1p (by walk_at "s") (z1p (by walk_at "s") (z1w (by walk_at "s"))))))
def z2O:DS:=
 (z1P (z2U 3 (dFn 2 z1E (z1m (z1n 0) (z1m (dOp z32 (z1B z3W (z1m (z1n 1) z1s)) (dC (.int 1))) z1s)))) (z1P (z2U 4 (z92 (dC (.str [])) (z1m (z1R false 1 (z41 (z1m (z1n 2) z1s)) (.one 7) [] [] (dOp fIx (dC (.str [48,49,45])) (dFn 2 z1E (z1m (z1n 0) (z1m (dC (.int 3)) z1s))))) z1s))) (z1P (z2U 5 (z3F (z1m (z1n 4) (z1m (dOp z8O (dC (.str [45])) (z1n 2)) (z1m (z7f (z1n 4) z33 (z2X (zaq (dC (.int 1))))) (z1m (dOp z32 (z1n 4) (dC (.str [48]))) (z1m (zd9 [48] [50] (z1n 4)) (z1m (dC .non) (z1m (dC (.int 0)) (z1m (z8M (z1m (z1n 4) z1s)) (z1m (dC (.str [])) (z1m (dC (.bl true)) z1s)))))))))))) (z1P (z2U 5 (dOp fIx (z1n 5) (dFn 2 z1E (z1m (z1n 0) (z1m (dC (.int 10)) z1s))))) (z1P (z2U 6 (z3F (z1m (dOp z32 (dOp z32 (z7f (z1n 1) z33 (z2X (z1n 3))) (z8M (z1m (z1n 5) z1s))) (z7f (z1n 1) (z2X (z1n 3)) z33)) (z1m (dOp z32 (dOp z32 (z7f (z1n 1) z33 (z2X (z1n 3))) (z8M (z1m (z1n 5) z1s))) (z7f (z1n 1) (z2X (dOp z32 (z1n 3) (dC (.int 1)))) z33)) (z1m (dOp z32 (z7f (z1n 1) z33 (z2X (z1n 3))) (z7f (z1n 1) (z2X (dOp z32 (z1n 3) (dC (.int 1)))) z33)) (z1m (z1B (zal false) (z1m (z1n 1) z1s)) z1s)))))) (z1P (z2U 6 (dOp z32 (z1n 6) (z3F (z1m (zd2 (z1n 1) (z2X (zaq (dC (.int 1))))) (z1m (dOp z32 (z1n 1) (z7f (z1n 1) (z2X (zaq (dC (.int 1)))) z33)) (z1m (dC .non) (z1m ziZ (z1m (z1B z36 (z1m (z86 false (z1m (dOp z32 (z1n 1) (z8M (z1m (z1n 4) z1s))) z1s)) z1s)) (z1m (z92 (dC (.str [32])) (z1m (z1n 1) z1s)) z1s))))))))) (z22 (dOp fIx (z1n 6) (dOp fIx (z3F (z1m (dC (.int 0)) (z1m (dC (.int 0)) (z1m (dC (.int 1)) (z1m (dC (.int 1)) (z1m (dC (.int 2)) (z1m (dC (.int 2)) (z1m (dC (.int 3)) (z1m (dC (.int 4)) (z1m (dC (.int 5)) (z1m (dC (.int 6)) (z1m (dC (.int 7)) (z1m (dC (.int 8)) (z1m (dC (.int 8)) (z1m (dC (.int 9)) z1s))))))))))))))) (dFn 2 z1E (z1m (z1n 0) (z1m (dC (.int 14)) z1s))))))))))))
def z25:List D->Ow->R D:=(z3m 7 z2O)
theorem z4L:z1v ["_law_state_here", "_law_form", "_law_n", "_law_at", "_law_term", "_law_odd", "_law_some"] ["_law_state_here", "_law_form", "_law_n"] (z1o (top 55)):=fnS rfl rfl rfl (by kernel_rfl)
theorem z4I (T:Txt K mg) (B:z3u mg base):CalleeX Cl P w K mg base "_law_bent_form" 2 3 z25:=
 CalleeX.self (fnX (k:=1) T.d__law_bent_form z4L (fun _ _ _ _ _ _ us hl=>match us,hl with|[_,_,_],_=>rfl) fun f cdv A outer s H E hr=>
  (have x0:Nx ["_law_k"]:=⟨⟩;(z1p (by walk_at "s") (z1p (by walk_at "s") (z1p (by walk_at "s") (z1p (by walk_at "s") (z1p (by walk_at "s") (z1p (by walk_at "s") (z1w (by walk_at "s"))))))))))
def z2W:DS:=
 (sIf (z2Q (z3d (dFn 3 z2i (z1m (z1n 0) (z1m (z1n 1) (z1m (z1n 2) z1s)))))) (z52 0 (z1m (dJs [(dC (.str [111,110,108,121,32,97,32,119,104,111,108,101,32,110,117,109,98,101,114,32,102,114,111,109,32])),(ziX (z1n 1)),(dC (.str [32,116,111,32])),(ziX (z1n 2)),(dC (.str [32,105,115,32,108,101,116,32,104,101,114,101]))]) z1s)) z2T)
def z2p:List D->Ow->R D:=(z3m 3 z2W)
theorem z44:z1v ["thing", "least", "most"] ["thing", "least", "most"] (z1o (top 15)):=fnS rfl rfl rfl (by kernel_rfl)
theorem z45 (T:Txt K mg) (B:z3u mg base):CalleeX Cl P w K mg base "need_whole_within" 3 3 z2p:=
 CalleeX.self (fnX (k:=2) T.d_need_whole_within z44 (fun _ _ _ _ _ _ us hl=>match us,hl with|[_,_,_],_=>rfl) fun f cdv A outer s H E hr=>
  ((z1w (by delta z2W;walk_at "s"))))
def z5Z:DS:=
 (z22 (dOr (dOp zhn (z1n 0) (dC .non)) (dFn 3 z2i (z1m (z1n 0) (z1m (dC (.int 0)) (z1m (dC (.int 1)) z1s))))))
def z30:List D->Ow->R D:=(z3m 1 z5Z)
theorem z80:z1v ["thing"] ["thing"] (z1o (top 21)):=fnS rfl rfl rfl (by kernel_rfl)
theorem z8i (T:Txt K mg) (B:z3u mg base):CalleeX Cl P w K mg base "is_answer" 3 1 z30:=
 CalleeX.self (fnX (k:=2) T.d_is_answer z80 (fun _ _ _ _ _ _ us hl=>match us,hl with|[_],_=>rfl) fun f cdv A outer s H E hr=>
  ((z1w (by delta z5Z;walk_at "s"))))
def z2v:DS:=
 (z22 (z1R false 1 (dIt (z1n 0)) (.one 2) [(z2w (dOp fIn (z1n 1) (dFn 1 z2Y (z1m (z1n 2) z1s))))] [] (z1n 2)))
def z2z:List D->Ow->R D:=(z3m 2 z2v)
theorem z5g:z1v ["terms", "point"] ["terms", "point"] (z1o (top 34)):=fnS rfl rfl rfl (by kernel_rfl)
theorem z5f (T:Txt K mg) (B:z3u mg base):CalleeX Cl P w K mg base "terms_holding" 3 2 z2z:=
 CalleeX.self (fnX (k:=2) T.d_terms_holding z5g (fun _ _ _ _ _ _ us hl=>match us,hl with|[_,_],_=>rfl) fun f cdv A outer s H E hr=>
  (have x0:Nx ["term"]:=⟨⟩;(z1w (by delta z2v;walk_at "s"))))
def z3P:DS:=
 (z4b (dFn 3 z2p (z1m (z1n 0) (z1m (dC (.int 1)) (z1m (dC (.int 4)) z1s)))))
def z2y:List D->Ow->R D:=(z3m 1 z3P)
theorem z5m:z1v ["n"] ["n"] (z1o (top 16)):=fnS rfl rfl rfl (by kernel_rfl)
theorem z5h (T:Txt K mg) (B:z3u mg base):CalleeX Cl P w K mg base "need_switches" 4 1 z2y:=
 CalleeX.self (fnX (k:=3) T.d_need_switches z5m (fun _ _ _ _ _ _ us hl=>match us,hl with|[_],_=>rfl) fun f cdv A outer s H E hr=>
  ((z1w (by delta z3P;walk_at "s"))))
def z6G:DS:=
 (z1P (sIf (za8 (z2Q (z3d (z3k "tuple" (z1n 0)))) (z2w (z4s true z1D (z1B z3W (z1m (z1n 0) z1s))))) (z22 (dC (.bl false))) z2T) (z22 (z1B za9 (z1m (z1R false 1 (dIt (z1n 0)) (.one 1) [] [] (dFn 1 z30 (z1m (z1n 1) z1s))) z1s))))
def z2u:List D->Ow->R D:=(z3m 1 z6G)
theorem z6a:z1v ["thing"] ["thing"] (z1o (top 22)):=fnS rfl rfl rfl (by kernel_rfl)
theorem z68 (T:Txt K mg) (B:z3u mg base):CalleeX Cl P w K mg base "is_function" 4 1 z2u:=
 CalleeX.self (fnX (k:=3) T.d_is_function z6a (fun _ _ _ _ _ _ us hl=>match us,hl with|[_],_=>rfl) fun f cdv A outer s H E hr=>
  (have x0:Nx ["answer"]:=⟨⟩;(z1p (by walk_at "s") (z1w (by walk_at "s")))))
def z3O:DS:=
 (sIf (z2Q (z3d (dFn 1 z2u (z1m (z1n 0) z1s)))) (z52 2 (z1m (dC (.str [97,32,102,117,110,99,116,105,111,110,32,105,115,32,97,32,116,117,112,108,101,32,111,102,32,50,44,32,52,44,32,56,32,111,114,32,49,54,32,97,110,115,119,101,114,115,44,32,101,97,99,104,32,48,44,32,49,32,111,114,32,78,111,110,101])) z1s)) z2T)
def z2A:List D->Ow->R D:=(z3m 1 z3O)
theorem z5e:z1v ["thing"] ["thing"] (z1o (top 23)):=fnS rfl rfl rfl (by kernel_rfl)
theorem z5k (T:Txt K mg) (B:z3u mg base):CalleeX Cl P w K mg base "need_function" 5 1 z2A:=
 CalleeX.self (fnX (k:=4) T.d_need_function z5e (fun _ _ _ _ _ _ us hl=>match us,hl with|[_],_=>rfl) fun f cdv A outer s H E hr=>
  ((z1w (by delta z3O;walk_at "s"))))
def z1Q:DS:=
 (z1P (z4b (dFn 1 z2y (z1m (z1n 0) z1s))) (sIf (z2Q (z3d (dFn 2 z1H (z1m (z1n 0) (z1m (z1n 1) z1s))))) (z52 1 (z1m (dC (.str [111,110,108,121,32,97,32,114,105,115,105,110,103,32,116,117,112,108,101,32,111,102,32,117,110,108,105,107,101,32,116,101,114,109,115,32,111,102,32,116,104,101,32,110,32,115,119,105,116,99,104,101,115,32,105,115,32,108,101,116,32,104,101,114,101])) z1s)) z2T))
def z1u:List D->Ow->R D:=(z3m 2 z1Q)
theorem z43:z1v ["n", "thing"] ["n", "thing"] (z1o (top 38)):=fnS rfl rfl rfl (by kernel_rfl)
theorem z40 (T:Txt K mg) (B:z3u mg base):CalleeX Cl P w K mg base "need_rising_terms" 5 2 z1u:=
 CalleeX.self (fnX (k:=4) T.d_need_rising_terms z43 (fun _ _ _ _ _ _ us hl=>match us,hl with|[_,_],_=>rfl) fun f cdv A outer s H E hr=>
  ((z1p (by walk_at "s") (z1w (by walk_at "s")))))
def z4Y:DS:=
 (z1P (z4b (dFn 1 z2A (z1m (z1n 0) z1s))) (z22 (z1B z36 (z1m (z1R false 1 (dIt (z1n 0)) (.one 1) [] [] (dFn 1 z2g (z1m (z1n 1) z1s))) z1s))))
def z3Y:List D->Ow->R D:=(z3m 1 z4Y)
theorem z8B:z1v ["function"] ["function"] (z1o (top 37)):=fnS rfl rfl rfl (by kernel_rfl)
theorem z8x (T:Txt K mg) (B:z3u mg base):CalleeX Cl P w K mg base "opposite" 6 1 z3Y:=
 CalleeX.self (fnX (k:=5) T.d_opposite z8B (fun _ _ _ _ _ _ us hl=>match us,hl with|[_],_=>rfl) fun f cdv A outer s H E hr=>
  (have x0:Nx ["answer"]:=⟨⟩;(z1p (by walk_at "s") (z1w (by walk_at "s")))))
def z20:DS:=
 (z1P (z4b (dFn 2 z1u (z1m (z1n 0) (z1m (z1n 1) z1s)))) (z22 (z1B z36 (z1m (z1R false 1 (z41 (z1m (zj1 z1Z (z1n 0)) z1s)) (.one 2) [] [] (dIf (z3d (dFn 2 z2z (z1m (z1n 1) (z1m (z1n 2) z1s)))) (dC (.int 1)) (dC (.int 0)))) z1s))))
def z1y:List D->Ow->R D:=(z3m 2 z20)
theorem z4j:z1v ["n", "terms"] ["n", "terms"] (z1o (top 39)):=fnS rfl rfl rfl (by kernel_rfl)
theorem z4t (T:Txt K mg) (B:z3u mg base):CalleeX Cl P w K mg base "function_of_sum" 6 2 z1y:=
 CalleeX.self (fnX (k:=5) T.d_function_of_sum z4j (fun _ _ _ _ _ _ us hl=>match us,hl with|[_,_],_=>rfl) fun f cdv A outer s H E hr=>
  (have x0:Nx ["point"]:=⟨⟩;(z1p (by walk_at "s") (z1w (by walk_at "s")))))
def z3M:DS:=
 (z1P (z4b (dFn 2 z1u (z1m (z1n 0) (z1m (z1n 1) z1s)))) (z1P (z2U 2 (z5B (z1m (dOp z8O (dC (.str [45])) (z1n 0)) z1s))) (z1P (z8s (dIt (z1n 1)) (.one 3) (z1P (z2U 4 (z1R false 2 (dIt (z1n 2)) (.one 5) [] (⟨(dIt (dFn 1 z4M (z1m (z1n 3) z1s))),(.one 6),[]⟩ :: []) (dFn 2 zbi (z1m (z1n 5) (z1m (z1n 6) z1s))))) (z2U 2 (dFn 1 z49 (z1m (zc8 false 1 (dIt (z1n 4)) (.one 5) [(z2w (dOp zdz (z1n 5) (dC .non)))] [] (z1n 5)) z1s))))) (z22 (z1n 2)))))
def z2c:List D->Ow->R D:=(z3m 5 z3M)
theorem z6P:z1v ["n", "terms", "wide", "clause", "met"] ["n", "terms"] (z1o (top 43)):=fnS rfl rfl rfl (by kernel_rfl)
theorem z6A (T:Txt K mg) (B:z3u mg base):CalleeX Cl P w K mg base "multiplied" 6 2 z2c:=
 CalleeX.self (fnX (k:=5) T.d_multiplied z6P (fun _ _ _ _ _ _ us hl=>match us,hl with|[_,_],_=>rfl) fun f cdv A outer s H E hr=>
  (have x0:Nx ["term", "pick"]:=⟨⟩;have x1:Nx ["term"]:=⟨⟩;(z1p (by walk_at "s") (z1p (by walk_at "s") (z1p (by walk_at "s") (z1w (by walk_at "s")))))))
def z1G:DS:=
 (z22 (dFn 1 z3Y (z1m (dFn 2 z1y (z1m (z1n 0) (z1m (z1n 1) z1s))) z1s)))
def z1x:List D->Ow->R D:=(z3m 2 z1G)
theorem z3C:z1v ["n", "terms"] ["n", "terms"] (z1o (top 40)):=fnS rfl rfl rfl (by kernel_rfl)
theorem z3B (T:Txt K mg) (B:z3u mg base):CalleeX Cl P w K mg base "function_of_product" 7 2 z1x:=
 CalleeX.self (fnX (k:=6) T.d_function_of_product z3C (fun _ _ _ _ _ _ us hl=>match us,hl with|[_,_],_=>rfl) fun f cdv A outer s H E hr=>
  ((z1w (by delta z1G;walk_at "s"))))
def z1X (Pt:Nat):DS:=
 (z73 Pt 4 3 (z6j Ca 4 1 z34) [(dFn 2 z1y (z1m (z1n 1) (z1m (dC .non) z1s))),(dFn 2 z1x (z1m (z1n 1) (z1m (dC .non) z1s))),(dFn 2 z2c (z1m (z1n 1) (z1m (dC .non) z1s)))] (dOp (z8T false) (z3F (z1m (z3F (z1m (dC (.int 3)) z1s)) z1s)) (dC (.int 3))) (z22 (dC (.bl false))) (z1P (sIf (z3d (dFn 2 z1V (z1m (z1n 0) (z1m (z1n 2) z1s)))) (z22 (dC (.bl true))) z2T) (z9y Pt 4 3 (z6j Ca 4 1 z34) [(dFn 2 z1y (z1m (z1n 0) (z1m (z1n 2) z1s))),(dFn 2 z1x (z1m (z1n 0) (z1m (z1n 2) z1s))),(dFn 2 z2c (z1m (z1n 0) (z1m (z1n 2) z1s)))] (dOp (z8T false) (z3F (z1m (z3F (z1m (dC (.int 1)) z1s)) z1s)) (dC (.int 3))))))
def z1W (Pt:Nat):List D->Ow->R D:=zeT 5 4 Pt (z1X Pt)
theorem z3z:z1v ["_law_n", "_law_bad", "_law_terms_here", "_law_calls", "<tab>"] ["_law_n", "_law_bad", "_law_terms_here"] (z1o (top 56)):=fnS rfl rfl rfl (by kernel_rfl)
theorem z3A {c Pt:Addr} (T:Txt K mg) (B:z3u mg base) (hT:zi0 K mg "_law_refusals_right" (top 56) c) (L:z5u mg base c Pt):z8Y Cl P w K mg base "_law_refusals_right" 10 3 Pt (z1W Pt):=
 zkF (k:=9) (i:=4) (z := "<tab>") hT z3z rfl (zka (by kernel_rfl)) (fun _ _ _ _ _ _ us hl=>match us,hl with|[_,_,_],_=>rfl) fun f A outer s H E hr=>
  ((by unfold z1X;walk_at "ss"))
def zjU (Pt:Nat):DS:=
 (z1P (z8s (z41 (z1m (z1B za5 (z1m (dC (.int 1)) (z1m (z1B zan (z1m (z1B z3W (z1m (z1n 0) z1s)) (z1m (dC (.int 8)) z1s))) z1s))) z1s)) (.one 1) (z1P (z2U 2 (dFn 2 z2K (z1m (z1n 0) (z1m (z1n 1) z1s)))) (z1P (z2U 3 (dOp z3Z (dC (.int 1)) (dFn 2 z1E (z1m (z1n 2) (z1m (dC (.int 4)) z1s))))) (z8s (dIt (z3F (z1m (dFn 3 z1J (z1m (z1n 2) (z1m (z1n 3) (z1m (dC (.int 9)) z1s)))) (z1m (dFn 3 z1J (z1m (z1n 2) (z1m (z1n 3) (z1m (dC (.int 3)) z1s)))) (z1m (z8M z1s) z1s))))) (.one 4) (z1P (z2U 5 (z1R false 1 (z41 (z1m (dOp (fI zfF) (dC (.int 1)) (z1n 3)) z1s)) (.one 8) [] [] (dOp (fPy neF) (z1R false 1 (dIt (z1n 4)) (.one 9) [(z3d (dFn 2 z2b (z1m (z1n 9) (z1m (z1n 8) z1s))))] [] (z1n 9)) (z3F z1s)))) (z1P (sIf (z2Q (z3d (dFn 2 z2o (z1m (dFn 2 z1y (z1m (z1n 3) (z1m (z1n 4) z1s))) (z1m (z1B z36 (z1m (z1R false 1 (dIt (z1n 5)) (.one 8) [] [] (z1B z5v (z1m (z1n 8) z1s))) z1s)) z1s))))) (z22 (dC (.bl false))) z2T) (z1P (sIf (z2Q (z3d (dFn 2 z2o (z1m (dFn 2 z1x (z1m (z1n 3) (z1m (z1n 4) z1s))) (z1m (z1B z36 (z1m (z1R false 1 (dIt (z1n 5)) (.one 8) [] [] (dOp (fI zak) (dC (.int 1)) (z1B z5v (z1m (z1n 8) z1s)))) z1s)) z1s))))) (z22 (dC (.bl false))) z2T) (z1P (z2U 6 (dOp fIx (z3F (z1m (dC (.int 0)) (z1m (dC (.int 5)) (z1m (zaq (dC (.int 1))) (z1m (dC (.bl true)) (z1m (dC .non) (z1m (dC (.str [50])) (z1m (z8M (z1m (dC (.int 2)) z1s)) (z1m (dOp (fI z9d) (dC (.int 10)) (dC (.int 29))) z1s))))))))) (dFn 2 z1E (z1m (z1n 2) (z1m (dC (.int 8)) z1s))))) (sIf (z2Q (z3d (zgi Pt 7 3 (z1W Pt) (z1m (z1n 3) (z1m (z1n 6) (z1m (dFn 3 z25 (z1m (z1n 2) (z1m (z1n 4) (z1m (z1n 3) z1s)))) z1s)))))) (z22 (dC (.bl false))) z2T))))))))) (z22 (dC (.bl true))))
def F_law (Pt:Nat):List D->Ow->R D:=zeT 8 7 Pt (zjU Pt)
theorem zic:z1v ["_law_script", "_law_k", "_law_state_here", "_law_n", "_law_terms_here", "_law_held", "_law_bad", "<tab>"] ["_law_script"] (z1o (top 57)):=fnS rfl rfl rfl (by kernel_rfl)
theorem zhQ {f c Pt:Addr} {fd:FuncData} (hF:L2.Fun K "law" "law" (top 57) f fd) (T:Txt K mg) (B:z3u mg base) (hT:zi0 K mg "_law_refusals_right" (top 56) c) (L:z5u mg base c Pt):FnOk P w K mg base (CXr P w Cl) 11 f fd ["_law_script"] (ze1 K (Xk Cl) 1 Pt (F_law Pt)):=
 zkO (k:=10) (i:=7) (z := "<tab>") hF zic rfl (zka (by kernel_rfl)) fun cdv A outer s H E hr=>
  (have x0:Nx ["_law_term"]:=⟨⟩;have x1:Nx ["_law_point"]:=⟨⟩;have x2:Nx ["_law_one"]:=⟨⟩;(z1p (by walk_at "s") (z1w (by walk_at "s"))))
theorem zhu {f c Pt:Addr} {fd:FuncData} (hF:L2.Fun K "law" "law" (top 57) f fd) (hT:zi0 K mg "_law_refusals_right" (top 56) c) (T:Txt K mg) (B:z3u mg base) (L:z5u mg base c Pt):FnOk P w K mg base (CXr P w Cl) 11 f fd ["_law_script"] (ze1 K (Xk Cl) 1 Pt (F_law Pt)):=
 zhQ hF T B hT L
end
theorem fa_mk {K:PySem.W.Frag} {h:Heap} {mg:Str->Option Value} (X:K.In h) (G:h.Ns mainGlobals mg) {n:Str} {st:Stmt} {f:Addr} {od an:Option Addr} {sl:Array (Option Value)} {oc kV dc pm ct cd:Value} (a:PySem.W.nsIn K mainGlobals n=some (some (.ref f)))
  (l:K.lookup f=some ⟨oc,od,.func (PySem.W.fnOf n n (z2x st) (z1U st) (z1o st) .none kV dc pm an cd ct),sl⟩) (q:PySem.W.codeIn K cd n=true) (k:PySem.W.keepIn K (.ref f)=true):z1Y K mg n st:=⟨f,_,PySem.W.mg_of X G a,zcm l q k⟩
theorem gs_mk {K:PySem.W.Frag} {h:Heap} {mg:Str->Option Value} (X:K.In h) (G:h.Ns mainGlobals mg) {n:Str} {cs:List Nat} {t:Tok} (s:PySem.W.nsIn K mainGlobals n=some (some (.str ⟨cs.toArray⟩ t))):zjP mg n cs:=⟨_,PySem.W.mg_of X G s⟩
theorem gi_mk {K:PySem.W.Frag} {h:Heap} {mg:Str->Option Value} (X:K.In h) (G:h.Ns mainGlobals mg) {n:Str} {i:Int} {t:Tok} (s:PySem.W.nsIn K mainGlobals n=some (some (.int i t))):zjE mg n i:=⟨_,PySem.W.mg_of X G s⟩
theorem gt_mk {K:PySem.W.Frag} {h:Heap} {mg:Str->Option Value} (X:K.In h) (G:h.Ns mainGlobals mg) {n:Str} {tb:List (Int × Int)} {e:Addr} {o:Obj} (d:PySem.W.nsIn K mainGlobals n=some (some (.ref e))) (u:K.lookup e=some o) (v:zj5 o tb=true) (y:(e == sysModules)=false):zeL K mg n tb:=⟨_,_,PySem.W.mg_of X G d,u,v,y⟩
theorem all_mk {P:Program} {w:World} {K:PySem.W.Frag} {h:Heap} {mg:Str->Option Value} {fa:Addr} (X:K.In h) (G:h.Ns mainGlobals mg) (hfa:mg "law" = some (.ref fa)) (T:Txt K mg)
  {f:Addr} {od an:Option Addr} {sl:Array (Option Value)} {oc kV dc pm ct:Value} {cd:Value} (a:PySem.W.nsIn K mainGlobals "law" = some (some (.ref f)))
  (l:K.lookup f=some ⟨oc,od,.func (PySem.W.fnOf "law" "law" (z2x (top 57)) (z1U (top 57)) (z1o (top 57)) .none kV dc pm an cd ct),sl⟩) (q:PySem.W.codeIn K cd "law" = true) (k:PySem.W.keepIn K (.ref f)=true)
  {f2:Addr} {od2 an2:Option Addr} {sl2:Array (Option Value)} {oc2 kV2 dc2 pm2 ct2:Value} {cd2:Addr} (a2:PySem.W.nsIn K mainGlobals "_law_refusals_right" = some (some (.ref f2)))
  (l2:K.lookup f2=some ⟨oc2,od2,.func (PySem.W.fnOf "_law_refusals_right" "_law_refusals_right" (z2x (top 56)) (z1U (top 56)) (z1o (top 56)) .none kV2 dc2 pm2 an2 (.ref cd2) ct2),sl2⟩) (q2:PySem.W.codeIn K (.ref cd2) "_law_refusals_right" = true) (k2:PySem.W.keepIn K (.ref f2)=true)
  (z1k:PySem.W.excIn K 73 zh1 "ValueError.__new__" = true) (z1l:PySem.W.excIn K 49 zh1 "ValueError.__new__" = true) (z1j:PySem.W.excIn K 37 zh1 "ValueError.__new__" = true)
  {Pt:Addr} {oc_t:Value} {od_t:Option Addr} {sl_t:Array (Option Value)} {vs_t:Array Value} (h4:K.lookup cd2=some ⟨oc_t,od_t,.fields vs_t,sl_t⟩) (h5:vs_t[11]?=some (.ref Pt)) (hnt:PySem.W.noTabs K=true)
  : PySem.W.noTabs K=true/\∃ (c Pt:Addr),PySem.W.tabIn K "_law_refusals_right" = some (c,Pt)/\∃ fd:FuncData,(∀ (s:Shared) (u:Value),BindsTo s fd ⟨[u],[]⟩ [("_law_script",u)])/\∀ base:Heap,K.In base->base.Ns mainGlobals mg->z5u mg base c Pt->FnOk P w K mg base (CXr P w Cl) 11 fa fd ["_law_script"] (ze1 K (Xk Cl) 1 Pt (F_law Pt)):=by
 have hF:L2.Fun K "law" "law" (top 57) f (PySem.W.fnOf "law" "law" (z2x (top 57)) (z1U (top 57)) (z1o (top 57)) .none kV dc pm an cd ct):=zcm l q k
 have e:=hfa.symm.trans (PySem.W.mg_of X G a)
 cases e
 have hT:zi0 K mg "_law_refusals_right" (top 56) cd2:=⟨f2,_,PySem.W.mg_of X G a2,zcm l2 q2 k2,rfl⟩
 exact ⟨hnt,cd2,Pt,zii a2 l2 h4 h5,_,fun s u=>.of_eq rfl,fun base kb nb L=>zhu hF hT T ⟨z8r kb T.z05 z1k,z8r kb T.z07 z1l,z8r kb T.z03 z1j⟩ L⟩
end K52
-- DEPTH 11
namespace K52
open PySem DL
def terms:Nat->List (List Nat)
 | 0=>[[]]
 | n + 1=>(terms n).flatMap fun t=>[t ++ [45],t ++ [48],t ++ [49]]
def ziy:Nat->List Nat
 | 45=>[0,1]
 | 49=>[1]
 | _=>[0]
def pts (cs:List Nat):List Nat:=cs.foldl (fun ps c=>ps.flatMap fun p=>(ziy c).map (2 * p + ·)) [0]
def zb6 (l:List Nat):List D:=l.map fun (p:Nat)=>D.int (p:Int)
def allT:List (List Nat):=terms 1 ++ terms 2 ++ terms 3 ++ terms 4
theorem zfr (O:Ow):(allT.map fun cs=>z2Y [.str cs] O)=allT.map fun cs=>R.ok (.lst (zb6 (pts cs))) O:=by kernel_rfl
def allP:List (List Nat × Nat):=allT.flatMap fun cs=>(List.range (2 ^ cs.length)).map fun p=>(cs,p)
def sgn (c:Nat):Bool:=c == 45 || c == 48 || c == 49
def bit (c:Nat):Bool:=c == 48 || c == 49
theorem zdB {cs:List Nat} {p:Nat} (h:cs ∈ allT) (hp:p < 2 ^ cs.length):(cs,p) ∈ allP:=by
 unfold allP
 rw [List.mem_flatMap]
 exact ⟨cs,h,List.mem_map.mpr ⟨p,List.mem_range.mpr hp,rfl⟩⟩
theorem z7i {cs:List Nat} (h:cs ∈ allT) (O:Ow):z2Y [.str cs] O=.ok (.lst (zb6 (pts cs))) O:=List.map_inj_left.mp (zfr O) cs h
def Ans (d:D):Prop:=d=.int 0 \/ d=.int 1 \/ d=.non
structure Fn (n:Nat) (f:List D):Prop where
 n1:1 <= n
 n4:n <= 4
 len:f.length=2 ^ n
 ans:∀ d ∈ f,Ans d
theorem zfT {n:Nat} (h1:1 <= n) (h4:n <= 4):n=1 \/ n=2 \/ n=3 \/ n=4:=by omega
theorem z4k {n:Nat} (h1:1 <= n) (h4:n <= 4) {cs:List Nat} (h:cs ∈ terms n):cs ∈ allT:=by
 unfold allT
 rcases zfT h1 h4 with rfl|rfl|rfl|rfl <;> simp [h]
theorem z70:([1,2,3,4].all fun n=>(terms n).all fun cs=>cs.length == n)=true:=by decide +kernel
theorem z2t {n:Nat} (h1:1 <= n) (h4:n <= 4) {cs:List Nat} (h:cs ∈ terms n):cs.length=n:=by
 have:=List.all_eq_true.mp z70 n (by rcases zfT h1 h4 with rfl|rfl|rfl|rfl <;> simp)
 simpa using List.all_eq_true.mp this cs h
theorem zaG:∀ l:List Bool,bls (l.map D.bl)=some l
 | []=>rfl
 | b :: l=>by
  show (bls (l.map D.bl)).map (b :: ·)=_
  rw [zaG l];rfl
theorem z9a (O:Ow) (l:List Bool):za9 O [.lst (l.map D.bl)]=.ok (.bl (l.all id)) O:=by
 show (match bls (l.map D.bl) with|some bs=>R.ok (D.bl (bs.all id)) O|none=>R.bad)=_
 rw [zaG]
theorem z5P {α:Type} (l:List α):l.filter (fun _=>true)=l:=by simp
theorem zb1 (O:Ow) {d:D} (h:Ans d):z30 [d] O=.ok (.bl true) O:=by rcases h with rfl|rfl|rfl <;> kernel_rfl
theorem z4u {n:Nat} (h4:n <= 4):2 ^ n <= 16:=Nat.le_trans (Nat.pow_le_pow_right (by decide) h4) (by decide)
theorem zcQ (O:Ow) (f:List D):z3W O [.tup f]=.ok (.int f.length) O:=rfl
theorem z69 {n:Nat} {f:List D} (hf:Fn n f) (O:Ow):z2u [.tup f] O=.ok (.bl true) O:=by
 have hc:=zcq (ext:=1) (i:=1) (ts:=[]) (te:=dFn 1 z30 (z1m (z1n 1) z1s)) (it0:=dIt (z1n 0)) (σ:=[some (.tup f)]) (O:=O) (ds:=f) (p:=fun _=>true) (e:=fun _=>.bl true) rfl (by have:=z4u hf.n4;have:=hf.len;omega) (fun d hd=>rfl) (fun d hd _=>(z7k (z1C rfl) rfl).trans (zb1 O (hf.ans d hd))) false
 have e2:(f.filter fun _=>true).map (fun _=>D.bl true)=(f.map fun _=>true).map D.bl:=by rw [z5P,List.map_map];rfl
 rw [e2] at hc
 have hif:sIf (za8 (z2Q (z3d (z3k "tuple" (z1n 0)))) (z2w (z4s true z1D (z1B z3W (z1m (z1n 0) z1s))))) (z22 (dC (.bl false))) z2T [some (.tup f)] O=.nx [some (.tup f)] O:=by
  have:za8 (z2Q (z3d (z3k "tuple" (z1n 0)))) (z2w (z4s true z1D (z1B z3W (z1m (z1n 0) z1s)))) [some (.tup f)] O=.ok false O:=by
   show (z2w (z4s true z1D (z1B z3W (z1m (z1n 0) z1s))) [some (.tup f)] O)=_
   refine z3b ?_
   show R.ok (D.bl (if true=true then !(z3y z1D (f.length:Nat)).isSome else _)) O=_
   rw [hf.len]
   rcases zfT hf.n1 hf.n4 with rfl|rfl|rfl|rfl <;> rfl
  rw [z2D this];rfl
 show fin (z1P _ _ [some (.tup f)] O)=_
 rw [z1N hif,z2e ((z2k (z1C hc)).trans (z9a O _))]
 show R.ok (D.bl _) O=_
 congr 2
 rw [List.all_map]
 exact List.all_eq_true.mpr fun _ _=>rfl
theorem zfA {n:Nat} {f:List D} (hf:Fn n f) (O:Ow):z2A [.tup f] O=.ok .non O:=by
 show fin (sIf _ _ z2T [some (.tup f)] O)=_
 have e1:dFn 1 z2u (z1m (z1n 0) z1s) [some (.tup f)] O=.ok (.bl true) O:=(z7k (z1C rfl) rfl).trans (z69 hf O)
 rw [z2D (z2B (z2m e1))]
 rfl
theorem zbp {n:Nat} (h1:1 <= n) (h4:n <= 4):(terms n).length <= 81:=by
 rcases zfT h1 h4 with rfl|rfl|rfl|rfl <;> decide
def z5c:D->List Nat
 | .str cs=>cs
 | _=>[]
structure StAt (O:Ow) (m:Nat) (s:Int) (b:Bool):Prop where
 at_:O[m]?=some [.int s,.bl b]
 nn:0 <= s
 lt:b=false->s < 2147483647
theorem StAt.len {O:Ow} {m:Nat} {s:Int} {b:Bool} (h:StAt O m s b):m < O.length:=(List.getElem?_eq_some_iff.mp h.at_).1
theorem z5o {O:Ow} {m:Nat} {x y:D} (h:O[m]?=some [x,y]):fIx O (.own m) (.int 0)=.ok x O:=by
 show (match O[m]? with|some ds=>(match L2.atI ds 0 with|some d=>R.ok d O|none=>R.bad)|none=>_)=_
 rw [h];rfl
theorem z9A {O:Ow} {m:Nat} {x y:D} (h:O[m]?=some [x,y]):fIx O (.own m) (.int 1)=.ok y O:=by
 show (match O[m]? with|some ds=>(match L2.atI ds 1 with|some d=>R.ok d O|none=>R.bad)|none=>_)=_
 rw [h];rfl
theorem zb5 {te to ti:DE} {σ:Sg} {O O1 O2 O3:Ow} {y:D} {k:Nat} {i:Int} {ds:List D} {j:Nat} (h1:te σ O=.ok y O1) (h2:to σ O1=.ok (.own k) O2) (h3:ti σ O2=.ok (.int i) O3) (h4:O3[k]?=some ds) (h5:L2.ixN ds.length i=some j):
  zcR te to ti σ O=.nx σ (O3.set k (ds.set j y)):=by
 show ((te σ O).bnS _)=_
 rw [h1]
 show ((to σ O1).bnS _)=_
 rw [h2]
 show ((ti σ O2).bnS _)=_
 rw [h3]
 show (match O3[k]? with|some ds=>(match L2.ixN ds.length i with|some j=>RS.nx σ (O3.set k (ds.set j y))|none=>RS.bad)|none=>RS.bad)=_
 rw [h4]
 show (match L2.ixN ds.length i with|some j=>RS.nx σ (O3.set k (ds.set j y))|none=>RS.bad)=_
 rw [h5]
theorem z6l {O:Ow} {i j:Int} (h:0 < j):fI z6t O (.int i) (.int j)=.ok (.int (i % j)) O:=by
 show (match z6t i j with|some d=>R.ok d O|none=>R.bad)=_
 unfold z6t;rw [if_pos h]
theorem zeK {O:Ow} {i j:Int} (h:0 < j) (h2:j < 1073741824):fI zau O (.int i) (.int j)=.ok (.int (i / j)) O:=by
 show (match zau i j with|some d=>R.ok d O|none=>R.bad)=_
 unfold zau;rw [if_pos ⟨h,h2⟩]
theorem z5R {O:Ow} {i j:Int} (h:-1000000000000000 < i) (h2:i < 1000000000000000):fI z88 O (.int i) (.int j)=.ok (.int (i * j)) O:=by
 show (match z88 i j with|some d=>R.ok d O|none=>R.bad)=_
 unfold z88;rw [if_pos (.inl ⟨h,h2⟩)]
theorem fAdd_int {O:Ow} {i j:Int}:z3Z O (.int i) (.int j)=.ok (.int (i + j)) O:=rfl
theorem z3T {O:Ow} {m:Nat} {s:Int} {b:Bool} (h:StAt O m s b) {k:Nat} (k1:1 <= k) (k2:k <= 1000):
  ∃ (r:Nat) (s':Int),r < k/\z1E [.own m,.int k] O=.ok (.int r) (O.set m [.int s',.bl b])/\StAt (O.set m [.int s',.bl b]) m s' b:=by
 have kk:(0:Int) < (k:Int):=by omega
 have hset:∀ s',(O.set m [.int s',.bl b])[m]?=some [D.int s',D.bl b]:=fun s'=>by rw [List.getElem?_set_self h.len]
 have hres:∀ x:Int,∃ r:Nat,r < k/\x % (k:Int)=(r:Int):=fun x=>by
  have a1:=Int.emod_nonneg x (show (k:Int) ≠ 0 by omega)
  have a2:=Int.emod_lt_of_pos x kk
  exact ⟨(x % (k:Int)).toNat,by omega,by omega⟩
 cases b with
 | true=>
  obtain ⟨r,r1,r2⟩:=hres s
  refine ⟨r,s / k,r1,?_,hset _,Int.ediv_nonneg h.nn (by omega),fun z=>by cases z⟩
  have hc:z3d (dOp fIx (z1n 0) (dC (.int 1))) [some (.own m),some (.int k),none,none] O=.ok true O:=z2m ((z1K rfl rfl).trans (z9A h.at_))
  have e1:z2U 2 (dOp (fI z6t) (dOp fIx (z1n 0) (dC (.int 0))) (z1n 1)) [some (.own m),some (.int k),none,none] O=.nx [some (.own m),some (.int k),some (.int r),none] O:=by
   rw [z5x ((z1K ((z1K rfl rfl).trans (z5o h.at_)) rfl).trans (z6l kk)),r2];rfl
  have e2:zcR (dOp (fI zau) (dOp fIx (z1n 0) (dC (.int 0))) (z1n 1)) (z1n 0) (dC (.int 0)) [some (.own m),some (.int k),some (.int r),none] O=.nx [some (.own m),some (.int k),some (.int r),none] (O.set m [.int (s / k),.bl true]):=
   zb5 (ds:=[.int s,.bl true]) (j:=0) ((z1K ((z1K rfl rfl).trans (z5o h.at_)) rfl).trans (zeK kk (by omega))) rfl rfl h.at_ rfl
  show fin (z1P (sIf _ _ _) _ [some (.own m),some (.int k),none,none] O)=_
  have e3:sIf (z3d (dOp fIx (z1n 0) (dC (.int 1)))) (z1P (z2U 2 (dOp (fI z6t) (dOp fIx (z1n 0) (dC (.int 0))) (z1n 1))) (z1P (zcR (dOp (fI zau) (dOp fIx (z1n 0) (dC (.int 0))) (z1n 1)) (z1n 0) (dC (.int 0))) (z22 (z1n 2)))) z2T [some (.own m),some (.int k),none,none] O=.rt (.int r) (O.set m [.int (s / k),.bl true]):=by
   rw [z2D hc,if_pos rfl,z1N e1,z1N e2];rfl
  rw [z63 e3];rfl
 | false=>
  have hs:=h.lt rfl
  let s1:Int:=(s * 48271 + 29) % 2147483647
  have s1n:0 <= s1:=Int.emod_nonneg _ (by decide)
  have s1l:s1 < 2147483647:=Int.emod_lt_of_pos _ (by decide)
  let O1:=O.set m [.int s1,.bl false]
  have hO1:O1[m]?=some [D.int s1,D.bl false]:=hset s1
  let t1:Int:=(s1 * s1 + 39373 * s1 + 7) % 2147483629
  have t1n:0 <= t1:=Int.emod_nonneg _ (by decide)
  have t1l:t1 < 2147483629:=Int.emod_lt_of_pos _ (by decide)
  let t2:Int:=(t1 * t1 + 16807 * t1) % 2147483587
  have hc:z3d (dOp fIx (z1n 0) (dC (.int 1))) [some (.own m),some (.int k),none,none] O=.ok false O:=z2m ((z1K rfl rfl).trans (z9A h.at_))
  have e0:sIf (z3d (dOp fIx (z1n 0) (dC (.int 1)))) (z1P (z2U 2 (dOp (fI z6t) (dOp fIx (z1n 0) (dC (.int 0))) (z1n 1))) (z1P (zcR (dOp (fI zau) (dOp fIx (z1n 0) (dC (.int 0))) (z1n 1)) (z1n 0) (dC (.int 0))) (z22 (z1n 2)))) z2T [some (.own m),some (.int k),none,none] O=.nx [some (.own m),some (.int k),none,none] O:=by
   rw [z2D hc];rfl
  have e1:zcR (dOp (fI z6t) (dOp z3Z (dOp (fI z88) (dOp fIx (z1n 0) (dC (.int 0))) (dC (.int 48271))) (dC (.int 29))) (dC (.int 2147483647))) (z1n 0) (dC (.int 0)) [some (.own m),some (.int k),none,none] O=.nx [some (.own m),some (.int k),none,none] O1:=
   zb5 (ds:=[.int s,.bl false]) (j:=0) ((z1K ((z1K ((z1K ((z1K rfl rfl).trans (z5o h.at_)) rfl).trans (z5R (by have:=h.nn;omega) (by omega))) rfl).trans fAdd_int) rfl).trans (z6l (by decide))) rfl rfl h.at_ rfl
  have ix0:∀ z w,dOp fIx (z1n 0) (dC (.int 0)) [some (.own m),some (.int k),z,w] O1=.ok (.int s1) O1:=fun z w=>(z1K rfl rfl).trans (z5o hO1)
  have e2:z2U 3 (dOp (fI z6t) (dOp z3Z (dOp z3Z (dOp (fI z88) (dOp fIx (z1n 0) (dC (.int 0))) (dOp fIx (z1n 0) (dC (.int 0)))) (dOp (fI z88) (dC (.int 39373)) (dOp fIx (z1n 0) (dC (.int 0))))) (dC (.int 7))) (dC (.int 2147483629))) [some (.own m),some (.int k),none,none] O1=.nx [some (.own m),some (.int k),none,some (.int t1)] O1:=
   z5x ((z1K ((z1K ((z1K ((z1K (ix0 none none) (ix0 none none)).trans (z5R (by omega) (by omega))) ((z1K rfl (ix0 none none)).trans (z5R (by decide) (by decide)))).trans fAdd_int) rfl).trans fAdd_int) rfl).trans (z6l (by decide)))
  have e3:z2U 3 (dOp (fI z6t) (dOp z3Z (dOp (fI z88) (z1n 3) (z1n 3)) (dOp (fI z88) (dC (.int 16807)) (z1n 3))) (dC (.int 2147483587))) [some (.own m),some (.int k),none,some (.int t1)] O1=.nx [some (.own m),some (.int k),none,some (.int t2)] O1:=
   z5x ((z1K ((z1K ((z1K rfl rfl).trans (z5R (by omega) (by omega))) ((z1K rfl rfl).trans (z5R (by decide) (by decide)))).trans fAdd_int) rfl).trans (z6l (by decide)))
  obtain ⟨r,r1,r2⟩:=hres (t2 / 8)
  refine ⟨r,s1,r1,?_,hset _,s1n,fun _=>s1l⟩
  have e4:z22 (dOp (fI z6t) (dOp (fI zau) (z1n 3) (dC (.int 8))) (z1n 1)) [some (.own m),some (.int k),none,some (.int t2)] O1=.rt (.int r) O1:=by
   rw [z2e ((z1K ((z1K rfl rfl).trans (zeK (by decide) (by decide))) rfl).trans (z6l kk)),r2]
  show fin (z1P _ _ [some (.own m),some (.int k),none,none] O)=_
  rw [z1N e0,z1N e1,z1N e2,z1N e3,e4];rfl
theorem zdV {ns:List Int} {k:Nat} (O:Ow):∃ s b,z2K [.lst (ns.map .int),.int k] O=.ok (.own O.length) (O ++ [[.int s,.bl b]])/\StAt (O ++ [[.int s,.bl b]]) O.length s b:=by
 have hat:∀ s b,(O ++ [[D.int s,D.bl b]])[O.length]?=some [D.int s,D.bl b]:=fun s b=>by simp
 obtain ⟨c,hc⟩:∃ c:Int,z2j [.lst (ns.map .int),.int k] O=.ok (.int c) O:=by
  have ht:z2w (dOp fLt (z1n 1) (z1B z3W (z1m (z1n 0) z1s))) [some (.lst (ns.map .int)),some (.int k)] O=.ok (decide ((k:Int) < (ns.map D.int).length)) O:=z3b ((z1K rfl ((z2k (z1C rfl)).trans rfl)).trans rfl)
  by_cases hk:(k:Int) < (ns.map D.int).length
  ·have hk':k < (ns.map D.int).length:=by omega
   have hx:dOp fIx (z1n 0) (z1n 1) [some (.lst (ns.map .int)),some (.int k)] O=.ok (ns.map D.int)[k] O:=(z1K rfl rfl).trans (z4K hk')
   refine ⟨ns[k]'(by simpa using hk'),?_⟩
   show fin (z1P _ _ [some (.lst (ns.map .int)),some (.int k)] O)=_
   have e1:sIf (z2w (dOp fLt (z1n 1) (z1B z3W (z1m (z1n 0) z1s)))) (z22 (dOp fIx (z1n 0) (z1n 1))) z2T [some (.lst (ns.map .int)),some (.int k)] O=.rt (.int (ns[k]'(by simpa using hk'))) O:=by
    rw [z2D ht,if_pos (decide_eq_true hk),z2e hx];simp
   rw [z63 e1];rfl
  ·refine ⟨0,?_⟩
   show fin (z1P _ _ [some (.lst (ns.map .int)),some (.int k)] O)=_
   have e1:sIf (z2w (dOp fLt (z1n 1) (z1B z3W (z1m (z1n 0) z1s)))) (z22 (dOp fIx (z1n 0) (z1n 1))) z2T [some (.lst (ns.map .int)),some (.int k)] O=.nx [some (.lst (ns.map .int)),some (.int k)] O:=by
    rw [z2D ht,if_neg (by simpa using hk)];rfl
   rw [z1N e1];rfl
 have e0:z2U 2 (dFn 2 z2j (z1m (z1n 0) (z1m (z1n 1) z1s))) [some (.lst (ns.map .int)),some (.int k),none] O=.nx [some (.lst (ns.map .int)),some (.int k),some (.int c)] O:=z5x ((z7k (z1F rfl rfl) rfl).trans hc)
 have hp:∀ σ,dOp (fI z9d) (dC (.int 10)) (dC (.int 18)) σ O=.ok (.int 1000000000000000000) O:=fun σ=>by
  refine (z1K (σ:=σ) (O:=O) rfl rfl).trans ?_
  kernel_rfl
 have ht:z2w (dOp fGe (z1n 2) (dOp (fI z9d) (dC (.int 10)) (dC (.int 18)))) [some (.lst (ns.map .int)),some (.int k),some (.int c)] O=.ok (decide ((1000000000000000000:Int) <= c)) O:=z3b ((z1K rfl (hp _)).trans rfl)
 by_cases hcc:(1000000000000000000:Int) <= c
 ·refine ⟨c - 1000000000000000000,true,?_,hat _ _,by omega,fun z=>by cases z⟩
  have e1:sIf (z2w (dOp fGe (z1n 2) (dOp (fI z9d) (dC (.int 10)) (dC (.int 18))))) (z22 (z5B (z1m (dOp (fI zak) (z1n 2) (dOp (fI z9d) (dC (.int 10)) (dC (.int 18)))) (z1m (dC (.bl true)) z1s)))) z2T [some (.lst (ns.map .int)),some (.int k),some (.int c)] O=.rt (.own O.length) (O ++ [[.int (c - 1000000000000000000),.bl true]]):=by
   rw [z2D ht,if_pos (decide_eq_true hcc)]
   refine z2e ?_
   show ((z1m _ _ _ O).bnd _)=_
   rw [z1F ((z1K rfl (hp _)).trans rfl) rfl]
   rfl
  show fin (z1P _ _ [some (.lst (ns.map .int)),some (.int k),none] O)=_
  rw [z1N e0,z63 e1];rfl
 ·refine ⟨c % 2147483647,false,?_,hat _ _,Int.emod_nonneg _ (by decide),fun _=>Int.emod_lt_of_pos _ (by decide)⟩
  have e1:sIf (z2w (dOp fGe (z1n 2) (dOp (fI z9d) (dC (.int 10)) (dC (.int 18))))) (z22 (z5B (z1m (dOp (fI zak) (z1n 2) (dOp (fI z9d) (dC (.int 10)) (dC (.int 18)))) (z1m (dC (.bl true)) z1s)))) z2T [some (.lst (ns.map .int)),some (.int k),some (.int c)] O=.nx [some (.lst (ns.map .int)),some (.int k),some (.int c)] O:=by
   rw [z2D ht,if_neg (by simpa using hcc)];rfl
  show fin (z1P _ _ [some (.lst (ns.map .int)),some (.int k),none] O)=_
  rw [z1N e0,z1N e1]
  have e2:z5B (z1m (dOp (fI z6t) (z1n 2) (dC (.int 2147483647))) (z1m (dC (.bl false)) z1s)) [some (.lst (ns.map .int)),some (.int k),some (.int c)] O=.ok (.own O.length) (O ++ [[.int (c % 2147483647),.bl false]]):=by
   show ((z1m _ _ _ O).bnd _)=_
   rw [z1F ((z1K rfl rfl).trans (z6l (by decide))) rfl]
   rfl
  rw [z2e e2];rfl
theorem zdp {O:Ow} {m:Nat} {x:List D} (h:O[m]?=some x):O.set m x=O:=by
 obtain ⟨h1,rfl⟩:=List.getElem?_eq_some_iff.mp h
 exact List.set_getElem_self h1
theorem z6B {O:Ow} (h:z90 O) (m:Nat) (s:Int) (b:Bool):z90 (O.set m [.int s,.bl b]):=by
 intro c hc d hd
 rw [List.length_set]
 rcases List.mem_or_eq_of_mem_set hc with h1|rfl
 ·exact h c h1 d hd
 ·simp only [List.mem_cons,List.not_mem_nil,or_false] at hd
  rcases hd with rfl|rfl <;> rfl
theorem z62:∀ (n:Nat) (cs:List Nat),cs.length=n->(∀ c ∈ cs,sgn c=true)->cs ∈ terms n
 | 0,cs,h,_=>by
  have:cs=[]:=List.length_eq_zero_iff.mp h
  subst this;simp [terms]
 | n + 1,cs,h,hs=>by
  have hne:cs ≠ []:=by intro e;subst e;simp at h
  obtain ⟨t,c,rfl⟩:∃ t c,cs=t ++ [c]:=⟨_,_,(List.dropLast_concat_getLast hne).symm⟩
  have ht:=z62 n t (by simpa using h) fun c hc=>hs c (List.mem_append_left _ hc)
  unfold terms
  rw [List.mem_flatMap]
  refine ⟨t,ht,?_⟩
  have hl:=hs c (by simp)
  unfold sgn at hl
  simp only [Bool.or_eq_true,beq_iff_eq] at hl
  rcases hl with (z|z)|z <;> rw [z] <;> simp
theorem zg6 {σ:Sg} {O O':Ow} {tA:DA}:∀ (cs:List Nat),1 <= cs.length->cs.length <= 4->tA σ O=.ok [.lst (cs.map fun c=>.str [c])] O'->z92 (dC (.str [])) tA σ O=.ok (.str cs) O'
 | [],h,_,_=>by simp at h
 | [a],_,_,h=>by show ((tA σ O).bnd _)=_;rw [h];rfl
 | [a,b],_,_,h=>by show ((tA σ O).bnd _)=_;rw [h];rfl
 | [a,b,c],_,_,h=>by show ((tA σ O).bnd _)=_;rw [h];rfl
 | [a,b,c,d],_,_,h=>by show ((tA σ O).bnd _)=_;rw [h];rfl
 | _ :: _ :: _ :: _ :: _ :: _,_,h,_=>by simp at h
theorem zbH:∀ (vs:List D),(∀ v ∈ vs,∃ c,v=D.str [c]/\sgn c=true)->∃ cs:List Nat,vs=cs.map (fun c=>D.str [c])/\∀ c ∈ cs,sgn c=true
 | [],_=>⟨[],rfl,by simp⟩
 | v :: vs,h=>by
  obtain ⟨c,rfl,hc⟩:=h v List.mem_cons_self
  obtain ⟨cs,rfl,hcs⟩:=zbH vs fun w hw=>h w (List.mem_cons_of_mem _ hw)
  exact ⟨c :: cs,rfl,fun x hx=>(List.mem_cons.mp hx).elim (fun e=>by rw [e];exact hc) (hcs x)⟩
theorem zi7 {σ:Sg} {O:Ow} {t:DE} {n:Nat} (n4:n <= 4) (h:t σ O=.ok (.int n) O):dOp (fI zfF) (dC (.int 1)) t σ O=.ok (.int ((2 ^ n:Nat):Int)) O:=by
 refine (z1K rfl h).trans ?_
 have:n=0 \/ n=1 \/ n=2 \/ n=3 \/ n=4:=by omega
 rcases this with rfl|rfl|rfl|rfl|rfl <;> rfl
theorem z7N {src:Src} {step:D->Ow->List D->R (List D)} {O:Ow} {g:D->List D} {all:List D} (hg:∀ i,src.get O i=all[i]?):∀ (ds pre acc:List D) (f:Nat),all=pre ++ ds->ds.length <= f->(∀ d ∈ ds,∀ acc:List D,acc.length < 100000->step d O acc=.ok (acc ++ g d) O)->acc.length + (ds.flatMap g).length + ds.length < 100000->
  z1M src step f pre.length O acc=.ok (acc ++ ds.flatMap g) O
 | [],pre,acc,f,ha,_,_,_=>by
  have e:src.get O pre.length=none:=by rw [hg,ha];simp
  cases f <;> (unfold z1M;rw [e];simp)
 | d :: ds,pre,acc,0,_,h,_,_=>by simp at h
 | d :: ds,pre,acc,f + 1,ha,h,hs,hl=>by
  unfold z1M
  have e:src.get O pre.length=some d:=by rw [hg,ha];simp
  rw [e]
  simp only [List.flatMap_cons,List.length_append,List.length_cons] at hl
  show ((step d O acc).bnd fun acc' O'=>z1M src step f (pre.length + 1) O' acc')=_
  rw [hs d List.mem_cons_self acc (by omega)]
  show z1M src step f (pre.length + 1) O (acc ++ g d)=_
  have:=z7N hg ds (pre ++ [d]) (acc ++ g d) f (by rw [ha];simp) (by simpa using h) (fun d' h'=>hs d' (List.mem_cons_of_mem _ h')) (by rw [List.length_append];omega)
  rw [List.length_append,List.length_singleton] at this
  rw [this];simp
theorem zb4 {ext:Nat} {it0:DI} {g:Tg} {ts:List DT} {te:DE} {σ:Sg} {O:Ow} {src:Src} {ds:List D} {p:D->Bool} {e:D->D} {τ:D->Sg} (hi:it0 σ O=.ok src O) (hg:∀ i,src.get O i=ds[i]?) (hsz:src.size O=ds.length) (hl:ds.length < 50000)
  (hput:∀ d ∈ ds,g.put d (clr (clr (σ ++ List.replicate ext none) (g.slots ++ [])) (g.slots ++ []))=some (τ d)) (hp:∀ d ∈ ds,z6K ts (τ d) O=.ok (p d) O) (he:∀ d ∈ ds,p d=true->te (τ d) O=.ok (e d) O) (o:Bool):
  z1R o ext it0 g ts [] te σ O=z8l o (.ok ((ds.filter p).map e) O):=by
 unfold z1R z3r
 rw [hi]
 show z8l o (noX (z1M src _ (src.size O) 0 O []))=_
 have step:∀ d ∈ ds,∀ acc:List D,acc.length < 100000->z4c ⟨it0,g,ts⟩ [] te (clr (σ ++ List.replicate ext none) (z1t [⟨it0,g,ts⟩])) d O acc=.ok (acc ++ (if p d=true then [e d] else [])) O:=by
  intro d hd acc ha
  show (match g.put d (clr (clr (σ ++ List.replicate ext none) (g.slots ++ [])) (g.slots ++ [])) with|some σ1=>(z6K ts σ1 O).bnd fun b O3=>if b=true then z3E [] te σ1 O3 acc else .ok acc O3|none=>.bad)=_
  rw [hput d hd]
  show (z6K ts (τ d) O).bnd _=_
  rw [hp d hd]
  show (if p d=true then z3E [] te _ O acc else .ok acc O)=_
  by_cases hpd:p d=true
  ·rw [if_pos hpd,if_pos hpd]
   unfold z3E
   rw [he d hd hpd]
   show (if acc.length < 100000 then _ else _)=_
   rw [if_pos ha]
  ·rw [if_neg hpd,if_neg hpd];simp
 have hb:∀ l:List D,(l.flatMap fun d=>if p d=true then [e d] else [])=(l.filter p).map e:=by
  intro l
  induction l with
  | nil=>rfl
  | cons x l ih=>
   rw [List.flatMap_cons,ih,List.filter_cons]
   by_cases hx:p x=true
   ·rw [if_pos hx,if_pos hx];rfl
   ·rw [if_neg hx,if_neg hx];rfl
 have hlen:((ds.filter p).map e).length <= ds.length:=by rw [List.length_map];exact List.length_filter_le _ _
 have w:=z7N (O:=O) (g:=fun d=>if p d=true then [e d] else []) hg ds [] [] ds.length rfl (Nat.le_refl _) step (by rw [hb];simp at hlen ⊢;omega)
 rw [hb,List.nil_append] at w
 have w':z1M src (z4c ⟨it0,g,ts⟩ [] te (clr (σ ++ List.replicate ext none) (z1t [⟨it0,g,ts⟩]))) (src.size O) 0 O []=.ok ((ds.filter p).map e) O:=by rw [hsz];exact w
 rw [w'];rfl
theorem z5O {O:Ow} {x:D} {xs:List D} (h:lsV O x=some xs):∃ src,zdS x=some src/\(∀ i,src.get O i=xs[i]?)/\src.size O=xs.length:=by
 cases x with
 | lst ds=>cases h;exact ⟨.val xs,rfl,fun _=>rfl,rfl⟩
 | own k=>
  have h:O[k]?=some xs:=h
  refine ⟨.own k,rfl,fun i=>?_,?_⟩
  ·show (match O[k]? with|some ds=>ds[i]?|none=>none)=_
   rw [h]
  ·show (match O[k]? with|some ds=>ds.length|none=>0)=_
   rw [h]
 | _=>cases h
theorem zgt {O:Ow} {x:D} {xs:List D} (h:lsV O x=some xs):z3W O [x]=.ok (.int xs.length) O:=by
 show (match lsV O x with|some ds=>R.ok (D.int ds.length) O|none=>_)=_
 rw [h]
structure Sq (O:Ow) (x:D) (xs:List D) (kd:String):Prop where
 zk:∃ src,zkD x=some src/\(∀ i,src.get O i=xs[i]?)/\src.size O=xs.length
 ln:z3W O [x]=.ok (.int xs.length) O
 kind:z2M x=kd
theorem zeq (O:Ow) (xs:List D):Sq O (.tup xs) xs "tuple":=⟨⟨_,rfl,fun _=>rfl,rfl⟩,rfl,rfl⟩
theorem zdM {k:Nat} {O:Ow} {x y:D} {xs ys:List D} {kd:String} (hx:Sq O x xs kd) (hy:Sq O y ys kd) (hkd:kd = "list" \/ kd = "tuple") (hl:xs.length=ys.length) (h5:ys.length < 10000) (hs:∀ (i:Nat) (x y:D),xs[i]?=some x->ys[i]?=some y->z2f k [x,y] O=.ok (.bl true) O):z2f (k + 1) [x,y] O=.ok (.bl true) O:=by
 obtain ⟨src,s1,s2,s3⟩:=hx.zk
 obtain ⟨srcy,y1,y2,y3⟩:=hy.zk
 have hk:=hx.kind
 have hky:=hy.kind
 have hi:z8b (z1m (z1n 0) (z1m (z1n 1) z1s)) [some x,some y] O=.ok (.zip src srcy) O:=by
  show (match zkD x,zkD y with|some p,some q=>R.ok (Src.zip p q) O|_,_=>R.bad)=_
  rw [s1,y1]
 have hgz:∀ i,(Src.zip src srcy).get O i=((xs.zip ys).map fun q=>D.tup [q.1,q.2])[i]?:=by
  intro i
  show (match src.get O i,srcy.get O i with|some x,some y=>some (D.tup [x,y])|_,_=>none)=_
  rw [s2,y2,List.getElem?_map]
  cases e1:xs[i]? with
  | none=>
   have:(xs.zip ys)[i]?=none:=by
    rw [List.getElem?_eq_none_iff] at e1 ⊢
    rw [List.length_zip];omega
   rw [this];rfl
  | some a=>
   have hi:=(List.getElem?_eq_some_iff.mp e1).1
   have e2:ys[i]?=some ys[i]:=List.getElem?_eq_getElem (by omega)
   have:(xs.zip ys)[i]?=some (a,ys[i]):=List.getElem?_zip_eq_some.mpr ⟨e1,e2⟩
   rw [this,e2];rfl
 have hzz:(Src.zip src srcy).size O=((xs.zip ys).map fun q=>D.tup [q.1,q.2]).length:=by
  show min (src.size O) (srcy.size O)=_
  rw [s3,y3,List.length_map,List.length_zip]
 have hc:=zb4 (ext:=2) (g:=.two 2 3) (ts:=[]) (te:=dFn 2 (z2f k) (z1m (z1n 2) (z1m (z1n 3) z1s))) (p:=fun _=>true) (e:=fun _=>.bl true) (τ:=fun d=>match d with|.tup [a,b]=>[some x,some y,some a,some b]|_=>[]) hi hgz hzz (by rw [List.length_map,List.length_zip];omega)
  (fun d hd=>by obtain ⟨q,_,rfl⟩:=List.mem_map.mp hd;rfl) (fun d hd=>rfl) (fun d hd _=>by
   obtain ⟨q,hq,rfl⟩:=List.mem_map.mp hd
   obtain ⟨i,hi,e⟩:=List.mem_iff_getElem.mp hq
   have e:(xs.zip ys)[i]?=some (q.1,q.2):=by rw [List.getElem?_eq_getElem hi,e]
   obtain ⟨e1,e2⟩:=List.getElem?_zip_eq_some.mp e
   exact (z7k (z1F rfl rfl) rfl).trans (hs i q.1 q.2 e1 e2)) false
 have e2:((((xs.zip ys).map fun q=>D.tup [q.1,q.2]).filter fun _=>true).map fun _=>D.bl true)=((xs.zip ys).map fun _=>true).map D.bl:=by rw [z5P,List.map_map,List.map_map];rfl
 rw [e2] at hc
 have c1:z3d (za6 "tuple" "list" (z1n 1)) [some x,some y] O=.ok true O:=by
  show z3d (fun _ O=>if (z2M y == "function")=true then .bad else R.ok (D.bl (z7d (z2M y) "tuple" || z7d (z2M y) "list")) O) [some x,some y] O=_
  rw [hky]
  rcases hkd with rfl|rfl <;> rfl
 have isT:∀ z:D,z2M z=kd->∀ i,([some x,some y]:Sg)[i]?=some (some z)->z3k "tuple" (z1n i) [some x,some y] O=.ok (.bl (z7d kd "tuple")) O:=fun z hz i hi=>by
  show (((match ([some x,some y]:Sg)[i]? with|some (some d)=>R.ok d O|_=>R.bad):R D).bnd _)=_
  rw [hi]
  show (if (z2M z == "function")=true then R.bad else R.ok (D.bl (z7d (z2M z) "tuple")) O)=_
  rw [hz]
  rcases hkd with rfl|rfl <;> rfl
 have isL:∀ z:D,z2M z=kd->∀ i,([some x,some y]:Sg)[i]?=some (some z)->z3k "list" (z1n i) [some x,some y] O=.ok (.bl (z7d kd "list")) O:=fun z hz i hi=>by
  show (((match ([some x,some y]:Sg)[i]? with|some (some d)=>R.ok d O|_=>R.bad):R D).bnd _)=_
  rw [hi]
  show (if (z2M z == "function")=true then R.bad else R.ok (D.bl (z7d (z2M z) "list")) O)=_
  rw [hz]
  rcases hkd with rfl|rfl <;> rfl
 have nb:∀ b:Bool,fPy neF O (.bl b) (.bl b)=.ok (.bl false) O:=fun b=>by cases b <;> kernel_rfl
 have c2:za8 (z2w (dOp (fPy neF) (z3k "tuple" (z1n 0)) (z3k "tuple" (z1n 1)))) (z2w (dOp (fPy neF) (z3k "list" (z1n 0)) (z3k "list" (z1n 1)))) [some x,some y] O=.ok false O:=by
  have a1:z2w (dOp (fPy neF) (z3k "tuple" (z1n 0)) (z3k "tuple" (z1n 1))) [some x,some y] O=.ok false O:=z3b ((z1K (isT x hk 0 rfl) (isT y hky 1 rfl)).trans (nb _))
  have a2:z2w (dOp (fPy neF) (z3k "list" (z1n 0)) (z3k "list" (z1n 1))) [some x,some y] O=.ok false O:=z3b ((z1K (isL x hk 0 rfl) (isL y hky 1 rfl)).trans (nb _))
  show ((z2w (dOp (fPy neF) (z3k "tuple" (z1n 0)) (z3k "tuple" (z1n 1))) [some x,some y] O).bnd _)=_
  rw [a1]
  exact a2
 have c3:z2w (dOp (fPy neF) (z1B z3W (z1m (z1n 0) z1s)) (z1B z3W (z1m (z1n 1) z1s))) [some x,some y] O=.ok false O:=by
  refine z3b ((z1K ((z2k (z1C rfl)).trans hx.ln) ((z2k (z1C rfl)).trans hy.ln)).trans ?_)
  rw [hl]
  show R.ok (D.bl (!((ys.length:Int) == (ys.length:Int)))) O=_
  simp
 show fin (z1P _ _ [some x,some y] O)=_
 have e4:∀ (a:DS),z1P (sIf (z3d (za6 "tuple" "list" (z1n 1))) a z2T) (z22 (zas (dOp (fPy eqF) (z1n 0) (z1n 1)) (dOp (fPy eqF) (z3k "bool" (z1n 0)) (z3k "bool" (z1n 1))))) [some x,some y] O=match a [some x,some y] O with|.nx σ' O'=>z22 (zas (dOp (fPy eqF) (z1n 0) (z1n 1)) (dOp (fPy eqF) (z3k "bool" (z1n 0)) (z3k "bool" (z1n 1)))) σ' O'|r=>r:=fun a=>by
  show (match sIf (z3d (za6 "tuple" "list" (z1n 1))) a z2T [some x,some y] O with|.nx σ' O'=>_|r=>r)=_
  rw [z2D c1,if_pos rfl]
 rw [e4,z1N (σ':=[some x,some y]) (O1:=O) (by rw [z2D c2];rfl),z1N (σ':=[some x,some y]) (O1:=O) (by rw [z2D c3];rfl),z2e ((z2k (z1C hc)).trans (z9a O _))]
 show R.ok (D.bl _) O=_
 congr 2
 rw [List.all_map]
 exact List.all_eq_true.mpr fun _ _=>rfl
theorem zgR {α:Type} {it:DI} {g:Tg} {body:DS} {σ:Sg} {O0 O:Ow} {src:Src} {l:List α} {inj:α->D} (hi:it σ O0=.ok src O) (hsz:src.size O=l.length) (I:Nat->Sg->Ow->Prop)
  (h:∀ (k:Nat) a σ O,l[k]?=some a->I k σ O->src.get O k=some (inj a)/\∃ σ1 σ' O',g.put (inj a) σ=some σ1/\body σ1 O=.nx σ' O'/\I (k + 1) σ' O') (hend:∀ σ O,I l.length σ O->src.get O l.length=none) (h0:I 0 σ O):
  ∃ σ' O',z8s it g body σ O0=.nx σ' O'/\I l.length σ' O':=by
 have main:∀ (f i:Nat) (σ:Sg) (O:Ow),I i σ O->l.length <= i + f->i <= l.length->∃ σ' O',z3I src (fun d σ O=>match g.put d σ with|some σ'=>body σ' O|none=>.bad) f i σ O=.nx σ' O'/\I l.length σ' O':=by
  intro f
  induction f with
  | zero=>
   intro i σ O hI h1 h2
   have:i=l.length:=by omega
   subst this
   unfold z3I
   rw [hend σ O hI]
   exact ⟨σ,O,rfl,hI⟩
  | succ f ih=>
   intro i σ O hI h1 h2
   by_cases hil:i=l.length
   ·subst hil
    unfold z3I
    rw [hend σ O hI]
    exact ⟨σ,O,rfl,hI⟩
   ·have hlt:i < l.length:=by omega
    obtain ⟨e1,σ1,σ',O',e2,e3,e4⟩:=h i l[i] σ O (List.getElem?_eq_getElem hlt) hI
    unfold z3I
    rw [e1]
    dsimp only
    rw [e2]
    dsimp only
    rw [e3]
    exact ih (i + 1) σ' O' e4 (by omega) (by omega)
 obtain ⟨σ',O',l1,l2⟩:=main (src.size O) 0 σ O h0 (by omega) (Nat.zero_le _)
 exact ⟨σ',O',(zc4 hi).trans l1,l2⟩
theorem zd5 {σ:Sg} {O O1:Ow} {i k:Nat} {t:DE} {y:D} {ds es:List D} (hi:σ[i]?=some (some (.own k))) (ht:t σ O=.ok y O1) (hy:lsV O1 y=some es) (hk:O1[k]?=some ds) (hl:ds.length + es.length <= 100000):
  z4b (zfj (z1n i) (z1m t z1s)) σ O=.nx σ (O1.set k (ds ++ es)):=by
 refine z5n (x:=.non) ?_
 unfold zfj z1n
 rw [hi]
 show ((z1m t z1s σ O).bnd _)=_
 rw [z1C ht]
 show (match [y],O1[k]? with|[y],some ds=>(match lsV O1 y with|some es=>if ds.length + es.length <= 100000 then R.ok D.non (O1.set k (ds ++ es)) else R.bad|none=>R.bad)|_,_=>R.bad)=_
 rw [hk]
 dsimp only
 rw [hy]
 dsimp only
 rw [if_pos hl]
theorem zds {O:Ow} {x y:List D}:(O ++ [x]).set O.length y=O ++ [y]:=by
 rw [List.set_append_right _ _ (Nat.le_refl _),Nat.sub_self];rfl
theorem z9c {O:Ow} {x:List D}:(O ++ [x])[O.length]?=some x:=by simp
theorem zhz {σ:Sg} {O O1:Ow} {t:DE} {x:D} {src:Src} (h:t σ O=.ok x O1) (hs:zdS x=some src):dIt t σ O=.ok src O1:=by
 unfold dIt
 rw [h]
 cases x with
 | lst ds=>cases hs;rfl
 | own k=>cases hs;rfl
 | _=>cases hs
theorem z6D {O X:Ow} {x:D} {xs:List D} (h:lsV O x=some xs):lsV (O ++ X) x=some xs:=by
 cases x with
 | lst ds=>exact h
 | own k=>
  have h:O[k]?=some xs:=h
  show (O ++ X)[k]?=some xs
  rw [List.getElem?_append_left (List.getElem?_eq_some_iff.mp h).1];exact h
 | _=>cases h
theorem zdw {O X:Ow} (h:z90 O) (hX:∀ c ∈ X,∀ d ∈ c,z8u (O.length + X.length) d=true):z90 (O ++ X):=by
 intro c hc d hd
 rw [List.length_append]
 rcases List.mem_append.mp hc with hc|hc
 ·have:=h c hc d hd
  cases d with
  | own k=>simp only [z8u,decide_eq_true_eq] at this ⊢;omega
  | _=>exact this
 ·exact hX c hc d hd
theorem zde {O:Ow} (h:z90 O) {c:List D} (hc:∀ d ∈ c,z8u (O.length + 1) d=true):z90 (O ++ [c]):=zdw h fun x hx d hd=>by
 have:x=c:=by simpa using hx
 subst this;exact hc d hd
theorem StAt.flat {O:Ow} {s:Int} {b:Bool} (h:z90 O):z90 (O ++ [[.int s,.bl b]]):=zde h fun d hd=>by
 simp only [List.mem_cons,List.not_mem_nil,or_false] at hd
 rcases hd with rfl|rfl <;> rfl
def z76 (t:List Nat):List (List Nat):=[t ++ [45],t ++ [48],t ++ [49]]
theorem z8h {n:Nat} (h4:n <= 4) {O:Ow} (hO:z90 O):z38 [.int n] O=.ok (.lst ((terms n).map .str)) O:=by
 have few:∀ i,i <= 4->(terms i).length <= 81:=fun i hi=>by
  have:i=0 \/ i=1 \/ i=2 \/ i=3 \/ i=4:=by omega
  rcases this with rfl|rfl|rfl|rfl|rfl <;> decide
 have lens:∀ i,i <= 4->∀ t ∈ terms i,t.length <= 4:=fun i hi t ht=>by
  have:i=0 \/ i=1 \/ i=2 \/ i=3 \/ i=4:=by omega
  rcases this with rfl|rfl|rfl|rfl|rfl
  ·simp [terms] at ht;simp [ht]
  ·rw [z2t (by decide) (by decide) ht];decide
  ·rw [z2t (by decide) (by decide) ht];decide
  ·rw [z2t (by decide) (by decide) ht];decide
  ·rw [z2t (by decide) (by decide) ht];decide
 let N:Option D:=some (.int n)
 let In:Ow->D->List D->Prop:=fun X d xs=>d=.lst xs \/ ∃ k,d=.own (O.length + k)/\X[k]?=some xs
 have InV:∀ {X d xs},In X d xs->lsV (O ++ X) d=some xs:=fun {X d xs} h=>by
  rcases h with rfl|⟨k,rfl,h⟩
  ·rfl
  ·show (O ++ X)[O.length + k]?=_
   rw [List.getElem?_append_right (by omega),Nat.add_sub_cancel_left];exact h
 show zh5 O.length (fin (z3S [N,none,none,none,none] O))=_
 unfold z3S
 rw [z1N (σ':=[N,some (.lst [.str []]),none,none,none]) (O1:=O) (by rfl)]
 obtain ⟨σ',O',l1,d,y2,y3,y4,X,rfl,rfl,hd⟩:=zcy (i:=2) (O:=O) (l:=List.range n) (body:=(z1P (z2U 3 (z5B z1s)) (z1P (z8s (dIt (z1n 1)) (.one 4) (z4b (zfj (z1n 3) (z1m (z3F (z1m (dOp z3Z (z1n 4) (dC (.str [45]))) (z1m (dOp z3Z (z1n 4) (dC (.str [48]))) (z1m (dOp z3Z (z1n 4) (dC (.str [49]))) z1s)))) z1s)))) (z2U 1 (z1n 3)))))
  (z3U (σ:=[N,some (.lst [.str []]),none,none,none]) (O:=O) (z1C (t:=z1n 0) rfl) (by omega)) (fun i σ O'=>∃ d y2 y3 y4 X,σ=[N,some d,y2,y3,y4]/\O'=O ++ X/\In X d ((terms i).map .str)) (fun i a σ O' ha hI=>by
   obtain ⟨d,y2,y3,y4,X,rfl,rfl,hd⟩:=hI
   have hin:i < n:=by
    have:=(List.getElem?_eq_some_iff.mp ha).1
    simpa using this
   have hi4:i <= 4:=by omega
   show ∃ σ' O',z1P _ _ [N,some d,some (.int a),y3,y4] (O ++ X)=_/\_
   rw [z1N (σ':=[N,some d,some (.int a),some (.own (O ++ X).length),y4]) (O1:=O ++ X ++ [[]]) (by rfl)]
   obtain ⟨src,s1,s2,s3⟩:=z5O (z6D (X:=[[]]) (InV hd))
   obtain ⟨σ',O',l1,y4',rfl,rfl⟩:=zgR (α:=List Nat) (g:=.one 4) (l:=terms i) (inj:=.str) (body:=(z4b (zfj (z1n 3) (z1m (z3F (z1m (dOp z3Z (z1n 4) (dC (.str [45]))) (z1m (dOp z3Z (z1n 4) (dC (.str [48]))) (z1m (dOp z3Z (z1n 4) (dC (.str [49]))) z1s)))) z1s))))
    (zhz (σ:=[N,some d,some (.int a),some (.own (O ++ X).length),y4]) (O:=O ++ X ++ [[]]) (t:=z1n 1) rfl s1) (by rw [s3];simp)
    (fun j σ O'=>∃ y4,σ=[N,some d,some (.int a),some (.own (O ++ X).length),y4]/\O'=O ++ X ++ [(((terms i).take j).flatMap z76).map .str]) (fun j t σ O' ht hI=>by
     obtain ⟨y4,rfl,rfl⟩:=hI
     have hj:=(List.getElem?_eq_some_iff.mp ht).1
     obtain ⟨src',s1',s2',s3'⟩:=z5O (z6D (X:=[(((terms i).take j).flatMap z76).map .str]) (InV hd))
     rw [s1] at s1';cases s1'
     refine ⟨by rw [s2',List.getElem?_map,ht];rfl,[N,some d,some (.int a),some (.own (O ++ X).length),some (.str t)],_,_,rfl,zd5 (y:=.lst ((z76 t).map .str)) (ds:=(((terms i).take j).flatMap z76).map .str) (es:=(z76 t).map .str) rfl ?_ rfl z9c ?_,_,rfl,?_⟩
     ·have hl:=lens i hi4 t (List.mem_of_getElem? ht)
      have fa:∀ c OO,z3Z OO (.str t) (.str [c])=.ok (.str (t ++ [c])) OO:=fun c OO=>by
       match t,hl with
       | [],_=>rfl
       | [_],_=>rfl
       | [_,_],_=>rfl
       | [_,_,_],_=>rfl
       | [_,_,_,_],_=>rfl
      simp only [z1P,z2U,sIf,z22,z4b,z2T,z1n,dC,z1m,z1s,dFn,z1B,dOp,z2w,z3d,z2Q,zk2,R.bnd,R.bnS,fin,List.getElem?_cons_zero,List.getElem?_cons_succ,List.set_cons_zero,List.set_cons_succ,List.length_cons,List.length_nil,Nat.zero_add,Nat.reduceAdd,Nat.reduceLeDiff,Nat.reduceLT,if_true,if_false,Bool.not_true,Bool.not_false,Bool.false_eq_true,ite_true,ite_false,z3F,fa,z76,List.map_cons,List.map_nil]
     ·have h1:=few i hi4
      have h2:∀ l:List (List Nat),(l.flatMap z76).length=3 * l.length:=fun l=>by
       induction l with
       | nil=>rfl
       | cons x l ih=>rw [List.flatMap_cons,List.length_append,ih,List.length_cons];show 3 + _=_;omega
      rw [List.length_map,h2,List.length_map]
      have h3:=List.length_take_le j (terms i)
      show 3 * ((terms i).take j).length + 3 <= _
      omega
     ·rw [zds,<- List.map_append]
      have:(terms i).take (j + 1)=(terms i).take j ++ [t]:=by
       rw [List.take_succ,ht];rfl
      rw [this,List.flatMap_append]
      simp) (fun σ O' hI=>by
     obtain ⟨y4,rfl,rfl⟩:=hI
     obtain ⟨src',s1',s2',s3'⟩:=z5O (z6D (X:=[(((terms i).take (terms i).length).flatMap z76).map .str]) (InV hd))
     rw [s1] at s1';cases s1'
     rw [s2'];simp) ⟨y4,rfl,by simp⟩
   rw [z1N l1]
   refine ⟨_,_,rfl,.own (O ++ X).length,_,_,_,X ++ [(((terms i).take (terms i).length).flatMap z76).map .str],rfl,by simp,.inr ⟨X.length,by simp,?_⟩⟩
   rw [z9c,List.take_length];rfl) ⟨_,_,_,_,[],rfl,by simp,.inl rfl⟩
 rw [z1N l1,z2e (x:=d) rfl]
 rw [List.length_range] at hd
 show zh5 O.length (.ok d (O ++ X))=_
 refine zbf hO X ?_
 rcases hd with rfl|⟨k,rfl,h⟩
 ·show (z2l (frz (O ++ X) O.length 7) ((terms n).map D.str)).map D.lst=_
  rw [z5t fun d hd=>by obtain ⟨q,_,rfl⟩:=List.mem_map.mp hd;exact z6O rfl];rfl
 ·unfold frz
  dsimp only
  rw [if_neg (by omega),List.getElem?_append_right (by omega),Nat.add_sub_cancel_left,h]
  dsimp only
  rw [z5t fun d hd=>by obtain ⟨q,_,rfl⟩:=List.mem_map.mp hd;exact z6O rfl];rfl
theorem z6N (O:Ow):(allP.map fun q=>z2b [.str q.1,.int (q.2:Nat)] O)=allP.map fun q=>R.ok (.bl ((pts q.1).contains q.2)) O:=by kernel_rfl
theorem z7L {cs:List Nat} {p:Nat} (h:cs ∈ allT) (hp:p < 2 ^ cs.length) (O:Ow):z2b [.str cs,.int (p:Nat)] O=.ok (.bl ((pts cs).contains p)) O:=List.map_inj_left.mp (z6N O) _ (zdB h hp)
theorem z6V:(allT.all fun cs=>cs.all sgn)=true:=by decide +kernel
theorem z5W {n:Nat} (h1:1 <= n) (h4:n <= 4) {cs:List Nat} (h:cs ∈ terms n):∀ c ∈ cs,sgn c=true:=List.all_eq_true.mp (List.all_eq_true.mp z6V cs (z4k h1 h4 h))
theorem zcr:(allT.all fun cs=>cs.all fun c=>decide (c < 1114112))=true:=by decide +kernel
theorem zfu {n k:Nat} (h1:1 <= n) (h4:n <= 4) {cs:List Nat} (h:cs ∈ terms n):pl k (.str cs)=true:=by
 have:=List.all_eq_true.mp zcr cs (z4k h1 h4 h)
 cases k <;> exact this
theorem z6R {n k:Nat} (h1:1 <= n) (h4:n <= 4) {l:List (List Nat)} (h:∀ cs ∈ l,cs ∈ terms n):(l.map D.str).all (pl k)=true:=List.all_eq_true.mpr fun d hd=>by
 obtain ⟨cs,hc,rfl⟩:=List.mem_map.mp hd
 exact zfu h1 h4 (h cs hc)
theorem zaw (O:Ow) (q:Bool):z5v O [.bl q]=.ok (.int (if q=true then 1 else 0)) O:=by cases q <;> rfl
theorem zbQ {ext:Nat} {it0:DI} {i:Nat} {te:DE} {σ:Sg} {O O0:Ow} {ds:List D} {m:Nat} {s:Int} {b:Bool} {P:D->Prop} {o:Bool} (hst:StAt O m s b) (hi:it0 σ O0=.ok (.val ds) O) (hl:ds.length < 50000)
  (he:∀ d ∈ ds,∀ s',StAt (O.set m [.int s',.bl b]) m s' b->∃ v s'',te ((clr (clr (σ ++ List.replicate ext none) [i]) [i]).set i (some d)) (O.set m [.int s',.bl b])=.ok v (O.set m [.int s'',.bl b])/\StAt (O.set m [.int s'',.bl b]) m s'' b/\P v):
  ∃ vs s',z1R o ext it0 (.one i) [] [] te σ O0=z8l o (.ok vs (O.set m [.int s',.bl b]))/\StAt (O.set m [.int s',.bl b]) m s' b/\vs.length=ds.length/\∀ v ∈ vs,P v:=by
 obtain ⟨acc,O',e,s',rfl,h1,h2,h3⟩:=z85 (ds:=ds) (step:=z4c ⟨it0,.one i,[]⟩ [] te (clr (σ ++ List.replicate ext none) (z1t [⟨it0,.one i,[]⟩])))
  (fun j O' acc=>∃ s',O'=O.set m [.int s',.bl b]/\StAt O' m s' b/\acc.length=j/\∀ v ∈ acc,P v) (fun j O' acc d hI hd=>by
   obtain ⟨s',rfl,h1,h2,h3⟩:=hI
   have hj:=(List.getElem?_eq_some_iff.mp hd).1
   obtain ⟨v,s'',q1,q2,q3⟩:=he d (List.mem_of_getElem? hd) s' h1
   refine ⟨acc ++ [v],_,?_,s'',rfl,q2,by simp [h2],fun w hw=>?_⟩
   ·show z3E [] te ((clr (clr (σ ++ List.replicate ext none) [i]) [i]).set i (some d)) (O.set m [.int s',.bl b]) acc=_
    unfold z3E
    rw [q1]
    show (if acc.length < 100000 then _ else _)=_
    rw [if_pos (by omega)]
   ·rcases List.mem_append.mp hw with hw|hw
    ·exact h3 w hw
    ·have:w=v:=by simpa using hw
     rw [this];exact q3) ds.length 0 O [] ⟨s,(zdp hst.at_).symm,hst,rfl,by simp⟩ (by omega) (Nat.zero_le _)
 refine ⟨acc,s',?_,h1,h2,h3⟩
 unfold z1R z3r
 rw [hi]
 show z8l o (noX (z1M (.val ds) _ ds.length 0 O []))=_
 rw [e];rfl
theorem zcO {ns:List Int} (hn:ns.length <= 63) (σ:Sg) (c:Nat) (hc:c < 1000) (h0:z1n 0 σ []=.ok (.lst (ns.map .int)) []):∃ m:Nat,m < 100000/\z1B za5 (z1m (dC (.int 1)) (z1m (z1B zan (z1m (z1B z3W (z1m (z1n 0) z1s)) (z1m (dC (.int (c:Nat))) z1s))) z1s)) σ []=.ok (.int (m:Nat)) []:=by
 have h1:z1B zan (z1m (z1B z3W (z1m (z1n 0) z1s)) (z1m (dC (.int (c:Nat))) z1s)) σ []=.ok (.int (if (c:Int) < ((ns.map D.int).length:Nat) then (c:Int) else ((ns.map D.int).length:Nat))) []:=(z2k (z1F ((z2k (z1C h0)).trans rfl) rfl)).trans rfl
 have h2:=(z2k (f:=za5) (z1F (t:=dC (.int 1)) rfl h1))
 refine ⟨(if (if (c:Int) < ((ns.map D.int).length:Nat) then (c:Int) else ((ns.map D.int).length:Nat)) > 1 then (if (c:Int) < ((ns.map D.int).length:Nat) then (c:Int) else ((ns.map D.int).length:Nat)) else 1).toNat,?_,h2.trans ?_⟩
 ·rw [List.length_map];split <;> split <;> omega
 ·show R.ok (D.int (if (if (c:Int) < ((ns.map D.int).length:Nat) then (c:Int) else ((ns.map D.int).length:Nat)) > 1 then (if (c:Int) < ((ns.map D.int).length:Nat) then (c:Int) else ((ns.map D.int).length:Nat)) else 1)) []=_
  congr 2
  rw [List.length_map];split <;> split <;> omega
theorem z71 {α:Type} {n i:Nat} (f:Nat->α):((List.range n).map f)[i]?=if i < n then some (f i) else none:=by
 rw [List.getElem?_map]
 by_cases h:i < n
 ·rw [List.getElem?_range h,if_pos h];rfl
 ·rw [List.getElem?_eq_none_iff.mpr (by simpa using h),if_neg h];rfl
theorem zcg {α β:Type} (l:List α) (e:α->β):(l.filter fun _=>true).map e=l.map e:=by rw [List.filter_eq_self.mpr (fun _ _=>rfl)]
theorem zhm (O:Ow) (ds:List D) (σ:Sg) (hl:ds.length < 100000) (h0:z1n 0 σ O=.ok (.tup ds) O):z7f (z1n 0) (z2X (dC (.int 1))) z33 σ O=.ok (.tup (ds.drop 1)) O:=by
 show ((z1n 0 σ O).bnd _)=_
 rw [h0]
 show (if HT.sIx ds.length 0 (some 1)=0/\HT.sIx ds.length ds.length none=ds.length then R.ok (D.tup ds) O else R.ok (D.tup (z9t ds (some 1) none)) O)=_
 have e1:HT.sIx ds.length 0 (some 1)=min 1 ds.length:=HT.sIx_nat ds.length 0 1
 cases ds with
 | nil=>rfl
 | cons d r=>
  have:¬ (HT.sIx (d :: r).length 0 (some 1)=0/\HT.sIx (d :: r).length (d :: r).length none=(d :: r).length):=by
   rw [e1];simp
  rw [if_neg this]
  unfold z9t
  rw [e1,HT.sIx_none]
  simp
theorem zgC (O:Ow) {n:Nat} (h1:1 <= n) (h4:n <= 4) {l:List (List Nat)} (h:∀ cs ∈ l,cs ∈ terms n):fPy neF O (.lst (l.map D.str)) (.lst [])=.ok (.bl (!l.isEmpty)) O:=
 (zbB O (b:=l.isEmpty) (z6R h1 h4 h) (y:=[]) rfl (by cases l <;> simp)).2
theorem z50 {α:Type} {l:List α} {p:α->Bool}:(l.filter p).isEmpty=l.all fun x=>!p x:=by
 rw [Bool.eq_iff_iff,List.isEmpty_iff,List.filter_eq_nil_iff,List.all_eq_true]
 exact forall_congr' fun a=>forall_congr' fun _=>by simp
theorem zaK {l:List (List Nat)} (h:l.Pairwise (· < ·)):z3X l=l:=z6F (z4G l) h fun x=>z3o l
theorem z8I {σ:Sg} {O O1:Ow} {t:DA} {x:D} {l:List (List Nat)} (h:t σ O=.ok [x] O1) (hx:lsV O1 x=some (l.map .str) \/ x=.tup (l.map .str)) (hl:l.length < 64):z86 false t σ O=.ok (.lst ((z3X l).map .str)) O1:=by
 unfold z86
 rw [h]
 show (match (match lsV O1 x with|some ds=>some ds|none=>tpV x) with|some ds=>zk6 false (.ok ds O1)|none=>.bad)=_
 have e:(match lsV O1 x with|some ds=>some ds|none=>tpV x)=some (l.map .str):=by
  rcases hx with hx|rfl
  ·rw [hx]
  ·rfl
 rw [e]
 show (match zaR (l.map D.str) with|some ss=>if ss.length < 64 then (if false=true then R.ok (D.own _) _ else R.ok (D.lst ((z3X ss).map .str)) O1) else .bad|none=>.bad)=_
 rw [DL.strL_map]
 show (if l.length < 64 then _ else _)=_
 rw [if_pos hl];rfl
theorem z9n (x:List Nat):∀ l:List (List Nat),(z97 x l).length <= l.length + 1
 | []=>by simp [z97]
 | y :: r=>by
  unfold z97
  split
  ·simp
  ·split
   ·simp
   ·have:=z9n x r;simp;omega
theorem z9M (ss:List (List Nat)):(z3X ss).length <= ss.length:=by
 have:∀ (l acc:List (List Nat)),(l.foldl (fun l x=>z97 x l) acc).length <= acc.length + l.length:=fun l=>by
  induction l with
  | nil=>intro acc;simp
  | cons a l ih=>
   intro acc
   rw [List.foldl_cons]
   have h1:=ih (z97 a acc)
   have h2:=z9n a acc
   rw [List.length_cons];omega
 have h:=this ss []
 simpa [z3X] using h
theorem zbS {Pr:List Nat->Prop}:∀ (vs:List D),(∀ v ∈ vs,∃ cs,v=D.str cs/\Pr cs)->∃ ss:List (List Nat),vs=ss.map D.str/\∀ s ∈ ss,Pr s
 | [],_=>⟨[],rfl,by simp⟩
 | v :: vs,h=>by
  obtain ⟨c,rfl,hc⟩:=h v List.mem_cons_self
  obtain ⟨cs,rfl,hcs⟩:=zbS vs fun w hw=>h w (List.mem_cons_of_mem _ hw)
  exact ⟨c :: cs,rfl,fun x hx=>(List.mem_cons.mp hx).elim (fun e=>by rw [e];exact hc) (hcs x)⟩
theorem z4q {n:Nat} (h1:1 <= n) (h4:n <= 4) {O:Ow} (hO:z90 O) {m:Nat} {s:Int} {b:Bool} (hs:StAt O m s b) {q:Nat} (hq:q <= 50):
  ∃ (l:List (List Nat)) (s':Int),z1J [.own m,.int n,.int (q:Nat)] O=.ok (.tup (l.map .str)) (O.set m [.int s',.bl b])/\StAt (O.set m [.int s',.bl b]) m s' b/\l.Pairwise (· < ·)/\(∀ t ∈ l,t ∈ terms n)/\l.length <= 50:=by
 have hfew:=zbp h1 h4
 obtain ⟨r,s1,r1,r2,r3⟩:=z3T hs (k:=q + 1) (by omega) (by omega)
 let S:Option D:=some (.lst ((terms n).map .str))
 have hi:z41 (z1m (dFn 2 z1E (z1m (z1n 0) (z1m (dOp z3Z (z1n 2) (dC (.int 1))) z1s))) z1s) [some (.own m),some (.int n),some (.int (q:Nat)),S,none] O=.ok (.val ((List.range r).map fun (i:Nat)=>D.int (i:Int))) (O.set m [.int s1,.bl b]):=
  z3U (z1C (z1S (z1F rfl (z2L rfl rfl fAdd_int)) r2)) (by omega)
 obtain ⟨vs,s2,c1,c2,c3,c4⟩:=zbQ (o:=false) (ext:=1) (i:=5) (te:=dOp fIx (z1n 3) (dFn 2 z1E (z1m (z1n 0) (z1m (z1B z3W (z1m (z1n 3) z1s)) z1s)))) (P:=fun v=>∃ cs,v=D.str cs/\cs ∈ terms n) r3 hi (by simp;omega) (fun d hd s' hs'=>by
  rw [List.set_set] at hs'
  have hpos:1 <= (terms n).length:=by rcases zfT h1 h4 with rfl|rfl|rfl|rfl <;> decide
  obtain ⟨j,s'',j1,j2,j3⟩:=z3T hs' (k:=(terms n).length) hpos (by omega)
  rw [List.set_set] at j2 j3
  refine ⟨.str (terms n)[j],s'',?_,?_,(terms n)[j],rfl,List.getElem_mem _⟩
  ·rw [List.set_set,List.set_set]
   refine z2L (x:=.lst ((terms n).map .str)) rfl (z1S (z1F rfl (z2n (z1C rfl) ((zgt (x:=.lst ((terms n).map .str)) rfl).trans (by rw [List.length_map])))) j2) ?_
   rw [z4K (by rw [List.length_map];exact j1),List.getElem_map]
  ·rw [List.set_set];exact j3)
 rw [List.set_set] at c1 c2
 obtain ⟨ss,rfl,hss⟩:=zbS vs c4
 have hl:ss.length=r:=by simpa using c3
 have hl2:=z9M ss
 refine ⟨z3X ss,s2,?_,c2,z4G ss,fun t ht=>hss t ((z3o ss).mp ht),by omega⟩
 show fin (z2G [some (.own m),some (.int n),some (.int (q:Nat)),none,none] O)=_
 unfold z2G
 exact z3q (z3x (x:=.lst ((terms n).map .str)) (O1:=O) (z1S (z1C rfl) (z8h h4 hO)) (z3x (x:=.lst (ss.map .str)) (O1:=O.set m [.int s2,.bl b]) c1 (z2e (z2n (z1C (z8I (l:=ss) (z1C rfl) (.inl rfl) (by omega))) rfl))))
def A7:List Nat:=[48,49,45,50]
theorem zd7 (O:Ow):(A7.map fun c=>fIn O (.str [c]) (.str [45,48,49]))=A7.map fun c=>R.ok (.bl (sgn c)) O:=by kernel_rfl
theorem neI (O:Ow) (a b:Int):fPy neF O (.int a) (.int b)=.ok (.bl (a != b)) O:=rfl
theorem eqI (O:Ow) (a b:Int):fPy eqF O (.int a) (.int b)=.ok (.bl (a == b)) O:=rfl
theorem zbz {n:Nat} {cs:List Nat} (hc:∀ c ∈ cs,c ∈ A7) (hl:cs.length <= 10) (O:Ow):z26 [.int (n:Nat),.str cs] O=.ok (.bl (cs.length == n && cs.all sgn)) O:=by
 have hlen:z1B z3W (z1m (z1n 1) z1s) [some (.int (n:Nat)),some (.str cs)] O=.ok (.int (cs.length:Nat)) O:=(z2k (z1C rfl)).trans (z9x (by omega))
 have t1:za8 (z2Q (z3d (z3k "str" (z1n 1)))) (z2w (dOp (fPy neF) (z1B z3W (z1m (z1n 1) z1s)) (z1n 0))) [some (.int (n:Nat)),some (.str cs)] O=.ok (((cs.length:Nat):Int) != (n:Nat)) O:=by
  have:z2w (dOp (fPy neF) (z1B z3W (z1m (z1n 1) z1s)) (z1n 0)) [some (.int (n:Nat)),some (.str cs)] O=.ok (((cs.length:Nat):Int) != (n:Nat)) O:=z3b ((z1K hlen rfl).trans (neI O _ _))
  exact this
 have hb:(((cs.length:Nat):Int) != (n:Nat)) = !(cs.length == n):=by
  rw [Bool.eq_iff_iff];simp;omega
 rw [hb] at t1
 have hcmp:=z7w (o:=false) (ext:=1) (i:=2) (it0:=dIt (z1n 1)) (σ:=[some (.int (n:Nat)),some (.str cs)]) (O0:=O) (O:=O) (l:=cs) (inj:=fun c=>D.str [c]) (te:=dOp fIn (z1n 2) (dC (.str [45,48,49]))) (e:=fun c=>D.bl (sgn c)) (τ:=fun c=>[some (.int (n:Nat)),some (.str cs),some (.str [c])]) rfl (by omega) (fun _=>rfl) (fun c h=>(z1K rfl rfl).trans (List.map_inj_left.mp (zd7 O) c (hc c h)))
 show fin (z1P (sIf _ (z22 (dC (.bl false))) z2T) (z22 _) [some (.int (n:Nat)),some (.str cs)] O)=_
 cases hx:(cs.length == n) with
 | false=>
  rw [hx] at t1
  have e1:sIf (za8 (z2Q (z3d (z3k "str" (z1n 1)))) (z2w (dOp (fPy neF) (z1B z3W (z1m (z1n 1) z1s)) (z1n 0)))) (z22 (dC (.bl false))) z2T [some (.int (n:Nat)),some (.str cs)] O=.rt (.bl false) O:=by rw [z2D t1];rfl
  rw [z63 e1];rfl
 | true=>
  rw [hx] at t1
  have e1:sIf (za8 (z2Q (z3d (z3k "str" (z1n 1)))) (z2w (dOp (fPy neF) (z1B z3W (z1m (z1n 1) z1s)) (z1n 0)))) (z22 (dC (.bl false))) z2T [some (.int (n:Nat)),some (.str cs)] O=.nx [some (.int (n:Nat)),some (.str cs)] O:=by rw [z2D t1];rfl
  rw [z1N e1,z2e ((z2k (z1C hcmp)).trans (z4h O _ _))]
  rfl
theorem zaW (O:Ow):(A7.map fun c=>zfd O (.str [c]) (.str [48,49,45]))=A7.map fun c=>R.ok (.bl (!sgn c)) O:=by kernel_rfl
theorem zjI {k c:Nat} (h:c ∈ A7):pl k (.str [c])=true:=by
 have h2:(A7.all fun c=>decide (c < 1114112))=true:=by decide
 have h3:=List.all_eq_true.mp h2 c h
 have:([c].all fun c=>decide (c < 1114112))=true:=by simpa using h3
 cases k <;> exact this
theorem zfb {n:Nat} {cs:List Nat} (hc:∀ c ∈ cs,c ∈ A7) (hl:cs.length <= 10) (O:Ow):z28 [.int (n:Nat),.str cs] O=.ok (.bl (cs.length == n && cs.all sgn)) O:=by
 show fin (z2H [some (.int (n:Nat)),some (.str cs)] O)=_
 unfold z2H
 refine zbv ((z8P (a:=true) (b:=cs.length == n && cs.all sgn) rfl fun _=>z8P (a:=cs.length == n) (z2L (z2n (z1C rfl) (z9x (by omega))) rfl ?_) fun _=>?_).trans rfl)
 ·rw [eqI]
  congr 2
  rw [Bool.eq_iff_iff];simp;omega
 ·refine (z2L ((zfE (l:=cs) (inj:=fun c=>D.str [c]) (p:=fun c=>!sgn c) (e:=fun c=>D.str [c]) (τ:=fun c=>[some (.int (n:Nat)),some (.str cs),some (.str [c])]) rfl (by omega) (fun _=>rfl) (fun c h=>z3b (z2L rfl rfl (List.map_inj_left.mp (zaW O) c (hc c h)))) (fun _ _ _=>rfl)).trans rfl) rfl ((zbB O (b:=(cs.filter fun c=>!sgn c).isEmpty) (List.all_eq_true.mpr fun d hd=>?_) (y:=[]) rfl ?_).1)).trans ?_
  ·obtain ⟨c,h,rfl⟩:=List.mem_map.mp hd
   exact zjI (hc c (List.mem_filter.mp h).1)
  ·cases (cs.filter fun c=>!sgn c) <;> simp
  ·congr 2
   rw [z50]
   simp
def Odd (d:D):Prop:=(∃ w:List Nat,d=.str w/\(∀ c ∈ w,c ∈ A7)/\w.length <= 10) \/ (∃ xs,d=.tup xs) \/ d=.non \/ d=.int 0 \/ d=.bl true
def zbo (n:Nat):D->Bool
 | .str w=>w.length == n && w.all sgn
 | _=>false
theorem z8Q (n:Nat) {d:D} (h:Odd d) (O:Ow):z26 [.int (n:Nat),d] O=.ok (.bl (zbo n d)) O:=by
 rcases h with ⟨w,rfl,hc,hl⟩|⟨xs,rfl⟩|rfl|rfl|rfl
 ·exact zbz hc hl O
 all_goals rfl
theorem zbK {n:Nat} {d:D} (h:Odd d) (O:Ow):z28 [.int (n:Nat),d] O=.ok (.bl (zbo n d)) O:=by
 rcases h with ⟨w,rfl,hc,hl⟩|⟨xs,rfl⟩|rfl|rfl|rfl
 ·exact zfb hc hl O
 all_goals rfl
def zfx (l:List (List Nat)):Bool:=(List.range (l.length - 1)).all fun k=>decide (l.getD k [] < l.getD (k + 1) [])
theorem zcH {l:List (List Nat)} (hl:l.length < 10000) (O:Ow):z3s [.tup (l.map D.str)] O=.ok (.bl (zfx l)) O:=by
 have hi:z8b (z1m (z1n 0) (z1m (z7f (z1n 0) (z2X (dC (.int 1))) z33) z1s)) [some (.tup (l.map D.str))] O=.ok (.zip (.val (l.map D.str)) (.val ((l.map D.str).drop 1))) O:=by
  show ((z1m (z1n 0) (z1m (z7f (z1n 0) (z2X (dC (.int 1))) z33) z1s) _ O).bnd _)=_
  rw [z1F rfl (zhm O (l.map D.str) [some (.tup (l.map D.str))] (by simp;omega) rfl)]
  rfl
 have hc:=z6T (o:=false) (ext:=2) (g:=.two 1 2) (ts:=[]) (te:=dOp ziF (z1n 1) (z1n 2)) (l:=List.range (l.length - 1)) (inj:=fun k=>D.tup [.str (l.getD k []),.str (l.getD (k + 1) [])]) (p:=fun _=>true) (e:=fun k=>D.bl (decide (l.getD k [] < l.getD (k + 1) [])))
  (τ:=fun k=>[some (.tup (l.map D.str)),some (.str (l.getD k [])),some (.str (l.getD (k + 1) []))]) hi (fun i=>by
   rw [z71]
   show (match (l.map D.str)[i]?,((l.map D.str).drop 1)[i]? with|some x,some y=>some (D.tup [x,y])|_,_=>none)=_
   rw [List.getElem?_drop,List.getElem?_map,List.getElem?_map]
   by_cases hi:i < l.length - 1
   ·rw [if_pos hi,List.getElem?_eq_getElem (by omega),show 1 + i=i + 1 from by omega,List.getElem?_eq_getElem (by omega)]
    show some (D.tup [.str l[i],.str l[i + 1]])=_
    rw [List.getD_eq_getElem?_getD,List.getD_eq_getElem?_getD,List.getElem?_eq_getElem (by omega),List.getElem?_eq_getElem (by omega)];rfl
   ·rw [if_neg hi,show l[1 + i]?=none from List.getElem?_eq_none_iff.mpr (by omega)]
    cases l[i]? <;> rfl) (by
   show min (l.map D.str).length ((l.map D.str).drop 1).length=_
   simp) (by rw [List.length_range];omega) (fun k _=>rfl) (fun k _=>rfl) (fun k hk _=>rfl)
 rw [zcg] at hc
 show fin (z22 _ [some (.tup (l.map D.str))] O)=_
 rw [z2e ((z2k (z1C hc)).trans (z4h O _ _))]
 rfl
theorem ris_iff {l:List (List Nat)}:zfx l=true ↔ l.Pairwise (· < ·):=by
 constructor
 ·intro h
  have one:∀ k,k + 1 < l.length->l.getD k [] < l.getD (k + 1) []:=fun k hk=>by
   have:=List.all_eq_true.mp h k (List.mem_range.mpr (by omega))
   simpa using this
  have key:∀ d i,i + d + 1 < l.length->l.getD i [] < l.getD (i + d + 1) []:=by
   intro d
   induction d with
   | zero=>intro i hi;exact one i hi
   | succ d ih=>intro i hi;exact List.lt_trans (ih i (by omega)) (one (i + d + 1) (by omega))
  refine List.pairwise_iff_getElem.mpr fun i j hi hj hij=>?_
  have:=key (j - i - 1) i (by omega)
  rw [show i + (j - i - 1) + 1=j by omega,List.getD_eq_getElem?_getD,List.getD_eq_getElem?_getD,List.getElem?_eq_getElem hi,List.getElem?_eq_getElem hj] at this
  exact this
 ·intro hp
  unfold zfx
  rw [List.all_eq_true]
  intro k hk
  have hk:=List.mem_range.mp hk
  have:=List.pairwise_iff_getElem.mp hp k (k + 1) (by omega) (by omega) (by omega)
  rw [List.getD_eq_getElem?_getD,List.getD_eq_getElem?_getD,List.getElem?_eq_getElem (by omega),List.getElem?_eq_getElem (by omega)]
  exact decide_eq_true this
theorem zfZ {l:List (List Nat)}:zfx l=true ↔ l=z3X l:=by
 rw [ris_iff]
 exact ⟨fun h=>(zaK h).symm,fun h=>by rw [h];exact z4G l⟩
def okT (n:Nat) (ds:List D):Bool:=ds.all (zbo n) && zfx (ds.map z5c)
theorem z7j {n:Nat} {ds:List D} (h:ds.all (zbo n)=true):ds=(ds.map z5c).map D.str/\∀ cs ∈ ds.map z5c,cs ∈ terms n:=by
 have key:∀ d ∈ ds,d=.str (z5c d)/\z5c d ∈ terms n:=fun d hd=>by
  have:=List.all_eq_true.mp h d hd
  cases d with
  | str w=>
   have this:(w.length == n && w.all sgn)=true:=this
   rw [Bool.and_eq_true] at this
   exact ⟨rfl,z62 n w (by simpa using this.1) (List.all_eq_true.mp this.2)⟩
  | _=>cases this
 constructor
 ·rw [List.map_map]
  conv=>lhs;rw [<- List.map_id ds]
  exact List.map_congr_left fun d hd=>(key d hd).1
 ·intro cs hcs
  obtain ⟨d,hd,rfl⟩:=List.mem_map.mp hcs
  exact (key d hd).2
section
variable {n:Nat} (h1:1 <= n) (h4:n <= 4) {ds:List D} (hd:∀ d ∈ ds,Odd d) (hl:ds.length < 64) (O:Ow)
include hd hl
theorem z58:z1H [.int (n:Nat),.tup ds] O=.ok (.bl (okT n ds)) O:=by
 show fin (z2s [some (.int (n:Nat)),some (.tup ds)] O)=_
 unfold z2s
 refine z3q (z6i (O1:=O) (z2B (b:=true) (z2m (b:=true) rfl)) (z2e (z8P (a:=ds.all (zbo n)) (b:=zfx (ds.map z5c)) (z2n (z1C ((z7w (l:=ds) (inj:=fun d=>d) (e:=fun d=>D.bl (zbo n d)) (τ:=fun d=>[some (.int (n:Nat)),some (.tup ds),some d]) (by rw [List.map_id'];exact z5y rfl) (by omega) (fun _=>rfl) (fun d h=>z1S (z1F rfl rfl) (z8Q n (hd d h) O))).trans rfl)) (z4h O ds (zbo n))) fun ha=>z1S (z1C rfl) ?_)))
 have e:=(z7j ha).1
 have r:=zcH (l:=ds.map z5c) (by rw [List.length_map];omega) O
 rw [<- e] at r
 exact r
include h1 h4
theorem zcb:z1V [.int (n:Nat),.tup ds] O=.ok (.bl (okT n ds)) O:=by
 have hc:=z2n (f:=za9) (z1C ((z7w (o:=false) (ext:=1) (i:=2) (σ:=[some (.int (n:Nat)),some (.tup ds)]) (it0:=dIt (z1n 1)) (O0:=O) (O:=O) (te:=dFn 2 z28 (z1m (z1n 0) (z1m (z1n 2) z1s))) (l:=ds) (inj:=fun d=>d) (e:=fun d=>D.bl (zbo n d)) (τ:=fun d=>[some (.int (n:Nat)),some (.tup ds),some d]) (by rw [List.map_id'];exact z5y rfl) (by omega) (fun _=>rfl) (fun d h=>z1S (z1F rfl rfl) (zbK (hd d h) O))).trans rfl)) (z4h O ds (zbo n))
 show fin (z2P [some (.int (n:Nat)),some (.tup ds)] O)=_
 unfold z2P okT
 cases ha:ds.all (zbo n) with
 | false=>
  rw [ha] at hc
  exact z3q (zed (O1:=O) (zc6 (a:=false) (b:=true) (z2B (b:=true) (z2m (b:=true) rfl)) fun _=>z2B (b:=false) (z2m hc)) rfl)
 | true=>
  rw [ha] at hc
  obtain ⟨e,ht⟩:=z7j ha
  refine z3q (z6i (O1:=O) (zc6 (a:=false) (b:=false) (z2B (b:=true) (z2m (b:=true) rfl)) fun _=>z2B (b:=true) (z2m hc)) (z2e (z2L (x:=.lst ds) (z2n (z1C rfl) rfl) (z8I (l:=ds.map z5c) (x:=.tup ds) (z1C rfl) (.inr (congrArg D.tup e)) (by rw [List.length_map];exact hl)) ?_)))
  have q:=(zbB O (b:=zfx (ds.map z5c)) (x:=(ds.map z5c).map .str) (y:=(z3X (ds.map z5c)).map .str) (z6R h1 h4 ht) (z6R h1 h4 fun cs hcs=>ht cs ((z3o _).mp hcs)) (by
   rw [zfZ]
   constructor
   ·intro h;exact congrArg (List.map D.str) h
   ·intro h;exact (List.map_inj_right fun a b h=>by injection h).mp h)).1
  rw [<- e] at q
  exact q
end
theorem z9v {c:Nat} (h:sgn c=true):c ∈ A7:=by
 unfold sgn at h
 simp only [Bool.or_eq_true,beq_iff_eq] at h
 rcases h with (rfl|rfl)|rfl <;> decide
theorem z9B {n:Nat} (h1:1 <= n) (h4:n <= 4) {cs:List Nat} (h:cs ∈ terms n):Odd (.str cs):=.inl ⟨cs,rfl,fun c hc=>z9v (z5W h1 h4 h c hc),by rw [z2t h1 h4 h];omega⟩
theorem z3L {n:Nat} (h1:1 <= n) (h4:n <= 4) {l:List (List Nat)} (h:∀ t ∈ l,t ∈ terms n):∀ d ∈ l.map D.str,Odd d:=fun d hd=>by
 obtain ⟨cs,hcs,rfl⟩:=List.mem_map.mp hd
 exact z9B h1 h4 (h cs hcs)
theorem zcI {n:Nat} (h1:1 <= n) (h4:n <= 4) {cs:List Nat} (h:cs ∈ terms n):zbo n (.str cs)=true:=by
 show (cs.length == n && cs.all sgn)=true
 rw [z2t h1 h4 h,List.all_eq_true.mpr (z5W h1 h4 h)];simp
theorem zgT {n:Nat} (h1:1 <= n) (h4:n <= 4) {l:List (List Nat)} (h:∀ t ∈ l,t ∈ terms n) (hp:l.Pairwise (· < ·)):okT n (l.map D.str)=true:=by
 unfold okT
 have e:(l.map D.str).map z5c=l:=by
  rw [List.map_map]
  exact (List.map_congr_left fun a _=>rfl).trans (List.map_id l)
 rw [e,ris_iff.mpr hp,Bool.and_true,List.all_eq_true]
 intro d hd
 obtain ⟨cs,hcs,rfl⟩:=List.mem_map.mp hd
 exact zcI h1 h4 (h cs hcs)
theorem zgk (O:Ow) (k:Nat) (l:List Nat):fIn O (.int (k:Nat)) (.lst (zb6 l))=.ok (.bl (l.contains k)) O:=
 (zjD O (l:=zb6 l) (b:=l.contains k) rfl (zfe 7 l) (.inl rfl) (by
  rw [List.contains_iff_mem]
  unfold zb6
  rw [List.mem_map]
  constructor
  ·intro h;exact ⟨k,h,rfl⟩
  ·rintro ⟨j,h,e⟩
   injection e with e
   have:j=k:=by omega
   rw [<- this];exact h)).1
def Ask (d:D):Prop:=(∃ ds,d=.tup ds/\(∀ x ∈ ds,Odd x)/\ds.length < 64) \/ (∃ xs,d=.lst xs) \/ d=.non \/ d=.dct \/ ∃ w,d=.str w
theorem zbw {n:Nat} (h1:1 <= n) (h4:n <= 4) {d:D} (h:Ask d) (O:Ow):∃ b,z1H [.int (n:Nat),d] O=.ok (.bl b) O/\z1V [.int (n:Nat),d] O=.ok (.bl b) O:=by
 rcases h with ⟨ds,rfl,hd,hl⟩|⟨xs,rfl⟩|rfl|rfl|⟨w,rfl⟩
 ·exact ⟨_,z58 hd hl O,zcb h1 h4 hd hl O⟩
 ·exact ⟨false,rfl,rfl⟩
 ·exact ⟨false,rfl,rfl⟩
 ·exact ⟨false,rfl,rfl⟩
 ·exact ⟨false,rfl,rfl⟩
theorem z3w {n:Nat} (h1:1 <= n) (h4:n <= 4) (O:Ow):z2y [.int (n:Nat)] O=.ok .non O:=by
 rcases zfT h1 h4 with rfl|rfl|rfl|rfl <;> kernel_rfl
theorem zjb {n:Nat} (h1:1 <= n) (h4:n <= 4) (O:Ow) (x:Option D):zj1 z1Z (z1n 0) [some (.int (n:Nat)),x] O=.ok (.int ((2 ^ n:Nat):Int)) O:=by
 rcases zfT h1 h4 with rfl|rfl|rfl|rfl <;> rfl
theorem zaZ {n:Nat} (h1:1 <= n) (h4:n <= 4) {d:D} (O:Ow) (h:z1H [.int (n:Nat),d] O=.ok (.bl true) O):z1u [.int (n:Nat),d] O=.ok .non O:=by
 show fin (z1Q [some (.int (n:Nat)),some d] O)=_
 unfold z1Q
 rw [z1N (z5n (z1S (z1C rfl) (z3w h1 h4 O))),z2D (b:=false) (O1:=O) (z2B (b:=true) (z2m (z1S (z1F rfl rfl) h)))]
 rfl
theorem zcK {n:Nat} (h1:1 <= n) (h4:n <= 4) {d:D} (O:Ow) (h:z1H [.int (n:Nat),d] O=.ok (.bl false) O):z1u [.int (n:Nat),d] O=.exc 1 O:=by
 show fin (z1Q [some (.int (n:Nat)),some d] O)=_
 unfold z1Q
 rw [z1N (z5n (z1S (z1C rfl) (z3w h1 h4 O))),z2D (b:=true) (O1:=O) (z2B (b:=false) (z2m (z1S (z1F rfl rfl) h)))]
 rfl
theorem zd4 {t:DE} {σ:Sg} {O O1:Ow} {ds:List D} (h:t σ O=.ok (.lst ds) O1):z3d t σ O=.ok (!ds.isEmpty) O1:=by
 show ((t σ O).bnd _)=_
 rw [h];rfl
theorem zhd {c:DT} {t u:DE} {σ:Sg} {O:Ow} {b:Bool} (h:c σ O=.ok b O):dIf c t u σ O=if b=true then t σ O else u σ O:=by
 show ((c σ O).bnd _)=_
 rw [h];rfl
def hit (l:List (List Nat)) (p:Nat):Bool:=l.any fun t=>(pts t).contains p
def zdb (n:Nat) (l:List (List Nat)):List D:=(List.range (2 ^ n)).map fun p=>D.int (if hit l p=true then 1 else 0)
theorem zek {n:Nat} (h1:1 <= n) (h4:n <= 4) (l:List (List Nat)):Fn n (zdb n l):=⟨h1,h4,by unfold zdb;simp,fun d hd=>by
 obtain ⟨p,_,rfl⟩:=List.mem_map.mp hd
 split
 ·exact .inr (.inl rfl)
 ·exact .inl rfl⟩
section
variable {n:Nat} (h1:1 <= n) (h4:n <= 4) {l:List (List Nat)} (ht:∀ t ∈ l,t ∈ terms n) (hlen:l.length < 64) (O:Ow)
include h1 h4 ht hlen
theorem zag (p:Nat):z2z [.tup (l.map .str),.int (p:Nat)] O=.ok (.lst ((l.filter fun t=>(pts t).contains p).map .str)) O:=by
 show fin (z2v [some (.tup (l.map .str)),some (.int (p:Nat))] O)=_
 unfold z2v
 exact zbv ((zfE (l:=l) (inj:=D.str) (p:=fun t=>(pts t).contains p) (e:=D.str) (τ:=fun t=>[some (.tup (l.map .str)),some (.int (p:Nat)),some (.str t)]) (z5y rfl) (by omega) (fun _=>rfl) (fun t h=>z3b (z2L rfl (z1S (z1C rfl) (z7i (z4k h1 h4 (ht t h)) O)) (zgk O p _))) (fun _ _ _=>rfl)).trans rfl)
theorem zdo (p:Nat):(!((l.filter fun t=>(pts t).contains p).map D.str).isEmpty)=hit l p:=by
 rw [List.isEmpty_map,z50,List.all_eq_not_any_not]
 simp only [Bool.not_not]
 rfl
theorem zeQ (hp:l.Pairwise (· < ·)):z1y [.int (n:Nat),.tup (l.map .str)] O=.ok (.tup (zdb n l)) O:=by
 have h16:=z4u h4
 have hr:=(z58 (n:=n) (z3L h1 h4 ht) (by rw [List.length_map];exact hlen) O).trans (by rw [zgT h1 h4 ht hp])
 show fin (z20 [some (.int (n:Nat)),some (.tup (l.map .str))] O)=_
 unfold z20
 refine z3q (zc9 (z1S (z1F rfl rfl) (zaZ h1 h4 O hr)) (z2e (z2n (z1C ((z7w (l:=List.range (2 ^ n)) (inj:=fun (p:Nat)=>D.int (p:Int)) (e:=fun p=>D.int (if hit l p=true then 1 else 0)) (τ:=fun (p:Nat)=>[some (.int (n:Nat)),some (.tup (l.map .str)),some (.int (p:Int))]) (z3U (z1C (zjb h1 h4 O _)) (by omega)) (by simp;omega) (fun _=>rfl) (fun p hp=>?_)).trans rfl)) rfl)))
 rw [zhd (zd4 (z1S (z1F rfl rfl) (zag h1 h4 ht hlen O p))),zdo h1 h4 ht hlen p]
 cases hit l p <;> rfl
end
theorem zdP (O:Ow) {d:D} (h:Ans d):z2f 2 [d,d] O=.ok (.bl true) O:=by rcases h with rfl|rfl|rfl <;> kernel_rfl
theorem zc7 {l:List D} (h:∀ d ∈ l,Ans d) (hl:l.length < 10000) (O:Ow):z2o [.tup l,.tup l] O=.ok (.bl true) O:=
 zdM (k:=2) (zeq O _) (zeq O _) (.inr rfl) rfl hl fun i x y hx hy=>by
  rw [hx] at hy;cases hy
  exact zdP O (h x (List.mem_of_getElem? hx))
def zif:D->D
 | .int i=>.int (1 - i)
 | d=>d
def opp (f:List D):List D:=f.map zif
theorem zgI {d:D} (h:Ans d):Ans (zif d):=by
 rcases h with rfl|rfl|rfl
 ·exact .inr (.inl rfl)
 ·exact .inl rfl
 ·exact .inr (.inr rfl)
theorem zhX {n:Nat} {f:List D} (hf:Fn n f):Fn n (opp f):=⟨hf.n1,hf.n4,by unfold opp;rw [List.length_map];exact hf.len,fun d hd=>by
 obtain ⟨x,hx,rfl⟩:=List.mem_map.mp hd
 exact zgI (hf.ans x hx)⟩
theorem zf8 (O:Ow) {d:D} (h:Ans d):z2g [d] O=.ok (zif d) O:=by rcases h with rfl|rfl|rfl <;> rfl
theorem z8N {n:Nat} {f:List D} (hf:Fn n f) (O:Ow):z3Y [.tup f] O=.ok (.tup (opp f)) O:=by
 have hp:=z4u hf.n4
 have hl:=hf.len
 show fin (z4Y [some (.tup f)] O)=_
 unfold z4Y
 exact z3q (zc9 (z1S (z1C rfl) (zfA hf O)) (z2e (z2n (z1C ((z7w (l:=f) (inj:=fun d=>d) (e:=zif) (τ:=fun d=>[some (.tup f),some d]) (by rw [List.map_id'];exact z5y rfl) (by omega) (fun _=>rfl) (fun d hd=>z1S (z1C rfl) (zf8 O (hf.ans d hd)))).trans rfl)) rfl)))
theorem zad {n:Nat} (h1:1 <= n) (h4:n <= 4) {l:List (List Nat)} (ht:∀ t ∈ l,t ∈ terms n) (hlen:l.length < 64) (O:Ow) (hp:l.Pairwise (· < ·)):z1x [.int (n:Nat),.tup (l.map .str)] O=.ok (.tup (opp (zdb n l))) O:=by
 show fin (z1G [some (.int (n:Nat)),some (.tup (l.map .str))] O)=_
 unfold z1G
 exact zbv (z1S (z1C (z1S (z1F rfl rfl) (zeQ h1 h4 ht hlen O hp))) (z8N (zek h1 h4 l) O))
theorem zbx {t:DE} {tA:DA} {σ:Sg} {O O1:Ow} {c:Nat} (h:t σ O=.exc c O1):z1m t tA σ O=.exc c O1:=by
 show ((t σ O).bnd _)=_
 rw [h];rfl
theorem zeV {n:Nat} {F:List D->Ow->R D} {tA:DA} {σ:Sg} {O O1:Ow} {c:Nat} (h:tA σ O=.exc c O1):dFn n F tA σ O=.exc c O1:=by
 show ((tA σ O).bnd _)=_
 rw [h];rfl
theorem zgF {t:DE} {σ:Sg} {O O1:Ow} {c:Nat} (h:t σ O=.exc c O1):fin (z22 t σ O)=.exc c O1:=by
 show fin ((t σ O).bnS _)=_
 rw [h];rfl
theorem z8m {x y:D} {O:Ow} {c:Nat} (h:z1u [x,y] O=.exc c O):z1y [x,y] O=.exc c O:=by
 show fin (z20 [some x,some y] O)=_
 unfold z20
 have e:dFn 2 z1u (z1m (z1n 0) (z1m (z1n 1) z1s)) [some x,some y] O=.exc c O:=z1S (z1F rfl rfl) h
 show fin (match (dFn 2 z1u (z1m (z1n 0) (z1m (z1n 1) z1s)) [some x,some y] O).bnS _ with|.nx σ' O'=>_|r=>r)=_
 rw [e];rfl
theorem z5V {x y:D} {O:Ow} {c:Nat} (h:z1u [x,y] O=.exc c O):z1x [x,y] O=.exc c O:=by
 show fin (z1G [some x,some y] O)=_
 unfold z1G
 have e:dFn 2 z1y (z1m (z1n 0) (z1m (z1n 1) z1s)) [some x,some y] O=.exc c O:=z1S (z1F rfl rfl) (z8m h)
 exact zgF (zeV (zbx e))
theorem z46 {x y:D} {O:Ow} {c:Nat} (h:z1u [x,y] O=.exc c O):z2c [x,y] O=.exc c O:=by
 show fin (z3M [some x,some y,none,none,none] O)=_
 unfold z3M
 have e:dFn 2 z1u (z1m (z1n 0) (z1m (z1n 1) z1s)) [some x,some y,none,none,none] O=.exc c O:=z1S (z1F rfl rfl) h
 show fin (match (dFn 2 z1u (z1m (z1n 0) (z1m (z1n 1) z1s)) [some x,some y,none,none,none] O).bnS _ with|.nx σ' O'=>_|r=>r)=_
 rw [e];rfl
def Bd:List D:=[.int 0,.int 5,.int (-1),.bl true,.non,.str [50],.tup [.int 2],.int (10 ^ 29)]
theorem zcX (O:Ow):(Bd.map fun d=>z1u [d,.non] O)=Bd.map fun _=>R.exc 0 O:=by kernel_rfl
theorem zdv (O:Ow):z6j Ca 4 1 z34 (.exc 0 O)=.ok (.lst [.int 3]) O:=by kernel_rfl
theorem zdh (O:Ow):z6j Ca 4 1 z34 (.exc 1 O)=.ok (.lst [.int 1]) O:=by kernel_rfl
theorem z9b {σ:Sg} {O:Ow} {t1 t2 t3:DE} {c:Nat} {k:Int} (hr:z6j Ca 4 1 z34 (.exc c O)=.ok (.lst [.int k]) O) (h1:t1 σ O=.exc c O) (h2:t2 σ O=.exc c O) (h3:t3 σ O=.exc c O):z2N (z6j Ca 4 1 z34) [t1,t2,t3] σ O=.ok (.lst [.lst [.int k],.lst [.int k],.lst [.int k]]) O:=by
 unfold z2N
 have:z59 (z6j Ca 4 1 z34) [t1,t2,t3] σ O []=.ok [.lst [.int k],.lst [.int k],.lst [.int k]] O:=by
  unfold z59 z59 z59 z59
  rw [h1,hr]
  show ((z6j Ca 4 1 z34 (t2 σ O)).bnd _)=_
  rw [h2,hr]
  show ((z6j Ca 4 1 z34 (t3 σ O)).bnd _)=_
  rw [h3,hr];rfl
 rw [this];rfl
theorem ne3 (O:Ow):fPy neF O (.lst [.lst [.int 3],.lst [.int 3],.lst [.int 3]]) (.lst [.lst [.int 3],.lst [.int 3],.lst [.int 3]])=.ok (.bl false) O:=by kernel_rfl
theorem zks (O:Ow):fPy eqF O (.lst [.lst [.int 1],.lst [.int 1],.lst [.int 1]]) (.lst [.lst [.int 1],.lst [.int 1],.lst [.int 1]])=.ok (.bl true) O:=by kernel_rfl
theorem z96 {n:Nat} (h1:1 <= n) (h4:n <= 4) (Pt:Nat) {O:Ow} {x d:D} (hx:x ∈ Bd) (hd:Ask d):z1W Pt [.int (n:Nat),x,d] O=.ok (.bl true) O:=by
 have b0:=List.map_inj_left.mp (zcX O) x hx
 let σ:Sg:=[some (.int (n:Nat)),some x,some d,none,some (.tab Pt)]
 have hc:dOp (fPy neF) (z2N (z6j Ca 4 1 z34) [(dFn 2 z1y (z1m (z1n 1) (z1m (dC .non) z1s))),(dFn 2 z1x (z1m (z1n 1) (z1m (dC .non) z1s))),(dFn 2 z2c (z1m (z1n 1) (z1m (dC .non) z1s)))]) (dOp (z8T false) (z3F (z1m (z3F (z1m (dC (.int 3)) z1s)) z1s)) (dC (.int 3))) σ O=.ok (.bl false) O:=
  z2L (z9b (zdv O) (z1S (z1F rfl rfl) (z8m b0)) (z1S (z1F rfl rfl) (z5V b0)) (z1S (z1F rfl rfl) (z46 b0))) (y:=.lst [.lst [.int 3],.lst [.int 3],.lst [.int 3]]) rfl (ne3 O)
 obtain ⟨b,e1,e2⟩:=zbw h1 h4 hd O
 show fin (z1X Pt σ O)=_
 unfold z1X
 show fin (if Pt=Pt then z1P (sIf (z2w (dOp (fPy neF) (z2N (z6j Ca 4 1 z34) [(dFn 2 z1y (z1m (z1n 1) (z1m (dC .non) z1s))),(dFn 2 z1x (z1m (z1n 1) (z1m (dC .non) z1s))),(dFn 2 z2c (z1m (z1n 1) (z1m (dC .non) z1s)))]) (dOp (z8T false) (z3F (z1m (z3F (z1m (dC (.int 3)) z1s)) z1s)) (dC (.int 3))))) _ z2T) _ σ O else .bad)=_
 rw [if_pos rfl]
 have ha:z3d (dFn 2 z1V (z1m (z1n 0) (z1m (z1n 2) z1s))) σ O=.ok b O:=z2m (z1S (z1F rfl rfl) e2)
 refine z3q (z6i (z3b hc) ?_)
 cases b with
 | true=>exact zed (x:=.bl true) (O2:=O) ha rfl
 | false=>
  refine z6i ha ?_
  have b1:=zcK h1 h4 O e1
  show (if Pt=Pt then z22 (dOp (fPy eqF) (z2N (z6j Ca 4 1 z34) _) _) σ O else .bad)=_
  rw [if_pos rfl]
  exact z2e (z2L (z9b (zdh O) (z1S (z1F rfl rfl) (z8m b1)) (z1S (z1F rfl rfl) (z5V b1)) (z1S (z1F rfl rfl) (z46 b1))) (y:=.lst [.lst [.int 1],.lst [.int 1],.lst [.int 1]]) rfl (zks O))
theorem zeB {tA:DA} {σ:Sg} {O O1:Ow} {ds:List D} (h:tA σ O=.ok ds O1) (hl:ds.length <= 100000):z8M tA σ O=.ok (.tup ds) O1:=by
 show ((tA σ O).bnd _)=_
 rw [h]
 show (if ds.length <= 100000 then _ else _)=_
 rw [if_pos hl]
theorem zbU {tA:DA} {σ:Sg} {O O1:Ow} {ds:List D} (h:tA σ O=.ok ds O1) (hl:ds.length <= 100000):z3F tA σ O=.ok (.lst ds) O1:=by
 show ((tA σ O).bnd _)=_
 rw [h]
 show (if ds.length <= 100000 then _ else _)=_
 rw [if_pos hl]
theorem zga {ds:List D} {lo hi:Option Int} {d:D} (h:d ∈ z9t ds lo hi):d ∈ ds:=List.mem_of_mem_drop (List.mem_of_mem_take h)
theorem zf0 (ds:List D) (lo hi:Option Int):(z9t ds lo hi).length <= ds.length:=by unfold z9t;rw [List.length_take,List.length_drop];omega
structure Sub (ds l:List D) (lo hi:Option Int):Prop where
 mem:∀ d ∈ l,d ∈ ds
 len:l.length <= ds.length
 cut:l.length <= HT.sIx ds.length ds.length hi - HT.sIx ds.length 0 lo
theorem zdO {σ:Sg} {O:Ow} {te:DE} {tl th:DO} {ds:List D} {lo hi:Option Int} (h:te σ O=.ok (.tup ds) O) (h1:tl σ O=.ok lo O) (h2:th σ O=.ok hi O):∃ l,z7f te tl th σ O=.ok (.tup l) O/\Sub ds l lo hi:=by
 have e:z7f te tl th σ O=zkn O (.tup ds) lo hi:=by
  show ((te σ O).bnd _)=_
  rw [h]
  show ((tl σ O).bnd _)=_
  rw [h1]
  show ((th σ O).bnd _)=_
  rw [h2];rfl
 rw [e]
 show ∃ l,(if HT.sIx ds.length 0 lo=0/\HT.sIx ds.length ds.length hi=ds.length then R.ok (D.tup ds) O else R.ok (D.tup (z9t ds lo hi)) O)=_/\_
 split
 ·rename_i hw
  exact ⟨ds,rfl,fun _ h=>h,Nat.le_refl _,by rw [hw.1,hw.2];exact Nat.le_refl _⟩
 ·exact ⟨_,rfl,fun _ h=>zga h,zf0 _ _ _,List.length_take_le _ _⟩
theorem zgN (O:Ow) {xs ys:List D} (hl:xs.length + ys.length <= 100000):z32 O (.tup xs) (.tup ys)=.ok (.tup (xs ++ ys)) O:=by
 cases xs with
 | nil=>rfl
 | cons x xs=>
  show (if x :: xs ≠ []/\(x :: xs).length + ys.length <= 100000 then R.ok (D.tup (x :: xs ++ ys)) O else R.bad)=_
  rw [if_pos ⟨by simp,hl⟩]
theorem zkI (O:Ow) {xs ys:List D} (hl:xs.length + ys.length <= 100000):z32 O (.lst xs) (.lst ys)=.ok (.lst (xs ++ ys)) O:=by
 show (if xs.length + ys.length <= 100000 then R.ok (D.lst (xs ++ ys)) O else R.bad)=_
 rw [if_pos hl]
def zky:DE:=(z3F (z1m (z1n 4) (z1m (dOp z8O (dC (.str [45])) (z1n 2)) (z1m (z7f (z1n 4) z33 (z2X (zaq (dC (.int 1))))) (z1m (dOp z32 (z1n 4) (dC (.str [48]))) (z1m (zd9 [48] [50] (z1n 4)) (z1m (dC .non) (z1m (dC (.int 0)) (z1m (z8M (z1m (z1n 4) z1s)) (z1m (dC (.str [])) (z1m (dC (.bl true)) z1s)))))))))))
def zfy (cs:List Nat):List D:=[.str cs,.str (List.replicate cs.length 45),.str cs.dropLast,.str (cs ++ [48]),.str (cs.map fun c=>if c == 48 then 50 else c),.non,.int 0,.tup [.str cs],.str [],.bl true]
theorem zfP (O:Ow) (x0 x1 x3 x5 x6:Option D):(allT.map fun cs=>zky [x0,x1,some (.int (cs.length:Nat)),x3,some (.str cs),x5,x6] O)=allT.map fun cs=>R.ok (.lst (zfy cs)) O:=by kernel_rfl
theorem zgy {n:Nat} (h1:1 <= n) (h4:n <= 4) {cs:List Nat} (h:cs ∈ terms n):∀ d ∈ zfy cs,Odd d:=fun d hd=>by
 have hl:=z2t h1 h4 h
 have hs:=z5W h1 h4 h
 unfold zfy at hd
 simp only [List.mem_cons,List.not_mem_nil,or_false] at hd
 rcases hd with rfl|rfl|rfl|rfl|rfl|rfl|rfl|rfl|rfl|rfl
 ·exact z9B h1 h4 h
 ·exact .inl ⟨_,rfl,fun c hc=>by rw [List.eq_of_mem_replicate hc];decide,by rw [List.length_replicate];omega⟩
 ·exact .inl ⟨_,rfl,fun c hc=>z9v (hs c ((List.dropLast_sublist cs).subset hc)),by rw [List.length_dropLast];omega⟩
 ·refine .inl ⟨_,rfl,fun c hc=>?_,by simp;omega⟩
  rcases List.mem_append.mp hc with hc|hc
  ·exact z9v (hs c hc)
  ·have:c=48:=by simpa using hc
   rw [this];decide
 ·refine .inl ⟨_,rfl,fun c hc=>?_,by simp;omega⟩
  obtain ⟨x,hx,rfl⟩:=List.mem_map.mp hc
  split
  ·decide
  ·exact z9v (hs x hx)
 ·exact .inr (.inr (.inl rfl))
 ·exact .inr (.inr (.inr (.inl rfl)))
 ·exact .inr (.inl ⟨_,rfl⟩)
 ·exact .inl ⟨[],rfl,fun c hc=>(by cases hc),by simp⟩
 ·exact .inr (.inr (.inr (.inr rfl)))
theorem z64:∀ l:List (List Nat),(∀ t ∈ l,t.length <= 4)->∃ zs,z7v (l.map D.str)=some zs/\zs.length=l.length/\(zs.map (·.length)).sum <= 4 * l.length
 | [],_=>⟨[],rfl,rfl,Nat.le_refl _⟩
 | t :: l,h=>by
  obtain ⟨zs,e1,e2,e3⟩:=z64 l fun x hx=>h x (List.mem_cons_of_mem _ hx)
  have ht:=h t List.mem_cons_self
  refine ⟨⟨t.toArray⟩ :: zs,?_,by simp [e2],?_⟩
  ·show (z7v (l.map D.str)).map _=_
   rw [e1];rfl
  ·rw [List.map_cons,List.sum_cons,List.length_cons]
   have:(⟨t.toArray⟩:Str).length=t.length:=by show t.toArray.size=_;simp
   omega
theorem ze5 {σ:Sg} {O:Ow} {l:List (List Nat)} (h:z1n 1 σ O=.ok (.tup (l.map .str)) O) (hl:∀ t ∈ l,t.length <= 4) (hlen:l.length <= 54):∃ w,z92 (dC (.str [32])) (z1m (z1n 1) z1s) σ O=.ok (.str w) O:=by
 obtain ⟨zs,e1,e2,e3⟩:=z64 l hl
 refine ⟨(Txt.join ⟨[32].toArray⟩ zs).cps.toList,?_⟩
 show ((z1m (z1n 1) z1s σ O).bnd _)=_
 rw [z1C h]
 show (match z7v (l.map D.str) with|some zs=>if [32].length <= 16/\(zs.map fun z:Str=>z.length).sum + zs.length <= 1048576 then R.ok (D.str (Txt.join ⟨[32].toArray⟩ zs).cps.toList) O else .bad|none=>.bad)=_
 rw [e1]
 show (if [32].length <= 16/\(zs.map fun z:Str=>z.length).sum + zs.length <= 1048576 then R.ok (D.str (Txt.join ⟨[32].toArray⟩ zs).cps.toList) O else .bad)=_
 rw [if_pos ⟨by decide,by omega⟩]
def C14:List Nat:=[0,0,1,1,2,2,3,4,5,6,7,8,8,9]
theorem zh7:(C14.all fun q=>decide (q < 10))=true:=by decide
section
variable {n m:Nat} (h1:1 <= n) (h4:n <= 4) {l:List (List Nat)} (hlt:∀ t ∈ l,t ∈ terms n) (hlen:l.length <= 54) {O:Ow} {s:Int} {b:Bool}
include h1 h4 hlt hlen
theorem z7B (hs:StAt O m s b):∃ d s',z25 [.own m,.tup (l.map .str),.int (n:Nat)] O=.ok d (O.set m [.int s',.bl b])/\StAt (O.set m [.int s',.bl b]) m s' b/\Ask d:=by
 let A:Option D:=some (.own m)
 let F:Option D:=some (.tup (l.map .str))
 let N:Option D:=some (.int (n:Nat))
 have hdl:(l.map D.str).length=l.length:=List.length_map _
 obtain ⟨r,s1,r1,r2,r3⟩:=z3T hs (k:=l.length + 1) (by omega) (by omega)
 obtain ⟨vs,s2,c1,c2,c3,c4⟩:=zbQ (o:=false) (ext:=1) (i:=7) (σ:=[A,F,N,some (.int (r:Nat)),none,none,none]) (it0:=z41 (z1m (z1n 2) z1s)) (ds:=(List.range n).map fun (i:Nat)=>D.int (i:Int)) (te:=dOp fIx (dC (.str [48,49,45])) (dFn 2 z1E (z1m (z1n 0) (z1m (dC (.int 3)) z1s)))) (P:=fun v=>∃ c,v=D.str [c]/\sgn c=true) r3 (z3U (z1C rfl) (by omega)) (by simp;omega) (fun d hd s' hs'=>by
  rw [List.set_set] at hs'
  obtain ⟨j,s'',j1,j2,j3⟩:=z3T hs' (k:=3) (by decide) (by decide)
  rw [List.set_set] at j2 j3
  have:∃ c,fIx (O.set m [.int s'',.bl b]) (.str [48,49,45]) (.int (j:Nat))=.ok (.str [c]) (O.set m [.int s'',.bl b])/\sgn c=true:=by
   have:j=0 \/ j=1 \/ j=2:=by omega
   rcases this with rfl|rfl|rfl
   ·exact ⟨48,rfl,rfl⟩
   ·exact ⟨49,rfl,rfl⟩
   ·exact ⟨45,rfl,rfl⟩
  obtain ⟨c,k1,k2⟩:=this
  refine ⟨.str [c],s'',?_,?_,c,rfl,k2⟩
  ·rw [List.set_set,List.set_set]
   exact z2L (x:=.str [48,49,45]) rfl (z1S (z1F rfl rfl) j2) k1
  ·rw [List.set_set];exact j3)
 rw [List.set_set] at c1 c2
 obtain ⟨cs,rfl,hcs⟩:=zbH vs c4
 have hcl:cs.length=n:=by simpa using c3
 have hct:cs ∈ terms n:=z62 n cs hcl hcs
 have eT:=zg6 (σ:=[A,F,N,some (.int (r:Nat)),none,none,none]) cs (by omega) (by omega) (z1C c1)
 obtain ⟨j,s3,j1,j2,j3⟩:=z3T c2 (k:=10) (by decide) (by decide)
 rw [List.set_set] at j2 j3
 have hj:j < (zfy cs).length:=j1
 have eO:=List.map_inj_left.mp (zfP (O.set m [.int s2,.bl b]) A F (some (.int (r:Nat))) none none) cs (z4k h1 h4 hct)
 rw [hcl] at eO
 generalize hx:(zfy cs)[j]=x at *
 have hxo:Odd x:=by rw [<- hx];exact zgy h1 h4 hct _ (List.getElem_mem hj)
 generalize hO3:O.set m [.int s3,.bl b]=O3 at *
 let st (z:Option D):Sg:=[A,F,N,some (.int (r:Nat)),some (.str cs),some x,z]
 obtain ⟨a1,ea1,sa1⟩:=zdO (σ:=st none) (O:=O3) (te:=z1n 1) (tl:=z33) (th:=z2X (z1n 3)) (ds:=l.map .str) (lo:=none) (hi:=some (r:Int)) rfl rfl rfl
 obtain ⟨a2,ea2,sa2⟩:=zdO (σ:=st none) (O:=O3) (te:=z1n 1) (tl:=z2X (z1n 3)) (th:=z33) (ds:=l.map .str) (lo:=some (r:Int)) (hi:=none) rfl rfl rfl
 obtain ⟨a3,ea3,sa3⟩:=zdO (σ:=st none) (O:=O3) (te:=z1n 1) (tl:=z2X (dOp z32 (z1n 3) (dC (.int 1)))) (th:=z33) (ds:=l.map .str) (lo:=some ((r:Int) + 1)) (hi:=none) rfl rfl rfl
 have n1:=sa1.len
 have n2:=sa2.len
 have n3:=sa3.len
 have eX:z8M (z1m (z1n 5) z1s) (st none) O3=.ok (.tup [x]) O3:=zeB (z1C rfl) (by show 1 <= 100000;decide)
 have i0:=z2L (z2L ea1 eX (zgN O3 (by simp;omega))) ea2 (zgN O3 (by simp;omega))
 have i1:=z2L (z2L ea1 eX (zgN O3 (by simp;omega))) ea3 (zgN O3 (by simp;omega))
 have i2:=z2L ea1 ea3 (zgN O3 (by omega))
 let L1:List D:=[.tup (a1 ++ [x] ++ a2),.tup (a1 ++ [x] ++ a3),.tup (a1 ++ a3),.lst (l.map .str)]
 have f1:=zbU (z2h i0 (z2h i1 (z2h i2 (z1C (t:=z1B (zal false) (z1m (z1n 1) z1s)) (x:=.lst (l.map .str)) (z2n (z1C rfl) rfl))))) (by show 4 <= 100000;decide)
 obtain ⟨a4,ea4,sa4⟩:=zdO (σ:=st (some (.lst L1))) (O:=O3) (te:=z1n 1) (tl:=z2X (zaq (dC (.int 1)))) (th:=z33) (ds:=l.map .str) (lo:=some (-1)) (hi:=none) rfl rfl rfl
 have n4:=sa4.len
 have k1:=sa1.cut
 have k2:=sa2.cut
 have k3:=sa3.cut
 have k4:=sa4.cut
 rw [HT.sIx_none,HT.sIx_nat,hdl] at k1 k2
 rw [show ((r:Int) + 1)=((r + 1:Nat):Int) by omega,HT.sIx_none,HT.sIx_nat,hdl] at k3
 have e4:HT.sIx (l.map D.str).length 0 (some (-1))=l.length - 1:=by
  show (if (-1:Int) < 0 then ((-1:Int) + ((l.map D.str).length:Int)).toNat else min (-1:Int).toNat (l.map D.str).length)=_
  rw [if_pos (by decide),hdl];omega
 rw [HT.sIx_none,e4,hdl] at k4
 have i4:zd2 (z1n 1) (z2X (zaq (dC (.int 1)))) (st (some (.lst L1))) O3=.ok (.tup (l.map D.str).reverse) O3:=rfl
 have i5:dOp z32 (z1n 1) (z7f (z1n 1) (z2X (zaq (dC (.int 1)))) z33) (st (some (.lst L1))) O3=.ok (.tup (l.map .str ++ a4)) O3:=z2L rfl ea4 (zgN O3 (by omega))
 have i8:z1B z36 (z1m (z86 false (z1m (dOp z32 (z1n 1) (z8M (z1m (z1n 4) z1s))) z1s)) z1s) (st (some (.lst L1))) O3=.ok (.tup ((z3X (l ++ [cs])).map .str)) O3:=
  z2n (z1C (z8I (l:=l ++ [cs]) (z1C (z2L (x:=.tup (l.map .str)) (y:=.tup [.str cs]) rfl (zeB (z1C rfl) (by show 1 <= 100000;decide)) (zgN O3 (by simp;omega)))) (.inr (by rw [List.map_append];rfl)) (by simp;omega))) rfl
 obtain ⟨w,i9⟩:=ze5 (σ:=st (some (.lst L1))) (O:=O3) (l:=l) rfl (fun t ht=>by rw [z2t h1 h4 (hlt t ht)];exact h4) hlen
 let L2:List D:=[.tup (l.map D.str).reverse,.tup (l.map .str ++ a4),.non,.dct,.tup ((z3X (l ++ [cs])).map .str),.str w]
 have f2:=z2L (t:=z1n 6) (σ:=st (some (.lst L1))) (O:=O3) (x:=.lst L1) rfl (zbU (z2h i4 (z2h i5 (z2h (t:=dC .non) (x:=.non) rfl (z2h (t:=ziZ) (x:=.dct) rfl (z2h i8 (z1C i9)))))) (by show 6 <= 100000;decide)) (zkI O3 (by show 4 + 6 <= 100000;decide))
 rw [<- hO3] at j3
 obtain ⟨q,s4,q1,q2,q3⟩:=z3T j3 (k:=14) (by decide) (by decide)
 rw [List.set_set] at q2 q3
 rw [hO3] at q2
 have hq:q < C14.length:=q1
 have hlst:(L1 ++ L2).length=10:=rfl
 have hq2:C14[q] < (L1 ++ L2).length:=by
  rw [hlst]
  have:=List.all_eq_true.mp zh7 C14[q] (List.getElem_mem hq)
  simpa using this
 have hsub:∀ {a:List D} {lo hi:Option Int},Sub (l.map .str) a lo hi->∀ d ∈ a,Odd d:=fun hs d hd=>z3L h1 h4 hlt d (hs.mem d hd)
 have happ:∀ {a c:List D},(∀ d ∈ a,Odd d)->(∀ d ∈ c,Odd d)->∀ d ∈ a ++ c,Odd d:=fun ha hc d hd=>by
  rcases List.mem_append.mp hd with h|h
  ·exact ha d h
  ·exact hc d h
 have hone:∀ d ∈ [x],Odd d:=fun d hd=>by
  have:d=x:=by simpa using hd
  rw [this];exact hxo
 have hall:∀ d ∈ L1 ++ L2,Ask d:=fun d hd=>by
  simp only [L1,L2,List.cons_append,List.nil_append,List.mem_cons,List.not_mem_nil,or_false] at hd
  rcases hd with rfl|rfl|rfl|rfl|rfl|rfl|rfl|rfl|rfl|rfl
  ·refine .inl ⟨_,rfl,?_,by rw [List.length_append,List.length_append,List.length_singleton];omega⟩
   exact happ (happ (hsub sa1) hone) (hsub sa2)
  ·refine .inl ⟨_,rfl,?_,by rw [List.length_append,List.length_append,List.length_singleton];omega⟩
   exact happ (happ (hsub sa1) hone) (hsub sa3)
  ·refine .inl ⟨_,rfl,?_,by rw [List.length_append];omega⟩
   exact happ (hsub sa1) (hsub sa3)
  ·exact .inr (.inl ⟨_,rfl⟩)
  ·refine .inl ⟨_,rfl,fun d hd=>?_,by simp;omega⟩
   exact z3L h1 h4 hlt d (List.mem_reverse.mp hd)
  ·refine .inl ⟨_,rfl,?_,by rw [List.length_append,hdl];omega⟩
   exact happ (z3L h1 h4 hlt) (hsub sa4)
  ·exact .inr (.inr (.inl rfl))
  ·exact .inr (.inr (.inr (.inl rfl)))
  ·have hq:=z9M (l ++ [cs])
   rw [List.length_append] at hq
   refine .inl ⟨_,rfl,z3L h1 h4 fun t ht=>?_,by rw [List.length_map];simp at hq;omega⟩
   rcases List.mem_append.mp ((z3o _).mp ht) with h|h
   ·exact hlt t h
   ·have:t=cs:=by simpa using h
    rw [this];exact hct
  ·exact .inr (.inr (.inr (.inr ⟨_,rfl⟩)))
 refine ⟨(L1 ++ L2)[C14[q]],s4,?_,q3,hall _ (List.getElem_mem hq2)⟩
 show fin (z2O [A,F,N,none,none,none,none] O)=_
 unfold z2O
 have hC:fIx (O.set m [.int s4,.bl b]) (.lst (C14.map fun (k:Nat)=>D.int (k:Int))) (.int (q:Nat))=.ok (.int (C14[q]:Nat)) (O.set m [.int s4,.bl b]):=by
  rw [z4K (by rw [List.length_map];exact hq),List.getElem_map]
 refine z3q (z3x (x:=.int (r:Nat)) (z1S (z1F rfl (z2L (y:=.int 1) (z2n (z1C rfl) (zcQ O _)) rfl (by rw [hdl];rfl))) r2) (z3x (x:=.str cs) eT (z3x (x:=.lst (zfy cs)) eO (z3x (x:=x) (O1:=O3) (z2L (x:=.lst (zfy cs)) rfl (z1S (z1F rfl rfl) j2) (by rw [z4K hj,hx])) (z3x (x:=.lst L1) f1 (z3x (x:=.lst (L1 ++ L2)) f2 (z2e ?_)))))))
 exact z2L (x:=.lst (L1 ++ L2)) rfl (z2L (x:=.lst (C14.map fun (k:Nat)=>D.int (k:Int))) rfl (z1S (z1F rfl rfl) q2) hC) (z4K hq2)
end
theorem zhi {Pt iT n:Nat} {F:List D->Ow->R D} {tA:DA} {σ:Sg} {O O1:Ow} {ds:List D} {z:R D} (ht:σ[iT]?=some (some (.tab Pt))) (h1:tA σ O=.ok ds O1) (h2:F ds O1=z) (h3:ds.length=n:=by rfl):zgi Pt iT n F tA σ O=z:=by
 unfold zgi
 rw [ht]
 dsimp only
 rw [if_pos rfl];exact z1S h1 h2 h3
def zdC (Pt:Nat):DS:=(z1P (z2U 5 (z1R false 1 (z41 (z1m (dOp (fI zfF) (dC (.int 1)) (z1n 3)) z1s)) (.one 8) [] [] (dOp (fPy neF) (z1R false 1 (dIt (z1n 4)) (.one 9) [(z3d (dFn 2 z2b (z1m (z1n 9) (z1m (z1n 8) z1s))))] [] (z1n 9)) (z3F z1s)))) (z1P (sIf (z2Q (z3d (dFn 2 z2o (z1m (dFn 2 z1y (z1m (z1n 3) (z1m (z1n 4) z1s))) (z1m (z1B z36 (z1m (z1R false 1 (dIt (z1n 5)) (.one 8) [] [] (z1B z5v (z1m (z1n 8) z1s))) z1s)) z1s))))) (z22 (dC (.bl false))) z2T) (z1P (sIf (z2Q (z3d (dFn 2 z2o (z1m (dFn 2 z1x (z1m (z1n 3) (z1m (z1n 4) z1s))) (z1m (z1B z36 (z1m (z1R false 1 (dIt (z1n 5)) (.one 8) [] [] (dOp (fI zak) (dC (.int 1)) (z1B z5v (z1m (z1n 8) z1s)))) z1s)) z1s))))) (z22 (dC (.bl false))) z2T) (z1P (z2U 6 (dOp fIx (z3F (z1m (dC (.int 0)) (z1m (dC (.int 5)) (z1m (zaq (dC (.int 1))) (z1m (dC (.bl true)) (z1m (dC .non) (z1m (dC (.str [50])) (z1m (z8M (z1m (dC (.int 2)) z1s)) (z1m (dOp (fI z9d) (dC (.int 10)) (dC (.int 29))) z1s))))))))) (dFn 2 z1E (z1m (z1n 2) (z1m (dC (.int 8)) z1s))))) (sIf (z2Q (z3d (zgi Pt 7 3 (z1W Pt) (z1m (z1n 3) (z1m (z1n 6) (z1m (dFn 3 z25 (z1m (z1n 2) (z1m (z1n 4) (z1m (z1n 3) z1s)))) z1s)))))) (z22 (dC (.bl false))) z2T)))))
def itC:DI:=(dIt (z3F (z1m (dFn 3 z1J (z1m (z1n 2) (z1m (z1n 3) (z1m (dC (.int 9)) z1s)))) (z1m (dFn 3 z1J (z1m (z1n 2) (z1m (z1n 3) (z1m (dC (.int 3)) z1s)))) (z1m (z8M z1s) z1s)))))
def zgJ (Pt:Nat):DS:=(z1P (z2U 2 (dFn 2 z2K (z1m (z1n 0) (z1m (z1n 1) z1s)))) (z1P (z2U 3 (dOp z3Z (dC (.int 1)) (dFn 2 z1E (z1m (z1n 2) (z1m (dC (.int 4)) z1s))))) (z8s itC (.one 4) (zdC Pt))))
def zkt:DE:=(z3F (z1m (dC (.int 0)) (z1m (dC (.int 5)) (z1m (zaq (dC (.int 1))) (z1m (dC (.bl true)) (z1m (dC .non) (z1m (dC (.str [50])) (z1m (z8M (z1m (dC (.int 2)) z1s)) (z1m (dOp (fI z9d) (dC (.int 10)) (dC (.int 29))) z1s)))))))))
theorem zeU (σ:Sg) (O:Ow):zkt σ O=.ok (.lst Bd) O:=rfl
section
variable {n m:Nat} (h1:1 <= n) (h4:n <= 4) {l:List (List Nat)} (ht:∀ t ∈ l,t ∈ terms n) (hp:l.Pairwise (· < ·)) (hlen:l.length <= 54) {O:Ow} {s:Int} {b:Bool} {Pt:Nat} {A B y5 y6:Option D}
include h1 h4 ht hp hlen
theorem zdk (hs:StAt O m s b):∃ s' z5 z6,zdC Pt [A,B,some (.own m),some (.int (n:Nat)),some (.tup (l.map .str)),y5,y6,some (.tab Pt)] O=.nx [A,B,some (.own m),some (.int (n:Nat)),some (.tup (l.map .str)),z5,z6,some (.tab Pt)] (O.set m [.int s',.bl b])/\StAt (O.set m [.int s',.bl b]) m s' b:=by
 have h16:=z4u h4
 have hl64:l.length < 64:=by omega
 let st (y5 y6:Option D):Sg:=[A,B,some (.own m),some (.int (n:Nat)),some (.tup (l.map .str)),y5,y6,some (.tab Pt)]
 let hd:List D:=(List.range (2 ^ n)).map fun p=>D.bl (hit l p)
 have e5:(z1R false 1 (z41 (z1m (dOp (fI zfF) (dC (.int 1)) (z1n 3)) z1s)) (.one 8) [] [] (dOp (fPy neF) (z1R false 1 (dIt (z1n 4)) (.one 9) [(z3d (dFn 2 z2b (z1m (z1n 9) (z1m (z1n 8) z1s))))] [] (z1n 9)) (z3F z1s))) (st y5 y6) O=.ok (.lst hd) O:=by
  refine (z7w (l:=List.range (2 ^ n)) (inj:=fun (p:Nat)=>D.int (p:Int)) (e:=fun p=>D.bl (hit l p)) (τ:=fun (p:Nat)=>[A,B,some (.own m),some (.int (n:Nat)),some (.tup (l.map .str)),y5,y6,some (.tab Pt),some (.int (p:Int))]) (z3U (z1C (zi7 h4 rfl)) (by omega)) (by simp;omega) (fun _=>rfl) (fun p hpp=>?_)).trans rfl
  refine (z2L ((zfE (l:=l) (inj:=D.str) (p:=fun t=>(pts t).contains p) (e:=D.str) (τ:=fun t=>[A,B,some (.own m),some (.int (n:Nat)),some (.tup (l.map .str)),y5,y6,some (.tab Pt),some (.int (p:Int)),some (.str t)]) (z5y rfl) (by omega) (fun _=>rfl) (fun t h=>z2m (z1S (z1F rfl rfl) (z7L (z4k h1 h4 (ht t h)) (by rw [z2t h1 h4 (ht t h)];exact List.mem_range.mp hpp) O))) (fun _ _ _=>rfl)).trans rfl) rfl (zgC O h1 h4 fun c hc=>ht c (List.mem_filter.mp hc).1)).trans ?_
  congr 2
  rw [z50,List.all_eq_not_any_not]
  simp only [Bool.not_not]
  rfl
 have e6:z1B z36 (z1m (z1R false 1 (dIt (z1n 5)) (.one 8) [] [] (z1B z5v (z1m (z1n 8) z1s))) z1s) (st (some (.lst hd)) y6) O=.ok (.tup (zdb n l)) O:=
  z2n (z1C ((z7w (l:=List.range (2 ^ n)) (inj:=fun p=>D.bl (hit l p)) (e:=fun p=>D.int (if hit l p=true then 1 else 0)) (τ:=fun p=>[A,B,some (.own m),some (.int (n:Nat)),some (.tup (l.map .str)),some (.lst hd),y6,some (.tab Pt),some (.bl (hit l p))]) (z8V rfl) (by simp;omega) (fun _=>rfl) (fun p _=>z2n (z1C rfl) (zaw O _))).trans rfl)) rfl
 have e7:z1B z36 (z1m (z1R false 1 (dIt (z1n 5)) (.one 8) [] [] (dOp (fI zak) (dC (.int 1)) (z1B z5v (z1m (z1n 8) z1s)))) z1s) (st (some (.lst hd)) y6) O=.ok (.tup (opp (zdb n l))) O:=
  (z2n (z1C ((z7w (l:=List.range (2 ^ n)) (inj:=fun p=>D.bl (hit l p)) (e:=fun p=>zif (D.int (if hit l p=true then 1 else 0))) (τ:=fun p=>[A,B,some (.own m),some (.int (n:Nat)),some (.tup (l.map .str)),some (.lst hd),y6,some (.tab Pt),some (.bl (hit l p))]) (z8V rfl) (by simp;omega) (fun _=>rfl) (fun p _=>z2L rfl (z2n (z1C rfl) (zaw O _)) rfl)).trans rfl)) rfl).trans (by unfold opp zdb;rw [List.map_map];rfl)
 have hf:=zek h1 h4 l
 have hl1:(zdb n l).length < 10000:=by have:=hf.len;omega
 have hof:=zhX hf
 have hl2:(opp (zdb n l)).length < 10000:=by have:=hof.len;omega
 obtain ⟨r,s1,r1,r2,r3⟩:=z3T hs (k:=8) (by decide) (by decide)
 have hr:r < Bd.length:=r1
 obtain ⟨d,s2,d1,d2,d3⟩:=z7B h1 h4 ht hlen r3
 rw [List.set_set] at d1 d2
 refine ⟨s2,some (.lst hd),some Bd[r],?_,d2⟩
 unfold zdC
 refine z3x e5 (z6i (O1:=O) (z2B (b:=true) (z2m (z1S (z1F (z1S (z1F rfl rfl) (zeQ h1 h4 ht hl64 O hp)) e6) (zc7 hf.ans hl1 O)))) (z6i (O1:=O) (z2B (b:=true) (z2m (z1S (z1F (z1S (z1F rfl rfl) (zad h1 h4 ht hl64 O hp)) e7) (zc7 hof.ans hl2 O)))) (z3x (x:=Bd[r]) (O1:=O.set m [.int s1,.bl b]) (z2L (x:=.lst Bd) (zeU _ O) (z1S (z1F rfl rfl) r2) (z4K hr)) ?_)))
 exact (z2D (b:=false) (O1:=O.set m [.int s2,.bl b]) (z2B (b:=true) (z2m (zhi rfl (z2h rfl (z1F rfl (z1S (z2h rfl (z1F rfl rfl)) d1))) (z96 h1 h4 Pt (List.getElem_mem hr) d3))))).trans rfl
end
theorem zcU {Pt:Nat} {ns:List Int} {k:Nat} {O:Ow} (hO:z90 O) {y2 y3 y4 y5 y6:Option D}:∃ z2 z3 z4 z5 z6 O',
  zgJ Pt [some (.lst (ns.map .int)),some (.int k),y2,y3,y4,y5,y6,some (.tab Pt)] O=.nx [some (.lst (ns.map .int)),some (.int k),z2,z3,z4,z5,z6,some (.tab Pt)] O'/\z90 O':=by
 let A:Option D:=some (.lst (ns.map .int))
 let B:Option D:=some (.int k)
 obtain ⟨s,b,s1,s2⟩:=zdV (ns:=ns) (k:=k) O
 have fl0:z90 (O ++ [[.int s,.bl b]]):=StAt.flat hO
 obtain ⟨q,u1,q1,q2,q3⟩:=z3T s2 (k:=4) (by decide) (by decide)
 generalize hO1:(O ++ [[D.int s,D.bl b]]).set O.length [.int u1,.bl b]=O1 at *
 have fl1:z90 O1:=by rw [<- hO1];exact z6B fl0 _ _ _
 let n:Nat:=1 + q
 have n1:1 <= n:=by omega
 have n4:n <= 4:=by omega
 obtain ⟨cA,t4,c1,c2,c3,c4,c5⟩:=z4q n1 n4 fl1 q3 (q:=9) (by decide)
 have fl2:=z6B fl1 O.length t4 b
 obtain ⟨cB,t5,d1,d2,d3,d4,d5⟩:=z4q n1 n4 fl2 c2 (q:=3) (by decide)
 rw [List.set_set] at d1 d2
 let S:Option D:=some (.own O.length)
 let N:Option D:=some (.int (n:Nat))
 let T:Option D:=some (.tab Pt)
 have hit:itC [A,B,S,N,y4,y5,y6,T] O1=.ok (.val ([cA,cB,[]].map fun cl=>D.tup (cl.map D.str))) (O1.set O.length [.int t5,.bl b]):=by
  refine z8V (zbU (z2h (z1S (z2h rfl (z1F rfl rfl)) c1) (z1F (x:=.tup (cB.map .str)) (y:=.tup []) (z1S (z2h rfl (z1F rfl rfl)) d1) rfl)) (by show 3 <= 100000;decide))
 have hcl:∀ cl ∈ [cA,cB,[]],(∀ t ∈ cl,t ∈ terms n)/\cl.Pairwise (· < ·)/\cl.length <= 54:=fun cl hcl=>by
  simp only [List.mem_cons,List.not_mem_nil,or_false] at hcl
  rcases hcl with rfl|rfl|rfl
  ·exact ⟨c4,c3,by omega⟩
  ·exact ⟨d4,d3,by omega⟩
  ·exact ⟨fun c hc=>(by cases hc),List.Pairwise.nil,by decide⟩
 obtain ⟨σ7,O7,e7,⟨z4,z5,z6,s7,rfl,rfl,st7⟩⟩:=zcy (i:=4) (body:=zdC Pt) hit (fun _ σ O'=>∃ z4 z5 z6 s',σ=[A,B,S,N,z4,z5,z6,T]/\O'=O1.set O.length [.int s',.bl b]/\StAt O' O.length s' b) (fun j cl σ O' hj hI=>by
  obtain ⟨z4,z5,z6,s',rfl,rfl,hs'⟩:=hI
  obtain ⟨g1,g2,g3⟩:=hcl cl (List.mem_of_getElem? hj)
  obtain ⟨s'',w5,w6,e1,e2⟩:=zdk (Pt:=Pt) (A:=A) (B:=B) (y5:=z5) (y6:=z6) n1 n4 g1 g2 g3 hs'
  rw [List.set_set] at e1 e2
  exact ⟨_,_,e1,_,_,_,_,rfl,rfl,e2⟩) ⟨y4,y5,y6,t5,rfl,rfl,d2⟩
 refine ⟨S,N,z4,z5,z6,_,?_,z6B fl1 O.length s7 b⟩
 unfold zgJ
 exact z3x (x:=.own O.length) (z1S (z1F rfl rfl) s1) (z3x (x:=.int n) (O1:=O1) (z2L (x:=.int 1) (y:=.int q) rfl (z1S (z1F rfl rfl) q2) (fAdd_int.trans (by show R.ok (D.int (1 + (q:Int))) O1=R.ok (D.int ((1 + q:Nat):Int)) O1;push_cast;rfl))) e7)
theorem pure_law (Pt:Nat) (ns:List Int) (hn:ns.length <= 63):∃ O,F_law Pt [.lst (ns.map .int)] []=.ok (.bl true) O:=by
 let A:Option D:=some (.lst (ns.map .int))
 let T:Option D:=some (.tab Pt)
 let σ0:Sg:=[A,none,none,none,none,none,none,T]
 obtain ⟨m,hm,hr⟩:=zcO hn σ0 8 (by decide) rfl
 obtain ⟨σ',O',l1,y1,y2,y3,y4,y5,y6,rfl,l2⟩:=zcy (i:=1) (body:=zgJ Pt) (z3U (z1C hr) hm) (fun _ σ O'=>∃ y1 y2 y3 y4 y5 y6,σ=[A,y1,y2,y3,y4,y5,y6,T]/\z90 O') (fun _ i σ O' _ hI=>by
   obtain ⟨y1,y2,y3,y4,y5,y6,rfl,fl⟩:=hI
   obtain ⟨z2,z3,z4,z5,z6,O4,t1,t2⟩:=zcU (Pt:=Pt) (ns:=ns) (k:=i) fl (y2:=y2) (y3:=y3) (y4:=y4) (y5:=y5) (y6:=y6)
   exact ⟨_,_,t1,_,_,_,_,_,_,rfl,t2⟩) ⟨none,none,none,none,none,none,rfl,fun c hc=>by cases hc⟩
 refine ⟨O',?_⟩
 show fin (z1P _ (z22 (dC (.bl true))) σ0 [])=_
 exact z3q (ziN l1 rfl)
end K52
open PySem PySem.W PyProof.Rows
set_option maxRecDepth 100000 in
set_option maxHeartbeats 0 in
theorem PySem.Challenge.cw_leastterms_k52_functions_of_sums_and_pro_holds : PySem.Challenge.rw_leastterms_k52_functions_of_sums_and_pro.Holds := by
 w_on;o_law;refine PySem.W.holds_openX (q:=K52.Qv) (loose:=K52.Lv) (N:=6858) (Xt:=K52.Xv) (XP:=PySem.W.XL K52.Qv []) (Yf:=(fun s=>(PySem.W.Hook.obs K52.Hk s,decide (0 < s.toks)))) (Ya:=(fun w=>(PySem.W.Hook.val K52.Hk w,true))) K52.lw (fun s e=>PySem.W.xl_of s (Bool.and_eq_true_iff.mp e).1) PySem.W.XL.keeps (by rfl) (by rfl) (by rfl) (fun s e=>PySem.W.recFacts_of (Bool.and_eq_true_iff.mp e).2) (by rfl) (by first|assumption|decide +kernel) (by decide +kernel) ⟨rfl,rfl,rfl,rfl,rfl,by decide +kernel⟩ ?hw ?hc;(case hw=>w_witness2)
 delta K52.Hk;k_fill
 refine DL.walkT2 (xd := "_law_refusals_right") (l:=PySem.Challenge.rw_leastterms_k52_functions_of_sums_and_pro) (k:=11) (x := "_law_script") (Cl:=K52.Cl) (F:=K52.F_law) rfl rfl ⟨rfl,by decide,by decide⟩ (PySem.W.Hook.of K52.Hk) (PySem.W.Hook.keeps K52.Hk) (fun w h Y=>PySem.W.km_in_of Y) ?R ?F K52.pure_law
 case R=>first|rfl|kernel_rfl
 case F=>
  intro w mg fa h KX G hmg
  refine' K52.all_mk KX G hmg ⟨K52.fa_mk KX G ?_ ?_ ?_ ?_,K52.fa_mk KX G ?_ ?_ ?_ ?_,K52.fa_mk KX G ?_ ?_ ?_ ?_,K52.fa_mk KX G ?_ ?_ ?_ ?_,K52.fa_mk KX G ?_ ?_ ?_ ?_,K52.fa_mk KX G ?_ ?_ ?_ ?_,K52.fa_mk KX G ?_ ?_ ?_ ?_,K52.fa_mk KX G ?_ ?_ ?_ ?_,K52.fa_mk KX G ?_ ?_ ?_ ?_,K52.fa_mk KX G ?_ ?_ ?_ ?_,K52.fa_mk KX G ?_ ?_ ?_ ?_,K52.fa_mk KX G ?_ ?_ ?_ ?_,K52.fa_mk KX G ?_ ?_ ?_ ?_,K52.fa_mk KX G ?_ ?_ ?_ ?_,K52.fa_mk KX G ?_ ?_ ?_ ?_,K52.fa_mk KX G ?_ ?_ ?_ ?_,K52.fa_mk KX G ?_ ?_ ?_ ?_,K52.fa_mk KX G ?_ ?_ ?_ ?_,K52.fa_mk KX G ?_ ?_ ?_ ?_,K52.fa_mk KX G ?_ ?_ ?_ ?_,K52.fa_mk KX G ?_ ?_ ?_ ?_,K52.fa_mk KX G ?_ ?_ ?_ ?_,K52.fa_mk KX G ?_ ?_ ?_ ?_,K52.fa_mk KX G ?_ ?_ ?_ ?_,K52.fa_mk KX G ?_ ?_ ?_ ?_,K52.fa_mk KX G ?_ ?_ ?_ ?_,K52.fa_mk KX G ?_ ?_ ?_ ?_,K52.fa_mk KX G ?_ ?_ ?_ ?_,K52.fa_mk KX G ?_ ?_ ?_ ?_,K52.fa_mk KX G ?_ ?_ ?_ ?_,K52.fa_mk KX G ?_ ?_ ?_ ?_,K52.fa_mk KX G ?_ ?_ ?_ ?_,K52.fa_mk KX G ?_ ?_ ?_ ?_,K52.fa_mk KX G ?_ ?_ ?_ ?_,K52.fa_mk KX G ?_ ?_ ?_ ?_,K52.fa_mk KX G ?_ ?_ ?_ ?_,K52.fa_mk KX G ?_ ?_ ?_ ?_,K52.fa_mk KX G ?_ ?_ ?_ ?_,PySem.W.mg_none_of KX G ?_,PySem.W.mg_none_of KX G ?_,PySem.W.mg_none_of KX G ?_,PySem.W.mg_none_of KX G ?_,PySem.W.mg_none_of KX G ?_,PySem.W.mg_none_of KX G ?_,PySem.W.mg_none_of KX G ?_,PySem.W.mg_none_of KX G ?_,PySem.W.mg_none_of KX G ?_,PySem.W.mg_none_of KX G ?_,PySem.W.mg_none_of KX G ?_,PySem.W.mg_none_of KX G ?_,PySem.W.mg_none_of KX G ?_,PySem.W.mg_none_of KX G ?_,PySem.W.mg_none_of KX G ?_,PySem.W.mg_none_of KX G ?_,PySem.W.mg_none_of KX G ?_,K52.gs_mk KX G ?_,K52.gt_mk KX G ?_ ?_ ?_ ?_,K52.gt_mk KX G ?_ ?_ ?_ ?_,K52.gi_mk KX G ?_,PySem.W.mg_of KX G ?_,PySem.W.mg_of KX G ?_,PySem.W.mg_of KX G ?_,PySem.W.mg_of KX G ?_,PySem.W.mg_of KX G ?_,PySem.W.mg_of KX G ?_,PySem.W.mg_of KX G ?_,PySem.W.mg_of KX G ?_,PySem.W.mg_of KX G ?_,PySem.W.mg_of KX G ?_,?_,?_,?_,?_,?_,?_,?_,?_,?_,?_,?_,?_,?_,?_,?_,?_,?_,?_,?_,?_,?_,?_,?_,?_,?_,?_,?_,?_,?_,?_,?_,?_,?_,?_,?_,?_,?_,?_,?_,?_,?_,?_,?_,DL.xck_of ?_ ?_ ?_ ?_ ?_ ?_ ?_ ?_ ?_ ?_ ?_ ?_ ?_ ?_,DL.xck_of ?_ ?_ ?_ ?_ ?_ ?_ ?_ ?_ ?_ ?_ ?_ ?_ ?_ ?_,DL.xck_of ?_ ?_ ?_ ?_ ?_ ?_ ?_ ?_ ?_ ?_ ?_ ?_ ?_ ?_⟩ ?Ha ?Hl ?_ ?_ ?Ha2 ?Hl2 ?_ ?_ ?_ ?_ ?_ ?Gh4 ?Gh5 ?_
  (case' Ha|Hl|Ha2|Hl2|Gh4=>k_is)
  (case Gh5=>rfl)
  all_goals first|k_is|kernel_rfl|rfl|skip