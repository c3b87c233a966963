import PyProof.Rows.All
import Wide.All
import OpenK.AllK
import Wide.FinOn
import Lean
import PyProof.EqAt
import PyProof.EqKinds
import PyProof.TupleCall
import PySem.Challenge.RW_leastterms_k09_tables_swept
set_option Elab.async false
set_option linter.all false
set_option maxRecDepth 100000
namespace K09
open PySem PySem.W
def ty (i:Nat):Stmt:=PySem.Challenge.pw_leastterms_k09_tables_swept.main.body.getD i (.Pass ⟨0,0,0,0⟩)
def Qv:Program:={ PySem.Challenge.pw_leastterms_k09_tables_swept with main:={ PySem.Challenge.pw_leastterms_k09_tables_swept.main with body:=[ty 1,ty 2,ty 4,ty 5,ty 7,ty 8,ty 9,ty 10,ty 11,ty 12,ty 14,ty 15,ty 16,ty 17,ty 18,ty 19,ty 20,ty 22,ty 23,ty 24,ty 25,ty 26,ty 27,ty 29,ty 30,ty 31,ty 32,ty 33,ty 34,ty 35,ty 36,ty 38,ty 39,ty 40,ty 41,ty 42,ty 43,ty 44,ty 45,ty 46,ty 47,ty 48,ty 49,ty 50,ty 51,ty 52,ty 53,ty 54,ty 55,ty 56] } }
def Lv:List PySem.Str:=[PySem.Str.ofString "SWITCHES_BY_POINTS"]
def Xv:Shared → Bool:=fun s=>PySem.W.xlAt Qv [] s && PySem.W.recOk (PySem.W.RowW.records (PySem.W.OpenRow.toRowW PySem.Challenge.rw_leastterms_k09_tables_swept.row)) s
theorem bY {α β γ:Type} {x:Option α} {f:α → β} {g:α → γ} {b:β} {c:γ} (h1:x.map f=some b) (h2:x.map g=some c):x.map (fun s=>(f s,g s))=some (b,c):=by
  cases x with
  | none=>cases h1
  | some s=>
    have e1:f s=b:=Option.some.inj h1
    have e2:g s=c:=Option.some.inj h2
    show some (f s,g s)=_
    rw [e1,e2]
end K09
section
open PySem PySem.W PyProof.Rows
local macro_rules|`(tactic| o_head $H)=>`(tactic| refine PySem.W.holds_open (q:=K09.Qv) (loose:=K09.Lv) (N:=3734) (Xt:=K09.Xv) (XP:=PySem.W.XL K09.Qv []) (Yf:=PySem.W.Hook.obs $H) (Ya:=PySem.W.Hook.val $H) (YP:=PySem.W.Hook.says $H) ?hl (PySem.W.Hook.of $H) (PySem.W.Hook.keeps $H) (fun s e=>PySem.W.xl_of s (Bool.and_eq_true_iff.mp e).1) PySem.W.XL.keeps (by rfl) (by rfl) (by rfl) (fun s e=>PySem.W.recFacts_of (Bool.and_eq_true_iff.mp e).2) (by rfl) (by first|assumption|decide +kernel) (by decide +kernel) ⟨rfl,rfl,rfl,rfl,rfl,by decide +kernel⟩ ?hw ?hc)
set_option maxRecDepth 100000 in
set_option maxHeartbeats 0 in
theorem K09.hp:False → PySem.Challenge.rw_leastterms_k09_tables_swept.Holds:=by
  intro ff
  w_on;o_law;k_head
  all_goals exact ff.elim
end

namespace K09
open PySem PySem.W
abbrev As:List Addr:=[2,3,15,22,23,24,25,28,35,36,37,40,42,43,45,46,47,49,50,52,53,54,55,57,58,60,61,62,65,66,67,69,70,72,73,74,76,77,79,80,81,84,85,86,89,90,91,93,94,96,97,98,101,102,103,105,106,108,109,110,112,113,115,116,117,120,121,122,125,126,127,130,131,132,135,136,137,139,140,142,143,144,147,148,149,152,153,154,157,158,159,162,163,164,167,168,169,172,173,174,177,178,179,182,183,184,187,188,189,191,192,194,195,196,198,199,201,202,203,205,206,208,209,210,212,213,215,216,217,220,221,222,224,225,227,228,229,232,233,234,237,238,239,242,243,244,247,248,249,251,252,254,255,256,259,260,261,264,265,266,269,270,271,274,275,276,279,280,281,284,285,286,289,290,291,294,295,296,298,299,301,302]
noncomputable def Hk:PySem.W.Hook:=PySem.W.kHook K09.hp.heap_39 K09.As (fun _=>by kernel_rfl)
abbrev Pg:Program:=PySem.Challenge.rw_leastterms_k09_tables_swept.row.prog
set_option maxRecDepth 100000 in
theorem la:∀ w:World,(fencedOpening treeTable Pg w 3734).map (fun s₀=>(topFrom treeTable Pg (w.withFollow "special-get-raises" false) 3734 s₀).map (fun s=>(openSeen Qv Lv (importedModules Pg.main.body) Xv true s,(Hk.obs s,decide (0 < s.toks)))))=some (some ((openGood Qv Lv,(Hk.val (w.withFollow "special-get-raises" false),true)))):=fun w=>by kernel_rfl
set_option maxRecDepth 100000 in
theorem lb:∀ w:World,(fencedOpening treeTable Pg w 3734).map (fun s₀=>(topFrom treeTable Pg (w.withFollow "special-get-raises" true) 3734 s₀).map (fun s=>(openSeen Qv Lv (importedModules Pg.main.body) Xv true s,(Hk.obs s,decide (0 < s.toks)))))=some (some ((openGood Qv Lv,(Hk.val (w.withFollow "special-get-raises" true),true)))):=fun w=>by kernel_rfl
theorem lw:PySem.W.LeftO Pg Qv Lv Xv (fun s=>(Hk.obs s,decide (0 < s.toks))) (fun w=>(Hk.val w,true)) 3734:=PySem.W.LeftO.of_split "special-get-raises" fun w=>bY (la w) (lb w)
end K09

-- CHANGE: your row's module here, as the last of these rows
namespace L2
open PySem PySem.Spec PyProof.Rows
abbrev Key:=Sum Int Str
def za7:Key->Value->Bool
 | .inl k,v=>Value.isInt k v
 | .inr x,v=>Value.isStrOf x v
def zks (w:World):Key->Int
 | .inl k=>hashInt k
 | .inr x=>hashStr w x
theorem z0S:∀ {k:Key} {v:Value},za7 k v=true->(∃ i t,k=Sum.inl i/\v=Value.int i t) \/ (∃ x t,k=Sum.inr x/\v=Value.str x t)
 | .inl i,v,h=>by
  obtain ⟨t,e⟩:=Value.isInt_shape (k:=i) (v:=v) h
  exact .inl ⟨i,t,rfl,e⟩
 | .inr x,v,h=>by
  obtain ⟨t,e⟩:=Value.isStrOf_shape (x:=x) (v:=v) h
  exact .inr ⟨x,t,rfl,e⟩
theorem zbp (i:Int) (t:Tok):za7 (.inl i) (.int i t)=true:=by simp [za7,Value.isInt]
theorem zaJ (x:Str) (t:Tok):za7 (.inr x) (.str x t)=true:=by simp [za7,Value.isStrOf]
theorem ziF (a b:Int):decide ((Sum.inl a:Key)=Sum.inl b)=(a == b):=by
 by_cases e:a=b
 ·subst e;simp
 ·have h:¬ (Sum.inl a:Key)=Sum.inl b:=fun q=>e (Sum.inl.inj q)
  rw [decide_eq_false h]
  exact (beq_eq_false_iff_ne.mpr e).symm
theorem zhY (a b:Str):decide ((Sum.inr a:Key)=Sum.inr b)=decide (a=b):=by
 by_cases e:a=b
 ·subst e;simp
 ·have h:¬ (Sum.inr a:Key)=Sum.inr b:=fun q=>e (Sum.inr.inj q)
  rw [decide_eq_false h,decide_eq_false e]
theorem ziq (a:Int) (b:Str):decide ((Sum.inl a:Key)=Sum.inr b)=false:=decide_eq_false (fun q=>nomatch q)
theorem zha (a:Str) (b:Int):decide ((Sum.inr a:Key)=Sum.inl b)=false:=decide_eq_false (fun q=>nomatch q)
def z1a (prog:Program) (w:World):PySem.KeyKind prog w Key where
 is:=za7
 hash:=zks w
 inj:=fun v a b ha hb=>by
  rcases z0S ha with ⟨i,t,rfl,rfl⟩|⟨x,t,rfl,rfl⟩
  ·rcases z0S hb with ⟨j,u,rfl,e⟩|⟨y,u,rfl,e⟩
   ·injection e with e1 _;rw [e1]
   ·exact nomatch e
  ·rcases z0S hb with ⟨j,u,rfl,e⟩|⟨y,u,rfl,e⟩
   ·exact nomatch e
   ·injection e with e1 _;rw [e1]
 byValue:=fun k v h=>by
  rcases z0S h with ⟨i,t,rfl,rfl⟩|⟨x,t,rfl,rfl⟩ <;> rfl
 pyHash:=fun hv h=>by
  rcases z0S hv with ⟨i,t,rfl,rfl⟩|⟨x,t,rfl,rfl⟩
  ·exact wpAny_pyHash_int h
  ·exact wpAny_pyHash_str h
 eqBool:=fun hu hv h=>by
  rcases z0S hu with ⟨i,t,rfl,rfl⟩|⟨x,t,rfl,rfl⟩
  ·rcases z0S hv with ⟨j,u,rfl,rfl⟩|⟨y,u,rfl,rfl⟩
   ·rw [ziF] at h;exact wpAny_eqBool_int h
   ·rw [ziq] at h;exact SeqAt.EqAt.int_str i t y u _ _ _ _ h
  ·rcases z0S hv with ⟨j,u,rfl,rfl⟩|⟨y,u,rfl,rfl⟩
   ·rw [zha] at h;exact SeqAt.EqAt.str_int x t j u _ _ _ _ h
   ·rw [zhY] at h;exact wpAny_eqBool_str h
 «strs»:=fun k x t v h=>by
  rcases z0S h with ⟨i,u,rfl,e⟩|⟨y,u,rfl,e⟩
  ·exact nomatch e
  ·injection e with e1 _
   subst e1
   cases v <;> rfl
theorem z8D (prog:Program) (w:World) (i:Int) (t:Tok):(z1a prog w).is (.inl i) (.int i t)=true:=zbp i t
theorem z8F (prog:Program) (w:World) (x:Str) (t:Tok):(z1a prog w).is (.inr x) (.str x t)=true:=zaJ x t
inductive V where
 | non|bl (b:Bool)|int (i:Int)|str (x:Str)|byt (b:Array UInt8)|flt (b:UInt64)|ref (a:Addr)|ty (n:String)
 deriving DecidableEq
def RelV:V->Value->Prop
 | .non,u=>u=Value.none
 | .bl b,u=>u=Value.bool b
 | .int i,u=>∃ t,u=Value.int i t
 | .str x,u=>∃ t,u=Value.str x t
 | .byt b,u=>∃ t,u=Value.bytes b t
 | .flt b,u=>∃ t,u=Value.float b t
 | .ref a,u=>u=Value.ref a
 | .ty n,u=>u=Value.type n
abbrev Vals:List V->List Value->Prop:=Paired RelV
theorem Vals.length {xs:List V} {us:List Value} (r:Vals xs us):xs.length=us.length:=Paired.length r
theorem Vals.get:∀ {xs:List V} {us:List Value} {i:Nat} {x:V},Vals xs us->xs[i]?=some x->∃ u,us[i]?=some u/\RelV x u
 | _,_,_,_,.nil,e=>by simp at e
 | _,_,0,_,.cons r _,e=>by simp at e;subst e;exact ⟨_,rfl,r⟩
 | _,_,i + 1,x,.cons _ t,e=>by
  obtain ⟨u,h1,h2⟩:=Vals.get (i:=i) (x:=x) t (by simpa using e)
  exact ⟨u,by simpa using h1,h2⟩
theorem Vals.set {x:V} {u:Value} (r:RelV x u):∀ {xs:List V} {us:List Value} (i:Nat),Vals xs us->Vals (xs.set i x) (us.set i u)
 | _,_,_,.nil=>.nil
 | _,_,0,.cons _ t=>.cons r t
 | _,_,i + 1,.cons q t=>.cons q (Vals.set r i t)
theorem Vals.append:∀ {xs ys:List V} {us ws:List Value},Vals xs us->Vals ys ws->Vals (xs ++ ys) (us ++ ws)
 | _,_,_,_,.nil,s=>s
 | _,_,_,_,.cons r t,s=>.cons r (Vals.append t s)
theorem Vals.take:∀ {xs:List V} {us:List Value} (n:Nat),Vals xs us->Vals (xs.take n) (us.take n)
 | _,_,0,_=>.nil
 | _,_,_ + 1,.nil=>.nil
 | _,_,n + 1,.cons r t=>.cons r (Vals.take n t)
theorem Vals.drop:∀ {xs:List V} {us:List Value} (n:Nat),Vals xs us->Vals (xs.drop n) (us.drop n)
 | _,_,0,r=>r
 | _,_,_ + 1,.nil=>.nil
 | _,_,n + 1,.cons _ t=>Vals.drop n t
def RelO:Option V->Option Value->Prop
 | some v,some u=>RelV v u
 | none,none=>True
 | _,_=>False
def KV {κ:Type}:List (κ × V)->List (κ × Value)->Prop:=Paired fun (p:κ × V) (q:κ × Value)=>p.1=q.1/\RelV p.2 q.2
def kV:Key->V
 | .inl i=>.int i
 | .inr x=>.str x
inductive HO where
 | lst (xs:List V)
 | tup (xs:List V)
 | dK (kvs:List (Key × V))|dT (kvs:List (List Key × V))
 | set (S:Int->Bool) (n:Nat)
 | ins (C dx:Addr) (fs:List (Str × V))
 | own (x:Addr)
 | xd (fs:List (Str × V))
 | met (f x:Addr)
 | rng (lo hi:Int)
 | frz (o:Obj) (u:HO)
 | tbl (ps:Array Value)
 | ext (φ:Heap->Prop)
abbrev Hp:=Addr->Option HO
def upd (H:Hp) (a:Addr) (o:HO):Hp:=fun b=>if b=a then some o else H b
theorem z0u {H:Hp} {a:Addr} {o:HO}:upd H a o a=some o:=by unfold upd;rw [if_pos rfl]
theorem z0g {H:Hp} {a b:Addr} {o:HO} (h:b ≠ a):upd H a o b=H b:=by unfold upd;rw [if_neg h]
theorem zfg {H:Hp} {a:Addr} {o u:HO}:upd (upd H a o) a u=upd H a u:=by
 funext b;unfold upd;split <;> rfl
theorem z0p {H:Hp} {a b:Addr} {o:HO} (h:H a=some o) (h':H b=none):a ≠ b:=by
 intro e;subst e;rw [h] at h';cases h'
section
variable (P:Program) (w:World)
def ObjOk (H:Hp) (h:Heap) (a:Addr):HO->Prop
 | .lst xs=>xs.length <= sizeLine/\∃ (its:List Value) (n:Nat),Vals xs its/\h.get? a=some { cls:=.type "list",data:=.seq its.toArray n }
 | .tup xs=>xs.length <= sizeLine/\∃ its:List Value,Vals xs its/\IsTup h a its.toArray
 | .dK kvs=>kvs.length <= sizeLine/\(a == sysModules)=false/\∃ vs,KV kvs vs/\h.DictOf (z1a P w) a vs
 | .dT kvs=>kvs.length <= sizeLine/\(a == sysModules)=false/\∃ xs:List (List Key × Addr × Value),
   Paired (fun (p:List Key × V) (q:List Key × Addr × Value)=>p.1=q.1/\H q.2.1=some (.tup (p.1.map kV))/\RelV p.2 q.2.2) kvs xs/\
   ∃ o es ep,h.get? a=some o/\o.ExactDict/\o.data=.dict es ep/\es.toList=xs.map (entryOfKey (tupleKind (z1a P w)))/\(xs.map (·.1)).Nodup
 | .set S n=>h.SetOf (intKind P w) a S n
 | .ins C dx fs=>H dx=some (.own a)/\fs.length <= 1000/\dx ≠ a/\h.get? a=some (PySem.W.instObj C dx)/\
   ∃ mA,h.Ns1 dx mA/\(∀ f,RelO (fs.lookup f) (mA f))/\PySem.Within mA (fs.map (·.1))
 | .own _=>∃ o,h.get? a=some o
 | .xd fs=>∃ mA,h.Ns1 a mA/\∀ f,RelO (fs.lookup f) (mA f)
 | .rng lo hi=>∃ t u v,h.get? a=some { cls:=.type "range",data:=.fields #[.int lo t,.int hi u,.int 1 v] }
 | .frz o u=>h.get? a=some o/\ObjOk H h a u
 | .tbl ps=>h.get? a=some { cls:=.none,data:=.fields ps }
 | .met f x=>h.get? a=some (PySem.W.methodObj (.ref f) (.ref x))
 | .ext φ=>φ h/\(∃ o,h.get? a=some o)/\∀ h1 h2:Heap,φ h1->(∀ o,h1.get? a=some o->h2.get? a=some o)->φ h2
def HOk (H:Hp) (h:Heap):Prop:=∀ a o,H a=some o->ObjOk P w H h a o
end
section
variable {P:Program} {w:World} {H H':Hp} {h h':Heap} {a:Addr} {o:HO}
theorem ObjOk.lt (x:ObjOk P w H h a o):a < h.objs.size:=by
 cases o with
 | lst xs=>obtain ⟨_,_,_,_,e⟩:=x;exact Heap.lt_size e
 | tup xs=>obtain ⟨_,_,_,p⟩:=x;exact p.lt
 | dK kvs=>obtain ⟨_,_,_,_,o,_,_,e,_⟩:=x;exact Heap.lt_size e
 | dT kvs=>obtain ⟨_,_,_,_,o,_,_,e,_⟩:=x;exact Heap.lt_size e
 | set S n=>obtain ⟨o,_,_,_,e,_⟩:=x;exact Heap.lt_size e
 | ins C dx fs=>obtain ⟨_,_,_,e,_⟩:=x;exact Heap.lt_size e
 | own y=>obtain ⟨_,e⟩:=x;exact Heap.lt_size e
 | xd fs=>obtain ⟨_,⟨_,_,_,e,_⟩,_⟩:=x;exact Heap.lt_size e
 | rng lo hi=>obtain ⟨_,_,_,e⟩:=x;exact Heap.lt_size e
 | frz ob u=>obtain ⟨e,_⟩:=x;exact Heap.lt_size e
 | tbl ps=>exact Heap.lt_size (show h.get? a=some _ from x)
 | met f y=>exact Heap.lt_size (show h.get? a=some _ from x)
 | ext φ=>obtain ⟨_,⟨_,e⟩,_⟩:=x;exact Heap.lt_size e
theorem Paired.mapP {α β:Type} {F G:α->β->Prop}:∀ {l₁:List α} {l₂:List β},Paired F l₁ l₂->(∀ a b,F a b->G a b)->Paired G l₁ l₂
 | _,_,.nil,_=>.nil
 | _,_,.cons r t,f=>.cons (f _ _ r) (Paired.mapP t f)
theorem ObjOk.stay (x:ObjOk P w H h a o) (k:∀ b u,(b=a \/ H b=some (.own a))->h.get? b=some u->h'.get? b=some u)
  (ho:∀ b,H b=some (.own a)->H' b=some (.own a)) (ht:∀ b xs,H b=some (.tup xs)->H' b=some (.tup xs)):ObjOk P w H' h' a o:=by
 induction o with
 | lst xs=>obtain ⟨z,its,n,r,e⟩:=x;exact ⟨z,its,n,r,k _ _ (.inl rfl) e⟩
 | tup xs=>obtain ⟨z,its,r,ob,e,c⟩:=x;exact ⟨z,its,r,ob,k _ _ (.inl rfl) e,c⟩
 | dK kvs=>obtain ⟨z,y,vs,r,ob,es,ep,e,c⟩:=x;exact ⟨z,y,vs,r,ob,es,ep,k _ _ (.inl rfl) e,c⟩
 | dT kvs=>
  obtain ⟨z,y,xs,r,ob,es,ep,e,c⟩:=x
  exact ⟨z,y,xs,Paired.mapP r fun p q z=>⟨z.1,ht _ _ z.2.1,z.2.2⟩,ob,es,ep,k _ _ (.inl rfl) e,c⟩
 | set S n=>obtain ⟨ob,es,ep,t,e,c⟩:=x;exact ⟨ob,es,ep,t,k _ _ (.inl rfl) e,c⟩
 | ins C dx fs=>
  obtain ⟨d,z,ne,e,mA,⟨od,es,ep,e2,c⟩,r⟩:=x
  exact ⟨ho _ d,z,ne,k _ _ (.inl rfl) e,mA,⟨od,es,ep,k _ _ (.inr d) e2,c⟩,r⟩
 | own y=>obtain ⟨ob,e⟩:=x;exact ⟨ob,k _ _ (.inl rfl) e⟩
 | xd fs=>obtain ⟨mA,⟨od,es,ep,e,c⟩,r⟩:=x;exact ⟨mA,⟨od,es,ep,k _ _ (.inl rfl) e,c⟩,r⟩
 | rng lo hi=>obtain ⟨t,u,v,e⟩:=x;exact ⟨t,u,v,k _ _ (.inl rfl) e⟩
 | frz ob u ih=>obtain ⟨e,q⟩:=x;exact ⟨k _ _ (.inl rfl) e,ih q⟩
 | tbl ps=>
  have e:h.get? a=some { cls:=.none,data:=.fields ps }:=x
  show h'.get? a=some { cls:=.none,data:=.fields ps }
  exact k a _ (.inl rfl) e
 | met f y=>
  have e:h.get? a=some (PySem.W.methodObj (.ref f) (.ref y)):=x
  show h'.get? a=some (PySem.W.methodObj (.ref f) (.ref y))
  exact k a _ (.inl rfl) e
 | ext φ=>obtain ⟨p,⟨o,e⟩,st⟩:=x;exact ⟨st _ _ p fun o q=>k _ _ (.inl rfl) q,⟨o,k _ _ (.inl rfl) e⟩,st⟩
theorem HOk.lt (x:HOk P w H h) (e:H a=some o):a < h.objs.size:=(x a o e).lt
theorem HOk.fresh (x:HOk P w H h) (e:h.objs.size <= a):H a=none:=by
 cases q:H a with
 | none=>rfl
 | some u=>exact absurd (Nat.lt_of_lt_of_le (x.lt q) e) (Nat.lt_irrefl _)
theorem HOk.kept (x:HOk P w H h) (k:∀ b u,h.get? b=some u->h'.get? b=some u):HOk P w H h':=fun a o e=>
 (x a o e).stay (fun b u _ q=>k b u q) (fun _ q=>q) fun _ _ q=>q
theorem HOk.laid (x:HOk P w H h) (k:∀ b u,h.get? b=some u->h'.get? b=some u) (hp:h.objs.size <= a) (new:ObjOk P w (upd H a o) h' a o):HOk P w (upd H a o) h':=fun b u e=>by
 have hn:=x.fresh hp
 by_cases hb:b=a
 ·subst hb;rw [z0u] at e;cases e;exact new
 ·rw [z0g hb] at e
  exact (x b u e).stay (fun c v _ q=>k c v q) (fun c q=>by rw [z0g (z0p q hn)];exact q) fun c xs q=>by rw [z0g (z0p q hn)];exact q
end
def Rd (H:Hp) (a:Addr) (u:HO):Prop:=H a=some u \/ ∃ o,H a=some (.frz o u)
theorem Rd.of {H:Hp} {a:Addr} {u:HO} (h:H a=some u):Rd H a u:=.inl h
theorem Rd.ok {P:Program} {w:World} {H:Hp} {h:Heap} {a:Addr} {u:HO} (r:Rd H a u) (x:HOk P w H h):ObjOk P w H h a u:=by
 rcases r with r|⟨o,r⟩
 ·exact x a u r
 ·obtain ⟨_,q⟩:=x a _ r
  exact q
def Mut:Option HO->Prop
 | some (.lst _)=>True
 | some (.dK _)=>True
 | some (.dT _)=>True
 | some (.set _ _)=>True
 | some (.ins _ _ _)=>True
 | some (.ext _)=>True
 | _=>False
section
variable {P:Program} {w:World} {H:Hp} {h h':Heap} {x e:Addr} {o':HO}
theorem HOk.write (ok:HOk P w H h) (mu:Mut (H x)) (he:e=x \/ H e=some (.own x)) (k:∀ b u,b ≠ e->h.get? b=some u->h'.get? b=some u) (heo:∃ u,h'.get? e=some u)
  (new:ObjOk P w (upd H x o') h' x o'):HOk P w (upd H x o') h':=fun b u q=>by
 have nown:∀ c y,H c=some (.own y)->c ≠ x:=fun c y r z=>by subst z;rw [r] at mu;exact mu
 have ntup:∀ c xs,H c=some (.tup xs)->c ≠ x:=fun c xs r z=>by subst z;rw [r] at mu;exact mu
 by_cases hb:b=x
 ·subst hb;rw [z0u] at q;cases q;exact new
 ·rw [z0g hb] at q
  by_cases hbe:b=e
  ·have q':H b=some (.own x):=by
    rcases he with z|z
    ·exact absurd (hbe.trans z) hb
    ·rw [hbe];exact z
   rw [q] at q';cases q'
   obtain ⟨v,hv⟩:=heo
   exact ⟨v,by rw [hbe];exact hv⟩
  ·refine (ok b u q).stay (fun c v hc r=>k c v ?_ r) (fun c r=>by rw [z0g (nown c b r)];exact r) fun c xs r=>by rw [z0g (ntup c xs r)];exact r
   rcases hc with rfl|hc
   ·exact hbe
   ·rintro rfl
    rcases he with z|z
    ·exact nown c b hc z
    ·rw [hc] at z;cases z;exact hb rfl
end
structure Un (fs ex:List Addr) (H H':Hp) (h h':Heap):Prop where
 keep:∀ b o,h.get? b=some o->H b=none->b ∉ fs->b ∉ ex->h'.get? b=some o
 slot:∀ b o,h.get? b=some o->H b=none->b ∈ fs->b ∉ ex->∃ sl,h'.get? b=some { o with slots:=sl }
 free:∀ b o,h.get? b=some o->H b=none->b ∉ ex->H' b=none
 there:∀ b o,h.get? b=some o->b ∉ ex->∃ o',h'.get? b=some o'
 tups:∀ b xs,H b=some (.tup xs)->H' b=some (.tup xs)
 frzs:∀ b o u,H b=some (.frz o u)->H' b=some (.frz o u)
 tbls:∀ b ps,H b=some (.tbl ps)->∃ more,H' b=some (.tbl (ps ++ more))
section
variable {fs ex:List Addr} {H H1 H2:Hp} {h h1 h2 h':Heap} {a x e:Addr} {o:HO}
theorem Un.any (u:Un fs ex H H1 h h1) {b:Addr} {ob:Obj} (q:h.get? b=some ob) (n:H b=none) (hx:b ∉ ex):∃ sl,h1.get? b=some { ob with slots:=sl }:=by
 by_cases hb:b ∈ fs
 ·exact u.slot b ob q n hb hx
 ·exact ⟨ob.slots,u.keep b ob q n hb hx⟩
theorem Un.trans (a:Un fs ex H H1 h h1) (b:Un fs ex H1 H2 h1 h2):Un fs ex H H2 h h2 where
 keep:=fun c ob q n hc hx=>b.keep c ob (a.keep c ob q n hc hx) (a.free c ob q n hx) hc hx
 slot:=fun c ob q n hc hx=>by
  obtain ⟨sl,e1⟩:=a.slot c ob q n hc hx
  obtain ⟨sl',e2⟩:=b.slot c _ e1 (a.free c ob q n hx) hc hx
  exact ⟨sl',e2⟩
 free:=fun c ob q n hx=>by
  obtain ⟨o',e1⟩:=a.there c ob q hx
  exact b.free c o' e1 (a.free c ob q n hx) hx
 there:=fun c ob q hx=>by
  obtain ⟨o',e1⟩:=a.there c ob q hx
  exact b.there c o' e1 hx
 tups:=fun c xs q=>b.tups c xs (a.tups c xs q)
 frzs:=fun c ob xs q=>b.frzs c ob xs (a.frzs c ob xs q)
 tbls:=fun c ps q=>by
  obtain ⟨m1,e1⟩:=a.tbls c ps q
  obtain ⟨m2,e2⟩:=b.tbls c _ e1
  exact ⟨m1 ++ m2,by rw [e2,Array.append_assoc]⟩
theorem Un.kept (k:∀ b u,h.get? b=some u->h'.get? b=some u):Un fs ex H H h h':=
 ⟨fun b ob q _ _ _=>k b ob q,fun b ob q _ _ _=>⟨ob.slots,k b ob q⟩,fun _ _ _ n _=>n,fun b ob q _=>⟨ob,k b ob q⟩,fun _ _ q=>q,fun _ _ _ q=>q,fun _ ps q=>⟨#[],by rw [q];simp⟩⟩
theorem Un.refl:Un fs ex H H h h:=Un.kept fun _ _ q=>q
theorem Un.laid (k:∀ b u,h.get? b=some u->h'.get? b=some u) (hp:h.objs.size <= a) (hn:H a=none):Un fs ex H (upd H a o) h h' where
 keep:=fun b u q _ _ _=>k b u q
 slot:=fun b u q _ _ _=>⟨u.slots,k b u q⟩
 free:=fun b u q n _=>by rw [z0g (Nat.ne_of_lt (Nat.lt_of_lt_of_le (Heap.lt_size q) hp))];exact n
 there:=fun b u q _=>⟨u,k b u q⟩
 tups:=fun b xs q=>by rw [z0g (z0p q hn)];exact q
 frzs:=fun b u xs q=>by rw [z0g (z0p q hn)];exact q
 tbls:=fun b ps q=>⟨#[],by rw [z0g (z0p q hn),q];simp⟩
theorem Un.write (mu:Mut (H x)) (he:e=x \/ H e=some (.own x)) (k:∀ b u,b ≠ e->h.get? b=some u->h'.get? b=some u) (heo:∃ u,h'.get? e=some u):Un fs ex H (upd H x o) h h':=by
 have hx:∀ b,H b=none->b ≠ x:=fun b n z=>by subst z;rw [n] at mu;exact mu
 have hb:∀ b,H b=none->b ≠ e:=fun b n z=>by
  subst z
  rcases he with r|r
  ·exact hx b n r
  ·rw [n] at r;cases r
 have hm:∀ b u,H b=some u->¬ Mut (some u)->b ≠ x:=fun b u q nm z=>by subst z;rw [q] at mu;exact nm mu
 refine ⟨fun b u q n _ _=>k b u (hb b n) q,fun b u q n _ _=>⟨u.slots,k b u (hb b n) q⟩,fun b u q n _=>by rw [z0g (hx b n)];exact n,fun b u q _=>?_,
  fun b xs q=>by rw [z0g (hm b _ q fun z=>z)];exact q,fun b u xs q=>by rw [z0g (hm b _ q fun z=>z)];exact q,fun b ps q=>⟨#[],by rw [z0g (hm b _ q fun z=>z),q];simp⟩⟩
 by_cases hbe:b=e
 ·subst hbe;exact heo
 ·exact ⟨u,k b u hbe q⟩
end
def trk (h:Heap) (H:Hp):List Addr:=(List.range h.objs.size).filter fun a=>(H a).isSome
def zdW (h:Heap) (H:Hp):Heap:=PySem.W.hideAll h (trk h H)
theorem zaV (h:Heap) (H:Hp):(zdW h H).objs.size=h.objs.size:=PySem.W.hideAll_size _ _
theorem zcQ {h:Heap} {H:Hp} {b:Addr} {o:Obj} (e:h.get? b=some o) (n:H b=none):(zdW h H).get? b=some o:=
 PySem.W.hideAll_get _ e fun hm=>by
  have q:(H b).isSome=true:=(List.mem_filter.mp hm).2
  rw [n] at q;simp at q
theorem zfx {h:Heap} {H:Hp} {b:Addr} {o:Obj} (e:(zdW h H).get? b=some o):h.get? b=some o/\H b=none:=by
 have e':h.get? b=some o:=PySem.W.of_hideAll (trk h H) e
 refine ⟨e',?_⟩
 cases q:H b with
 | none=>rfl
 | some x=>
  have hm:b ∈ trk h H:=List.mem_filter.mpr ⟨List.mem_range.mpr (Heap.lt_size e'),by simp [q]⟩
  have z:(zdW h H).get? b=none:=PySem.W.hideAll_none (trk h H) hm
  rw [z] at e;cases e
def zfI (g h:Heap) (L:Addr):List (Addr × Obj):=(List.range h.objs.size).filterMap fun a=>if a=L \/ (g.get? a).isSome=true then none else (h.get? a).map fun o=>(a,o)
def rest (g h:Heap) (L d:Addr):List (Addr × Obj):=(zfI g h L).filter fun p=>decide (p.1 ≠ d)
structure Mod (K:PySem.W.Frag) (mg:Str->Option Value) (base:Heap):Prop where
 kin:K.In base
 glob:base.Ns mainGlobals mg
 blt:∃ mb,base.Ns builtinsNs mb/\∀ x:Str,x ≠ "__name__"->mb x=bootBuiltins x
 nolimit:base.NoLimit
structure Cx where
 prog:Program
 w:World
 K:PySem.W.Frag
 mg:Str->Option Value
 base:Heap
 A:Around
 N:List Str
 s₀:Shared
 H₀:Hp
 env:Env
 outer:List Env
 stack:List Env
 ex:List Addr
 fn:Str->Bool
 calm:Bool
 pn:List (Addr × Obj)
 xe:Value->Shared->Prop
def frs (l:List Env):List Addr:=l.filterMap (·.frame)
abbrev Cx.fs (X:Cx):List Addr:=frs X.outer
def Vis (sc:Scope) (x:Str):Prop:=sc.names.lookup x=some .local \/ sc.names.lookup x=some .cell \/ sc.names.lookup x=some .free
def Loc (sc:Scope) (x:Str):Prop:=sc.names.lookup x=some .local \/ sc.names.lookup x=some .cell
def zkt (env:Env) (h:Heap) (m:Str->Option Value) (x:Str) (u:Value):Prop:=
 (env.kindOf x=some .local/\m x=some u) \/ ((env.kindOf x=some .cell \/ env.kindOf x=some .free)/\∃ c,env.cells.lookup x=some c/\h.IsCell c (some u))
structure Cx.Ok (X:Cx):Prop where
 mod:Mod X.K X.mg X.base
 kind:X.env.scope.kind=.function
 glob:X.env.globals=mainGlobals
 blt:X.env.builtins=builtinsNs
 above:X.s₀.heap.objs.size <= X.env.locals
 inj:∀ x y c,X.env.cells.lookup x=some c->X.env.cells.lookup y=some c->x=y
 has:∀ x,(X.env.kindOf x=some .cell \/ X.env.kindOf x=some .free)->∃ c,X.env.cells.lookup x=some c
 cab:∀ x c,X.fn x=true->X.env.cells.lookup x=some c->X.s₀.heap.objs.size <= c
 hd:X.calm=true->X.A.handled=none
 frames:X.A.frames=some X.stack
 stk:X.stack=X.outer \/ (X.stack=X.env :: X.outer/\X.env.frame=some X.env.locals)
 exf:∀ b ∈ X.ex,b ≠ X.env.locals/\∀ x c,X.env.cells.lookup x=some c->c ≠ b
 bs:∀ b o,X.base.get? b=some o->X.s₀.heap.get? b=some o/\X.H₀ b=none
 bsz:X.base.objs.size <= X.s₀.heap.objs.size
 noex:∀ b o,X.base.get? b=some o->b ∉ X.ex
 exfs:∀ b ∈ X.ex,b ∉ X.fs
 funs:X.s₀.heap.FunFrames X.base X.outer
 frf:∀ b ∈ X.fs,X.H₀ b=none
structure Inv (X:Cx) (pins:List (Addr × Obj)) (σ:List (Option V)) (H:Hp) (s:Shared):Prop where
 ok:X.Ok
 os:s.os=X.s₀.os
 bare:AllBare s.gens
 base:Un X.fs X.ex X.H₀ H X.s₀.heap s.heap
 loc:∃ m,s.heap.Ns X.env.locals m/\∀ (i:Nat) (x:Str) (v:V),X.N[i]?=some x->σ[i]?=some (some v)->Vis X.env.scope x->∃ u,RelV v u/\zkt X.env s.heap m x u
 cell:∀ x c,X.env.cells.lookup x=some c->∃ v,s.heap.IsCell c v
 free:H X.env.locals=none
 freeC:∀ x c,X.env.cells.lookup x=some c->H c=none
 pin:∀ p ∈ X.pn ++ pins,s.heap.get? p.1=some p.2/\H p.1=none/\p.1 ≠ X.env.locals/\p.1 ∉ X.fs/\∀ v,p.2.data ≠ .cell v
 hok:HOk X.prog X.w H s.heap
 len:σ.length=X.N.length
 tk:0 < s.toks
section
variable {X:Cx} {pins:List (Addr × Obj)} {σ:List (Option V)} {H H':Hp} {s:Shared} {h':Heap}
theorem Cx.Ok.nofr (ok:X.Ok) {b:Addr} {o:Obj} (e:X.base.get? b=some o):b ∉ X.fs:=fun hb=>by
 have:=(ok.funs.mem hb).1
 rw [e] at this;cases this
theorem Inv.bs (I:Inv X pins σ H s):∀ b o,X.base.get? b=some o->s.heap.get? b=some o/\H b=none:=fun b o e=>
 ⟨I.base.keep b o (I.ok.bs b o e).1 (I.ok.bs b o e).2 (I.ok.nofr e) (I.ok.noex b o e),I.base.free b o (I.ok.bs b o e).1 (I.ok.bs b o e).2 (I.ok.noex b o e)⟩
theorem Inv.bk (I:Inv X pins σ H s):∀ b o,X.base.get? b=some o->s.heap.get? b=some o:=fun b o e=>(I.bs b o e).1
theorem Inv.mod (I:Inv X pins σ H s):Mod X.K X.mg X.base:=I.ok.mod
theorem Inv.kIn (I:Inv X pins σ H s):X.K.In s.heap:=I.ok.mod.kin.keeps I.bk
theorem Inv.lt (I:Inv X pins σ H s):X.env.locals < s.heap.objs.size:=let ⟨_,hn,_⟩:=I.loc;hn.lt
theorem Inv.sz (I:Inv X pins σ H s):X.s₀.heap.objs.size <= s.heap.objs.size:=Nat.le_trans I.ok.above (Nat.le_of_lt I.lt)
theorem Inv.nofs (I:Inv X pins σ H s) {a:Addr} (h:s.heap.objs.size <= a):a ∉ X.fs:=fun hb=>by
 obtain ⟨_,o,ho,_⟩:=I.ok.funs.mem hb
 exact absurd (Nat.lt_of_lt_of_le (Heap.lt_size ho) (Nat.le_trans I.sz h)) (Nat.lt_irrefl _)
theorem Inv.cne (I:Inv X pins σ H s):∀ x c,X.env.cells.lookup x=some c->c ≠ X.env.locals:=fun x c e z=>by
 obtain ⟨v,o,ho,hd⟩:=I.cell x c e
 obtain ⟨m,⟨o',es,ep,ho',hd',_⟩,_⟩:=I.loc
 rw [z,ho'] at ho;cases ho;rw [hd'] at hd;cases hd
theorem Inv.funs (I:Inv X pins σ H s):s.heap.FunFrames X.base X.outer:=by
 have all:∀ (l:List Env),(∀ b ∈ frs l,b ∈ X.fs)->X.s₀.heap.FunFrames X.base l->s.heap.FunFrames X.base l:=by
  intro l
  induction l with
  | nil=>intro _ _;trivial
  | cons env r ih=>
   intro hs hl
   obtain ⟨hk,⟨L,o,hf,hn,ho,hd⟩,hr⟩:=hl
   have hL:L ∈ X.fs:=hs L (by unfold frs;rw [List.filterMap_cons,hf];exact List.mem_cons_self)
   obtain ⟨sl,e⟩:=I.base.slot L o ho (I.ok.frf L hL) hL fun z=>I.ok.exfs L z hL
   exact ⟨hk,⟨L,_,hf,hn,e,hd⟩,ih (fun b hb=>hs b (by unfold frs;rw [List.filterMap_cons,hf];exact List.mem_cons_of_mem _ hb)) hr⟩
 exact all X.outer (fun _ hb=>hb) I.ok.funs
theorem Inv.stack (I:Inv X pins σ H s):s.heap.FunFrames X.base X.stack:=by
 rcases I.ok.stk with e|⟨e,hf⟩
 ·rw [e];exact I.funs
 ·rw [e]
  obtain ⟨m,hn,_⟩:=I.loc
  refine .cons (by rw [I.ok.kind];decide) hf hn ?_ I.funs
  exact Heap.get?_none_of_le (Nat.le_trans I.ok.bsz I.ok.above)
theorem Inv.stkSub (I:Inv X pins σ H s):∀ b ∈ frs X.stack,b ∈ X.env.locals :: X.fs:=fun b hb=>by
 rcases I.ok.stk with e|⟨e,hf⟩
 ·rw [e] at hb;exact List.mem_cons_of_mem _ hb
 ·rw [e] at hb
  unfold frs at hb
  rw [List.filterMap_cons,hf] at hb
  exact hb
theorem Inv.stkFree (I:Inv X pins σ H s):∀ b ∈ frs X.stack,H b=none:=fun b hb=>by
 rcases List.mem_cons.mp (I.stkSub b hb) with e|hb
 ·rw [e];exact I.free
 ·obtain ⟨_,o,ho,_⟩:=I.ok.funs.mem hb
  exact I.base.free b o ho (I.ok.frf b hb) fun z=>I.ok.exfs b z hb
theorem Inv.step {g':Array GenState} {t':Nat} {d':Drawn} {ch:List Addr} (I:Inv X pins σ H s)
  (hch:∀ b ∈ ch,(b ∈ X.ex \/ X.s₀.heap.objs.size <= b)/\b ≠ X.env.locals/\(∀ x c,X.env.cells.lookup x=some c->c ≠ b)/\∀ p ∈ X.pn ++ pins,p.1 ≠ b)
  (keep:∀ b o,b ≠ X.env.locals->b ∉ X.fs->b ∉ ch->s.heap.get? b=some o->H b=none->h'.get? b=some o)
  (slot:∀ b o,b ≠ X.env.locals->b ∈ X.fs->b ∉ ch->s.heap.get? b=some o->H b=none->∃ sl,h'.get? b=some { o with slots:=sl }) (free:∀ b o,b ∉ ch->s.heap.get? b=some o->H b=none->H' b=none)
  (there:∀ b o,b ∉ ch->s.heap.get? b=some o->∃ o',h'.get? b=some o')
  (tups:∀ b xs,H b=some (.tup xs)->H' b=some (.tup xs)) (frzs:∀ b o u,H b=some (.frz o u)->H' b=some (.frz o u)) (tbls:∀ b ps,H b=some (.tbl ps)->∃ more,H' b=some (.tbl (ps ++ more)))
  (ns:∀ m,s.heap.Ns X.env.locals m->h'.Ns X.env.locals m) (hok:HOk X.prog X.w H' h') (hg:AllBare g') (ht:0 < t'):
  Inv X pins σ H' { s with heap:=h',gens:=g',drawn:=d',toks:=t' }:=by
 have neL:∀ b o,X.s₀.heap.get? b=some o->b ≠ X.env.locals:=fun b o e=>Nat.ne_of_lt (Nat.lt_of_lt_of_le (Heap.lt_size e) I.ok.above)
 have neC:∀ b o,X.s₀.heap.get? b=some o->b ∉ X.ex->b ∉ ch:=fun b o e hx hb=>by
  rcases (hch b hb).1 with z|z
  ·exact hx z
  ·exact absurd (Nat.lt_of_lt_of_le (Heap.lt_size e) z) (Nat.lt_irrefl _)
 have cellK:∀ x c,X.env.cells.lookup x=some c->∀ v,s.heap.IsCell c v->h'.IsCell c v:=fun x c e v ⟨o,ho,hd⟩=>by
  have nch:c ∉ ch:=fun z=>(hch c z).2.2.1 x c e rfl
  by_cases hc:c ∈ X.fs
  ·obtain ⟨sl,q⟩:=slot c o (I.cne x c e) hc nch ho (I.freeC x c e)
   exact ⟨_,q,hd⟩
  ·exact ⟨o,keep c o (I.cne x c e) hc nch ho (I.freeC x c e),hd⟩
 refine ⟨I.ok,I.os,hg,⟨fun b o e n hb hx=>?_,fun b o e n hb hx=>?_,fun b o e n hx=>?_,fun b o e hx=>?_,fun b xs e=>tups b xs (I.base.tups b xs e),fun b o xs e=>frzs b o xs (I.base.frzs b o xs e),fun b ps e=>?_⟩,?_,fun x c e=>?_,?_,fun x c e=>?_,fun p hp=>?_,hok,I.len,ht⟩
 ·exact keep b o (neL b o e) hb (neC b o e hx) (I.base.keep b o e n hb hx) (I.base.free b o e n hx)
 ·obtain ⟨sl,e1⟩:=I.base.slot b o e n hb hx
  obtain ⟨sl',e2⟩:=slot b _ (neL b o e) hb (neC b o e hx) e1 (I.base.free b o e n hx)
  exact ⟨sl',e2⟩
 ·obtain ⟨o',e1⟩:=I.base.there b o e hx
  exact free b o' (neC b o e hx) e1 (I.base.free b o e n hx)
 ·obtain ⟨o',e1⟩:=I.base.there b o e hx
  exact there b o' (neC b o e hx) e1
 ·obtain ⟨m1,e1⟩:=I.base.tbls b ps e
  obtain ⟨m2,e2⟩:=tbls b _ e1
  exact ⟨m1 ++ m2,by rw [e2,Array.append_assoc]⟩
 ·obtain ⟨m,hn,hl⟩:=I.loc
  refine ⟨m,ns m hn,fun i x v e1 e2 e3=>?_⟩
  obtain ⟨u,r,l⟩:=hl i x v e1 e2 e3
  refine ⟨u,r,?_⟩
  rcases l with l|⟨k,c,e,z⟩
  ·exact .inl l
  ·exact .inr ⟨k,c,e,cellK x c e _ z⟩
 ·obtain ⟨v,z⟩:=I.cell x c e
  exact ⟨v,cellK x c e v z⟩
 ·obtain ⟨m,⟨o,_,_,ho,_⟩,_⟩:=I.loc
  exact free _ o (fun z=>(hch _ z).2.1 rfl) ho I.free
 ·obtain ⟨v,o,ho,hd⟩:=I.cell x c e
  exact free c o (fun z=>(hch c z).2.2.1 x c e rfl) ho (I.freeC x c e)
 ·obtain ⟨e,n,ne,nf,d⟩:=I.pin p hp
  have nch:p.1 ∉ ch:=fun z=>(hch p.1 z).2.2.2 p hp rfl
  exact ⟨keep p.1 p.2 ne nf nch e n,free p.1 p.2 nch e n,ne,nf,d⟩
theorem Inv.un {t':Nat} (I:Inv X pins σ H s) (u:Un X.fs [] H H' s.heap h') (hok:HOk X.prog X.w H' h') (ht:0 < t':=by first|exact Nat.succ_pos _|exact Inv.tk ‹_›|assumption|omega):Inv X pins σ H' { s with heap:=h',toks:=t' }:=by
 obtain ⟨m,⟨o,es,ep,ho,r⟩,_⟩:=id I.loc
 obtain ⟨sl,hL⟩:=u.any ho I.free (by simp)
 exact I.step (g':=s.gens) (d':=s.drawn) (ch:=[]) (fun _ z=>nomatch z) (fun b o _ hb _ e n=>u.keep b o e n hb (by simp)) (fun b o _ hb _ e n=>u.slot b o e n hb (by simp)) (fun b o _ e n=>u.free b o e n (by simp)) (fun b o _ e=>u.there b o e (by simp)) u.tups u.frzs u.tbls (fun m' hm=>by
  obtain ⟨o',es',ep',ho',r'⟩:=hm
  rw [ho] at ho';cases ho'
  exact ⟨_,es',ep',hL,r'⟩) hok I.bare ht
theorem Inv.call {g':Array GenState} {t':Nat} {d':Drawn} {ch:List Addr} (I:Inv X pins σ H s) (u:Un (frs X.stack) ch H H' s.heap h') (hok:HOk X.prog X.w H' h') (hg:AllBare g')
  (hch:∀ b ∈ ch,(b ∈ X.ex \/ X.s₀.heap.objs.size <= b)/\b ≠ X.env.locals/\(∀ x c,X.env.cells.lookup x=some c->c ≠ b)/\∀ p ∈ X.pn ++ pins,p.1 ≠ b) (ht:0 < t':=by first|exact Nat.succ_pos _|exact Inv.tk ‹_›|assumption|omega):
  Inv X pins σ H' { s with heap:=h',gens:=g',drawn:=d',toks:=t' }:=by
 obtain ⟨m,⟨o,es,ep,ho,r⟩,_⟩:=id I.loc
 obtain ⟨sl,hL⟩:=u.any ho I.free fun z=>(hch _ z).2.1 rfl
 exact I.step (ch:=ch) hch (fun b o hL hb hc e n=>u.keep b o e n (fun z=>(List.mem_cons.mp (I.stkSub b z)).elim hL hb) hc) (fun b o _ _ hc e n=>u.any e n hc) (fun b o hc e n=>u.free b o e n hc) (fun b o hc e=>u.there b o e hc) u.tups u.frzs u.tbls (fun m' hm=>by
  obtain ⟨o',es',ep',ho',r'⟩:=hm
  rw [ho] at ho';cases ho'
  exact ⟨_,es',ep',hL,r'⟩) hok hg ht
theorem Inv.turned {t':Nat} {it:Addr} (I:Inv X pins σ H s) (k:∀ b o,b ≠ it->s.heap.get? b=some o->h'.get? b=some o) (hn:H it=none) (hL:it ≠ X.env.locals)
  (h1:it ∈ X.ex \/ X.s₀.heap.objs.size <= it) (h2:∀ x c,X.env.cells.lookup x=some c->c ≠ it) (h3:∀ p ∈ X.pn ++ pins,p.1 ≠ it) (ht:0 < t':=by first|exact Nat.succ_pos _|exact Inv.tk ‹_›|assumption|omega):Inv X pins σ H { s with heap:=h',toks:=t' }:=by
 have nit:∀ b u,H b=some u->b ≠ it:=fun b u e z=>by rw [z,hn] at e;cases e
 refine I.step (g':=s.gens) (d':=s.drawn) (ch:=[it]) (fun b hb=>?_) (fun b o _ _ hc e _=>k b o (fun z=>hc (by simp [z])) e) (fun b o _ _ hc e _=>⟨o.slots,k b o (fun z=>hc (by simp [z])) e⟩) (fun _ _ _ _ n=>n)
  (fun b o hc e=>⟨o,k b o (fun z=>hc (by simp [z])) e⟩) (fun _ _ e=>e) (fun _ _ _ e=>e) (fun b ps e=>⟨#[],by rw [e];simp⟩) (fun m hm=>?_) (fun b u e=>?_) I.bare ht
 ·have e:b=it:=by simpa using hb
  subst e
  exact ⟨h1,hL,h2,h3⟩
 ·obtain ⟨o,es,ep,ho,r⟩:=hm
  exact ⟨o,es,ep,k _ o (Ne.symm hL) ho,r⟩
 ·refine (I.hok b u e).stay (fun c v hc q=>k c v ?_ q) (fun _ q=>q) fun _ _ q=>q
  rcases hc with z|z
  ·rw [z];exact nit b u e
  ·exact nit c _ z
theorem Inv.tok (I:Inv X pins σ H s) (t:Nat) (ht:0 < t:=by first|exact Nat.succ_pos _|exact Inv.tk ‹_›|assumption|omega):Inv X pins σ H { s with toks:=t }:=I.un (h':=s.heap) (t':=t) Un.refl I.hok
theorem Inv.kept {t':Nat} (I:Inv X pins σ H s) (k:∀ b u,s.heap.get? b=some u->h'.get? b=some u) (ht:0 < t':=by first|exact Nat.succ_pos _|exact Inv.tk ‹_›|assumption|omega):Inv X pins σ H { s with heap:=h',toks:=t' }:=I.un (Un.kept k) (I.hok.kept k)
theorem Inv.laid {a:Addr} {o:HO} {t':Nat} (I:Inv X pins σ H s) (k:∀ b u,s.heap.get? b=some u->h'.get? b=some u) (hp:s.heap.objs.size <= a) (new:ObjOk X.prog X.w (upd H a o) h' a o) (ht:0 < t':=by first|exact Nat.succ_pos _|exact Inv.tk ‹_›|assumption|omega):
  Inv X pins σ (upd H a o) { s with heap:=h',toks:=t' }:=I.un (Un.laid k hp (I.hok.fresh hp)) (I.hok.laid k hp new)
theorem Inv.write {x e:Addr} {o:HO} {t':Nat} (I:Inv X pins σ H s) (mu:Mut (H x)) (he:e=x \/ H e=some (.own x)) (k:∀ b u,b ≠ e->s.heap.get? b=some u->h'.get? b=some u) (heo:∃ u,h'.get? e=some u)
  (new:ObjOk X.prog X.w (upd H x o) h' x o) (ht:0 < t':=by first|exact Nat.succ_pos _|exact Inv.tk ‹_›|assumption|omega):Inv X pins σ (upd H x o) { s with heap:=h',toks:=t' }:=I.un (Un.write mu he k heo) (I.hok.write mu he k heo new)
theorem Inv.pins_of {pins':List (Addr × Obj)} (I:Inv X pins σ H s) (h:∀ p ∈ pins',s.heap.get? p.1=some p.2/\H p.1=none/\p.1 ≠ X.env.locals/\p.1 ∉ X.fs/\∀ v,p.2.data ≠ .cell v):Inv X pins' σ H s:=
 ⟨I.ok,I.os,I.bare,I.base,I.loc,I.cell,I.free,I.freeC,fun p hp=>(List.mem_append.mp hp).elim (fun z=>I.pin p (List.mem_append_left _ z)) (h p),I.hok,I.len,I.tk⟩
theorem z9M {N:List Str} (hN:N.Nodup) {i j:Nat} {x:Str} (a:N[i]?=some x) (b:N[j]?=some x):i=j:=by
 obtain ⟨h1,e1⟩:=List.getElem?_eq_some_iff.mp a
 obtain ⟨h2,e2⟩:=List.getElem?_eq_some_iff.mp b
 exact (List.getElem_inj hN).mp (e1.trans e2.symm)
theorem z7R {M:Model} {A:Around} {E:Value->Shared->Prop} {i:Nat} {x:Str} {v:V} {u:Value} {Q:Unit->Shared->Prop} (I:Inv X pins σ H s) (hN:X.N.Nodup) (hi:X.N[i]?=some x) (hx:Loc X.env.scope x) (r:RelV v u)
  (h:∀ s',Inv X pins (σ.set i (some v)) H s'->(∃ a,Heap.SameBut a s.heap s'.heap/\(a=X.env.locals \/ X.env.cells.lookup x=some a))->Q () s') (hf:X.fn x=true \/ X.env.scope.names.lookup x=some .local:=by first|exact .inl rfl|exact .inr rfl|assumption):wpAny M A (storeName X.env x u) Q E s:=by
 obtain ⟨m,hn,hl⟩:=id I.loc
 have hcls:(X.env.scope.kind == .class || (X.env.scope.kind == .module && X.env.locals != X.env.globals))=false:=by rw [I.ok.kind];rfl
 have hiσ:i < σ.length:=by rw [I.len];exact (List.getElem?_eq_some_iff.mp hi).1
 have cne:=I.cne
 have tracked:∀ {a:Addr} {h':Heap},(∃ o,s.heap.get? a=some o/\H a=none)->Heap.SameBut a s.heap h'->HOk X.prog X.w H h':=fun {a h'} ha hs b ob e=>by
  obtain ⟨_,_,hfree⟩:=ha
  refine (I.hok b ob e).stay (fun c w' hc q=>(hs.2 c ?_).trans q) (fun _ q=>q) fun _ _ q=>q
  rintro rfl
  rcases hc with rfl|hc
  ·rw [hfree] at e;cases e
  ·rw [hfree] at hc;cases hc
 rcases hx with hk|hk
 ·refine wpAny_storeName_local hk hn (fun h' hn' hs=>?_) hcls
  obtain ⟨oL,_,_,hoL,_⟩:=id hn
  refine h _ ⟨I.ok,I.os,I.bare,⟨fun b o e n hb hx=>?_,fun b o e n hb hx=>?_,I.base.free,fun b o e hx=>?_,I.base.tups,I.base.frzs,I.base.tbls⟩,⟨_,hn',fun j y v' e1 e2 e3=>?_⟩,fun y c e=>?_,I.free,I.freeC,fun p hp=>?_,tracked ⟨oL,hoL,I.free⟩ hs,by simpa using I.len,Nat.succ_pos _⟩ ⟨_,hs,.inl rfl⟩
  ·exact (hs.2 b (Nat.ne_of_lt (Nat.lt_of_lt_of_le (Heap.lt_size e) I.ok.above))).trans (I.base.keep b o e n hb hx)
  ·obtain ⟨sl,e1⟩:=I.base.slot b o e n hb hx
   exact ⟨sl,(hs.2 b (Nat.ne_of_lt (Nat.lt_of_lt_of_le (Heap.lt_size e) I.ok.above))).trans e1⟩
  ·obtain ⟨o',e1⟩:=I.base.there b o e hx
   exact ⟨o',(hs.2 b (Nat.ne_of_lt (Nat.lt_of_lt_of_le (Heap.lt_size e) I.ok.above))).trans e1⟩
  ·by_cases hj:j=i
   ·subst hj
    rw [hi] at e1;cases e1
    rw [List.getElem?_set_self hiσ] at e2
    cases e2
    exact ⟨u,r,.inl ⟨hk,by simp⟩⟩
   ·rw [List.getElem?_set_ne (Ne.symm hj)] at e2
    obtain ⟨u',r',q⟩:=hl j y v' e1 e2 e3
    refine ⟨u',r',?_⟩
    rcases q with ⟨k,e⟩|⟨k,c,e,z⟩
    ·refine .inl ⟨k,?_⟩
     have:y ≠ x:=fun e=>hj (z9M hN e1 (e ▸ hi))
     simp [this,e]
    ·exact .inr ⟨k,c,e,z.sameBut hs (cne y c e)⟩
  ·obtain ⟨w',z⟩:=I.cell y c e
   exact ⟨w',z.sameBut hs (cne y c e)⟩
  ·obtain ⟨e,n,ne,nf,d⟩:=I.pin p hp
   exact ⟨(hs.2 p.1 ne).trans e,n,ne,nf,d⟩
 ·have hfn:X.fn x=true:=by
   rcases hf with z|z
   ·exact z
   ·rw [z] at hk;cases hk
  obtain ⟨c,hc⟩:=I.ok.has x (.inl hk)
  obtain ⟨w',z⟩:=I.cell x c hc
  refine wpAny_storeName_cell I.ok.kind hk hc z (fun h' hc' hs=>?_)
  obtain ⟨oc,hoc,hocd⟩:=id z
  refine h { s with heap:=h' } ⟨I.ok,I.os,I.bare,⟨fun b o e n hb hx=>?_,fun b o e n hb hx=>?_,I.base.free,fun b o e hx=>?_,I.base.tups,I.base.frzs,I.base.tbls⟩,⟨m,hn.sameBut hs (Ne.symm (cne x c hc)),fun j y v' e1 e2 e3=>?_⟩,fun y c' e=>?_,I.free,I.freeC,fun p hp=>?_,tracked ⟨oc,hoc,I.freeC x c hc⟩ hs,by simpa using I.len,I.tk⟩ ⟨c,hs,.inr hc⟩
  ·exact (hs.2 b (Nat.ne_of_lt (Nat.lt_of_lt_of_le (Heap.lt_size e) (I.ok.cab x c hfn hc)))).trans (I.base.keep b o e n hb hx)
  ·obtain ⟨sl,e1⟩:=I.base.slot b o e n hb hx
   exact ⟨sl,(hs.2 b (Nat.ne_of_lt (Nat.lt_of_lt_of_le (Heap.lt_size e) (I.ok.cab x c hfn hc)))).trans e1⟩
  ·obtain ⟨o',e1⟩:=I.base.there b o e hx
   exact ⟨o',(hs.2 b (Nat.ne_of_lt (Nat.lt_of_lt_of_le (Heap.lt_size e) (I.ok.cab x c hfn hc)))).trans e1⟩
  ·by_cases hj:j=i
   ·subst hj
    rw [hi] at e1;cases e1
    rw [List.getElem?_set_self hiσ] at e2
    cases e2
    exact ⟨u,r,.inr ⟨.inl hk,c,hc,hc'⟩⟩
   ·rw [List.getElem?_set_ne (Ne.symm hj)] at e2
    obtain ⟨u',r',q⟩:=hl j y v' e1 e2 e3
    refine ⟨u',r',?_⟩
    rcases q with q|⟨k,c',e,z'⟩
    ·exact .inl q
    ·refine .inr ⟨k,c',e,z'.sameBut hs ?_⟩
     rintro rfl
     exact hj (z9M hN e1 (I.ok.inj _ _ _ e hc ▸ hi))
  ·by_cases hcc:c'=c
   ·subst hcc;exact ⟨_,hc'⟩
   ·obtain ⟨w2,z2⟩:=I.cell y c' e
    exact ⟨w2,z2.sameBut hs hcc⟩
  ·obtain ⟨e,n,ne,nf,d⟩:=I.pin p hp
   refine ⟨(hs.2 p.1 ?_).trans e,n,ne,nf,d⟩
   intro q
   rw [q,hoc] at e
   have q':oc=p.2:=Option.some.inj e
   exact d w' (by rw [<- q'];exact hocd)
theorem z4x {M:Model} {A:Around} {E:Value->Shared->Prop} {i:Nat} {x:Str} {v:V} {u:Value} {Q:Unit->Shared->Prop} (I:Inv X pins σ H s) (hN:X.N.Nodup) (hi:X.N[i]?=some x) (hx:Loc X.env.scope x) (r:RelV v u)
  (h:∀ s',Inv X pins (σ.set i (some v)) H s'->Q () s') (hf:X.fn x=true \/ X.env.scope.names.lookup x=some .local:=by first|exact .inl rfl|exact .inr rfl|assumption):wpAny M A (storeName X.env x u) Q E s:=
 z7R I hN hi hx r (fun s' I' _=>h s' I') hf
theorem Inv.call' {s':Shared} {ch:List Addr} (I:Inv X pins σ H s) (ho:s'.os=s.os) (u:Un (frs X.stack) ch H H' s.heap s'.heap) (hok:HOk X.prog X.w H' s'.heap) (hg:AllBare s'.gens)
  (hch:∀ b ∈ ch,(b ∈ X.ex \/ X.s₀.heap.objs.size <= b)/\b ≠ X.env.locals/\(∀ x c,X.env.cells.lookup x=some c->c ≠ b)/\∀ p ∈ X.pn ++ pins,p.1 ≠ b) (ht:0 < s'.toks:=by first|exact Nat.succ_pos _|exact Inv.tk ‹_›|assumption|omega):Inv X pins σ H' s':=by
 obtain ⟨h',g',d',t',o'⟩:=s'
 have e:o'=s.os:=ho
 subst e
 exact I.call (g':=g') (t':=t') (d':=d') u hok hg hch
end
abbrev XK:=Value->Option Addr->Hp->Prop
abbrev St:=List (Option V)
abbrev VK:=V->Hp->Prop
abbrev TE:=St->Hp->VK->Prop
abbrev TT:=St->Hp->(Bool->Hp->Prop)->Prop
abbrev TA:=St->Hp->(List V->Hp->Prop)->Prop
structure zcu where
 nx:St->Hp->Prop
 rt:VK
 bk:St->Hp->Prop:=fun _ _=>False
 ct:St->Hp->Prop:=fun _ _=>False
abbrev TS:=zcu->St->Hp->Prop
def EP (X:Cx) (pins:List (Addr × Obj)) (σ:St) (Q:VK) (u:Value) (s':Shared):Prop:=∃ v H',Inv X pins σ H' s'/\RelV v u/\Q v H'
def TP (X:Cx) (pins:List (Addr × Obj)) (σ:St) (Q:Bool->Hp->Prop) (b:Bool) (s':Shared):Prop:=∃ H',Inv X pins σ H' s'/\Q b H'
def AP (X:Cx) (pins:List (Addr × Obj)) (σ:St) (Q:List V->Hp->Prop) (us:List Value) (s':Shared):Prop:=∃ vs H',Inv X pins σ H' s'/\Vals vs us/\Q vs H'
def SP (X:Cx) (pins:List (Addr × Obj)) (D:zcu) (f:Flow) (s':Shared):Prop:=
 match f with
 | .next=>∃ σ' H',Inv X pins σ' H' s'/\D.nx σ' H'
 | .brk=>∃ σ' H',Inv X pins σ' H' s'/\D.bk σ' H'
 | .cont=>∃ σ' H',Inv X pins σ' H' s'/\D.ct σ' H'
 | .ret u=>∃ v σ' H',Inv X pins σ' H' s'/\RelV v u/\D.rt v H'
def PE (X:Cx) (e:Expr) (t:TE):Prop:=
 ∀ (pins:List (Addr × Obj)) (s:Shared) (σ:St) (H:Hp) (Q:VK),Inv X pins σ H s->t σ H Q->wpAny (model X.prog X.w) X.A (eval e X.env) (EP X pins σ Q) X.xe s
def PT (X:Cx) (e:Expr) (t:TT):Prop:=
 ∀ (pins:List (Addr × Obj)) (s:Shared) (σ:St) (H:Hp) (Q:Bool->Hp->Prop),Inv X pins σ H s->t σ H Q->wpAny (model X.prog X.w) X.A (isTrue e X.env (eval e X.env)) (TP X pins σ Q) X.xe s
def PW (X:Cx) (e:Expr) (t:TT):Prop:=
 ∀ (whole:Sem Value) (pins:List (Addr × Obj)) (s:Shared) (σ:St) (H:Hp) (Q:Bool->Hp->Prop),Inv X pins σ H s->t σ H Q->wpAny (model X.prog X.w) X.A (isTrue e X.env whole) (TP X pins σ Q) X.xe s
theorem PW.pt {X:Cx} {e:Expr} {t:TT} (h:PW X e t):PT X e t:=h _
def PA (X:Cx) (es:List Expr) (t:TA):Prop:=
 ∀ (pos:Pos) (pins:List (Addr × Obj)) (s:Shared) (σ:St) (H:Hp) (Q:List V->Hp->Prop),Inv X pins σ H s->t σ H Q->wpAny (model X.prog X.w) X.A (spliced (backTo pos (starEach es X.env))) (AP X pins σ Q) X.xe s
def PS (X:Cx) (st:Stmt) (t:TS):Prop:=
 ∀ (pins:List (Addr × Obj)) (s:Shared) (σ:St) (H:Hp) (D:zcu),Inv X pins σ H s->t D σ H->wpAny (model X.prog X.w) X.A (exec st X.env) (SP X pins D) X.xe s
def PSs (X:Cx) (st:List Stmt) (t:TS):Prop:=
 ∀ (pins:List (Addr × Obj)) (s:Shared) (σ:St) (H:Hp) (D:zcu),Inv X pins σ H s->t D σ H->wpAny (model X.prog X.w) X.A (execs st X.env) (SP X pins D) X.xe s
theorem thn {α:Type} {t:Sem α} {Q Q':α->Shared->Prop} {M:Model} {A:Around} {E:Value->Shared->Prop} {s:Shared} (h:wpAny M A t Q E s) (hQ:∀ a s,Q a s->Q' a s):wpAny M A t Q' E s:=wpAny_mono h hQ fun _ _ x=>x
section
variable {X:Cx}
theorem bin {a b:Expr} {ta tb:TE} (ha:PE X a ta) (hb:PE X b tb) {pins:List (Addr × Obj)} {s:Shared} {σ:St} {H:Hp} {R:V->V->Hp->Prop} (I:Inv X pins σ H s) (h:ta σ H fun x H1=>tb σ H1 fun y H2=>R x y H2)
  {α:Type} {Q:α->Shared->Prop} {f:Value->Value->Sem α}
  (hf:∀ v u s2 x y H2,Inv X pins σ H2 s2->RelV x v->RelV y u->R x y H2->wpAny (model X.prog X.w) X.A (f v u) Q X.xe s2):
  wpAny (model X.prog X.w) X.A (eval a X.env) (fun v s₁=>wpAny (model X.prog X.w) X.A (eval b X.env) (fun u s₂=>wpAny (model X.prog X.w) X.A (f v u) Q X.xe s₂) X.xe s₁) X.xe s:=by
 refine thn (ha pins s σ H _ I h) fun v s1 ⟨x,H1,I1,r1,q1⟩=>?_
 refine thn (hb pins s1 σ H1 _ I1 q1) fun u s2 ⟨y,H2,I2,r2,q2⟩=>?_
 exact hf v u s2 x y H2 I2 r1 r2 q2
def zkJ (i:Nat):TE:=fun σ H Q=>∃ v,σ[i]?=some (some v)/\Q v H
def tC (v:V):TE:=fun _ H Q=>Q v H
theorem ziJ {i:Nat} {x:Str} {pos:Pos} (hN:X.N[i]?=some x) (hv:Vis X.env.scope x) (hd:(x == ("__debug__":Str))=false:=by decide) (hcd:(x == ("__classdict__":Str))=false:=by decide):PE X (.Name x pos) (zkJ i):=by
 intro pins s σ H Q I h
 obtain ⟨v,e,h⟩:=h
 obtain ⟨m,hn,hl⟩:=I.loc
 obtain ⟨u,r,l⟩:=hl i x v hN e hv
 have fin:EP X pins σ Q u s:=⟨v,H,I,r,h⟩
 rcases l with ⟨hk,hm⟩|⟨hk,c,hc,hcell⟩
 ·exact wpAny_Name (wpAny_loadName_local I.ok.kind hk hn hm fin) hd
 ·rcases hk with hk|hk
  ·exact wpAny_Name (wpAny_loadName_cell I.ok.kind hk hc hcell fin) hd
  ·exact wpAny_Name (wpAny_loadName_free I.ok.kind hk hc hcell fin hcd) hd
theorem zeH {i j pos}:PE X (.Constant (.int i) j pos) (tC (.int i)):=fun _ _ _ H _ I h=>wpAny_Constant_int ⟨.int i,H,I.tok _,⟨_,rfl⟩,h⟩
theorem zjz {b j pos}:PE X (.Constant (.bool b) j pos) (tC (.bl b)):=fun _ _ _ H _ I h=>Constant_bool ⟨.bl b,H,I,rfl,h⟩
theorem zeE {j pos}:PE X (.Constant .none j pos) (tC .non):=fun _ _ _ H _ I h=>Constant_none ⟨.non,H,I,rfl,h⟩
theorem zeC {x j pos}:PE X (.Constant (.str x) j pos) (tC (.str x)):=fun _ _ _ H _ I h=>Calls.Constant_str ⟨.str x,H,I.tok _,⟨_,rfl⟩,h⟩
def Gl (X:Cx) (x:Str):Prop:=X.env.kindOf x=some .globalImplicit
theorem zb3 {E:Value->Shared->Prop} {pins:List (Addr × Obj)} {s:Shared} {σ:St} {H:Hp} {x:Str} {u:Value} {pos:Pos} {Q:Value->Shared->Prop} (I:Inv X pins σ H s) (hg:Gl X x) (hm:X.mg x=some u) (h:Q u s)
  (hd:(x == ("__debug__":Str))=false:=by decide):wpAny (model X.prog X.w) X.A (eval (.Name x pos) X.env) Q E s:=
 Calls.Name_function_global I.ok.kind hg (Calls.loadGlobal_global (by rw [I.ok.glob];exact I.mod.glob.keeps I.bk) hm h) hd
theorem z5N {E:Value->Shared->Prop} {pins:List (Addr × Obj)} {s:Shared} {σ:St} {H:Hp} {x:Str} {u:Value} {pos:Pos} {Q:Value->Shared->Prop} (I:Inv X pins σ H s) (hg:Gl X x) (hm:X.mg x=none) (hv:bootBuiltins x=some u) (h:Q u s)
  (hn:x ≠ "__name__":=by decide) (hd:(x == ("__debug__":Str))=false:=by decide):wpAny (model X.prog X.w) X.A (eval (.Name x pos) X.env) Q E s:=by
 obtain ⟨mb,h1,h2⟩:=I.mod.blt
 exact Calls.Name_function_global I.ok.kind hg (Calls.loadGlobal_builtin (by rw [I.ok.glob];exact I.mod.glob.keeps I.bk) hm (by rw [I.ok.blt];exact h1.keeps I.bk) ((h2 x hn).trans hv) h) hd
theorem z8c {x:Str} {v:V} {u:Value} {pos:Pos} (hg:Gl X x) (hm:X.mg x=some u) (r:RelV v u) (hd:(x == ("__debug__":Str))=false:=by decide):PE X (.Name x pos) (tC v):=
 fun _ _ _ H _ I h=>zb3 I hg hm ⟨v,H,I,r,h⟩ hd
theorem z93 {x:Str} {v:V} {u:Value} {pos:Pos} (hg:Gl X x) (hm:X.mg x=none) (hv:bootBuiltins x=some u) (r:RelV v u) (hn:x ≠ "__name__":=by decide) (hd:(x == ("__debug__":Str))=false:=by decide):PE X (.Name x pos) (tC v):=
 fun _ _ _ H _ I h=>z5N I hg hm hv ⟨v,H,I,r,h⟩ hn hd
variable {a b:Expr} {ta tb:TE} {pos:Pos}
def PC (X:Cx) (op:CmpOp) (a b:Expr) (t:TE):Prop:=
 ∀ (pins:List (Addr × Obj)) (s:Shared) (σ:St) (H:Hp) (Q:VK),Inv X pins σ H s->t σ H Q->
  wpAny (model X.prog X.w) X.A (eval a X.env) (fun v s₁=>wpAny (model X.prog X.w) X.A (eval b X.env) (fun u s₂=>wpAny (model X.prog X.w) X.A (compareOp op v u) (EP X pins σ Q) X.xe s₂) X.xe s₁) X.xe s
theorem z9r (b:Expr) {op:CmpOp} (h:op ≠ .In) (h2:op ≠ .NotIn):behindInMarks op b=false:=by
 have e1:(op == CmpOp.In)=false:=by cases op <;> first|rfl|exact absurd rfl h
 have e2:(op == CmpOp.NotIn)=false:=by cases op <;> first|rfl|exact absurd rfl h2
 cases b <;> simp [behindInMarks,e1,e2]
def tB (t:TE):TT:=fun σ H Q=>t σ H fun x H1=>∃ c,x=.bl c/\Q c H1
theorem ziP {op:CmpOp} {t:TE} (h:PC X op a b t) (h1:behindInMarks op b=false:=by first|exact z9r _ (by decide) (by decide)|rfl):PE X (.Compare a [op] [b] pos) t:=fun pins s σ H Q I hw=>wpAny_Compare1 (h pins s σ H Q I hw) h1
theorem zhN {op:CmpOp} {t:TE} (h:PC X op a b t) (h1:behindInMarks op b=false:=by first|exact z9r _ (by decide) (by decide)|rfl):PT X (.Compare a [op] [b] pos) (tB t):=by
 intro pins s σ H Q I hw
 refine wpAny_isTrue_Compare1 (thn (h pins s σ H _ I hw) fun v s1 h1=>thn h1 fun u s2 h2=>thn h2 fun c s3 ⟨x,H1,I1,r1,q1⟩=>?_) h1
 obtain ⟨d,rfl,q⟩:=q1
 cases r1
 exact wpAny_truthy_bool ⟨H1,I1,q⟩
variable {tA tB':TT} {rest:List Expr}
def zkl (t u:TT):TT:=fun σ H Q=>t σ H fun c H1=>if c=true then u σ H1 Q else Q false H1
def tOr (t u:TT):TT:=fun σ H Q=>t σ H fun c H1=>if c=true then Q true H1 else u σ H1 Q
def zkm (t:TT):TT:=fun σ H Q=>t σ H fun c H1=>Q (!c) H1
theorem zfF (ha:PT X a tA):PW X (.BoolOp .And [a] pos) tA:=by
 intro wh pins s σ H Q I h
 refine isTrue_and (thn (ha pins s σ H Q I h) fun c s1 e=>?_)
 cases c with
 | true=>exact isTrue_and_nil e
 | false=>exact e
theorem zhJ (ha:PT X a tA):PW X (.BoolOp .Or [a] pos) tA:=by
 intro wh pins s σ H Q I h
 refine isTrue_or (thn (ha pins s σ H Q I h) fun c s1 e=>?_)
 cases c with
 | false=>exact isTrue_or_nil e
 | true=>exact e
theorem zh6 (ha:PT X a tA) (hb:PW X (.BoolOp .And (b :: rest) pos) tB'):PW X (.BoolOp .And (a :: b :: rest) pos) (zkl tA tB'):=by
 intro wh pins s σ H Q I h
 refine isTrue_and (thn (ha pins s σ H _ I h) fun c s1 ⟨H1,I1,q1⟩=>?_)
 cases c with
 | true=>exact hb wh pins s1 σ H1 Q I1 q1
 | false=>exact ⟨H1,I1,q1⟩
theorem zjE (ha:PT X a tA) (hb:PW X (.BoolOp .Or (b :: rest) pos) tB'):PW X (.BoolOp .Or (a :: b :: rest) pos) (tOr tA tB'):=by
 intro wh pins s σ H Q I h
 refine isTrue_or (thn (ha pins s σ H _ I h) fun c s1 ⟨H1,I1,q1⟩=>?_)
 cases c with
 | true=>exact ⟨H1,I1,q1⟩
 | false=>exact hb wh pins s1 σ H1 Q I1 q1
theorem ziy (ha:PT X a tA):PT X (.UnaryOp .Not a pos) (zkm tA):=by
 intro pins s σ H Q I h
 exact isTrue_not (ha pins s σ H (fun c H1=>Q (!c) H1) I h)
def zjt (ta tb:TE):TE:=fun σ H Q=>ta σ H fun x H1=>∃ c,x=.bl c/\if c=true then tb σ H1 Q else Q (.bl false) H1
def zkr (ta tb:TE):TE:=fun σ H Q=>ta σ H fun x H1=>∃ c,x=.bl c/\if c=true then Q (.bl true) H1 else tb σ H1 Q
def zjO (ta:TE):TE:=fun σ H Q=>ta σ H fun x H1=>∃ c,x=.bl c/\Q (.bl (!c)) H1
theorem ziN {op} {t:TE} (h:PE X a t):PE X (.BoolOp op [a] pos) t:=fun pins s σ H Q I hw=>BoolOp_one (h pins s σ H Q I hw)
theorem zhs (ha:PE X a ta) (hb:PE X (.BoolOp .And (b :: rest) pos) tb):PE X (.BoolOp .And (a :: b :: rest) pos) (zjt ta tb):=by
 intro pins s σ H Q I h
 refine BoolOp_and (thn (ha pins s σ H _ I h) fun v s1 ⟨x,H1,I1,r1,q1⟩=>?_)
 obtain ⟨c,rfl,q1⟩:=q1
 cases r1
 refine wpAny_truthy_bool ?_
 cases c with
 | true=>exact hb pins s1 σ H1 Q I1 q1
 | false=>exact ⟨.bl false,H1,I1,rfl,q1⟩
theorem zjF (ha:PE X a ta) (hb:PE X (.BoolOp .Or (b :: rest) pos) tb):PE X (.BoolOp .Or (a :: b :: rest) pos) (zkr ta tb):=by
 intro pins s σ H Q I h
 refine BoolOp_or (thn (ha pins s σ H _ I h) fun v s1 ⟨x,H1,I1,r1,q1⟩=>?_)
 obtain ⟨c,rfl,q1⟩:=q1
 cases r1
 refine wpAny_truthy_bool ?_
 cases c with
 | false=>exact hb pins s1 σ H1 Q I1 q1
 | true=>exact ⟨.bl true,H1,I1,rfl,q1⟩
theorem zgW (ha:PE X a ta):PE X (.UnaryOp .Not a pos) (zjO ta):=by
 intro pins s σ H Q I h
 refine UnaryOp_ (thn (ha pins s σ H _ I h) fun v s1 ⟨x,H1,I1,r1,q1⟩=>?_)
 obtain ⟨c,rfl,q1⟩:=q1
 cases r1
 exact not_of (wpAny_truthy_bool ⟨.bl (!c),H1,I1,rfl,q1⟩)
end
def SqL (K:PySem.W.Frag) (H:Hp) (a:Addr) (xs:List V):Prop:=
 Rd H a (.lst xs) \/
  ∃ (o:Obj) (its:Array Value) (n:Nat),K.lookup a=some o/\o.cls=.type "list"/\o.dict=none/\o.data=.seq its n/\its.size <= sizeLine/\Vals xs its.toList
def SqT (K:PySem.W.Frag) (H:Hp) (a:Addr) (xs:List V):Prop:=
 Rd H a (.tup xs) \/
  ∃ (o:Obj) (its:Array Value) (n:Nat),K.lookup a=some o/\o.cls=.type "tuple"/\o.data=.seq its n/\its.size <= sizeLine/\Vals xs its.toList
def zky:Value->Option V
 | .none=>some .non
 | .bool b=>some (.bl b)
 | .int i _=>some (.int i)
 | .str x _=>some (.str x)
 | .bytes b _=>some (.byt b)
 | .float b _=>some (.flt b)
 | .ref a=>some (.ref a)
 | .type n=>some (.ty n)
 | _=>none
theorem RelV.abs {x:V} {u:Value} (r:RelV x u):zky u=some x:=by
 cases x with
 | non=>cases r;rfl
 | bl _=>cases r;rfl
 | int _=>obtain ⟨t,rfl⟩:=r;rfl
 | str _=>obtain ⟨t,rfl⟩:=r;rfl
 | byt _=>obtain ⟨t,rfl⟩:=r;rfl
 | flt _=>obtain ⟨t,rfl⟩:=r;rfl
 | ref _=>cases r;rfl
 | ty _=>cases r;rfl
theorem RelV.inj {x y:V} {u:Value} (r:RelV x u) (q:RelV y u):x=y:=Option.some.inj (r.abs.symm.trans q.abs)
theorem Vals.inj:∀ {xs ys:List V} {us:List Value},Vals xs us->Vals ys us->xs=ys
 | _,_,_,.nil,.nil=>rfl
 | _,_,_,.cons r t,.cons r' t'=>by rw [r.inj r',Vals.inj t t']
section
variable {X:Cx} {pins:List (Addr × Obj)} {σ:St} {H:Hp} {s:Shared} {a:Addr} {xs ys:List V}
theorem SqL.of {K:PySem.W.Frag} (h:H a=some (.lst xs)):SqL K H a xs:=.inl (.inl h)
theorem SqT.of {K:PySem.W.Frag} (h:H a=some (.tup xs)):SqT K H a xs:=.inl (.inl h)
theorem Inv.list (I:Inv X pins σ H s) (h:SqL X.K H a xs):∃ its:List Value,Vals xs its/\PlainL s.heap a its.toArray/\xs.length <= sizeLine:=by
 rcases h with h|⟨o,its,n,hk,hc,hd,hs,hz,r⟩
 ·obtain ⟨z,its,n,r,e⟩:=h.ok I.hok
  exact ⟨its,r,⟨_,n,e,rfl,rfl,rfl⟩,z⟩
 ·refine ⟨its.toList,r,⟨o,n,I.kIn a o hk,hc,hd,by simpa using hs⟩,?_⟩
  have e:=r.length
  simp only [Array.length_toList] at e
  omega
theorem Inv.tuple (I:Inv X pins σ H s) (h:SqT X.K H a xs):∃ its:List Value,Vals xs its/\IsTup s.heap a its.toArray/\xs.length <= sizeLine:=by
 rcases h with h|⟨o,its,n,hk,hc,hs,hz,r⟩
 ·obtain ⟨z,its,r,p⟩:=h.ok I.hok
  exact ⟨its,r,p,z⟩
 ·refine ⟨its.toList,r,⟨o,I.kIn a o hk,hc,n,by simpa using hs⟩,?_⟩
  have e:=r.length
  simp only [Array.length_toList] at e
  omega
theorem Inv.list_inj (I:Inv X pins σ H s) (h:SqL X.K H a xs) (h':SqL X.K H a ys):xs=ys:=by
 obtain ⟨its,r,⟨o,n,e,_,_,d⟩,_⟩:=I.list h
 obtain ⟨its',r',⟨o',n',e',_,_,d'⟩,_⟩:=I.list h'
 rw [e] at e';cases e'
 rw [d] at d'
 injection d' with d1 _
 have:its=its':=by simpa using congrArg Array.toList d1
 subst this
 exact r.inj r'
theorem Inv.tuple_inj (I:Inv X pins σ H s) (h:SqT X.K H a xs) (h':SqT X.K H a ys):xs=ys:=by
 obtain ⟨its,r,⟨o,e,_,n,d⟩,_⟩:=I.tuple h
 obtain ⟨its',r',⟨o',e',_,n',d'⟩,_⟩:=I.tuple h'
 rw [e] at e';cases e'
 rw [d] at d'
 injection d' with d1 _
 have:its=its':=by simpa using congrArg Array.toList d1
 subst this
 exact r.inj r'
end
abbrev Cx.wish (X:Cx) (E:Value->Shared->Prop):Cx:={ X with xe:=E }
abbrev Cx.nox (X:Cx):Cx:=X.wish fun _ _=>False
theorem Cx.Ok.wish {X:Cx} (ok:X.Ok) (E:Value->Shared->Prop):(X.wish E).Ok:=
 ⟨ok.mod,ok.kind,ok.glob,ok.blt,ok.above,ok.inj,ok.has,ok.cab,ok.hd,ok.frames,ok.stk,ok.exf,ok.bs,ok.bsz,ok.noex,ok.exfs,ok.funs,ok.frf⟩
theorem Cx.Ok.unwish {X:Cx} {E:Value->Shared->Prop} (ok:(X.wish E).Ok):X.Ok:=
 ⟨ok.mod,ok.kind,ok.glob,ok.blt,ok.above,ok.inj,ok.has,ok.cab,ok.hd,ok.frames,ok.stk,ok.exf,ok.bs,ok.bsz,ok.noex,ok.exfs,ok.funs,ok.frf⟩
section
variable {X:Cx} {pins:List (Addr × Obj)} {σ:St} {H:Hp} {s:Shared} {E:Value->Shared->Prop}
theorem Inv.wish (I:Inv X pins σ H s) (E:Value->Shared->Prop):Inv (X.wish E) pins σ H s:=⟨I.ok.wish E,I.os,I.bare,I.base,I.loc,I.cell,I.free,I.freeC,I.pin,I.hok,I.len,I.tk⟩
theorem Inv.unwish (I:Inv (X.wish E) pins σ H s):Inv X pins σ H s:=⟨I.ok.unwish,I.os,I.bare,I.base,I.loc,I.cell,I.free,I.freeC,I.pin,I.hok,I.len,I.tk⟩
theorem SP.unwish {D:zcu} {f:Flow} {s':Shared} (h:SP (X.wish E) pins D f s'):SP X pins D f s':=by
 cases f with
 | next=>obtain ⟨σ',H',I,q⟩:=h;exact ⟨σ',H',I.unwish,q⟩
 | brk=>obtain ⟨σ',H',I,q⟩:=h;exact ⟨σ',H',I.unwish,q⟩
 | cont=>obtain ⟨σ',H',I,q⟩:=h;exact ⟨σ',H',I.unwish,q⟩
 | ret u=>obtain ⟨v,σ',H',I,r,q⟩:=h;exact ⟨v,σ',H',I.unwish,r,q⟩
theorem PSs.nox {st:List Stmt} {t:TS} (h:PSs X.nox st t):PSs X st t:=fun pins s σ H D I hw=>
 wpAny_mono (h pins s σ H D (I.wish _) hw) (fun _ _ q=>q.unwish) fun _ _ z=>False.elim z
end
section
variable {X:Cx} {st:Stmt} {rest:List Stmt} {t u:TS} {e:Expr} {te:TE} {pos:Pos}
def zhU:TS:=fun D σ H=>D.nx σ H
def zkn (t u:TS):TS:=fun D σ H=>t { D with nx:=u D } σ H
theorem zgd:PSs X [] zhU:=fun _ _ σ H _ I h=>wpAny_execs_nil ⟨σ,H,I,h⟩
theorem zdy (h1:PS X st t) (h2:PSs X rest u):PSs X (st :: rest) (zkn t u):=by
 intro pins s σ H D I h
 refine wpAny_execs_cons (thn (h1 pins s σ H { D with nx:=u D } I h) fun f s1 q=>?_)
 cases f with
 | next=>
  obtain ⟨σ',H',I',q⟩:=q
  exact h2 pins s1 σ' H' D I' q
 | ret v=>exact q
 | brk=>exact q
 | cont=>exact q
theorem zg7 (h1:PS X st t):PSs X [st] t:=by
 intro pins s σ H D I h
 refine wpAny_execs_cons (thn (h1 pins s σ H D I h) fun f s1 q=>?_)
 cases f with
 | next=>exact wpAny_execs_nil q
 | ret v=>exact q
 | brk=>exact q
 | cont=>exact q
theorem zgg:PS X (.Pass pos) zhU:=fun _ _ σ H _ I h=>wpAny_Pass ⟨σ,H,I,h⟩
theorem Inv.quiet {pins:List (Addr × Obj)} {σ:St} {H:Hp} {s:Shared} (I:Inv X pins σ H s):interactive X.env=false:=by simp [interactive,I.ok.kind]
def zj8 (te:TE):TS:=fun D σ H=>te σ H fun _ H1=>D.nx σ H1
theorem zeV (he:PE X e te) (hs:swapsWith e none pos.line X.env=pure false:=by rfl):PS X (.Expr e pos) (zj8 te):=by
 intro pins s σ H D I h
 exact wpAny_Expr_any (thn (he pins s σ H _ I h) fun v s1 ⟨x,H1,I1,r1,q1⟩=>⟨σ,H1,I1,q1⟩) I.quiet hs
def zkM (te:TE):TS:=fun D σ H=>te σ H D.rt
theorem zhT (he:PE X e te):PS X (.Return (some e) pos) (zkM te):=by
 intro pins s σ H D I h
 exact wpAny_Return_some (thn (he pins s σ H _ I h) fun v s1 ⟨x,H1,I1,r1,q1⟩=>⟨x,σ,H1,I1,r1,q1⟩)
def zkG (c:TT) (t u:TS):TS:=fun D σ H=>c σ H fun b H1=>if b=true then t D σ H1 else u D σ H1
theorem zjK {c:Expr} {a b:List Stmt} {tc:TT} (hc:PT X c tc) (ha:PSs X a t) (hb:PSs X b u):PS X (.If c a b pos) (zkG tc t u):=by
 intro pins s σ H D I h
 refine wpAny_If (thn (hc pins s σ H _ I h) fun d s1 ⟨H1,I1,q1⟩=>?_)
 cases d with
 | true=>exact ha pins s1 σ H1 D I1 q1
 | false=>exact hb pins s1 σ H1 D I1 q1
def zhO:TS:=fun _ _ _=>False
theorem zcA {sts:List Stmt}:PSs X sts zhO:=fun _ _ _ _ _ _ h=>h.elim
end
abbrev TG:=V->St->Hp->(St->Hp->Prop)->Prop
abbrev TGs:=List V->St->Hp->(St->Hp->Prop)->Prop
def PG (X:Cx) (target:Expr) (t:TG):Prop:=
 ∀ (pins:List (Addr × Obj)) (s:Shared) (σ:St) (H:Hp) (v:V) (u:Value) (Q:St->Hp->Prop),Inv X pins σ H s->RelV v u->t v σ H Q->
  wpAny (model X.prog X.w) X.A (assign target X.env u) (fun _ s'=>∃ σ' H',Inv X pins σ' H' s'/\Q σ' H') X.xe s
def PGs (X:Cx) (ts:List Expr) (t:TGs):Prop:=
 ∀ (pins:List (Addr × Obj)) (s:Shared) (σ:St) (H:Hp) (vs:List V) (us:List Value) (Q:St->Hp->Prop),Inv X pins σ H s->Vals vs us->t vs σ H Q->
  wpAny (model X.prog X.w) X.A (assignInOrder ((assignEach ts X.env).map (·.2)) us) (fun _ s'=>∃ σ' H',Inv X pins σ' H' s'/\Q σ' H') X.xe s
abbrev zjL:=V->V->V->Hp->(Hp->Prop)->Prop
def zjX (X:Cx) (t:zjL):Prop:=
 ∀ (pins:List (Addr × Obj)) (s:Shared) (σ:St) (H:Hp) (o i v:V) (ov iv u:Value) (Q:Hp->Prop),Inv X pins σ H s->RelV o ov->RelV i iv->RelV v u->t o i v H Q->
  wpAny (model X.prog X.w) X.A (setItem ov iv u) (fun _ s'=>∃ H',Inv X pins σ H' s'/\Q H') X.xe s
section
variable {X:Cx} {pos:Pos}
def z4V (i:Nat):TG:=fun v σ H Q=>Q (σ.set i (some v)) H
theorem z3I {i:Nat} {x:Str} (hN:X.N.Nodup) (hi:X.N[i]?=some x) (hx:Loc X.env.scope x) (hf:X.fn x=true \/ X.env.scope.names.lookup x=some .local:=by first|exact .inl rfl|exact .inr rfl|assumption):PG X (.Name x pos) (z4V i):=by
 intro pins s σ H v u Q I r h
 exact wpAny_assign_Name (z4x I hN hi hx r (fun s' I'=>⟨_,H,I',h⟩) hf)
def ziV:TGs:=fun vs σ H Q=>vs=[]/\Q σ H
def z6d (t:TG) (u:TGs):TGs:=fun vs σ H Q=>∃ v r,vs=v :: r/\t v σ H fun σ' H'=>u r σ' H' Q
theorem zcv:PGs X [] ziV:=by
 intro pins s σ H vs us Q I r h
 obtain ⟨e,h⟩:=h
 subst e
 cases r
 exact assignInOrder_nil ⟨σ,H,I,h⟩
theorem z3v {e:Expr} {es:List Expr} {t:TG} {u:TGs} (h1:PG X e t) (h2:PGs X es u)
  (hs:(assignEach (e :: es) X.env).map (·.2)=assign e X.env :: (assignEach es X.env).map (·.2):=by rfl):PGs X (e :: es) (z6d t u):=by
 intro pins s σ H vs us Q I r h
 obtain ⟨v,vr,e1,h⟩:=h
 subst e1
 cases r with
 | cons r rr=>
  rw [hs]
  refine assignInOrder_cons (thn (h1 pins s σ H _ _ _ I r h) fun _ s1 ⟨σ1,H1,I1,q1⟩=>?_)
  exact h2 pins s1 σ1 H1 _ _ Q I1 rr q1
def zie (K:PySem.W.Frag) (n:Nat) (t:TGs):TG:=fun v σ H Q=>∃ a xs,v=.ref a/\SqT K H a xs/\xs.length=n/\t xs σ H Q
theorem zes {es:List Expr} {k:Nat} {t:TGs} {n:Nat} (hc:X.calm=true) (h:PGs X es t)
  (hn:(assignEach es X.env).length=n:=by rfl) (hst:(assignEach es X.env).findIdx? (·.1)=none:=by rfl):PG X (.Tuple es k pos) (zie X.K n t):=by
 intro pins s σ H v u Q I r hw
 obtain ⟨a,xs,e1,hq,hl,hw⟩:=hw
 subst e1
 cases r
 obtain ⟨its,rv,ht,hz⟩:=I.tuple hq
 refine assign_Tuple_tuple (I.ok.hd hc) ht (by simp [hn,<- hl,rv.length]) hst fun h' hx=>?_
 have I1:Inv X pins σ H { s with heap:=h' }:=I.kept (t':=s.toks) fun b o e=>hx b o (Nat.ne_of_lt (Heap.lt_size e)) e
 exact h pins _ σ H xs _ Q I1 (by simpa using rv) hw
def zaC (to ti:TE) (t:zjL):TG:=fun v σ H Q=>to σ H fun o H1=>ti σ H1 fun i H2=>t o i v H2 fun H3=>Q σ H3
theorem ziA {o i:Expr} {to ti:TE} {t:zjL} (ho:PE X o to) (hi:PE X i ti) (hs:zjX X t)
  (ha:∀ v,assign (.Subscript o i pos) X.env v=(do
   let ov <- holding [v] (eval o X.env)
   let iv <- holding [v,ov] (eval i X.env)
   standAt pos
   holding [v,ov,iv] (setItem ov iv v)
   release [v,ov,iv] []):=by intro _;rfl):PG X (.Subscript o i pos) (zaC to ti t):=by
 intro pins s σ H v u Q I r h
 rw [ha]
 refine wpAny_bind (wpAny_holding (thn (ho pins s σ H _ I h) fun ov s1 ⟨x,H1,I1,r1,q1⟩=>?_))
 refine wpAny_bind (wpAny_holding (thn (hi pins s1 σ H1 _ I1 q1) fun iv s2 ⟨y,H2,I2,r2,q2⟩=>?_))
 refine wpAny_bind (wpAny_standAt (wpAny_bind (wpAny_holding (thn (hs pins s2 σ H2 x y v ov iv u _ I2 r1 r2 r q2) fun _ s3 ⟨H3,I3,q3⟩=>?_))))
 exact wpAny_release ⟨σ,H3,I3,q3⟩
def zk2 (te:TE) (g:TG):TS:=fun D σ H=>te σ H fun x H1=>g x σ H1 D.nx
theorem zep {tg e:Expr} {te:TE} {g:TG} (he:PE X e te) (hg:PG X tg g) (hs:swapsWithSole [tg] e pos.line X.env=pure false:=by rfl) (hw:swappedStores [tg] e X.env=pure none:=by rfl)
  (h1:(assignEach [tg] X.env).map (·.2)=[assign tg X.env]:=by rfl):PS X (.Assign [tg] e pos) (zk2 te g):=by
 intro pins s σ H D I h
 refine wpAny_Assign_stores (thn (he pins s σ H _ I h) fun v s1 ⟨x,H1,I1,r1,q1⟩=>?_) hs hw
 rw [h1]
 exact thn (hg pins s1 σ H1 x v _ I1 r1 q1) fun _ s2 q=>q
theorem zhk {i:Nat} {x:Str} {e:Expr} {te:TE} {pos':Pos} (hN:X.N.Nodup) (hi:X.N[i]?=some x) (hx:Loc X.env.scope x) (he:PE X e te) (hs:swapsWith e (some (.Name x pos')) pos.line X.env=pure false:=by rfl) (hf:X.fn x=true \/ X.env.scope.names.lookup x=some .local:=by first|exact .inl rfl|exact .inr rfl|assumption):
  PS X (.Assign [.Name x pos'] e pos) (zk2 te (z4V i)):=by
 intro pins s σ H D I h
 refine wpAny_Assign_Name (thn (he pins s σ H _ I h) fun v s1 ⟨y,H1,I1,r1,q1⟩=>?_) hs
 exact z4x I1 hN hi hx r1 (fun s2 I2=>⟨_,H1,I2,q1⟩) hf
def zkH (i j:Nat) (ta:TA):TS:=fun D σ H=>ta σ H fun vs H1=>∃ v w,vs=[v,w]/\D.nx ((σ.set i (some v)).set j (some w)) H1
theorem ziM {i j:Nat} {x y:Str} {a b:Expr} {ta:TA} {px py pt:Pos} {kt k2 pt2} (hc:X.calm=true) (hN:X.N.Nodup) (hi:X.N[i]?=some x) (hj:X.N[j]?=some y) (hij:i ≠ j)
  (hx:X.env.scope.names.lookup x=some .local) (hy:X.env.scope.names.lookup y=some .local) (ha:PA X [a,b] ta)
  (hw:swappedStores [.Tuple [.Name x px,.Name y py] kt pt] (.Tuple [a,b] k2 pt2) X.env=pure (some [x,y]))
  (hs:swapsWithSole [.Tuple [.Name x px,.Name y py] kt pt] (.Tuple [a,b] k2 pt2) pos.line X.env=pure false:=by rfl):
  PS X (.Assign [.Tuple [.Name x px,.Name y py] kt pt] (.Tuple [a,b] k2 pt2) pos) (zkH i j ta):=by
 intro pins s σ H D I h
 rw [exec_Assign_arm]
 refine wpAny_bind (wpAny_standAt ?_)
 rw [hs]
 refine wpAny_bind (wpAny_pure ?_)
 rw [if_neg (by decide)]
 refine wpAny_bind (Tuple_ (thn (ha _ pins s σ H _ I h) fun us s1 ⟨vs,H1,I1,r1,q1⟩=>?_))
 obtain ⟨v,w,e1,q1⟩:=q1
 subst e1
 obtain ⟨u1,u2,rfl,rv,rw'⟩:∃ u1 u2,us=[u1,u2]/\RelV v u1/\RelV w u2:=by
  cases r1 with
  | cons p q=>
   cases q with
   | cons p' q'=>
    cases q'
    exact ⟨_,_,rfl,p,p'⟩
 refine wpAny_newObj_type ?_ (by show 2 <= sizeLine;decide)
 have I2:Inv X pins σ H1 { s1 with heap:=s1.heap.push { cls:=.type "tuple",data:=.seq [u1,u2].toArray } }:=I1.kept (t':=s1.toks) fun b o e=>Heap.get?_push_of_some _ e
 rw [hw]
 refine wpAny_bind (wpAny_pure ?_)
 show wpAny (model X.prog X.w) X.A (do rule "assign.swapped-stores";let items <- unpackItems (.ref s1.heap.objs.size) 2 none;assignInOrder [fun v=>bindName X.env y v,fun v=>bindName X.env x v] items.reverse;pure Flow.next) _ _ _
 refine wpAny_bind (wpAny_rule (wpAny_bind (unpackItems_tuple (items:=#[u1,u2]) (I.ok.hd hc) (IsTup.new s1.heap _) fun h' hx'=>?_)))
 have I3:=I2.kept (h':=h') (t':=s1.toks) fun b o e=>hx' b o (Nat.ne_of_lt (Heap.lt_size e)) e
 show wpAny _ _ (assignInOrder [fun v=>bindName X.env y v,fun v=>bindName X.env x v] [u2,u1] >>= fun _=>pure Flow.next) _ _ _
 refine wpAny_bind (assignInOrder_cons (wpAny_bindName (z4x I3 hN hj (.inl hy) rw' (fun s2 I4=>?_) (.inr hy))))
 refine assignInOrder_cons (wpAny_bindName (z4x I4 hN hi (.inl hx) rv (fun s3 I5=>assignInOrder_nil (wpAny_pure ?_)) (.inr hx)))
 rw [List.set_comm _ _ (Ne.symm hij)] at I5
 exact ⟨_,H1,I5,q1⟩
end
section
variable {X:Cx} {pos:Pos}
def zhi (c:TT) (tb:TS):TS:=fun D σ H=>∃ W:Nat->St->Hp->Prop,(∃ m,W m σ H)/\∀ m σ H,W m σ H->
 c σ H fun b H1=>if b=true then ∃ N:St->Hp->Prop,(∀ σ' H',N σ' H'->∃ m',m' < m/\W m' σ' H')/\tb { D with nx:=N,ct:=N,bk:=D.nx } σ H1 else D.nx σ H1
theorem zdk {c:Expr} {body:List Stmt} {tc:TT} {tb:TS} (hp:PassesOwn (model X.prog X.w) X.A X.env X.xe) (hc:PT X c tc) (hb:PSs X body tb):PS X (.While c body [] pos) (zhi tc tb):=by
 intro pins s σ H D I h
 obtain ⟨W,⟨m0,w0⟩,turn⟩:=h
 refine wpAny_While (codeAny_whileLoop (fun n s'=>∃ σ' H',Inv X pins σ' H' s'/\W n σ' H') ?_ m0 ⟨σ,H,I,w0⟩)
 rintro n s1 ⟨σ1,H1,I1,w1⟩
 refine wpAny_passesOwn hp (thn (hc pins s1 σ1 H1 _ I1 (turn n σ1 H1 w1)) fun b s2 ⟨H2,I2,q2⟩=>?_)
 cases b with
 | true=>
  obtain ⟨N,hN,q2⟩:=q2
  rw [if_pos rfl]
  refine wpAny_passesOwn hp (thn (hb pins s2 σ1 H2 _ I2 q2) fun f s3 q3=>?_)
  cases f with
  | next=>
   obtain ⟨σ3,H3,I3,n3⟩:=q3
   obtain ⟨m',hm,w3⟩:=hN σ3 H3 n3
   exact ⟨m',hm,σ3,H3,I3,w3⟩
  | cont=>
   obtain ⟨σ3,H3,I3,n3⟩:=q3
   obtain ⟨m',hm,w3⟩:=hN σ3 H3 n3
   exact ⟨m',hm,σ3,H3,I3,w3⟩
  | brk=>exact q3
  | ret v=>exact q3
 | false=>
  rw [if_neg Bool.false_ne_true]
  exact wpAny_execs_nil ⟨σ1,H2,I2,q2⟩
end
structure It where
 go:Nat->Hp->Prop
 yld:Nat->Hp->V->Hp->Prop
 stop:Nat->Hp->Prop
def z88 (X:Cx) (pins:List (Addr × Obj)) (H:Hp) (b:Addr):Prop:=
 H b=none/\b ≠ X.env.locals/\b ∉ X.fs/\(b ∈ X.ex \/ X.s₀.heap.objs.size <= b)/\(∀ x c,X.env.cells.lookup x=some c->c ≠ b)/\∀ p ∈ X.pn ++ pins,p.1 ≠ b
theorem Inv.fpOk {X:Cx} {pins:List (Addr × Obj)} {σ:St} {H H':Hp} {s:Shared} {b:Addr} (I:Inv X pins σ H s) (hb:s.heap.objs.size <= b) (hn:H' b=none):z88 X pins H' b:=by
 refine ⟨hn,Nat.ne_of_gt (Nat.lt_of_lt_of_le I.lt hb),I.nofs hb,.inr (Nat.le_trans I.sz hb),fun x c e z=>?_,fun p hp z=>?_⟩
 ·obtain ⟨v,q⟩:=I.cell x c e
  exact absurd (Nat.lt_of_lt_of_le q.lt (by rw [z];exact hb)) (Nat.lt_irrefl _)
 ·exact absurd (Nat.lt_of_lt_of_le (Heap.lt_size (I.pin p hp).1) (by rw [z];exact hb)) (Nat.lt_irrefl _)
structure zb9 (P:Program) (w:World) (K:PySem.W.Frag) (tg:Expr) (J:It) (fp:List Addr) (it:Addr) (tn:Nat->Heap->Prop):Prop where
 mem:it ∈ fp
 obj:∀ i h,tn i h->∀ b ∈ fp,∃ o,h.get? b=some o/\∀ v,o.data ≠ .cell v
 keep:∀ i h h',tn i h->(∀ b ∈ fp,∀ o,h.get? b=some o->h'.get? b=some o)->tn i h'
 item:∀ (X:Cx),X.prog=P->X.w=w->X.K=K->X.calm=true->∀ (i:Nat) (pins:List (Addr × Obj)) (s:Shared) (σ:St) (H:Hp) (E:Value->Shared->Prop),Inv X pins σ H s->(∀ b ∈ fp,z88 X pins H b)->tn i s.heap->J.go i H->
  wpAny (model P w) X.A (pyNext (.ref it)) (fun r s1=>∃ u,r=some u/\
   wpAny (model P w) X.A (letOwnedTupleGo tg (.ref it) u) (fun _ s2=>∃ x H',Inv X pins σ H' s2/\RelV x u/\J.yld i H x H'/\tn (i + 1) s2.heap/\∀ b ∈ fp,H' b=none) E s1) E s
 done:∀ (X:Cx),X.prog=P->X.w=w->X.K=K->X.calm=true->∀ (i:Nat) (pins:List (Addr × Obj)) (s:Shared) (σ:St) (H:Hp) (E:Value->Shared->Prop),Inv X pins σ H s->(∀ b ∈ fp,z88 X pins H b)->tn i s.heap->J.stop i H->
  wpAny (model P w) X.A (pyNext (.ref it)) (fun r s1=>r=none/\Inv X pins σ H s1) E s
 self:∀ (A:Around) (i:Nat) (s:Shared) (Q:Value->Shared->Prop) (E:Value->Shared->Prop),tn i s.heap->Q (.ref it) s->wpAny (model P w) A (pyIter (.ref it)) Q E s
abbrev TI:=St->Hp->(It->Hp->Prop)->Prop
def PIE (X:Cx) (pins:List (Addr × Obj)) (σ:St) (tg:Expr) (R:It->Hp->Prop) (itv:Value) (s2:Shared):Prop:=
 ∃ (it:Addr) (fp:List Addr) (tn:Nat->Heap->Prop) (J:It) (H':Hp),itv=.ref it/\Inv X pins σ H' s2/\zb9 X.prog X.w X.K tg J fp it tn/\tn 0 s2.heap/\(∀ b ∈ fp,z88 X pins H' b)/\R J H'
def PI (X:Cx) (tg iter:Expr) (wi:TI):Prop:=
 ∀ (pins:List (Addr × Obj)) (s:Shared) (σ:St) (H:Hp) (R:It->Hp->Prop),Inv X pins σ H s->wi σ H R->
  wpAny (model X.prog X.w) X.A (eval iter X.env) (fun v s1=>wpAny (model X.prog X.w) X.A (pyIter v) (PIE X pins σ tg R) X.xe s1) X.xe s
theorem zdb {M:Model} {A:Around} {E:Value->Shared->Prop} {s:Shared} {tg:Expr} {it:Addr} {u:Value} {o:Obj} {n:String} {vs:Array Value} {Q:Unit->Shared->Prop} (ho:s.heap.get? it=some o) (hc:o.cls=.type n) (hd:o.data=.fields vs)
  (hn:["enumerate", "zip", "dict_itemiterator", "dict_reverseitemiterator", "odict_iterator", "itertools.zip_longest", "itertools.pairwise"].contains n=false) (hQ:Q () s):wpAny M A (letOwnedTupleGo tg (.ref it) u) Q E s:=by
 unfold letOwnedTupleGo
 cases tg <;> first
  | exact wpAny_pure hQ
  | (cases u <;> first
    | exact wpAny_pure hQ
    | (refine wpAny_bind (wpAny_load ho ?_)
       rw [hc,hd]
       show wpAny M A (if (["enumerate", "zip", "dict_itemiterator", "dict_reverseitemiterator", "odict_iterator", "itertools.zip_longest", "itertools.pairwise"].contains n && vs[0]? == some (rawInt _))=true then _ else _) Q E s
       rw [if_neg (by intro h;rw [hn,Bool.false_and] at h;cases h)]
       exact wpAny_pure hQ))
def Itl (K:PySem.W.Frag) (a:Addr):It:=
 ⟨fun i H=>∃ xs x,SqL K H a xs/\xs[i]?=some x,fun i H x H'=>H'=H/\∀ xs,SqL K H a xs->xs[i]?=some x,fun i H=>∃ xs,SqL K H a xs/\xs.length <= i⟩
def Itt (K:PySem.W.Frag) (a:Addr):It:=
 ⟨fun i H=>∃ xs x,SqT K H a xs/\xs[i]?=some x,fun i H x H'=>H'=H/\∀ xs,SqT K H a xs->xs[i]?=some x,fun i H=>∃ xs,SqT K H a xs/\xs.length <= i⟩
def Itr (lo:Int) (n:Nat):It:=⟨fun i _=>i < n,fun i H x H'=>H'=H/\x=.int (lo + i),fun i _=>n <= i⟩
theorem z7b {P:Program} {w:World} {K:PySem.W.Frag} {tg:Expr} (a it:Addr):zb9 P w K tg (Itl K a) [it] it (fun i h=>h.IsListIter it a i) where
 mem:=by simp
 obj:=fun i h st b hb=>by
  have e:b=it:=by simpa using hb
  subst e
  obtain ⟨o,e,c,d⟩:=st
  exact ⟨o,e,fun v z=>by rw [d] at z;cases z⟩
 keep:=fun i h h' st k=>st.at fun o e=>k it (by simp) o e
 item:=by
  intro X hP hw hK hc i pins s σ H E I hf st hg
  subst hP hw hK
  obtain ⟨xs,x,hq,hx⟩:=hg
  obtain ⟨its,rv,p,hz⟩:=I.list hq
  obtain ⟨u,hu,ru⟩:=rv.get hx
  obtain ⟨f0,f1,f2,f3,f4,f5⟩:=hf it (by simp)
  refine wpAny_pyNext_list_item st p.isList (x:=u) (by simpa using hu) fun h' st' sb=>?_
  have I1:Inv X pins σ H { s with heap:=h' }:=I.turned (t':=s.toks) (fun b o hb e=>(sb.2 b hb).trans e) f0 f1 f3 f4 f5
  obtain ⟨o,e,c,d⟩:=id st'
  exact ⟨u,rfl,zdb (s:={ s with heap:=h' }) e c d (by decide) ⟨x,H,I1,ru,⟨rfl,fun ys hy=>by rw [I.list_inj hy hq];exact hx⟩,st',fun b hb=>(hf b hb).1⟩⟩
 done:=by
  intro X hP hw hK hc i pins s σ H E I hf st hg
  subst hP hw hK
  obtain ⟨xs,hq,hx⟩:=hg
  obtain ⟨its,rv,p,hz⟩:=I.list hq
  obtain ⟨f0,f1,f2,f3,f4,f5⟩:=hf it (by simp)
  have hl:=rv.length
  exact wpAny_pyNext_list_end (I.ok.hd hc) st p.isList (by simp;omega) fun h' eb=>⟨rfl,I.turned (t':=s.toks) (fun b o hb e=>eb b o hb e) f0 f1 f3 f4 f5⟩
 self:=fun _ _ _ _ _ st h=>wpAny_pyIter_listiter st h
theorem zag {P:Program} {w:World} {K:PySem.W.Frag} {tg:Expr} (a it:Addr):zb9 P w K tg (Itt K a) [it] it (fun i h=>h.IsTupleIter it a i) where
 mem:=by simp
 obj:=fun i h st b hb=>by
  have e:b=it:=by simpa using hb
  subst e
  obtain ⟨o,e,c,d⟩:=st
  exact ⟨o,e,fun v z=>by rw [d] at z;cases z⟩
 keep:=fun i h h' st k=>st.at fun o e=>k it (by simp) o e
 item:=by
  intro X hP hw hK hc i pins s σ H E I hf st hg
  subst hP hw hK
  obtain ⟨xs,x,hq,hx⟩:=hg
  obtain ⟨its,rv,p,hz⟩:=I.tuple hq
  obtain ⟨u,hu,ru⟩:=rv.get hx
  obtain ⟨f0,f1,f2,f3,f4,f5⟩:=hf it (by simp)
  refine wpAny_pyNext_tuple_item st (show s.heap.IsTuple a its.toArray from p) (x:=u) (by simpa using hu) fun h' st' sb=>?_
  have I1:Inv X pins σ H { s with heap:=h' }:=I.turned (t':=s.toks) (fun b o hb e=>(sb.2 b hb).trans e) f0 f1 f3 f4 f5
  obtain ⟨o,e,c,d⟩:=id st'
  exact ⟨u,rfl,zdb (s:={ s with heap:=h' }) e c d (by decide) ⟨x,H,I1,ru,⟨rfl,fun ys hy=>by rw [I.tuple_inj hy hq];exact hx⟩,st',fun b hb=>(hf b hb).1⟩⟩
 done:=by
  intro X hP hw hK hc i pins s σ H E I hf st hg
  subst hP hw hK
  obtain ⟨xs,hq,hx⟩:=hg
  obtain ⟨its,rv,p,hz⟩:=I.tuple hq
  obtain ⟨f0,f1,f2,f3,f4,f5⟩:=hf it (by simp)
  have hl:=rv.length
  exact wpAny_pyNext_tuple_end (I.ok.hd hc) st (show s.heap.IsTuple a its.toArray from p) (by simp;omega) fun h' eb=>⟨rfl,I.turned (t':=s.toks) (fun b o hb e=>eb b o hb e) f0 f1 f3 f4 f5⟩
 self:=fun _ _ _ _ _ st h=>wpAny_pyIter_tupleiter st h
theorem zaj {P:Program} {w:World} {K:PySem.W.Frag} {tg:Expr} (it:Addr) (lo:Int) (n:Nat):zb9 P w K tg (Itr lo n) [it] it (fun i h=>IsRangeIter h it (lo + (i:Nat) * 1) ((n:Int) - (i:Nat)) 1) where
 mem:=by simp
 obj:=fun i h st b hb=>by
  have e:b=it:=by simpa using hb
  subst e
  exact ⟨_,st,fun v z=>by
   have z':Data.fields _=Data.cell v:=z
   cases z'⟩
 keep:=fun i h h' st k=>k it (by simp) _ st
 item:=by
  intro X hP hw hK hc i pins s σ H E I hf st hg
  subst hP hw hK
  obtain ⟨f0,f1,f2,f3,f4,f5⟩:=hf it (by simp)
  have W:=Walks.range (prog:=X.prog) (w:=X.w) (I.ok.hd hc) it lo 1 n
  refine wpAny_with_toks I.tk (W.item i s _ _ hg st fun v h' tk hv st' kk htk=>?_)
  have htk:0 < tk:=htk
  obtain ⟨t,rfl⟩:=hv
  have I1:Inv X pins σ H { s with heap:=h',toks:=tk }:=I.turned (fun b o hb e=>kk b o (by simpa using hb) e) f0 f1 f3 f4 f5
  refine ⟨_,rfl,zdb (s:={ s with heap:=h',toks:=tk }) (n := "range_iterator") st' rfl rfl (by decide) ⟨.int (lo + i),H,I1,⟨t,?_⟩,⟨rfl,rfl⟩,st',fun b hb=>(hf b hb).1⟩⟩
  rw [Int.mul_one]
 done:=by
  intro X hP hw hK hc i pins s σ H E I hf st hg
  subst hP hw hK
  obtain ⟨f0,f1,f2,f3,f4,f5⟩:=hf it (by simp)
  exact wpAny_pyNext_range_end (I.ok.hd hc) st (by have:n <= i:=hg;omega) fun h' eb=>⟨rfl,I.turned (t':=s.toks) (fun b o hb e=>eb b o hb e) f0 f1 f3 f4 f5⟩
 self:=fun _ _ _ _ _ st h=>wpAny_pyIter_rangeiter st h
section
variable {X:Cx} {tg:Expr}
theorem zcW {pins:List (Addr × Obj)} {σ:St} {H:Hp} {s:Shared} {R:It->Hp->Prop} {E:Value->Shared->Prop} {lo hi:Int} {t u v:Tok} {tk:Nat} (I:Inv X pins σ H s) (h1:-(2 ^ 62) <= lo) (h2:lo < 2 ^ 62) (h3:-(2 ^ 62) <= hi) (h4:hi < 2 ^ 62)
  (q:R (Itr lo (hi - lo).toNat) H) (htk:0 < tk):wpAny (model X.prog X.w) X.A (pyIter (.ref s.heap.objs.size)) (PIE X pins σ tg R) E { s with heap:=s.heap.push { cls:=.type "range",data:=.fields #[.int lo t,.int hi u,.int 1 v] },toks:=tk }:=by
 refine wpAny_pyIter_range (IsRange.new ..) (small_one h1 h2 h3 h4) ?_
 have I1:Inv X pins σ H { s with heap:=s.heap.push { cls:=.type "range",data:=.fields #[.int lo t,.int hi u,.int 1 v] },toks:=tk }:=I.kept fun b o e=>Heap.get?_push_of_some _ e
 refine ⟨(s.heap.push { cls:=.type "range",data:=.fields #[.int lo t,.int hi u,.int 1 v] }).objs.size,[(s.heap.push { cls:=.type "range",data:=.fields #[.int lo t,.int hi u,.int 1 v] }).objs.size],_,_,H,rfl,
  I1.kept (t':=tk) fun b o e=>Heap.get?_push_of_some _ e,zaj _ lo (hi - lo).toNat,?_,fun b hb=>?_,q⟩
 ·have e1:lo + ((0:Nat):Int) * 1=lo:=by simp
  have e2:(((hi - lo).toNat:Nat):Int) - ((0:Nat):Int)=Builtin.Range.rangeSize lo hi 1:=by rw [rangeSize_one];split <;> omega
  show IsRangeIter _ _ (lo + ((0:Nat):Int) * 1) ((((hi - lo).toNat:Nat):Int) - ((0:Nat):Int)) 1
  rw [e1,e2]
  exact Heap.get?_push_size _ rfl
 ·have e:b=(s.heap.push { cls:=.type "range",data:=.fields #[.int lo t,.int hi u,.int 1 v] }).objs.size:=by simpa using hb
  subst e
  exact I1.fpOk (Nat.le_refl _) (I1.hok.fresh (Nat.le_refl _))
def zje (ta:TA):TI:=fun σ H R=>ta σ H fun vs H1=>∃ j:Int,vs=[.int j]/\-(2 ^ 62) <= j/\j < 2 ^ 62/\R (Itr 0 j.toNat) H1
theorem zaL {a:Expr} {ta:TA} {p pos:Pos} (hg:Gl X "range") (hm:X.mg "range" = none) (ha:PA X [a] ta) (hs:starEach [a] X.env=[(false,eval a X.env)]:=by rfl):PI X tg (.Call (.Name "range" p) [a] [] pos) (zje ta):=by
 intro pins s σ H R I h
 refine Call_ (z5N I hg hm boot_range (PyProof.Rows.callWith_type1 (thn (ha pos pins s σ H _ I h) fun us s1 ⟨vs,H1,I1,r1,q1⟩=>?_) hs rfl))
 obtain ⟨j,e,q1,q2,q⟩:=q1
 subst e
 cases r1 with
 | cons r rr=>
  cases rr
  obtain ⟨t,rfl⟩:=r
  exact call_range_1 (zcW I1 (by omega) (by omega) q1 q2 (by simpa using q) (by first|exact Nat.succ_pos _|exact I1.tk))
def zkz (wi:TI) (g:TG) (tb:TS):TS:=fun D σ H=>wi σ H fun J H1=>∃ W:Nat->Nat->St->Hp->Prop,(∃ m,W 0 m σ H1)/\∀ i m σ H,W i m σ H->
 (J.stop i H/\D.nx σ H) \/ (J.go i H/\∃ N:St->Hp->Prop,(∀ σ' H',N σ' H'->∃ m',m' < m/\W (i + 1) m' σ' H')/\∀ x H',J.yld i H x H'->g x σ H' fun σ2 H2=>tb { D with nx:=N,ct:=N,bk:=D.nx } σ2 H2)
def z77 (fp:List Addr) (h:Heap):List (Addr × Obj):=fp.filterMap fun b=>(h.get? b).map fun o=>(b,o)
theorem z2N {fp:List Addr} {h:Heap} {b:Addr} {o:Obj} (hb:b ∈ fp) (e:h.get? b=some o):(b,o) ∈ z77 fp h:=List.mem_filterMap.mpr ⟨b,hb,by rw [e];rfl⟩
theorem zcp {fp:List Addr} {h:Heap} {p:Addr × Obj} (hp:p ∈ z77 fp h):p.1 ∈ fp/\h.get? p.1=some p.2:=by
 obtain ⟨b,hb,e⟩:=List.mem_filterMap.mp hp
 cases q:h.get? b with
 | none=>rw [q] at e;cases e
 | some o=>
  rw [q] at e
  have e':(b,o)=p:=Option.some.inj e
  subst e'
  exact ⟨hb,q⟩
theorem Inv.pinned {pins:List (Addr × Obj)} {σ:St} {H:Hp} {s:Shared} {fp:List Addr} (I:Inv X pins σ H s) (hf:∀ b ∈ fp,z88 X pins H b) (ho:∀ b ∈ fp,∃ o,s.heap.get? b=some o/\∀ v,o.data ≠ .cell v):Inv X (pins ++ z77 fp s.heap) σ H s:=
 I.pins_of fun p hp=>(List.mem_append.mp hp).elim (fun z=>I.pin p (List.mem_append_right _ z)) fun z=>by
  obtain ⟨hb,e⟩:=zcp z
  obtain ⟨f0,f1,f2,_⟩:=hf p.1 hb
  obtain ⟨o,e',d⟩:=ho p.1 hb
  rw [e] at e';cases e'
  exact ⟨e,f0,f1,f2,d⟩
theorem Inv.unpinned {pins pl:List (Addr × Obj)} {σ:St} {H:Hp} {s:Shared} (I:Inv X (pins ++ pl) σ H s):Inv X pins σ H s:=I.pins_of fun p hp=>I.pin p (List.mem_append_right _ (List.mem_append_left _ hp))
theorem zi3 {iter:Expr} {body:List Stmt} {wi:TI} {g:TG} {tb:TS} {pos:Pos} (hp:PassesOwn (model X.prog X.w) X.A X.env X.xe) (hc:X.calm=true) (hi:PI X tg iter wi) (hg:PG X tg g) (hb:PSs X body tb)
  (hs:∀ x,foldedSetIterable iter X.env x=pure x:=by intro _;rfl):PS X (.For tg iter body [] pos) (zkz wi g tb):=by
 intro pins s σ H D I h
 refine wpAny_For (thn (hi pins s σ H _ I h) fun v s1 h1=>thn h1 fun itv s2 h2=>?_) hs
 obtain ⟨it,fp,tn,J,H2,e,I2,T,st2,f2,W,⟨m0,w0⟩,turn⟩:=h2
 subst e
 -- what stays true of the iterator's objects through the loop
 have stat:∀ {H':Hp},(∀ b ∈ fp,H' b=none)->∀ b ∈ fp,z88 X pins H' b:=fun hn b hb=>⟨hn b hb,(f2 b hb).2⟩
 refine codeAny_forLoop_any (fun n s'=>∃ i σ' H',Inv X pins σ' H' s'/\tn i s'.heap/\(∀ b ∈ fp,H' b=none)/\W i n σ' H') ?_ m0 ⟨0,σ,H2,I2,st2,fun b hb=>(f2 b hb).1,w0⟩
 rintro n s3 ⟨i,σ3,H3,I3,st3,fr3,w3⟩
 rcases turn i n σ3 H3 w3 with ⟨stop,qn⟩|⟨go,N,hN,step⟩
 ·refine wpAny_passesOwn hp (thn (T.done X rfl rfl rfl hc i pins s3 σ3 H3 X.xe I3 (stat fr3) st3 stop) fun r s4 ⟨hr,I4⟩=>?_)
  subst hr
  exact wpAny_execs_nil ⟨σ3,H3,I4,qn⟩
 ·refine wpAny_passesOwn hp (thn (T.item X rfl rfl rfl hc i pins s3 σ3 H3 X.xe I3 (stat fr3) st3 go) fun r s4 ⟨u,hr,h4⟩=>?_)
  subst hr
  refine wpAny_passesOwn hp (thn h4 fun _ s5 ⟨x,H5,I5,r5,y5,st5,fr5⟩=>?_)
  have I5':=I5.pinned (stat fr5) (T.obj _ _ st5)
  refine wpAny_passesOwn hp (thn (hg _ s5 σ3 H5 x u _ I5' r5 (step x H5 y5)) fun _ s6 ⟨σ6,H6,I6,q6⟩=>?_)
  refine wpAny_passesOwn hp (thn (hb _ s6 σ6 H6 _ I6 q6) fun f s7 q7=>?_)
  have again:∀ {σ7:St} {H7:Hp},Inv X (pins ++ z77 fp s5.heap) σ7 H7 s7->N σ7 H7->∃ m,m < n/\∃ i σ' H',Inv X pins σ' H' s7/\tn i s7.heap/\(∀ b ∈ fp,H' b=none)/\W i m σ' H':=fun {σ7 H7} I7 n7=>by
   obtain ⟨m',hm,w7⟩:=hN σ7 H7 n7
   refine ⟨m',hm,i + 1,σ7,H7,I7.unpinned,T.keep _ _ _ st5 fun b hb o e=>(I7.pin (b,o) (List.mem_append_right _ (List.mem_append_right _ (z2N hb e)))).1,fun b hb=>?_,w7⟩
   obtain ⟨o,e,d⟩:=T.obj _ _ st5 b hb
   exact (I7.pin (b,o) (List.mem_append_right _ (List.mem_append_right _ (z2N hb e)))).2.1
  cases f with
  | next=>obtain ⟨σ7,H7,I7,n7⟩:=q7;exact again I7 n7
  | cont=>obtain ⟨σ7,H7,I7,n7⟩:=q7;exact again I7 n7
  | brk=>obtain ⟨σ7,H7,I7,q7⟩:=q7;exact ⟨σ7,H7,I7.unpinned,q7⟩
  | ret v=>obtain ⟨x7,σ7,H7,I7,r7,q7⟩:=q7;exact ⟨x7,σ7,H7,I7.unpinned,r7,q7⟩
end
abbrev R2:=V->V->Hp->VK->Prop
def OpR (X:Cx) (f:Value->Value->Sem Value) (r:R2):Prop:=
 ∀ (pins:List (Addr × Obj)) (s:Shared) (σ:St) (H:Hp) (x y:V) (v u:Value) (Q:VK),Inv X pins σ H s->RelV x v->RelV y u->r x y H Q->
  wpAny (model X.prog X.w) X.A (f v u) (EP X pins σ Q) X.xe s
def CallR (X:Cx) (f:Value) (r:List V->Hp->VK->Prop):Prop:=
 ∀ (pins:List (Addr × Obj)) (s:Shared) (σ:St) (H:Hp) (xs:List V) (us:List Value) (Q:VK),Inv X pins σ H s->Vals xs us->r xs H Q->
  wpAny (model X.prog X.w) X.A (call f us) (EP X pins σ Q) X.xe s
def zkL (X:Cx) (r:V->Hp->(Bool->Hp->Prop)->Prop):Prop:=
 ∀ (pins:List (Addr × Obj)) (s:Shared) (σ:St) (H:Hp) (x:V) (v:Value) (Q:Bool->Hp->Prop),Inv X pins σ H s->RelV x v->r x H Q->
  wpAny (model X.prog X.w) X.A (truthy v) (TP X pins σ Q) X.xe s
def tOp (r:R2) (ta tb:TE):TE:=fun σ H Q=>ta σ H fun x H1=>tb σ H1 fun y H2=>r x y H2 Q
def rI (C:Int->Int->Prop) (g:Int->Int->V):R2:=fun x y H Q=>∃ i j,x=.int i/\y=.int j/\C i j/\Q (g i j) H
def rI0 (g:Int->Int->V):R2:=fun x y H Q=>∃ i j,x=.int i/\y=.int j/\Q (g i j) H
section
variable {X:Cx} {a b:Expr} {ta tb:TE} {pos:Pos}
theorem zjH (ha:PE X a ta) (hb:PE X b tb) {pins:List (Addr × Obj)} {s:Shared} {σ:St} {H:Hp} {R:V->V->Hp->Prop} (I:Inv X pins σ H s)
  (h:ta σ H fun x H1=>tb σ H1 fun y H2=>R x y H2) {Q:Value->Shared->Prop} {f:Value->Value->Sem Value}
  (hf:∀ v u s2 x y H2,Inv X pins σ H2 s2->RelV x v->RelV y u->R x y H2->wpAny (model X.prog X.w) X.A (f v u) Q X.xe s2):
  wpAny (model X.prog X.w) X.A (eval a X.env) (fun v s₁=>wpAny (model X.prog X.w) X.A (eval b X.env) (fun u s₂=>wpAny (model X.prog X.w) X.A (f v u) Q X.xe s₂) X.xe s₁) X.xe s:=by
 refine thn (ha pins s σ H _ I h) fun v s1 ⟨x,H1,I1,r1,q1⟩=>?_
 refine thn (hb pins s1 σ H1 _ I1 q1) fun u s2 ⟨y,H2,I2,r2,q2⟩=>?_
 exact hf v u s2 x y H2 I2 r1 r2 q2
theorem zju {op:Operator} {r:R2} (ho:OpR X (binaryOp op) r) (ha:PE X a ta) (hb:PE X b tb):PE X (.BinOp a op b pos) (tOp r ta tb):=by
 intro pins s σ H Q I h
 exact wpAny_BinOp (zjH ha hb I h fun v u s2 x y H2 I2 rx ry q=>ho pins s2 σ H2 x y v u Q I2 rx ry q)
theorem opI {f:Value->Value->Sem Value} {C:Int->Int->Prop} {g:Int->Int->Int}
  (rule:∀ (i j:Int) (t u:Tok) (s:Shared) (Q:Value->Shared->Prop) (E:Value->Shared->Prop),C i j->Q (.int (g i j) s.toks) { s with toks:=s.toks + 1 }->wpAny (model X.prog X.w) X.A (f (.int i t) (.int j u)) Q E s):
  OpR X f (rI C fun i j=>.int (g i j)):=by
 intro pins s σ H x y v u Q I rx ry h
 obtain ⟨i,j,rfl,rfl,hc,q⟩:=h
 obtain ⟨t,rfl⟩:=rx
 obtain ⟨t',rfl⟩:=ry
 exact rule i j t t' s _ _ hc ⟨.int (g i j),H,I.tok _,⟨_,rfl⟩,q⟩
theorem zk4 {f:Value->Value->Sem Value} {g:Int->Int->Int}
  (rule:∀ (i j:Int) (t u:Tok) (s:Shared) (Q:Value->Shared->Prop) (E:Value->Shared->Prop),Q (.int (g i j) s.toks) { s with toks:=s.toks + 1 }->wpAny (model X.prog X.w) X.A (f (.int i t) (.int j u)) Q E s):
  OpR X f (rI0 fun i j=>.int (g i j)):=by
 intro pins s σ H x y v u Q I rx ry h
 obtain ⟨i,j,rfl,rfl,q⟩:=h
 obtain ⟨t,rfl⟩:=rx
 obtain ⟨t',rfl⟩:=ry
 exact rule i j t t' s _ _ ⟨.int (g i j),H,I.tok _,⟨_,rfl⟩,q⟩
theorem zj1 {f:Value->Value->Sem Value} {g:Int->Int->Bool}
  (rule:∀ (i j:Int) (t u:Tok) (s:Shared) (Q:Value->Shared->Prop) (E:Value->Shared->Prop),Q (.bool (g i j)) s->wpAny (model X.prog X.w) X.A (f (.int i t) (.int j u)) Q E s):
  OpR X f (rI0 fun i j=>.bl (g i j)):=by
 intro pins s σ H x y v u Q I rx ry h
 obtain ⟨i,j,rfl,rfl,q⟩:=h
 obtain ⟨t,rfl⟩:=rx
 obtain ⟨t',rfl⟩:=ry
 exact rule i j t t' s _ _ ⟨.bl (g i j),H,I,rfl,q⟩
def zk6 (i j:Int):Prop:=0 < j/\j < 1073741824
def zj2 (i j:Int):Prop:=0 <= j/\j <= 1000000/\i.natAbs < 2 ^ 64
def CMul (i j:Int):Prop:=(-(2 ^ 64) < i/\i < 2 ^ 64) \/ (-(2 ^ 64) < j/\j < 2 ^ 64)
theorem CMul.ok {i j:Int} (h:CMul i j):IntMulOk i j:=by
 rcases h with ⟨h1,h2⟩|⟨h1,h2⟩
 ·exact .of_left (intBits_le_64 h1 h2)
 ·exact .of_right (intBits_le_64 h1 h2)
theorem zgV:OpR X (binaryOp .Add) (rI0 fun i j=>.int (i + j)):=zk4 fun _ _ _ _ _ _ _ q=>add_int q
theorem zgX:OpR X (binaryOp .Sub) (rI0 fun i j=>.int (i - j)):=zk4 fun _ _ _ _ _ _ _ q=>sub_int q
theorem zi9:OpR X (binaryOp .Mult) (rI CMul fun i j=>.int (i * j)):=opI fun _ _ _ _ _ _ _ hc q=>mul_int q hc.ok
theorem zf1:OpR X (binaryOp .FloorDiv) (rI zk6 fun i j=>.int (i / j)):=opI fun i j _ _ _ _ _ hc q=>by
 have h1:(0:Int) < j:=hc.1
 have h2:j < 1073741824:=hc.2
 exact floordiv_int (by omega) (by rw [Int.fdiv_eq_ediv_of_nonneg i (by omega)];exact q) (.inl (PyProof.noPylong_small (by omega)))
theorem zhw:OpR X (binaryOp .Mod) (rI (fun _ j=>0 < j) fun i j=>.int (i % j)):=opI fun i j _ _ _ _ _ hc q=>by
 have h1:(0:Int) < j:=hc
 exact mod_int' (by omega) (by rw [Int.fmod_eq_emod_of_nonneg i (by omega)];exact q)
theorem zhL:OpR X (binaryOp .Pow) (rI zj2 fun i j=>.int (i ^ j.toNat)):=opI fun _ _ _ _ _ _ _ hc q=>pow_int_small hc.1 hc.2.1 hc.2.2 q
theorem zia:OpR X (binaryOp .LShift) (rI zj2 fun i j=>.int (i * 2 ^ j.toNat)):=opI fun _ _ _ _ _ _ _ hc q=>lshift_int_small hc.1 hc.2.1 hc.2.2 q
end
section
variable {X:Cx} {a b c:Expr} {ta tb tc:TE} {pos:Pos}
theorem z9N {pins:List (Addr × Obj)} {σ:St} {H:Hp} {s:Shared} {Q:VK} {k k':Bool} (I:Inv X pins σ H s) (q:Q (.bl k) H) (e:k=k'):EP X pins σ Q (.bool k') s:=by
 subst e
 exact ⟨.bl k,H,I,rfl,q⟩
theorem zfp:OpR X (compareOp .Lt) (rI0 fun i j=>.bl (decide (i < j))):=zj1 fun _ _ _ _ _ _ _ q=>lt_int q
theorem zgY:OpR X (compareOp .LtE) (rI0 fun i j=>.bl (decide (i <= j))):=zj1 fun _ _ _ _ _ _ _ q=>le_int q
theorem zhG:OpR X (compareOp .Gt) (rI0 fun i j=>.bl (decide (j < i))):=zj1 fun _ _ _ _ _ _ _ q=>gt_int q
theorem ziE:OpR X (compareOp .GtE) (rI0 fun i j=>.bl (decide (j <= i))):=zj1 fun _ _ _ _ _ _ _ q=>ge_int q
theorem zbx:OpR X (compareOp .Lt) (fun x y H Q=>∃ i j,x=.str i/\y=.str j/\Q (.bl (decide (i.cps.toList < j.cps.toList))) H):=by
 intro pins s σ H x y v u Q I rx ry h
 obtain ⟨i,j,rfl,rfl,q⟩:=h
 obtain ⟨t,rfl⟩:=rx
 obtain ⟨t',rfl⟩:=ry
 exact lt_str (z9N I q rfl)
theorem zbR:OpR X (compareOp .In) (fun x y H Q=>∃ i j,x=.str i/\y=.str j/\Q (.bl (!(Builtin.Str.occurrences j i 0 j.length 1).isEmpty)) H):=by
 intro pins s σ H x y v u Q I rx ry h
 obtain ⟨i,j,rfl,rfl,q⟩:=h
 obtain ⟨t,rfl⟩:=rx
 obtain ⟨t',rfl⟩:=ry
 exact in_str (z9N I q rfl)
theorem zhA:OpR X (compareOp .Is) (fun x y H Q=>y=.non/\Q (.bl (decide (x=.non))) H):=by
 intro pins s σ H x y v u Q I rx ry h
 obtain ⟨rfl,q⟩:=h
 cases ry
 refine is_none_gen (z9N I q ?_)
 cases x <;> first
  | (cases rx;rfl)
  | (obtain ⟨t,rfl⟩:=rx;rfl)
theorem z7Y:OpR X (compareOp .NotIn) (fun x y H Q=>∃ i j,x=.str i/\y=.str j/\Q (.bl (!(!(Builtin.Str.occurrences j i 0 j.length 1).isEmpty))) H):=by
 intro pins s σ H x y v u Q I rx ry h
 obtain ⟨i,j,rfl,rfl,q⟩:=h
 obtain ⟨t,rfl⟩:=rx
 obtain ⟨t',rfl⟩:=ry
 exact notIn_str (z9N I q rfl)
theorem OpR.or {f:Value->Value->Sem Value} {r r':R2} (h:OpR X f r) (h':OpR X f r'):OpR X f (fun x y H Q=>r x y H Q \/ r' x y H Q):=by
 intro pins s σ H x y v u Q I rx ry q
 rcases q with q|q
 ·exact h pins s σ H x y v u Q I rx ry q
 ·exact h' pins s σ H x y v u Q I rx ry q
theorem z2j (b:Expr) {op:CmpOp} (h:op ≠ .In:=by decide) (h2:op ≠ .NotIn:=by decide):behindInMarks op b=false:=by
 have e1:(op == CmpOp.In)=false:=by cases op <;> first|rfl|exact absurd rfl h
 have e2:(op == CmpOp.NotIn)=false:=by cases op <;> first|rfl|exact absurd rfl h2
 cases b <;> simp [behindInMarks,e1,e2]
theorem zfW {op:CmpOp} {r:R2} (ho:OpR X (compareOp op) r) (ha:PE X a ta) (hb:PE X b tb) (hm:behindInMarks op b=false):PE X (.Compare a [op] [b] pos) (tOp r ta tb):=by
 intro pins s σ H Q I h
 exact wpAny_Compare1 (zjH ha hb I h fun v u s2 x y H2 I2 rx ry q=>ho pins s2 σ H2 x y v u Q I2 rx ry q) hm
def zh9 (t:TE):TT:=fun σ H Q=>t σ H fun x H'=>∃ k,x=.bl k/\Q k H'
theorem zfJ {op:CmpOp} {r:R2} (ho:OpR X (compareOp op) r) (ha:PE X a ta) (hb:PE X b tb) (hm:behindInMarks op b=false):PT X (.Compare a [op] [b] pos) (zh9 (tOp r ta tb)):=by
 intro pins s σ H Q I h
 refine wpAny_isTrue_Compare1 (thn (ha pins s σ H _ I h) fun v s1 ⟨x,H1,I1,r1,q1⟩=>thn (hb pins s1 σ H1 _ I1 q1) fun u s2 ⟨y,H2,I2,r2,q2⟩=>
  thn (ho pins s2 σ H2 x y v u _ I2 r1 r2 q2) fun c s3 ⟨z,H3,I3,r3,k,e,q3⟩=>?_) hm
 subst e
 cases r3
 exact wpAny_truthy_bool ⟨H3,I3,q3⟩
def zi8 (r r':R2) (ta tb tc:TE):TE:=fun σ H Q=>ta σ H fun x H1=>tb σ H1 fun y H2=>r x y H2 fun z H3=>∃ k,z=.bl k/\
 (if k=true then tc σ H3 fun w' H4=>r' y w' H4 Q else Q (.bl false) H3)
theorem zd8 {op op':CmpOp} {r r':R2} (ho:OpR X (compareOp op) r) (ho':OpR X (compareOp op') r') (ha:PE X a ta) (hb:PE X b tb) (hc:PE X c tc)
  (hm:lastMarks [op,op'] [b,c]=false:=by with_unfolding_all rfl):PE X (.Compare a [op,op'] [b,c] pos) (zi8 r r' ta tb tc):=by
 intro pins s σ H Q I h
 refine Compare_chain (thn (ha pins s σ H _ I h) fun v s1 ⟨x,H1,I1,r1,q1⟩=>chain_link (thn (hb pins s1 σ H1 _ I1 q1) fun u s2 ⟨y,H2,I2,r2,q2⟩=>
  thn (ho pins s2 σ H2 x y v u _ I2 r1 r2 q2) fun d s3 ⟨z,H3,I3,r3,k,e,q3⟩=>?_)) hm
 subst e
 cases r3
 refine wpAny_truthy_bool ?_
 cases k with
 | false=>exact ite_ff ⟨.bl false,H3,I3,rfl,q3⟩
 | true=>exact ite_tt (chain_last (thn (hc pins s3 σ H3 _ I3 q3) fun w' s4 ⟨z',H4,I4,r4,q4⟩=>ho' pins s4 σ H4 y z' u w' Q I4 r2 r4 q4))
def zkj (K:PySem.W.Frag) (x:V) (H:Hp) (k:Bool):Prop:=
 match x with
 | .non=>k=false
 | .bl b=>k=b
 | .int i=>k=(i != 0)
 | .str y=>y.length <= sizeLine/\k=((y.length:Int) != 0)
 | .byt y=>y.size <= sizeLine/\k=((y.size:Int) != 0)
 | .ref p=>(∃ xs,SqL K H p xs/\k = !xs.isEmpty) \/ (∃ xs,SqT K H p xs/\k = !xs.isEmpty) \/ ∃ kvs,H p=some (.dK kvs)/\k = !kvs.isEmpty
 | _=>False
theorem za5 {κ:Type} {kvs:List (κ × V)} {vs:List (κ × Value)} (r:KV kvs vs):(!vs.isEmpty) = !kvs.isEmpty:=by
 cases r <;> rfl
theorem z5O {xs:List V} {its:List Value} (r:Vals xs its):(!its.toArray.isEmpty) = !xs.isEmpty:=by
 cases r <;> simp
theorem z5Y:(sizeLine:Nat) < 2 ^ 63:=by rw [sizeLine_eq];decide
theorem zhh:zkL X (fun x H Q=>∃ k,zkj X.K x H k/\Q k H):=by
 intro pins s σ H x v Q I rx h
 obtain ⟨k,e,q⟩:=h
 have hl:=z5Y
 have hs:sizeLine=16777216:=sizeLine_eq
 cases x with
 | non=>
  cases rx
  have e':k=false:=e
  subst e'
  exact truthy_none ⟨H,I,q⟩
 | bl b=>
  cases rx
  have e':k=b:=e
  subst e'
  exact wpAny_truthy_bool ⟨H,I,q⟩
 | int i=>
  obtain ⟨t,rfl⟩:=rx
  have e':k=(i != 0):=e
  subst e'
  exact PySem.P.truthy_int ⟨H,I,q⟩
 | str y=>
  obtain ⟨t,rfl⟩:=rx
  obtain ⟨hy,e'⟩:y.length <= sizeLine/\k=((y.length:Int) != 0):=e
  subst e'
  exact PySem.P.truthy_str (by omega) ⟨H,I.tok _,q⟩
 | byt y=>
  obtain ⟨t,rfl⟩:=rx
  obtain ⟨hy,e'⟩:y.size <= sizeLine/\k=((y.size:Int) != 0):=e
  subst e'
  exact PySem.W.truthy_bytes (by omega) ⟨H,I.tok _,q⟩
 | ref p=>
  cases rx
  have e':(∃ xs,SqL X.K H p xs/\k = !xs.isEmpty) \/ (∃ xs,SqT X.K H p xs/\k = !xs.isEmpty) \/ ∃ kvs,H p=some (.dK kvs)/\k = !kvs.isEmpty:=e
  rcases e' with ⟨xs,hx,e'⟩|⟨xs,hx,e'⟩|⟨kvs,hx,e'⟩
  ·subst e'
   obtain ⟨its,r,pl,hz⟩:=I.list hx
   have hlen:=r.length
   exact wpAny_truthy_list pl.isList (by simp only [List.size_toArray];omega) ⟨H,I.tok _,by rw [z5O r];exact q⟩
  ·subst e'
   obtain ⟨its,r,pl,hz⟩:=I.tuple hx
   have hlen:=r.length
   exact truthy_tuple pl (by simp only [List.size_toArray];omega) ⟨H,I.tok _,by rw [z5O r];exact q⟩
  ·subst e'
   obtain ⟨hz,hS,vs,r,m⟩:kvs.length <= sizeLine/\(p == sysModules)=false/\∃ vs,KV kvs vs/\s.heap.DictOf (z1a X.prog X.w) p vs:=I.hok p _ hx
   have hlen:kvs.length=vs.length:=Paired.length r
   exact wpAny_truthy_dict hS m (by omega) ⟨H,I.tok _,by rw [za5 r];exact q⟩
 | _=>exact (show False from e).elim
theorem ze5 (ha:PE X a ta) (he:∀ whole,isTrue a X.env whole=(do let v <- whole;standAt a.pos;holding [v] (truthy v))):
  PT X a (fun σ H Q=>ta σ H fun x H'=>∃ k,zkj X.K x H' k/\Q k H'):=by
 intro pins s σ H Q I h
 exact isTrue_plain (thn (ha pins s σ H _ I h) fun v s1 ⟨x,H1,I1,r1,q1⟩=>zhh pins s1 σ H1 x v Q I1 r1 q1) (he _)
theorem za2:OpR X (binaryOp .Add) (fun x y H Q=>∃ i j,x=.str i/\y=.str j/\i.length + j.length <= sizeLine/\Q (.str (i ++ j)) H):=by
 intro pins s σ H x y v u Q I rx ry h
 obtain ⟨i,j,rfl,rfl,hz,q⟩:=h
 obtain ⟨t,rfl⟩:=rx
 obtain ⟨t',rfl⟩:=ry
 exact wpAny_with_toks I.tk (add_str (fun t' tk htk=>⟨.str (i ++ j),H,I.tok _ htk,⟨_,rfl⟩,q⟩) hz)
theorem z2Z {x:V} {us:List Value} (r:Vals [x] us):∃ u,us=[u]/\RelV x u:=by
 cases r with
 | cons r1 r2=>cases r2;exact ⟨_,rfl,r1⟩
theorem zaf {x y:V} {us:List Value} (r:Vals [x,y] us):∃ u w',us=[u,w']/\RelV x u/\RelV y w':=by
 cases r with
 | cons r1 r2=>
  cases r2 with
  | cons r3 r4=>cases r4;exact ⟨_,_,rfl,r1,r3⟩
theorem zco (hc:X.calm=true):CallR X (.builtin "max") (fun xs H Q=>∃ i j,xs=[.int i,.int j]/\Q (.int (if j > i then j else i)) H):=by
 intro pins s σ H xs us Q I r h
 obtain ⟨i,j,rfl,q⟩:=h
 obtain ⟨u,w',rfl,⟨t,rfl⟩,⟨t',rfl⟩⟩:=zaf r
 refine wpAny_with_toks I.tk (max_two_ints (I.ok.hd hc) fun h' tk k htk=>⟨_,H,I.kept k htk,?_,q⟩)
 by_cases hj:j > i
 ·rw [if_pos hj,if_pos hj];exact ⟨_,rfl⟩
 ·rw [if_neg hj,if_neg hj];exact ⟨_,rfl⟩
theorem zaK (hc:X.calm=true):CallR X (.builtin "min") (fun xs H Q=>∃ i j,xs=[.int i,.int j]/\Q (.int (if j < i then j else i)) H):=by
 intro pins s σ H xs us Q I r h
 obtain ⟨i,j,rfl,q⟩:=h
 obtain ⟨u,w',rfl,⟨t,rfl⟩,⟨t',rfl⟩⟩:=zaf r
 refine wpAny_with_toks I.tk (min_two_ints (I.ok.hd hc) fun h' tk k htk=>⟨_,H,I.kept k htk,?_,q⟩)
 by_cases hj:j < i
 ·rw [if_pos hj,if_pos hj];exact ⟨_,rfl⟩
 ·rw [if_neg hj,if_neg hj];exact ⟨_,rfl⟩
theorem zcg:CallR X (.type "int") (fun xs H Q=>(∃ i,xs=[.int i]/\Q (.int i) H) \/ ∃ k,xs=[.bl k]/\Q (.int (if k then 1 else 0)) H):=by
 intro pins s σ H xs us Q I r h
 rcases h with ⟨i,rfl,q⟩|⟨k,rfl,q⟩
 ·obtain ⟨u,rfl,t,rfl⟩:=z2Z r
  exact call_int_int ⟨.int i,H,I,⟨_,rfl⟩,q⟩
 ·obtain ⟨u,rfl,r1⟩:=z2Z r
  cases r1
  exact call_int_bool ⟨.int (if k then 1 else 0),H,I.tok _,⟨_,rfl⟩,q⟩
theorem z7G:CallR X (.type "str") (fun xs H Q=>∃ i,xs=[.int i]/\i.natAbs.log2 < 1920/\Q (.str (toString i)) H):=by
 intro pins s σ H xs us Q I r h
 obtain ⟨i,rfl,hz,q⟩:=h
 obtain ⟨u,rfl,t,rfl⟩:=z2Z r
 exact PySem.P.str_of_int hz ⟨.str _,H,I.tok _,⟨_,rfl⟩,q⟩
def zke (K:PySem.W.Frag) (x:V) (H:Hp) (n:Nat):Prop:=
 match x with
 | .str y=>y.length <= sizeLine/\n=y.length
 | .byt y=>y.size <= sizeLine/\n=y.size
 | .ref p=>(∃ xs,SqL K H p xs/\n=xs.length) \/ ∃ xs,SqT K H p xs/\n=xs.length
 | _=>False
theorem zd4:CallR X (.builtin "len") (fun xs H Q=>∃ x n,xs=[x]/\zke X.K x H n/\Q (.int n) H):=by
 intro pins s σ H xs us Q I r h
 obtain ⟨x,n,rfl,e,q⟩:=h
 obtain ⟨u,rfl,rx⟩:=z2Z r
 have hl:=z5Y
 have hs:sizeLine=16777216:=sizeLine_eq
 cases x with
 | str y=>
  obtain ⟨t,rfl⟩:=rx
  obtain ⟨hy,e'⟩:y.length <= sizeLine/\n=y.length:=e
  subst e'
  exact len_str (by omega) ⟨.int _,H,I.tok _,⟨_,rfl⟩,q⟩
 | byt y=>
  obtain ⟨t,rfl⟩:=rx
  obtain ⟨hy,e'⟩:y.size <= sizeLine/\n=y.size:=e
  subst e'
  exact PySem.W.len_bytes (by omega) ⟨.int _,H,I.tok _,⟨_,rfl⟩,q⟩
 | ref p=>
  cases rx
  have e':(∃ xs,SqL X.K H p xs/\n=xs.length) \/ ∃ xs,SqT X.K H p xs/\n=xs.length:=e
  rcases e' with ⟨xs,hx,e'⟩|⟨xs,hx,e'⟩
  ·subst e'
   obtain ⟨its,r',pl,hz⟩:=I.list hx
   have hlen:=r'.length
   exact Calls.call_len_list pl.isList (by simp only [List.size_toArray];omega) ⟨.int xs.length,H,I.tok _,⟨_,by simp only [List.size_toArray];rw [hlen]⟩,q⟩
  ·subst e'
   obtain ⟨its,r',pl,hz⟩:=I.tuple hx
   have hlen:=r'.length
   exact len_tuple pl (by simp only [List.size_toArray];omega) ⟨.int xs.length,H,I.tok _,⟨_,by simp only [List.size_toArray];rw [hlen]⟩,q⟩
 | _=>exact (show False from e).elim
end
structure zkP (h:Heap) (x dx C:Addr) (mA:Str->Option Value):Prop where
 obj:h.get? x=some (PySem.W.instObj C dx)
 ns:h.Ns1 dx mA
 ne:dx ≠ x
section
end
theorem RelO.some_of {v:V} {o:Option Value} (r:RelO (some v) o):∃ u,o=some u/\RelV v u:=by
 cases o with
 | none=>exact (show False from r).elim
 | some u=>exact ⟨u,rfl,r⟩
structure Cls (K:PySem.W.Frag) (C:Addr):Prop where
 pg:PySem.W.plainGet K C Str.empty=true
 hd:PySem.W.hasDictIn K C=true
 po:PySem.W.plainOver K C=true
 sa:PySem.W.findIn K (.ref C) "__setattr__" = some (some (.builtin "object.__setattr__"))
theorem Cls.get {K:PySem.W.Frag} {C:Addr} (c:Cls K C) (f:Str):PySem.W.plainGet K C f=true:=c.pg
structure Con (K:PySem.W.Frag) (C:Addr) (f:Str) (v:V) (u:Value):Prop where
 at_:PySem.W.findIn K (.ref C) f=some (some u)
 rel:RelV v u
 get:PySem.W.specialIn K u "__get__" = some none
 cp:PySem.W.copiedNames.contains f=false
structure zkR (K:PySem.W.Frag) (C:Addr) (m:Str) (f:Addr):Prop where
 at_:PySem.W.findIn K (.ref C) m=some (some (.ref f))
 fn:PySem.W.isFn K (.ref f)=true
 kp:PySem.W.keepIn K (.ref f)=true
section
end
section
variable {H:Hp}
inductive zct (K:PySem.W.Frag) (H:Hp):V->Value->Prop where
 | non:zct K H .non (.type "NoneType")
 | bl (x:Bool):zct K H (.bl x) (.type "bool")
 | int (i:Int):zct K H (.int i) (.type "int")
 | str (x:Str):zct K H (.str x) (.type "str")
 | flt (x:UInt64):zct K H (.flt x) (.type "float")
 | lst {a:Addr} {xs:List V} (e:H a=some (.lst xs)):zct K H (.ref a) (.type "list")
 | frz {a:Addr} {o:Obj} {xs:List V} (e:H a=some (.frz o (.lst xs))):zct K H (.ref a) (.type "list")
 | tup {a:Addr} {xs:List V} (e:H a=some (.tup xs)):zct K H (.ref a) (.type "tuple")
 | dK {a:Addr} {kvs:List (Key × V)} (e:H a=some (.dK kvs)):zct K H (.ref a) (.type "dict")
 | dT {a:Addr} {kvs:List (List Key × V)} (e:H a=some (.dT kvs)):zct K H (.ref a) (.type "dict")
 | ins {a C dx:Addr} {fs:List (Str × V)} (e:H a=some (.ins C dx fs)) (cl:Cls K C) (ha:PySem.W.findIn K (.ref C) "__class__" = some (some (.builtin "object.__class__")))
   (hn:PySem.W.specialIn K (.builtin "object.__class__") "__get__" = some (some (.builtin "getset_descriptor.__get__"))) (htk:PySem.W.takesIn K (.builtin "object.__class__")=some true)
   (hm:PySem.W.mroIn K C (.type "object")=some true):zct K H (.ref a) (.ref C)
end
structure Room (k:Nat) (A:Around):Prop where
 hd:A.handled=none
 dp:A.depth + 3 * k + 5 < recursionLimit
 un:A.units + 16 * k + 200 < cLine
theorem Room.mono {j k:Nat} {A:Around} (r:Room k A) (h:j <= k):Room j A:=⟨r.hd,by have:=r.dp;omega,by have:=r.un;omega⟩
theorem Room.deeper {k:Nat} {A:Around} (r:Room (k + 1) A) (env:Env):Room k (A.deeper env):=
 ⟨r.hd,by have:=r.dp;show A.depth + 1 + 3 * k + 5 < _;omega,by have:=r.un;show A.units + 3 + 16 * k + 200 < _;omega⟩
theorem Room.depth {k:Nat} {A:Around} (r:Room k A):A.depth < recursionLimit:=by have:=r.dp;omega
theorem Room.units {k:Nat} {A:Around} (r:Room k A):A.units + 64 < cLine:=by have:=r.un;omega
def zko:TA:=fun _ H Q=>Q [] H
def zjD (ta:TE) (tr:TA):TA:=fun σ H Q=>ta σ H fun x H1=>tr σ H1 fun xs H2=>Q (x :: xs) H2
section
variable {X:Cx} {e:Expr} {es:List Expr} {te:TE} {t:TA} {pos:Pos}
theorem z78:PA X [] zko:=fun _ _ _ _ H Q I h=>Calls.spliced_nil ⟨[],H,I,.nil,h⟩
theorem z2z (ha:PE X e te) (hr:PA X es t) (hs:starEach (e :: es) X.env=(false,eval e X.env) :: starEach es X.env:=by rfl):PA X (e :: es) (zjD te t):=by
 intro pos pins s σ H Q I h
 rw [hs]
 show wpAny _ _ (spliced ((false,eval e X.env) :: backTo pos (starEach es X.env))) _ _ s
 refine Calls.spliced_cons (thn (ha pins s σ H _ I h) fun u s1 ⟨x,H1,I1,r1,q1⟩=>?_)
 exact thn (hr pos pins s1 σ H1 _ I1 q1) fun us s2 ⟨xs,H2,I2,r2,q2⟩=>⟨x :: xs,H2,I2,.cons r1 r2,q2⟩
def zkw (t:TA):TE:=fun σ H Q=>t σ H fun xs H1=>xs.length <= sizeLine/\∀ p,H1 p=none->Q (.ref p) (upd H1 p (.tup xs))
def zkE (t:TA):TE:=fun σ H Q=>t σ H fun xs H1=>xs.length <= sizeLine/\∀ p,H1 p=none->Q (.ref p) (upd H1 p (.lst xs))
theorem zen {x1} (h:PA X es t):PE X (.Tuple es x1 pos) (zkw t):=by
 intro pins s σ H Q I hq
 refine wpAny_Tuple_spliced (thn (h pos pins s σ H _ I hq) fun us s1 ⟨xs,H1,I1,r,z,q⟩=>⟨by rw [<- r.length];exact z,?_⟩)
 have hf:H1 s1.heap.objs.size=none:=I1.hok.fresh (Nat.le_refl _)
 refine ⟨.ref s1.heap.objs.size,upd H1 s1.heap.objs.size (.tup xs),I1.laid (t':=s1.toks) (fun b u e=>Heap.get?_push_of_some _ e) (Nat.le_refl _) ?_,rfl,q _ hf⟩
 exact ⟨z,us,r,⟨_,Heap.get?_push_size _ rfl,rfl,_,rfl⟩⟩
theorem zeO (h:PA X es t):PE X (.List es pos) (zkE t):=by
 intro pins s σ H Q I hq
 refine wpAny_List_spliced (thn (h pos pins s σ H _ I hq) fun us s1 ⟨xs,H1,I1,r,z,q⟩=>⟨by rw [<- r.length];exact z,?_⟩)
 have hf:H1 s1.heap.objs.size=none:=I1.hok.fresh (Nat.le_refl _)
 refine ⟨.ref s1.heap.objs.size,upd H1 s1.heap.objs.size (.lst xs),I1.laid (t':=s1.toks) (fun b u e=>Heap.get?_push_of_some _ e) (Nat.le_refl _) ?_,rfl,q _ hf⟩
 exact ⟨z,us,0,r,Heap.get?_push_size _ rfl⟩
end
abbrev Sp:=List V->Hp->VK->XK->Prop
abbrev CXT:=List Env->Hp->Shared->XK->Value->Shared->Prop
structure ziW (P:Program) (w:World) (K:PySem.W.Frag) (mg:Str->Option Value) (base:Heap) (A:Around) (outer:List Env) (s:Shared) (H:Hp):Prop where
 frames:A.frames=some outer
 mod:Mod K mg base
 bs:∀ b o,base.get? b=some o->s.heap.get? b=some o/\H b=none
 bsz:base.objs.size <= s.heap.objs.size
 funs:s.heap.FunFrames base outer
 frf:∀ b ∈ frs outer,H b=none
 hok:HOk P w H s.heap
 bare:AllBare s.gens
 tk:0 < s.toks
def CE (outer:List Env) (P:Program) (w:World) (H:Hp) (s:Shared) (Q:VK) (u:Value) (s':Shared):Prop:=
 (∃ v H',s'.os=s.os/\AllBare s'.gens/\Un (frs outer) [] H H' s.heap s'.heap/\HOk P w H' s'.heap/\RelV v u/\Q v H')/\0 < s'.toks
def CR (CX:CXT) (outer:List Env) (P:Program) (w:World) (H:Hp) (s:Shared) (Q:VK) (E:XK) (r:Result) (s':Shared):Prop:=
 match r with
 | .ok (.ret u)=>CE outer P w H s Q u s'
 | .ok _=>False
 | .error e=>CX outer H s E e s'
structure FnOk (P:Program) (w:World) (K:PySem.W.Frag) (mg:Str->Option Value) (base:Heap) (CX:CXT) (k:Nat) (f:Addr) (fd:FuncData) (ps:List Str) (sp:Sp):Prop where
 len:∀ vs H Q E,sp vs H Q E->vs.length=ps.length
 run:∀ (A:Around) (outer:List Env) (s:Shared) (H:Hp) (args:Args) (us:List Value) (vs:List V) (Q:VK) (E:XK),Room k A->ziW P w K mg base A outer s H->BindsTo s fd args (ps.zip us)->Vals vs us->sp vs H Q E->
  codeAny (model P w) A (.call (.ref f) args) (CR CX outer P w H s Q E) s
theorem FnOk.mono {P:Program} {w:World} {K:PySem.W.Frag} {mg:Str->Option Value} {base:Heap} {CX:CXT} {j k:Nat} {f:Addr} {fd:FuncData} {ps:List Str} {sp:Sp} (F:FnOk P w K mg base CX j f fd ps sp) (h:j <= k):
  FnOk P w K mg base CX k f fd ps sp:=⟨F.len,fun A outer s H args us vs Q E hr=>F.run A outer s H args us vs Q E (hr.mono h)⟩
theorem FnOk.imp {P:Program} {w:World} {K:PySem.W.Frag} {mg:Str->Option Value} {base:Heap} {CX:CXT} {k:Nat} {f:Addr} {fd:FuncData} {ps:List Str} {sp sp':Sp} (F:FnOk P w K mg base CX k f fd ps sp)
  (h:∀ vs H Q E,sp' vs H Q E->sp vs H Q E):FnOk P w K mg base CX k f fd ps sp':=
 ⟨fun vs H Q E q=>F.len vs H Q E (h _ _ _ _ q),fun A outer s H args us vs Q E hr he hb hv hs=>F.run A outer s H args us vs Q E hr he hb hv (h _ _ _ _ hs)⟩
section
variable {X:Cx} {pins:List (Addr × Obj)} {σ:St} {H:Hp} {s s':Shared}
theorem Inv.env0 (I:Inv X pins σ H s):ziW X.prog X.w X.K X.mg X.base X.A X.stack s H:=
 ⟨I.ok.frames,I.ok.mod,I.bs,Nat.le_trans I.ok.bsz I.sz,I.stack,I.stkFree,I.hok,I.bare,I.tk⟩
theorem Inv.after {Q:VK} {u:Value} (I:Inv X pins σ H s) (h:CE X.stack X.prog X.w H s Q u s'):EP X pins σ Q u s':=by
 obtain ⟨⟨v,H',os,bare,un,hok,r,q⟩,htk⟩:=h
 obtain ⟨hh,g,d,t,os'⟩:=s'
 obtain rfl:os'=s.os:=os
 exact ⟨v,H',I.call (h':=hh) (g':=g) (d':=d) (t':=t) (ch:=[]) un hok bare (fun b z=>absurd z (by simp)) htk,r,q⟩
end
def zjx (sp:Sp) (dvs:List V) (E:XK) (t:TA):TE:=fun σ H Q=>t σ H fun vs H1=>sp (vs ++ dvs) H1 Q E
def Binds (K:PySem.W.Frag) (fd:FuncData) (ps:List Str) (ds:List Value):Prop:=
 ∀ (s:Shared) (us:List Value),K.In s.heap->(us ++ ds).length=ps.length->BindsTo s fd ⟨us,[]⟩ (ps.zip (us ++ ds))
theorem Binds.all {K:PySem.W.Frag} {fd:FuncData} {ps:List Str} (h:∀ us:List Value,us.length=ps.length->bindArgs fd ⟨us,[]⟩=pure (ps.zip us)):Binds K fd ps []:=fun s us _ hl=>by
 rw [List.append_nil] at hl ⊢
 exact .of_eq (h us hl)
def z96 (CX:CXT) (X:Cx) (E:XK):Prop:=∀ (pins:List (Addr × Obj)) (σ:St) (H:Hp) (s:Shared) (e:Value) (s':Shared),Inv X pins σ H s->CX X.stack H s E e s'->X.xe e s'
section
variable {X:Cx} {CX:CXT} {k:Nat} {f C:Addr} {fd:FuncData} {ps:List Str} {sp:Sp} {dvs:List V} {ds:List Value} {E:XK} {x:Str} {p pos:Pos} {e:Expr} {es:List Expr} {t:TA}
theorem zii {pins:List (Addr × Obj)} {σ:St} {H:Hp} {s:Shared} {Q:VK} {us:List Value} {vs:List V} (F:FnOk X.prog X.w X.K X.mg X.base CX k f fd ps sp) (hr:Room k X.A) (hb:Binds X.K fd ps ds) (hd:Vals dvs ds) (hx:z96 CX X E)
  (I:Inv X pins σ H s) (r:Vals vs us) (h:sp (vs ++ dvs) H Q E):wpAny (model X.prog X.w) X.A (call (.ref f) us) (EP X pins σ Q) X.xe s:=by
 have r2:Vals (vs ++ dvs) (us ++ ds):=r.append hd
 have hl:(us ++ ds).length=ps.length:=by rw [<- r2.length];exact F.len _ _ _ _ h
 refine wpAny_call (codeAny_mono (F.run X.A X.stack s H ⟨us,[]⟩ (us ++ ds) (vs ++ dvs) Q E hr I.env0 (hb s us I.kIn hl) r2 h) fun r s' hq=>?_)
 cases r with
 | error e=>exact hx pins σ H s e s' I hq
 | ok fl=>
  cases fl with
  | ret u=>exact I.after hq
  | next=>exact False.elim hq
  | brk=>exact False.elim hq
  | cont=>exact False.elim hq
theorem zfZ (F:FnOk X.prog X.w X.K X.mg X.base CX k f fd ps sp) (hr:Room k X.A) (hg:Gl X x) (hm:X.mg x=some (.ref f)) (hk:PySem.W.keepIn X.K (.ref f)=true) (hb:Binds X.K fd ps ds) (hd:Vals dvs ds) (hx:z96 CX X E)
  (ha:PA X (e :: es) t) (hdb:(x == ("__debug__":Str))=false:=by decide) (he:starEach (e :: es) X.env=(false,eval e X.env) :: starEach es X.env:=by rfl) (hpl:(backTo pos (starEach es X.env)).any (·.1)=false:=by rfl):
  PE X (.Call (.Name x p) (e :: es) [] pos) (zjx sp dvs E t):=by
 intro pins s σ H Q I h
 refine wpAny_Call_Name_kw (zb3 I hg hm ?_ hdb)
 refine PySem.W.callWith_K (h₀:=X.base) I.ok.mod.kin hk (thn (ha pos pins s σ H _ I h) fun us s1 ⟨vs,H1,I1,r,q⟩=>⟨I1.kIn,?_⟩) he hpl
 exact zii F hr hb hd hx I1 r q
structure Mk (K:PySem.W.Frag) (C f:Addr):Prop where
 makes:PySem.W.makesIn K C=true
 init:PySem.W.findIn K (.ref C) "__init__" = some (some (.ref f))
 fn:PySem.W.isFn K (.ref f)=true
 kp:PySem.W.keepIn K (.ref C)=true
end
section
variable {fd:FuncData} {ps ks:List Str}
structure zki (K:PySem.W.Frag) (fd:FuncData) (ps ks:List Str) (g:List Value->List Value->List Value) (gV:List V->List V->List V):Prop where
 to:∀ (s:Shared) (us ws:List Value),K.In s.heap->(g us ws).length=ps.length->BindsTo s fd ⟨us,ks.zip ws⟩ (ps.zip (g us ws))
 rel:∀ {vs:List V} {us:List Value} {zs:List V} {ws:List Value},Vals vs us->Vals zs ws->Vals (gV vs zs) (g us ws)
end
structure z0a (N P:List Str) (sc:Scope):Prop where
 kind:sc.kind=.function
 co:sc.isCoroutine=false
 gen:sc.isGenerator=false
 nd:N.Nodup
 pre:N.take P.length=P
 par:∀ x ∈ P,sc.names.lookup x=some .local \/ sc.names.lookup x=some .cell
 nofree:∀ y ∈ sc.names,y.2 ≠ .free
theorem z76 {kindOf:Str->Option NameKind} {x:Str}:∀ {binds:List (Str × Value)} {m:Str->Option Value},(∀ v,(x,v) ∉ binds)->bindL kindOf binds m x=m x
 | [],_,_=>rfl
 | (n,v) :: r,m,h=>by
  unfold bindL
  rw [z76 fun w hw=>h w (List.mem_cons_of_mem _ hw)]
  split
  ·have:x ≠ n:=by rintro rfl;exact h v List.mem_cons_self
   simp [this]
  ·rfl
theorem z7W {kindOf:Str->Option NameKind} {x:Str}:∀ {binds:List (Str × Value)} {m:Str->Option Value},(∀ v,(x,v) ∉ binds)->bindC kindOf binds m x=m x
 | [],_,_=>rfl
 | (n,v) :: r,m,h=>by
  unfold bindC
  rw [z7W fun w hw=>h w (List.mem_cons_of_mem _ hw)]
  split
  ·rfl
  ·have:x ≠ n:=by rintro rfl;exact h v List.mem_cons_self
   simp [this]
theorem z7v {kindOf:Str->Option NameKind} {x:Str} {v:Value}:∀ {P:List Str} {vs:List Value} {i:Nat} {m:Str->Option Value},P.Nodup->P[i]?=some x->vs[i]?=some v->kindOf x=some .local->
  bindL kindOf (P.zip vs) m x=some v
 | [],_,_,_,_,h,_,_=>by simp at h
 | _ :: _,[],_,_,_,_,h,_=>by simp at h
 | p :: P,w :: vs,0,m,nd,h1,h2,hk=>by
  simp at h1 h2;subst h1;subst h2
  show bindL kindOf ((p,w) :: P.zip vs) m p=_
  unfold bindL
  rw [z76 fun v hv=>(List.nodup_cons.mp nd).1 (List.of_mem_zip hv).1,if_pos hk]
  simp
 | p :: P,w :: vs,i + 1,m,nd,h1,h2,hk=>by
  show bindL kindOf ((p,w) :: P.zip vs) m x=_
  unfold bindL
  exact z7v (i:=i) (List.nodup_cons.mp nd).2 (by simpa using h1) (by simpa using h2) hk
theorem z7f {kindOf:Str->Option NameKind} {x:Str} {v:Value}:∀ {P:List Str} {vs:List Value} {i:Nat} {m:Str->Option Value},P.Nodup->P[i]?=some x->vs[i]?=some v->kindOf x ≠ some .local->
  bindC kindOf (P.zip vs) m x=some v
 | [],_,_,_,_,h,_,_=>by simp at h
 | _ :: _,[],_,_,_,_,h,_=>by simp at h
 | p :: P,w :: vs,0,m,nd,h1,h2,hk=>by
  simp at h1 h2;subst h1;subst h2
  show bindC kindOf ((p,w) :: P.zip vs) m p=_
  unfold bindC
  rw [z7W fun v hv=>(List.nodup_cons.mp nd).1 (List.of_mem_zip hv).1,if_neg hk]
  simp
 | p :: P,w :: vs,i + 1,m,nd,h1,h2,hk=>by
  show bindC kindOf ((p,w) :: P.zip vs) m x=_
  unfold bindC
  exact z7f (i:=i) (List.nodup_cons.mp nd).2 (by simpa using h1) (by simpa using h2) hk
def start (N:List Str) (vs:List V):St:=vs.map some ++ List.replicate (N.length - vs.length) none
def zgK (CX:CXT) (P:Program) (w:World) (K:PySem.W.Frag) (mg:Str->Option Value) (base:Heap) (N:List Str) (qual:Str) (scope:Scope) (f:Addr) (cd:Value) (A:Around) (outer:List Env) (s:Shared) (H:Hp) (E:XK):Cx where
 prog:=P
 w:=w
 K:=K
 mg:=mg
 base:=base
 A:=A.deeper (envOfC qual scope s.heap.objs.size f cd)
 N:=N
 s₀:=s
 H₀:=H
 env:=envOfC qual scope s.heap.objs.size f cd
 outer:=outer
 stack:=envOfC qual scope s.heap.objs.size f cd :: outer
 ex:=[]
 calm:=true
 fn:=fun _=>true
 pn:=[]
 xe:=fun e s'=>wpAny (model P w) (A.deeper (envOfC qual scope s.heap.objs.size f cd)) (leaving (envOfC qual scope s.heap.objs.size f cd) e) (fun _ s''=>CX outer H s E e s'') (fun e' s''=>CX outer H s E e' s'') s'
theorem z9E {sc:Scope} {n:Nat} {x:Str} (h:sc.names.lookup x=some .cell):∃ c,(cellsFrom n sc.names []).lookup x=some c:=by
 have q:=PySem.W.cellsFrom_some sc.names n [] (.inl h)
 exact Option.isSome_iff_exists.mp q
theorem zbf {CX:CXT} {P:Program} {w:World} {K:PySem.W.Frag} {mg:Str->Option Value} {base:Heap} {N ps:List Str} {qual:Str} {scope:Scope} {f:Addr} {cd:Value} {A:Around} {outer:List Env} {s s1:Shared} {H:Hp} {E:XK} {us:List Value} {vs:List V}
  (S:z0a N ps scope) (hd:A.handled=none) (e0:ziW P w K mg base A outer s H) (hl:vs.length=ps.length) (r:Vals vs us)
  (x:InCallC s s.heap.objs.size (bindL (envOfC qual scope s.heap.objs.size f cd).kindOf (ps.zip us) fun _=>none) (cellsFrom (s.heap.objs.size + 1) scope.names []) (bindC (envOfC qual scope s.heap.objs.size f cd).kindOf (ps.zip us) fun _=>none) s1) (htk:0 < s1.toks):
  Inv (zgK CX P w K mg base N qual scope f cd A outer s H E) [] (start N vs) H s1:=by
 have hpl:ps.length <= N.length:=by have:=congrArg List.length S.pre;rw [List.length_take] at this;omega
 obtain ⟨h1,tk,rfl,hk⟩:=x.done
 have noA:∀ b:Addr,b ∉ (zgK CX P w K mg base N qual scope f cd A outer s H E).ex:=fun b z=>absurd (show b ∈ ([]:List Addr) from z) (by simp)
 refine ⟨⟨e0.mod,S.kind,rfl,rfl,Nat.le_refl _,fun y z c h1 h2=>?_,fun y hy=>?_,fun y c _ h=>?_,fun _=>hd,Around.frames_deeper e0.frames,.inr ⟨rfl,rfl⟩,fun b z=>absurd z (noA b),e0.bs,e0.bsz,fun b _ _=>noA b,fun b z=>absurd z (noA b),e0.funs,e0.frf⟩,
  rfl,e0.bare,Un.kept hk,⟨_,x.toInCall.ns,fun i y v h1 h2 h3=>?_⟩,fun y c h=>⟨_,x.cell y c h⟩,e0.hok.fresh (Nat.le_refl _),fun y c h=>?_,fun p hp=>absurd (show p ∈ ([]:List (Addr × Obj)) from hp) (by simp),e0.hok.kept hk,?_,htk⟩
 ·exact name_of_addr x.apart (PySem.mem_of_lookup h1) (PySem.mem_of_lookup h2)
 ·have hy:scope.names.lookup y=some .cell \/ scope.names.lookup y=some .free:=hy
  rcases hy with hy|hy
  ·exact z9E hy
  ·exact absurd rfl (S.nofree _ (PySem.mem_of_lookup hy))
 ·exact Nat.le_of_lt (x.above y c (PySem.mem_of_lookup h))
 ·have hi:i < vs.length:=by
   unfold start at h2
   by_cases hi:i < vs.length
   ·exact hi
   ·rw [List.getElem?_append_right (by simpa using hi)] at h2
    rw [List.getElem?_replicate] at h2
    split at h2 <;> cases h2
  have ha:vs[i]?=some v:=by
   unfold start at h2
   rw [List.getElem?_append_left (by simpa using hi),List.getElem?_map] at h2
   cases e:vs[i]? with
   | none=>rw [e] at h2;cases h2
   | some a=>rw [e] at h2;cases h2;rfl
  obtain ⟨u,hu,rv⟩:=r.get ha
  have hp:ps[i]?=some y:=by
   rw [<- S.pre,List.getElem?_take_of_lt (by omega)];exact h1
  have ndP:ps.Nodup:=by rw [<- S.pre];exact S.nd.sublist (List.take_sublist _ _)
  refine ⟨u,rv,?_⟩
  rcases S.par y (List.mem_of_getElem? hp) with k|k
  ·exact .inl ⟨k,z7v ndP hp hu k⟩
  ·obtain ⟨c,e⟩:=z9E (n:=s.heap.objs.size + 1) k
   refine .inr ⟨.inl k,c,e,?_⟩
   have q:=x.cell y c e
   rw [z7f ndP hp hu (by show scope.names.lookup y ≠ _;rw [k];decide)] at q
   exact q
 ·exact e0.hok.fresh (Nat.le_of_lt (x.above y c (PySem.mem_of_lookup h)))
 ·unfold start
  show _=N.length
  rw [List.length_append,List.length_map,List.length_replicate]
  omega
theorem z0X {CX:CXT} {P:Program} {w:World} {K:PySem.W.Frag} {mg:Str->Option Value} {base:Heap} {k:Nat} {f:Addr} {name qual:Str} {params:Arguments} {body:List Stmt} {scope:Scope} {dV kV doc pm cdv ct oc:Value} {an od:Option Addr}
  {osl:Array (Option Value)} {N ps:List Str} {sp:Sp} (lk:K.lookup f=some ⟨oc,od,.func (PySem.W.fnOf name qual params body scope dV kV doc pm an cdv ct),osl⟩) (hcd:PySem.W.codeIn K cdv qual=true) (S:z0a N ps scope)
  (len:∀ vs H Q E,sp vs H Q E->vs.length=ps.length)
  (hbody:∀ (A:Around) (outer:List Env) (s:Shared) (H:Hp) (vs:List V) (Q:VK) (E:XK),Room k (A.deeper (envOfC qual scope s.heap.objs.size f cdv))->sp vs H Q E->
   ∃ t,PSs (zgK CX P w K mg base N qual scope f cdv A outer s H E) body t/\t { nx:=fun _ H'=>Q .non H',rt:=Q } (start N vs) H):
  FnOk P w K mg base CX (k + 1) f (PySem.W.fnOf name qual params body scope dV kV doc pm an cdv ct) ps sp:=by
 refine ⟨len,fun A outer s H args us vs Q E hr e0 hb r hsp=>?_⟩
 have hl:=len _ _ _ _ hsp
 have KX:K.In s.heap:=e0.mod.kin.keeps fun b o e=>(e0.bs b o e).1
 have lim:s.heap.NoLimit:=e0.mod.nolimit.keeps fun b o e=>(e0.bs b o e).1
 have hkind:∀ y ∈ ps.zip us,scope.names.lookup y.1=some .local \/ (scope.names.lookup y.1=some .cell/\((cellsFrom (s.heap.objs.size + 1) scope.names []).lookup y.1).isSome=true):=fun ⟨n,v⟩ hy=>by
  rcases S.par n (List.of_mem_zip hy).1 with q|q
  ·exact .inl q
  ·exact .inr ⟨q,PySem.W.cellsFrom_some _ _ _ (.inl q)⟩
 refine codeAny_call_function hr.depth (KX _ _ lk) rfl S.co S.gen rfl (PySem.W.codeRec_of KX hcd) (hb _ _ _ _ ?_)
 refine wpAny_with_toks e0.tk (wpAny_newFunctionEnv_cells S.kind hkind fun env he s1 x htk=>?_)
 subst he
 refine ⟨lim.keeps x.toInCall.keep,codeAny_func ?_⟩
 obtain ⟨t,ht,hq⟩:=hbody A outer s H vs Q E (hr.deeper _) hsp
 have I:Inv (zgK CX P w K mg base N qual scope f cdv A outer s H E) [] (start N vs) H s1:=zbf S hr.hd e0 hl r x htk
 refine wpAny_mono (ht [] s1 (start N vs) H _ I hq) (fun fl s' hs=>?_) fun e s' hs=>hs
 have fin:∀ {σ':St} {H':Hp} {v:V} {u:Value},Inv (zgK CX P w K mg base N qual scope f cdv A outer s H E) [] σ' H' s'->RelV v u->Q v H'->CE outer P w H s Q u s':=
  fun {σ' H' v u} J rv q=>⟨⟨v,H',J.os,J.bare,J.base,J.hok,rv,q⟩,J.tk⟩
 cases fl with
 | ret u=>
  obtain ⟨v,σ',H',J,rv,q⟩:=hs
  exact fin J rv q
 | next=>
  obtain ⟨σ',H',J,q⟩:=hs
  exact fin (v:=V.non) (u:=Value.none) J rfl q
 | brk=>
  obtain ⟨_,_,_,q⟩:=hs
  exact False.elim q
 | cont=>
  obtain ⟨_,_,_,q⟩:=hs
  exact False.elim q
section
variable {X:Cx} {x:Str} {p pos:Pos} {e:Expr} {es:List Expr} {t:TA} {id T:String} {r:List V->Hp->VK->Prop}
def tCB (r:List V->Hp->VK->Prop) (t:TA):TE:=fun σ H Q=>t σ H fun vs H1=>r vs H1 Q
theorem z4r (hc:CallR X (.builtin id) r) (hg:Gl X x) (hm:X.mg x=none) (hv:bootBuiltins x=some (.builtin id)) (ha:PA X (e :: es) t) (hn:x ≠ "__name__":=by decide) (hdb:(x == ("__debug__":Str))=false:=by decide)
  (he:starEach (e :: es) X.env=(false,eval e X.env) :: starEach es X.env:=by rfl) (hpl:(backTo pos (starEach es X.env)).any (·.1)=false:=by rfl):PE X (.Call (.Name x p) (e :: es) [] pos) (tCB r t):=by
 intro pins s σ H Q I h
 refine wpAny_Call_Name_kw (z5N I hg hm hv ?_ hn hdb)
 exact PyProof.Rows.callWith_builtin1 (thn (ha pos pins s σ H _ I h) fun us s1 ⟨vs,H1,I1,r1,q1⟩=>hc pins s1 σ H1 vs us Q I1 r1 q1) he hpl
theorem zaU (hc:CallR X (.type T) r) (hg:Gl X x) (hm:X.mg x=none) (hv:bootBuiltins x=some (.type T)) (ha:PA X (e :: es) t) (hn:x ≠ "__name__":=by decide) (hdb:(x == ("__debug__":Str))=false:=by decide)
  (he:starEach (e :: es) X.env=(false,eval e X.env) :: starEach es X.env:=by rfl) (hpl:(backTo pos (starEach es X.env)).any (·.1)=false:=by rfl):PE X (.Call (.Name x p) (e :: es) [] pos) (tCB r t):=by
 intro pins s σ H Q I h
 refine wpAny_Call_Name_kw (z5N I hg hm hv ?_ hn hdb)
 exact PyProof.Rows.callWith_type1 (thn (ha pos pins s σ H _ I h) fun us s1 ⟨vs,H1,I1,r1,q1⟩=>hc pins s1 σ H1 vs us Q I1 r1 q1) he hpl
end
end L2
namespace HT
open PySem PyProof.Rows
section
open PySem.SeqAt
open PySem.AutoSeq1 (wpAny_loadPart')
open PySem.MeetsSeq PySem.MeetsSeq2 PySem.MeetsSeq3
end
section
variable {prog:Program} {w:World} {A:Around} {E:Value->Shared->Prop} {s:Shared}
theorem cat_tup {t b:Addr} {vs ws:List Value} {Q:Value->Shared->Prop} (ht:IsTup s.heap t vs.toArray) (hb:IsTup s.heap b ws.toArray) (hv:vs ≠ [])
  (h1:ws=[]->Q (.ref t) s) (h2:ws ≠ []->Q (.ref s.heap.objs.size) { s with heap:=s.heap.push { cls:=.type "tuple",data:=.seq (vs ++ ws).toArray } })
  (hsz:vs.length + ws.length <= sizeLine):wpAny (model prog w) A (binaryOp .Add (.ref t) (.ref b)) Q E s:=by
 obtain ⟨⟨cls,dd,data,sl⟩,ho,hc,n,hd⟩:=id ht
 obtain ⟨⟨cls2,dd2,data2,sl2⟩,ho2,hc2,n2,hd2⟩:=id hb
 simp only at hc hd hc2 hd2
 subst hc hd hc2 hd2
 have e:vs.toArray ++ ws.toArray=(vs ++ ws).toArray:=by simp
 by_cases hw:ws=[]
 ·exact concat_meets ⟨_,ho,rfl⟩ ⟨_,ho2,rfl⟩ noFill_tuple_add seq_tuple_add PySem.F.slot_tuple_add PySem.F.entry_tuple_add (PySem.F.args_tuple_add_2 _ _)
   (tuple_addW1 t b vs.toArray ws.toArray n n2 dd dd2 sl sl2 (by simpa using hv) (by simp [hw])) ⟨ho,ho2,h1 hw⟩
 ·refine concat_meets ⟨_,ho,rfl⟩ ⟨_,ho2,rfl⟩ noFill_tuple_add seq_tuple_add PySem.F.slot_tuple_add PySem.F.entry_tuple_add (PySem.F.args_tuple_add_2 _ _)
   (tuple_addW2 t b vs.toArray ws.toArray n n2 dd dd2 sl sl2 (by simpa using hv) (by simpa using hw) (by rw [List.size_toArray,List.size_toArray];exact hsz)) ⟨ho,ho2,?_⟩
  rw [e]
  exact h2 hw
def sIx (n d:Nat):Option Int->Nat
 | none=>d
 | some v=>if v < 0 then (v + (n:Int)).toNat else min v.toNat n
theorem zhS (n d:Nat) (hd:d <= n) (o:Option Int):sIx n d o <= n:=by
 cases o with
 | none=>exact hd
 | some v=>
  show (if v < 0 then (v + (n:Int)).toNat else min v.toNat n) <= n
  by_cases hv:v < 0
  ·rw [if_pos hv];omega
  ·rw [if_neg hv];exact Nat.min_le_right _ _
theorem zbl (v:Int) (n d:Nat):(if v < 0 then max (v + (n:Int)) 0 else min v (n:Int))=((sIx n d (some v):Nat):Int):=by
 show (if v < 0 then max (v + (n:Int)) 0 else min v (n:Int))=(((if v < 0 then (v + (n:Int)).toNat else min v.toNat n):Nat):Int)
 by_cases hv:v < 0
 ·simp only [if_pos hv];omega
 ·simp only [if_neg hv];omega
theorem zak (lo hi:Option Int) (n:Nat):Builtin.Slice.sliceAdjust lo hi 1 (n:Int)=(((sIx n 0 lo:Nat):Int),((sIx n n hi:Nat):Int)):=by
 have h1:¬ ((1:Int) < 0):=by omega
 unfold Builtin.Slice.sliceAdjust
 simp only [h1,if_false]
 refine Prod.ext ?_ ?_
 ·cases lo with
  | none=>rfl
  | some v=>exact zbl v n 0
 ·cases hi with
  | none=>rfl
  | some v=>exact zbl v n n
theorem za4 (i j:Nat):Builtin.Slice.slicePlaces (i:Int) (j:Int) 1=j - i:=by
 unfold Builtin.Slice.slicePlaces
 have h1:(1:Int) > 0:=by omega
 simp only [h1,if_true,Int.ediv_one]
 split <;> omega
theorem z64 {v:Value} {o:Option Int} {Q:Option Int->Shared->Prop} (p:IsPart v o) (h:Q o s):wpAny (model prog w) A (Builtin.Slice.slicePartIndex v) Q E s:=by
 cases p with
 | none=>exact slicePart_none h
 | int i t=>exact slicePart_int h
theorem z48 {sl:Addr} {vl vu:Value} {lo hi:Option Int} {n:Nat} {Q:Int × Int × Nat->Shared->Prop} (hs:s.heap.IsSliceOf sl vl vu .none) (pl:IsPart vl lo) (pu:IsPart vu hi)
  (h:Q (((sIx n 0 lo:Nat):Int),1,sIx n n hi - sIx n 0 lo) s):wpAny (model prog w) A (Builtin.Slice.sliceApplied (.ref sl) (pure (n:Int))) Q E s:=by
 obtain ⟨os,hos,hcs,hds⟩:=id hs
 unfold Builtin.Slice.sliceApplied Builtin.Slice.sliceFields
 refine wpAny_bind (wpAny_bind (wpAny_field hos hds (x:=vl) rfl (wpAny_bind (wpAny_field hos hds (x:=vu) rfl (wpAny_bind (wpAny_field hos hds (x:=.none) rfl (wpAny_pure ?_)))))))
 refine wpAny_bind (slicePart_none ?_)
 show wpAny _ _ (if ((1:Int) == 0)=true then _ else _) _ _ s
 rw [if_neg (by decide)]
 refine wpAny_bind (z64 pl (wpAny_bind (z64 pu (wpAny_bind (wpAny_pure ?_)))))
 show wpAny _ _ (match Builtin.Slice.sliceAdjust lo hi 1 (n:Int) with|(lo,hi)=>pure (lo,(1:Int),Builtin.Slice.slicePlaces lo hi 1)) _ _ s
 rw [zak lo hi n]
 show wpAny _ _ (pure (((sIx n 0 lo:Nat):Int),(1:Int),Builtin.Slice.slicePlaces ((sIx n 0 lo:Nat):Int) ((sIx n n hi:Nat):Int) 1)) _ _ s
 rw [za4]
 exact wpAny_pure h
theorem zcP (xs:Array Value) (i k:Nat):((List.range k).filterMap fun (m:Nat)=>xs[((i:Int) + (m:Int) * 1).toNat]?).toArray=((xs.toList.drop i).take k).toArray:=by
 have e:(fun (m:Nat)=>xs[((i:Int) + (m:Int) * 1).toNat]?)=fun m=>xs[i + m]?:=by
  funext m
  have:((i:Int) + (m:Int) * 1).toNat=i + m:=by omega
  rw [this]
 rw [e]
 have:=pick_run xs i k
 rw [List.filterMap_map] at this
 have e2:((fun x=>xs[x]?) ∘ fun x=>i + x)=fun m=>xs[i + m]?:=rfl
 rw [e2] at this
 rw [this]
theorem getItem_tuple_cut {t sl:Addr} {items:Array Value} {vl vu:Value} {lo hi:Option Int} {Q:Value->Shared->Prop} (ht:IsTup s.heap t items) (hs:s.heap.IsSliceOf sl vl vu .none) (pl:IsPart vl lo) (pu:IsPart vu hi)
  (hw:¬ (sIx items.size 0 lo=0/\sIx items.size items.size hi=items.size))
  (h:Q (.ref s.heap.objs.size) { s with heap:=s.heap.push { cls:=.type "tuple",data:=.seq ((items.toList.drop (sIx items.size 0 lo)).take (sIx items.size items.size hi - sIx items.size 0 lo)).toArray } })
  (hsz:items.size <= sizeLine):wpAny (model prog w) A (getItem (.ref t) (.ref sl)) Q E s:=by
 have htake:sizeOk (.seq ((items.toList.drop (sIx items.size 0 lo)).take (sIx items.size items.size hi - sIx items.size 0 lo)).toArray):=by
  show ((items.toList.drop (sIx items.size 0 lo)).take (sIx items.size items.size hi - sIx items.size 0 lo)).toArray.size <= sizeLine
  rw [List.size_toArray,List.length_take,List.length_drop,Array.length_toList]
  omega
 have hj:sIx items.size items.size hi <= items.size:=zhS _ _ (Nat.le_refl _) hi
 obtain ⟨os,hos,hcs,hds⟩:=id hs
 have hTs:s.TypeIs (.ref sl) "slice":=⟨os,hos,hcs⟩
 unfold getItem
 try with_reducible refine wpAny_holding ?_
 first|refine wpAny_bind (wpAny_pure ?_)|skip
 refine wpAny_bind (wpAny_sequenceKey ht.typeIs (by decide) ?_)
 refine wpAny_bind (wpAny_callSpecial?_slot (name:=Str.ofString "__getitem__") ht.typeIs PyProof.Rows.slot_tuple_getitem
  (wpAny_call_entry PyProof.Rows.slot_tuple_getitem ht.typeIs entry_tuple_getitem ?_ (args_tuple_getitem _ _)))
 show wpAny _ _ (Builtin.Tuple.tupleItemsOf (.ref t) >>= _) _ _ s
 refine wpAny_bind (tupleItemsOf_ ht ?_)
 refine wpAny_bind (wpAny_typeOf hTs ?_)
 rw [if_pos (by decide)]
 refine wpAny_bind (z48 hs pl pu ?_)
 have hno:¬ ((((sIx items.size 0 lo:Nat):Int) == 0 && (1:Int) == 1 && (sIx items.size items.size hi - sIx items.size 0 lo) == items.size)=true):=by
  intro q
  rw [Bool.and_eq_true,Bool.and_eq_true] at q
  have q1:((sIx items.size 0 lo:Nat):Int)=0:=eq_of_beq q.1.1
  have q2:sIx items.size items.size hi - sIx items.size 0 lo=items.size:=eq_of_beq q.2
  exact hw ⟨by omega,by omega⟩
 show wpAny _ _ (if (((sIx items.size 0 lo:Nat):Int) == 0 && (1:Int) == 1 && (sIx items.size items.size hi - sIx items.size 0 lo) == items.size)=true then _ else _) _ _ s
 rw [if_neg hno,zcP]
 first
  | exact wpAny_bind (m:=Builtin.Tuple.tupleExact _) (wpAny_newObj_type (wpAny_pure ⟨_,rfl,wpAny_pure h⟩) htake)
  | exact wpAny_bind (m:=Builtin.Tuple.tupleExact _) (wpAny_newObj_type (wpAny_bind (wpAny_pure (wpAny_pure ⟨_,rfl,wpAny_pure h⟩))) htake)
  | exact wpAny_bind (wpAny_bind (m:=Builtin.Tuple.tupleExact _) (wpAny_newObj_type (wpAny_pure (wpAny_pure ⟨_,rfl,wpAny_pure h⟩)) htake))
  | exact wpAny_bind (wpAny_bind (m:=Builtin.Tuple.tupleExact _) (wpAny_newObj_type (wpAny_pure ⟨_,rfl,wpAny_pure h⟩) htake))
end
end HT
namespace L2
open PySem PySem.Spec PyProof.Rows
abbrev TO:=St->Hp->(Option Int->Hp->Prop)->Prop
def PO (X:Cx) (e:Option Expr) (t:TO):Prop:=
 ∀ (pins:List (Addr × Obj)) (s:Shared) (σ:St) (H:Hp) (Q:Option Int->Hp->Prop),Inv X pins σ H s->t σ H Q->
  wpAny (model X.prog X.w) X.A (evalPart e X.env) (fun u s'=>∃ o H',Inv X pins σ H' s'/\IsPart u o/\Q o H') X.xe s
def zfU:TO:=fun _ H Q=>Q none H
def zj7 (t:TE):TO:=fun σ H Q=>t σ H fun x H1=>∃ i,x=.int i/\Q (some i) H1
theorem za0 {ns:List Int}:∀ {us:List Value},Vals (ns.map V.int) us->IntsAre us ns:=by
 induction ns with
 | nil=>intro us r;rw [List.map_nil] at r;cases r;exact .nil
 | cons n ns ih=>
  intro us r
  rw [List.map_cons] at r
  cases r with
  | cons r1 r2=>
   obtain ⟨t,e⟩:=r1
   subst e
   exact .cons n t (ih r2)
section
variable {X:Cx} {e:Expr} {te:TE} {lo hi:Option Expr} {tl th:TO} {pos p2:Pos}
theorem zfc:PO X none zfU:=by
 intro pins s σ H Q I h
 rw [evalPart_none]
 exact wpAny_pure ⟨none,H,I,.none,h⟩
theorem zfH (h:PE X e te):PO X (some e) (zj7 te):=by
 intro pins s σ H Q I hw
 rw [evalPart_some]
 refine thn (h pins s σ H _ I hw) fun u s1 ⟨x,H1,I1,r1,q1⟩=>?_
 obtain ⟨i,rfl,q⟩:=q1
 obtain ⟨t,rfl⟩:=r1
 exact ⟨some i,H1,I1,.int i t,q⟩
def SlR (X:Cx) (r:V->Option Int->Option Int->Hp->VK->Prop):Prop:=
 ∀ (pins:List (Addr × Obj)) (s:Shared) (σ:St) (H:Hp) (x:V) (v vl vu:Value) (lo hi:Option Int) (sl:Addr) (Q:VK),Inv X pins σ H s->RelV x v->s.heap.IsSliceOf sl vl vu .none->IsPart vl lo->IsPart vu hi->r x lo hi H Q->
  ∃ T id,typeLookup (.type T) "__getitem__" = pure (some (.builtin id))/\s.TypeIs v T/\wpAny (model X.prog X.w) X.A (getItem v (.ref sl)) (EP X pins σ Q) X.xe s
theorem SlR.or {r r':V->Option Int->Option Int->Hp->VK->Prop} (h:SlR X r) (h':SlR X r'):SlR X (fun x lo hi H Q=>r x lo hi H Q \/ r' x lo hi H Q):=by
 intro pins s σ H x v vl vu lo hi sl Q I rx hs pl pu q
 rcases q with q|q
 ·exact h pins s σ H x v vl vu lo hi sl Q I rx hs pl pu q
 ·exact h' pins s σ H x v vl vu lo hi sl Q I rx hs pl pu q
def tSl (r:V->Option Int->Option Int->Hp->VK->Prop) (te:TE) (tl th:TO):TE:=fun σ H Q=>te σ H fun x H1=>tl σ H1 fun l H2=>th σ H2 fun u H3=>r x l u H3 Q
theorem zcZ {r:V->Option Int->Option Int->Hp->VK->Prop} (hr:SlR X r) (he:PE X e te) (hl:PO X lo tl) (hu:PO X hi th):PE X (.Subscript e (.Slice lo hi none p2) pos) (tSl r te tl th):=by
 intro pins s σ H Q I h
 refine Subscript_ (thn (he pins s σ H _ I h) fun v s1 ⟨x,H1,I1,r1,q1⟩=>?_)
 refine wpAny_Slice (thn (hl pins s1 σ H1 _ I1 q1) fun vl s2 ⟨l,H2,I2,pl,q2⟩=>thn (hu pins s2 σ H2 _ I2 q2) fun vu s3 ⟨u,H3,I3,pu,q3⟩=>?_)
 rw [evalPart_none]
 refine wpAny_pure ?_
 have I4:Inv X pins σ H3 { s3 with heap:=s3.heap.push { cls:=.type "slice",data:=.fields #[vl,vu,.none] } }:=I3.kept (t':=s3.toks) fun b ob q=>Heap.get?_push_of_some _ q
 obtain ⟨T,id,hT,ht,hg⟩:=hr pins { s3 with heap:=s3.heap.push { cls:=.type "slice",data:=.fields #[vl,vu,.none] } } σ H3 x v vl vu l u s3.heap.objs.size Q I4 r1 (Heap.IsSliceOf.new ..) pl pu q3
 show wpAny (model X.prog X.w) X.A (subscriptTail e (.Slice lo hi none p2) v (.ref s3.heap.objs.size)) (EP X pins σ Q) X.xe { s3 with heap:=s3.heap.push { cls:=.type "slice",data:=.fields #[vl,vu,.none] } }
 exact tail_any (ops:=[.ref s3.heap.objs.size,v]) ht hT hg (by with_unfolding_all rfl)
def zev (xs:List V) (lo hi:Option Int):List V:=(xs.drop (HT.sIx xs.length 0 lo)).take (HT.sIx xs.length xs.length hi - HT.sIx xs.length 0 lo)
theorem z4O (xs:List V) (lo hi:Option Int):(zev xs lo hi).length <= xs.length:=by
 unfold zev
 rw [List.length_take,List.length_drop]
 omega
def zkh (K:PySem.W.Frag):V->Option Int->Option Int->Hp->VK->Prop:=fun x lo hi H Q=>∃ a xs,x=.ref a/\SqT K H a xs/\
 ¬ (HT.sIx xs.length 0 lo=0/\HT.sIx xs.length xs.length hi=xs.length)/\∀ p,H p=none->Q (.ref p) (upd H p (.tup (zev xs lo hi)))
theorem zic:SlR X (zkh X.K):=by
 intro pins s σ H x v vl vu lo hi sl Q I rx hs pl pu h
 obtain ⟨a,xs,rfl,hx,hw,q⟩:=h
 cases rx
 obtain ⟨its,r,ht,hz⟩:=I.tuple hx
 have hlen:its.toArray.size=xs.length:=by rw [List.size_toArray];exact r.length.symm
 refine ⟨"tuple",_,PyProof.Rows.slot_tuple_getitem.lookup,ht.typeIs,?_⟩
 refine HT.getItem_tuple_cut ht hs pl pu (by rw [hlen];exact hw) ?_ (by rw [hlen];exact hz)
 rw [hlen]
 refine ⟨.ref s.heap.objs.size,_,I.laid (t':=s.toks) (o:=.tup (zev xs lo hi)) (fun b ob q=>Heap.get?_push_of_some _ q) (Nat.le_refl _) ?_,rfl,q _ (I.hok.fresh (Nat.le_refl _))⟩
 exact ⟨Nat.le_trans (z4O xs lo hi) hz,_,(r.drop (HT.sIx xs.length 0 lo)).take (HT.sIx xs.length xs.length hi - HT.sIx xs.length 0 lo),IsTup.new _ _⟩
def zhI (K:PySem.W.Frag):R2:=fun x y H Q=>∃ a b xs ys,x=.ref a/\y=.ref b/\SqT K H a xs/\SqT K H b ys/\xs ≠ []/\xs.length + ys.length <= sizeLine/\
 (ys=[]->Q (.ref a) H)/\(ys ≠ []->∀ p,H p=none->Q (.ref p) (upd H p (.tup (xs ++ ys))))
theorem Vals.nil_iff {xs:List V} {us:List Value} (r:Vals xs us):us=[] ↔ xs=[]:=by
 cases r with
 | nil=>simp
 | cons _ _=>simp
theorem zgp:OpR X (binaryOp .Add) (zhI X.K):=by
 intro pins s σ H x y v u Q I rx ry h
 obtain ⟨a,b,xs,ys,rfl,rfl,ha,hb,hx,hz,q1,q2⟩:=h
 cases rx
 cases ry
 obtain ⟨its,r1,p1,_⟩:=I.tuple ha
 obtain ⟨its2,r2,p2,_⟩:=I.tuple hb
 refine HT.cat_tup p1 p2 (fun z=>hx (r1.nil_iff.mp z)) (fun z=>⟨.ref a,H,I,rfl,q1 (r2.nil_iff.mp z)⟩) (fun z=>?_) (by rw [<- r1.length,<- r2.length];exact hz)
 refine ⟨.ref s.heap.objs.size,_,I.laid (t':=s.toks) (o:=.tup (xs ++ ys)) (fun b ob q=>Heap.get?_push_of_some _ q) (Nat.le_refl _) ?_,rfl,q2 (fun w=>z (r2.nil_iff.mpr w)) _ (I.hok.fresh (Nat.le_refl _))⟩
 exact ⟨by rw [List.length_append];exact hz,_,r1.append r2,IsTup.new _ _⟩
end
def ixN (n:Nat) (i:Int):Option Nat:=if 0 <= i then (if i < n then some i.toNat else none) else if -(n:Int) <= i then some (i + n).toNat else none
def atI {α:Type} (xs:List α) (i:Int):Option α:=(ixN xs.length i).bind fun j=>xs[j]?
theorem zbo {n:Nat} {i:Int} {j:Nat} (h:ixN n i=some j):seqIndex? i n=some j/\j < n/\-(n:Int) <= i/\i < n:=by
 unfold ixN at h
 by_cases h0:0 <= i
 ·rw [if_pos h0] at h
  by_cases h1:i < n
  ·rw [if_pos h1] at h
   have e:i.toNat=j:=Option.some.inj h
   exact ⟨by rw [seqIndex_of h0 h1,e],by omega,by omega,h1⟩
  ·rw [if_neg h1] at h;cases h
 ·rw [if_neg h0] at h
  by_cases h1:-(n:Int) <= i
  ·rw [if_pos h1] at h
   have e:(i + n).toNat=j:=Option.some.inj h
   exact ⟨by rw [seqIndex_neg (by omega) h1,e],by omega,h1,by omega⟩
  ·rw [if_neg h1] at h;cases h
theorem z91 {α:Type} {xs:List α} {i:Int} {v:α} (h:atI xs i=some v):∃ j,seqIndex? i xs.length=some j/\xs[j]?=some v/\j < xs.length/\-(xs.length:Int) <= i/\i < xs.length:=by
 unfold atI at h
 cases e:ixN xs.length i with
 | none=>rw [e] at h;cases h
 | some j=>
  rw [e] at h
  obtain ⟨h1,h2,h3,h4⟩:=zbo e
  exact ⟨j,h1,h,h2,h3,h4⟩
theorem atI_nat {α:Type} {xs:List α} {j:Nat} {v:α} (h:xs[j]?=some v):atI xs (j:Int)=some v:=by
 have hj:j < xs.length:=(List.getElem?_eq_some_iff.mp h).1
 have e:ixN xs.length (j:Int)=some j:=by
  unfold ixN
  rw [if_pos (by omega),if_pos (by omega)];simp
 unfold atI;rw [e];exact h
def zbV (b:Expr):Prop:=∀ o i,subscripted b false o i=operate [o,i] (getItem o i)
def IxR (X:Cx) (r:R2):Prop:=
 ∀ (value slice:Expr) (pins:List (Addr × Obj)) (s:Shared) (σ:St) (H:Hp) (x y:V) (v u:Value) (Q:VK),Inv X pins σ H s->RelV x v->RelV y u->r x y H Q->
  subscripted slice false v u=operate [v,u] (getItem v u)->wpAny (model X.prog X.w) X.A (subscriptTail value slice v u) (EP X pins σ Q) X.xe s
def MtR (X:Cx) (id:String) (r:V->List V->Hp->VK->Prop):Prop:=
 ∀ (pins:List (Addr × Obj)) (s:Shared) (σ:St) (H:Hp) (x:V) (xs:List V) (v:Value) (us:List Value) (Q:VK),Inv X pins σ H s->RelV x v->Vals xs us->r x xs H Q->
  wpAny (model X.prog X.w) X.A (call (.builtin id) (v :: us)) (EP X pins σ Q) X.xe s
section
variable {X:Cx} {a b:Expr} {ta tb:TE} {pos:Pos}
theorem IxR.or {r r':R2} (h:IxR X r) (h':IxR X r'):IxR X (fun x y H Q=>r x y H Q \/ r' x y H Q):=by
 intro value slice pins s σ H x y v u Q I rx ry q hs
 rcases q with q|q
 ·exact h value slice pins s σ H x y v u Q I rx ry q hs
 ·exact h' value slice pins s σ H x y v u Q I rx ry q hs
theorem zjh {r:R2} (hr:IxR X r) (ha:PE X a ta) (hb:PE X b tb) (hs:zbV b):PE X (.Subscript a b pos) (tOp r ta tb):=by
 intro pins s σ H Q I h
 exact Subscript_ (zjH ha hb I h fun v u s2 x y H2 I2 rx ry q=>hr a b pins s2 σ H2 x y v u Q I2 rx ry q (hs _ _))
def zk3 (K:PySem.W.Frag):R2:=fun x y H Q=>∃ p xs i v,x=.ref p/\y=.int i/\SqL K H p xs/\atI xs i=some v/\Q v H
def zjY (K:PySem.W.Frag):R2:=fun x y H Q=>∃ p xs i v,x=.ref p/\y=.int i/\SqT K H p xs/\atI xs i=some v/\Q v H
def zkd:R2:=fun x y H Q=>∃ z i c,x=.str z/\y=.int i/\z.length <= sizeLine/\atI z.cps.toList i=some c/\Q (.str ⟨#[c]⟩) H
theorem ix_list:IxR X (zk3 X.K):=by
 intro value slice pins s σ H x y v u Q I rx ry h hs
 obtain ⟨p,xs,i,z,rfl,rfl,hq,he,q⟩:=h
 cases rx
 obtain ⟨t,rfl⟩:=ry
 obtain ⟨its,r,pl,hz⟩:=I.list hq
 obtain ⟨j,h1,h2,h3,h4,h5⟩:=z91 he
 obtain ⟨w,ew,rw'⟩:=r.get h2
 have hl:=r.length
 have hn:=z5Y
 have fin:EP X pins σ Q w s:=⟨z,H,I,rw',q⟩
 by_cases h0:0 <= i
 ·have hj:i.toNat=j:=by
   rw [seqIndex_of h0 h5] at h1
   exact Option.some.inj h1
  exact item_listR pl.isList h0 (by omega) (by rw [hj];simpa using ew) fin hs
 ·have hj:(i + (its.toArray.size:Int)).toNat=j:=by
   rw [seqIndex_neg (by omega) h4] at h1
   rw [List.size_toArray,<- hl]
   exact Option.some.inj h1
  exact subscriptTail_builtinR (x:=w) pl.isList.typeIs slot_list_getitem.lookup
   (wpAny_getItem_list_neg (Q:=fun r s'=>r=w/\EP X pins σ Q r s') pl.isList (by omega) (by rw [List.size_toArray] <;> omega) (by omega) (by rw [hj];simpa using ew) ⟨rfl,fin⟩) hs
theorem ix_tup:IxR X (zjY X.K):=by
 intro value slice pins s σ H x y v u Q I rx ry h hs
 obtain ⟨p,xs,i,z,rfl,rfl,hq,he,q⟩:=h
 cases rx
 obtain ⟨t,rfl⟩:=ry
 obtain ⟨its,r,pl,hz⟩:=I.tuple hq
 obtain ⟨j,h1,h2,h3,h4,h5⟩:=z91 he
 obtain ⟨w,ew,rw'⟩:=r.get h2
 have hl:=r.length
 have hn:=z5Y
 have fin:EP X pins σ Q w s:=⟨z,H,I,rw',q⟩
 exact subscriptTail_builtinR (x:=w) pl.typeIs slot_tuple_getitem.lookup
  (getItem_tuple (j:=j) (Q:=fun r s'=>r=w/\EP X pins σ Q r s') pl (by omega) (by omega) (by rw [List.size_toArray,<- hl];exact h1) (by simpa using ew) ⟨rfl,fin⟩) hs
theorem zin:IxR X zkd:=by
 intro value slice pins s σ H x y v u Q I rx ry h hs
 obtain ⟨z,i,c,rfl,rfl,hz,he,q⟩:=h
 obtain ⟨t,rfl⟩:=rx
 obtain ⟨t',rfl⟩:=ry
 obtain ⟨j,h1,h2,h3,h4,h5⟩:=z91 he
 have hl:z.cps.toList.length=z.length:=by simp [Str.length]
 rw [hl] at h1 h4 h5
 have hn:=z5Y
 exact tail_any (typeIs_str s z t) slot_str_getitem.lookup (getItem_str (c:=c) (by
  have e1:decide (i < -(2 ^ 63:Int))=false:=decide_eq_false (by omega)
  have e2:decide (i ≥ 2 ^ 63)=false:=decide_eq_false (by omega)
  rw [e1,e2,Bool.or_false]) (by rw [h1];simpa using h2) ⟨.str ⟨#[c]⟩,H,I.tok _,⟨_,rfl⟩,q⟩) hs
def rIx (K:PySem.W.Frag):R2:=fun x y H Q=>zk3 K x y H Q \/ zjY K x y H Q \/ zkd x y H Q
theorem zhy:IxR X (rIx X.K):=ix_list.or (ix_tup.or zin)
theorem zam (its:List Value) (n j:Nat) (u:Value):Obj.mapSeq (·.setIfInBounds j u) { cls:=.type "list",data:=.seq its.toArray n } = { cls:=.type "list",data:=.seq (its.set j u).toArray n }:=by
 simp [Obj.mapSeq]
theorem Inv.lst {pins:List (Addr × Obj)} {σ:St} {H:Hp} {s:Shared} {p:Addr} {xs:List V} (I:Inv X pins σ H s) (h:H p=some (.lst xs)):
  ∃ (its:List Value) (n:Nat),Vals xs its/\s.heap.get? p=some { cls:=.type "list",data:=.seq its.toArray n }/\xs.length <= sizeLine:=by
 obtain ⟨z,its,n,r,e⟩:=I.hok p _ h
 exact ⟨its,n,r,e,z⟩
theorem Inv.lstUpd {pins:List (Addr × Obj)} {σ:St} {H:Hp} {s:Shared} {p:Addr} {xs ys:List V} {its its':List Value} {n n':Nat} {f:Obj->Obj} (I:Inv X pins σ H s) (h:H p=some (.lst xs))
  (ho:s.heap.get? p=some { cls:=.type "list",data:=.seq its.toArray n }) (hf:f { cls:=.type "list",data:=.seq its.toArray n } = { cls:=.type "list",data:=.seq its'.toArray n' }) (r:Vals ys its') (hz:ys.length <= sizeLine) (t:Nat) (ht:0 < t:=by first|exact Nat.succ_pos _|exact Inv.tk ‹_›|assumption|omega):
  Inv X pins σ (upd H p (.lst ys)) { s with heap:=s.heap.update p f,toks:=t }:=by
 have e:(s.heap.update p f).get? p=some { cls:=.type "list",data:=.seq its'.toArray n' }:=by
  rw [Heap.get?_update_self f ho (by rw [hf] <;> rfl),hf]
 refine I.write (x:=p) (e:=p) (by rw [h];trivial) (.inl rfl) (fun b u hb q=>(Heap.get?_update_other _ _ (Ne.symm hb)).trans q) ⟨_,e⟩ ?_
 exact ⟨hz,its',n',r,e⟩
def zjA:V->V->V->Hp->(Hp->Prop)->Prop:=fun o i v H Q=>∃ p xs k j,o=.ref p/\i=.int k/\H p=some (.lst xs)/\ixN xs.length k=some j/\Q (upd H p (.lst (xs.set j v)))
theorem zcG:zjX X zjA:=by
 intro pins s σ H o i v ov iv u Q I ro ri rv h
 obtain ⟨p,xs,k,j,rfl,rfl,hp,hj,q⟩:=h
 cases ro
 obtain ⟨t,rfl⟩:=ri
 obtain ⟨its,n,r,ho,hz⟩:=I.lst hp
 obtain ⟨h1,h2,h3,h4⟩:=zbo hj
 have hl:=r.length
 have hn:=z5Y
 have I':Inv X pins σ (upd H p (.lst (xs.set j v))) { s with heap:=s.heap.update p (Obj.mapSeq (·.setIfInBounds j u)) }:=
  I.lstUpd hp ho (zam its n j u) (r.set rv j) (by rw [List.length_set];exact hz) s.toks
 by_cases h0:0 <= k
 ·have hk:k.toNat=j:=by
   rw [seqIndex_of h0 h4] at h1
   exact Option.some.inj h1
  exact PySem.W.ki_setAt ho h0 (by omega) (by rw [List.size_toArray,<- hl];exact h4) (by rw [hk];exact ⟨_,I',q⟩)
 ·have hk:(k + (its.toArray.size:Int)).toNat=j:=by
   rw [seqIndex_neg (by omega) h3] at h1
   rw [List.size_toArray,<- hl]
   exact Option.some.inj h1
  exact PySem.W.ki_setBack ho (by omega) (by rw [List.size_toArray,<- hl];exact h3) (by omega) (by rw [hk];exact ⟨_,I',q⟩)
theorem z7h (lo hi:Option Int) (n:Nat):(sliceBounds lo hi none n).1=((HT.sIx n 0 lo:Nat):Int)/\(sliceBounds lo hi none n).2.1=((HT.sIx n n hi:Nat):Int)/\(sliceBounds lo hi none n).2.2=1:=by
 refine ⟨?_,?_,rfl⟩
 ·cases lo with
  | none=>simp [sliceBounds,HT.sIx]
  | some i=>
   simp only [sliceBounds,HT.sIx,Option.getD_none,show (1:Int) > 0 by decide,if_true]
   by_cases h:i < 0
   ·simp only [h,if_true] <;> omega
   ·simp only [h,if_false] <;> omega
 ·cases hi with
  | none=>simp [sliceBounds,HT.sIx]
  | some i=>
   simp only [sliceBounds,HT.sIx,Option.getD_none,show (1:Int) > 0 by decide,if_true]
   by_cases h:i < 0
   ·simp only [h,if_true] <;> omega
   ·simp only [h,if_false] <;> omega
theorem z6U (its:List Value) (lo hi:Option Int):slicePick its.toArray lo hi none=((its.drop (HT.sIx its.length 0 lo)).take (HT.sIx its.length its.length hi - HT.sIx its.length 0 lo)).toArray:=by
 obtain ⟨h1,h2,h3⟩:=z7h lo hi its.toArray.size
 unfold slicePick
 rw [h1,h2,h3]
 simp only [sliceRange_one,pick_run,List.size_toArray] <;> rfl
def zjV (K:PySem.W.Frag):V->Option Int->Option Int->Hp->VK->Prop:=fun x lo hi H Q=>∃ a xs,x=.ref a/\SqL K H a xs/\∀ p,H p=none->Q (.ref p) (upd H p (.lst (zev xs lo hi)))
theorem zgn:SlR X (zjV X.K):=by
 intro pins s σ H x v vl vu lo hi sl Q I rx hs pl pu h
 obtain ⟨a,xs,rfl,hx,q⟩:=h
 cases rx
 obtain ⟨its,r,ht,hz⟩:=I.list hx
 have hlen:=r.length
 refine ⟨"list",_,slot_list_getitem.lookup,ht.isList.typeIs,?_⟩
 refine wpAny_getItem_list_slice ht.isList hs pl pu .none (by simp) ?_ (by rw [List.size_toArray] <;> omega)
 rw [z6U,<- hlen]
 refine ⟨.ref s.heap.objs.size,_,I.laid (t':=s.toks) (o:=.lst (zev xs lo hi)) (fun b ob q=>Heap.get?_push_of_some _ q) (Nat.le_refl _) ?_,rfl,q _ (I.hok.fresh (Nat.le_refl _))⟩
 exact ⟨Nat.le_trans (z4O xs lo hi) hz,_,0,(r.drop (HT.sIx xs.length 0 lo)).take (HT.sIx xs.length xs.length hi - HT.sIx xs.length 0 lo),Heap.get?_push_size _ rfl⟩
theorem CallR.or {f:Value} {r r':List V->Hp->VK->Prop} (h:CallR X f r) (h':CallR X f r'):CallR X f (fun xs H Q=>r xs H Q \/ r' xs H Q):=by
 intro pins s σ H xs us Q I rs q
 rcases q with q|q
 ·exact h pins s σ H xs us Q I rs q
 ·exact h' pins s σ H xs us Q I rs q
theorem z6k:CallR X (.type "tuple") (fun xs H Q=>∃ p ys,xs=[.ref p]/\((SqL X.K H p ys/\∀ l,H l=none->Q (.ref l) (upd H l (.tup ys))) \/ (SqT X.K H p ys/\Q (.ref p) H))):=by
 intro pins s σ H xs us Q I r h
 obtain ⟨p,ys,rfl,h⟩:=h
 obtain ⟨u,rfl,rx⟩:=z2Z r
 cases rx
 rcases h with ⟨hq,q⟩|⟨hq,q⟩
 ·obtain ⟨its,r',pl,hz⟩:=I.list hq
  have hlen:=r'.length
  refine call_tuple_list pl.isList (fun h' kp=>?_) (by simp only [List.size_toArray] <;> omega)
  have I1:Inv X pins σ H { s with heap:=h' }:=I.kept (t':=s.toks) kp
  have I2:Inv X pins σ (upd H h'.objs.size (.tup ys)) { s with heap:=h'.push { cls:=.type "tuple",data:=.seq its.toArray } }:=
   I1.laid (t':=s.toks) (fun b o e=>Heap.get?_push_of_some _ e) (Nat.le_refl _) (show ObjOk X.prog X.w _ _ _ (.tup ys) from ⟨hz,its,r',IsTup.new _ _⟩)
  exact ⟨.ref h'.objs.size,_,I2,rfl,q _ (I1.hok.fresh (Nat.le_refl _))⟩
 ·obtain ⟨its,r',pl,hz⟩:=I.tuple hq
  exact call_tuple_same pl ⟨.ref p,H,I,rfl,q⟩
def tyV (K:PySem.W.Frag) (T:String) (x:V) (H:Hp):Prop:=match x with
 | .str _=>T = "str"
 | .int _=>T = "int"
 | .ref p=>(T = "list"/\∃ xs,SqL K H p xs) \/ (T = "tuple"/\∃ o,K.lookup p=some o/\o.cls=.type "tuple"/\o.dict=none) \/
   (T = "dict"/\((∃ kvs,H p=some (.dK kvs)) \/ ∃ kvs,H p=some (.dT kvs))) \/ (T = "set"/\∃ S n,H p=some (.set S n))
 | _=>False
theorem zht {pins:List (Addr × Obj)} {σ:St} {H:Hp} {s:Shared} {T:String} {x:V} {v:Value} (I:Inv X pins σ H s) (r:RelV x v) (ty:tyV X.K T x H):
  s.TypeIs v T/\∀ a,v=.ref a->∃ ob,s.heap.get? a=some ob/\ob.dict=none:=by
 cases x with
 | str z=>
  obtain ⟨t,rfl⟩:=r
  cases (show T = "str" from ty)
  exact ⟨typeIs_str s z t,fun _ e=>nomatch e⟩
 | int i=>
  obtain ⟨t,rfl⟩:=r
  cases (show T = "int" from ty)
  exact ⟨typeIs_int s i t,fun _ e=>nomatch e⟩
 | ref p=>
  cases r
  rcases ty with ⟨rfl,xs,hq⟩|⟨rfl,o,hk,hc,hd⟩|⟨rfl,hk⟩|⟨rfl,S,n,hk⟩
  ·obtain ⟨its,_,pl,_⟩:=I.list hq
   refine ⟨pl.isList.typeIs,fun a e=>?_⟩
   cases e
   obtain ⟨o,n,e,c,hd,_⟩:=pl
   exact ⟨o,e,hd⟩
  ·refine ⟨⟨o,I.kIn p o hk,hc⟩,fun a e=>?_⟩
   cases e
   exact ⟨o,I.kIn _ o hk,hd⟩
  ·have z:∃ o,s.heap.get? p=some o/\o.ExactDict:=by
    rcases hk with ⟨kvs,hk⟩|⟨kvs,hk⟩
    ·obtain ⟨_,_,_,_,o,_,_,e,ex,_⟩:=I.hok p _ hk
     exact ⟨o,e,ex⟩
    ·obtain ⟨_,_,_,_,o,_,_,e,ex,_⟩:=I.hok p _ hk
     exact ⟨o,e,ex⟩
   obtain ⟨o,e,ex⟩:=z
   refine ⟨⟨o,e,ex.1⟩,fun a e2=>?_⟩
   cases e2
   exact ⟨o,e,ex.2.1⟩
  ·obtain ⟨o,_,_,_,e,ex,_⟩:=I.hok p _ hk
   refine ⟨⟨o,e,ex.1⟩,fun a e2=>?_⟩
   cases e2
   exact ⟨o,e,ex.2.1⟩
 | _=>exact False.elim ty
def tBM (K:PySem.W.Frag) (T:String) (r:V->List V->Hp->VK->Prop) (to:TE) (t:TA):TE:=fun σ H Q=>to σ H fun x H1=>tyV K T x H1/\t σ H1 fun xs H2=>r x xs H2 Q
variable {o e:Expr} {es:List Expr} {to:TE} {t:TA} {name:Str} {apos cpos:Pos} {T id:String} {r:V->List V->Hp->VK->Prop}
theorem zdE (pa:PlainAttrs T) (slot:Slot T name id) (hty:typeOf (.builtin id)=pure (.type "method_descriptor")) (hm:MtR X id r) (ho:PE X o to) (ha:PA X (e :: es) t)
  (hbase:attributeBase o name X.env (eval o X.env)=eval o X.env:=by rfl)
  (hfew:((backTo cpos (starEach (e :: es) X.env)).all (fun x=>!x.1) && (backToKw cpos (keywordEach [] X.env)).all (fun x=>x.1.isSome)
   && decide ((e :: es).length + ([]:List Keyword).length + (if ([]:List Keyword).isEmpty then 0 else 1) < 30))=true:=by rfl)
  (hline:(apos.endLine == cpos.line)=true:=by rfl) (hs:starEach (e :: es) X.env=(false,eval e X.env) :: starEach es X.env:=by rfl) (hplain:(backTo cpos (starEach es X.env)).any (·.1)=false:=by rfl):
  PE X (.Call (.Attribute o name apos) (e :: es) [] cpos) (tBM X.K T r to t):=by
 intro pins s σ H Q I h
 refine wpAny_Call_method_late hbase hfew hline rfl (thn (ho pins s σ H _ I h) fun v s1 ⟨x,H1,I1,r1,ty,q1⟩=>?_)
 obtain ⟨h1,h2⟩:=zht I1 r1 ty
 refine ⟨T,id,pa,slot,hty,h1,h2,?_⟩
 have hA:=ha cpos pins s1 σ H1 _ I1 q1
 rw [hs] at hA ⊢
 refine Calls.callWith_builtin (by show (false || (backTo cpos (starEach es X.env)).any (·.1))=false;rw [hplain] <;> rfl) (Calls.evalArgs_plain ?_)
 exact thn hA fun us s2 ⟨vs,H2,I2,r2,q2⟩=>hm pins s2 σ H2 x vs v us Q I2 r1 r2 q2
end
def MtM (X:Cx) (id:String) (r:V->List V->Hp->VK->Prop):Prop:=
 ∀ (pins:List (Addr × Obj)) (s:Shared) (σ:St) (H:Hp) (x:V) (xs:List V) (v:Value) (us:List Value) (Q:VK),Inv X pins σ H s->RelV x v->Vals xs us->r x xs H Q->
  wpAny (model X.prog X.w) X.A (call (.builtin id) (v :: us)) (EP X pins σ Q) X.xe s
theorem Vals.one:∀ {x:V} {us:List Value},Vals [x] us->∃ u,us=[u]/\RelV x u
 | _,_,.cons r .nil=>⟨_,rfl,r⟩
section
variable {X:Cx} {pins:List (Addr × Obj)} {σ:St} {H:Hp} {s:Shared} {l:Addr} {xs ys:List V}
theorem Inv.lset {its its':List Value} {n:Nat} {f:Array Value->Array Value} {t':Nat} (I:Inv X pins σ H s) (hH:H l=some (.lst xs))
  (e:s.heap.get? l=some { cls:=.type "list",data:=.seq its.toArray n }) (hf:f its.toArray=its'.toArray) (hv:Vals ys its') (hz:ys.length <= sizeLine) (ht:0 < t':=by first|exact Nat.succ_pos _|exact Inv.tk ‹_›|assumption|omega):
  Inv X pins σ (upd H l (.lst ys)) { s with heap:=s.heap.update l (Obj.mapSeq f),toks:=t' }:=by
 have q:=PySem.IsL.update e f
 rw [hf] at q
 refine I.write (x:=l) (e:=l) (by rw [hH];exact trivial) (.inl rfl) (fun b' u hb hu=>(Heap.get?_update_other s.heap (Obj.mapSeq f) (Ne.symm hb)).trans hu) ⟨_,q⟩ ?_
 exact ⟨hz,its',_,hv,q⟩
theorem Inv.lnew {its:List Value} {t':Nat} (I:Inv X pins σ H s) (hv:Vals ys its) (hz:ys.length <= sizeLine) (ht:0 < t':=by first|exact Nat.succ_pos _|exact Inv.tk ‹_›|assumption|omega):
  Inv X pins σ (upd H s.heap.objs.size (.lst ys)) { s with heap:=s.heap.push { cls:=.type "list",data:=.seq its.toArray },toks:=t' }:=
 I.laid (fun _ _ q=>Heap.get?_push_of_some _ q) (Nat.le_refl _) ⟨hz,its,0,hv,Heap.get?_push_size _ rfl⟩
theorem Inv.fresh (I:Inv X pins σ H s):H s.heap.objs.size=none:=I.hok.fresh (Nat.le_refl _)
theorem Inv.lstM (I:Inv X pins σ H s) (hH:H l=some (.lst xs)):xs.length <= sizeLine/\∃ (its:List Value) (n:Nat),Vals xs its/\xs.length=its.length/\s.heap.get? l=some { cls:=.type "list",data:=.seq its.toArray n }:=by
 obtain ⟨z,its,n,r,e⟩:=I.hok l _ hH
 exact ⟨z,its,n,r,r.length,e⟩
theorem zdh {n:Nat} (h:n <= sizeLine):Builtin.List.listTooLong n=false:=by
 unfold Builtin.List.listTooLong
 exact decide_eq_false (by omega)
end
section
variable {X:Cx}
def zgI:V->List V->Hp->VK->Prop:=fun x vs H Q=>∃ l xs y,x=.ref l/\vs=[y]/\H l=some (.lst xs)/\xs.length < sizeLine/\Q .non (upd H l (.lst (xs ++ [y])))
theorem z7U:MtM X "list.append" zgI:=by
 intro pins s σ H x vs v us Q I rx rv h
 obtain ⟨l,xs,y,rfl,rfl,hH,hz,q⟩:=h
 cases rx
 obtain ⟨u,rfl,ru⟩:=rv.one
 obtain ⟨z,its,n,r,hl,e⟩:=I.lstM hH
 refine call_meets F.slot_list_append ⟨_,e,rfl⟩ F.entry_list_append (F.args_list_append_2 _ _) (PySem.list_append l its.toArray n u (by rw [List.size_toArray];omega)) ⟨e,?_⟩
 refine ⟨.non,_,I.lset (its':=its ++ [u]) hH e (by simp) (r.append (.cons ru .nil)) ?_,rfl,q⟩
 rw [List.length_append,List.length_singleton]
 omega
end
section
end
end L2
namespace Att
open PySem PySem.W PySem.Calls PyProof.Rows
theorem z5a {P:Params} {h:Heap}:∀ (ns:List Int) (vs:List Value),WellAll P h vs (ns.map WData.int)->IntsAre vs ns:=by
 intro ns
 induction ns with
 | nil=>
  intro vs w
  rw [List.map_nil] at w
  cases w
  exact .nil
 | cons n ns ih=>
  intro vs w
  rw [List.map_cons] at w
  cases w with
  | cons a b=>
   cases a
   exact .cons _ _ (ih _ b)
theorem zaH {l:OpenLaw} {n:Nat} (hn:l.most=some n) {P:Params} {h:Heap} {args:List WData} {vals:List Value}
  (hpre:l.row.toRowW.claim.pre args=true) (hwl:WellAll P h vals args):
  ∃ a vs ns,vals=[Value.ref a]/\args=[WData.list (ns.map WData.int)]/\h.get? a=some { cls:=.type "list",data:=.seq vs.toArray }/\IntsAre vs ns/\ns.length <= n:=by
 have hsh:WShape.hasAll [] args [.list .int]=true:=(pre_splitW hpre).1
 have hc:l.pre.holds [] { args:=args } = true:=(pre_splitW hpre).2
 obtain ⟨d,r,rfl,h1,h2⟩:=hasAllW_cons hsh
 obtain rfl:=hasAllW_nil h2
 obtain ⟨xs,rfl,h3⟩:=hasW_list h1
 obtain ⟨ns,rfl⟩:=items_int h3
 have hlen:ns.length <= n:=by
  unfold OpenLaw.pre at hc
  have h4:(WTm.not (.lt (.lit (.int (n:Int))) (.len (.arg 0)))).holds [] { args:=[.list (ns.map .int)] } = true:=by
   have h4:=(holds_andW hc).1
   rw [hn] at h4
   exact h4
  have h5:=condW_of h4 (w_not (w_lt w_lit (w_len_list (w_arg rfl))))
  rw [List.length_map] at h5
  refine Nat.le_of_not_lt fun q=>?_
  have q':(n:Int) < ((ns.length:Nat):Int):=by omega
  first
   | (rw [decide_eq_true q'] at h5;exact absurd h5 (by decide))
   | (simp at h5;omega)
 cases hwl with
 | cons w1 w2=>
  cases w2
  cases w1 with
  | list ho hall=>exact ⟨_,_,ns,rfl,rfl,ho,z5a ns _ hall,hlen⟩
theorem zc5 (l:OpenLaw) (args:List WData):l.row.toRowW.claim.post args (.bool true) args=true:=
 postW_of (r:=l.row.toRowW) (X:=(true == true))
  (show WShape.has [] (.bool true) .bool=true by first|rfl|decide|simp [WShape.has,WShape.arms,WShape.armsAll])
  (show (WTm.eq .res (.lit (.bool true))).value [] { args:=args,res:=some (.bool true),after:=args } = some (.bool (true == true)) from w_eq_bool (w_res rfl) w_lit) rfl
theorem z60:∀ ns:List Int,PySem.W.ofPys (ns.map PyData.int)=ns.map WData.int
 | []=>by simp [PySem.W.ofPys]
 | n :: ns=>by simp only [List.map_cons,PySem.W.ofPys,PySem.W.ofPy];rw [z60 ns]
theorem attach_call {l:OpenLaw} {n:Nat} {q:Program} {loose:List Str} {XP:(Str->Option Value)->Heap->Prop} {YP:World->Heap->Prop} {d:DefRec} {α:Type} {Yf:Shared->α} {Ya:World->α}
  (hn:l.most=some n) (hdf:d.params.defaults=[]) (hYf:∀ w s,Yf s=Ya w->YP w s.heap) (hYk:∀ w h h',YP w h->(∀ b o,h.get? b=some o->h'.get? b=some o)->YP w h')
  (call:∀ (w:World) (s₀ s₁:Shared) (mg mb:Str->Option Value) (fa:Addr) (o:Obj) (pm cd doc:Value) (a:Addr) (vs:List Value) (ns:List Int),
   Ground q loose [] XP w s₀ mg mb s₁.heap->YP w s₁.heap->
   s₁.heap.get? fa=some o->o.data=.func (docDef d.name d.params d.body d.scope pm cd doc)->s₁.heap.CodeRec cd d.name->mg d.name=some (.ref fa)->
   s₁.heap.get? a=some { cls:=.type "list",data:=.seq vs.toArray }->IntsAre vs ns->ns.length <= n->s₁.gens = #[]->0 < s₁.toks->
   codeAny (model l.prog w) callerA (.call (.ref fa) ⟨[.ref a],[]⟩) (fun r s'=>r=.ok (.ret (.bool true))/\OldK s₁.heap s'.heap/\s'.os=s₁.os/\AllBare s'.gens) s₁):
  WalkX q loose XP (fun s=>(Yf s,decide (0 < s.toks))) (fun w=>(Ya w,true)) l.row.toRowW d [] (fun f vs=>PySem.call f vs):=by
 intro w s₀ s₁ mg mb G Y fa o pm cd doc dV kV ho hd hcd hD hmg hg args vals as L hpre hlay hrd hwl hlo
 obtain rfl:dV=.none:=Dflts.none hD hdf
 obtain rfl:kV=.none:=Dflts.noKw hD
 have Y1:Yf s₀=Ya w:=congrArg Prod.fst Y
 have Y2:0 < s₀.toks:=of_decide_eq_true (congrArg Prod.snd Y)
 obtain ⟨a,vs,ns,rfl,rfl,hobj,hints,hlen⟩:=zaH hn hpre hwl
 have L':Laid l.row.toRowW.records w s₀ s₁ [PySem.W.ofPy (PyData.list (ns.map PyData.int))] [.ref a] as:=by
  rw [PySem.W.ofPy,z60];exact L
 have htk:0 < s₁.toks:=Nat.lt_of_lt_of_le Y2 (PySem.W.X.script_toks L' rfl)
 refine enter_call (codeAny_mono (call w s₀ s₁ mg mb fa o pm cd doc a vs ns G (hYk _ _ _ (hYf w s₀ Y1) L.keeps) ho (fd_plain hd) hcd hmg hobj hints hlen hg htk) fun r s' hq=>?_)
 obtain ⟨rfl,h2,h3,h4⟩:=hq
 exact ⟨.inl ⟨.bool true,.bool true,[],rfl,fun _=>rfl,.bool true,zc5 l _,fun _=>⟨List.Pairwise.nil,fun _ hm=>(nomatch hm)⟩⟩,h2,h3,h4⟩
section
end
end Att
namespace L2
open PySem PySem.Spec PyProof.Rows
theorem z84:∀ {vs:List Value} {ns:List Int},IntsAre vs ns->Vals (ns.map V.int) vs
 | _,_,.nil=>.nil
 | _,_,.cons n t h=>.cons ⟨t,rfl⟩ (z84 h)
def zjf (H:Hp):Prop:=∀ b,H b=none \/ ∃ o xs,H b=some (.frz o (.lst xs))
theorem zcL {P:Program} {w:World} {K:PySem.W.Frag} {mg mb:Str->Option Value} {CX:CXT} {k:Nat} {fa a:Addr} {fd:FuncData} {x:Str} {sp:Sp} {s₁:Shared} {vs:List Value} {ns:List Int}
  (KX:K.In s₁.heap) (hns:s₁.heap.Ns mainGlobals mg) (hb:s₁.heap.Ns builtinsNs mb) (hbb:∀ x:Str,x ≠ "__name__"->mb x=bootBuiltins x) (hlim:s₁.heap.NoLimit) (hg:s₁.gens = #[]) (htk:0 < s₁.toks)
  (ha:s₁.heap.get? a=some { cls:=.type "list",data:=.seq vs.toArray }) (hi:IntsAre vs ns) (hl:ns.length <= sizeLine) (hr:Room k callerA)
  (F:∀ base:Heap,K.In base->base.Ns mainGlobals mg->FnOk P w K mg base CX k fa fd [x] sp) (hbind:∀ (s:Shared) (u:Value),BindsTo s fd ⟨[u],[]⟩ [(x,u)])
  (hsp:∀ H:Hp,zjf H->SqL K H a (ns.map V.int)->sp [.ref a] H (fun v _=>v=.bl true) fun _ _ _=>False)
  (hCX:∀ H e s',CX [] H s₁ (fun _ _ _=>False) e s'->False):
  codeAny (model P w) callerA (.call (.ref fa) ⟨[.ref a],[]⟩) (fun r s'=>r=.ok (.ret (.bool true))/\OldK s₁.heap s'.heap/\s'.os=s₁.os/\AllBare s'.gens) s₁:=by
 have rv:=z84 hi
 have lenV:=hi.length
 -- from an abstract heap in which nothing but the script may be tracked
 have core:∀ H:Hp,zjf H->SqL K H a (ns.map V.int)->HOk P w H s₁.heap->(∀ b,H b ≠ none->b=a)->(H a ≠ none->K.lookup a=none)->
   codeAny (model P w) callerA (.call (.ref fa) ⟨[.ref a],[]⟩) (fun r s'=>r=.ok (.ret (.bool true))/\OldK s₁.heap s'.heap/\s'.os=s₁.os/\AllBare s'.gens) s₁:=by
  intro H hO hS hok hA hK
  have base_of:∀ {b:Addr} {o:Obj},s₁.heap.get? b=some o->H b=none->(zdW s₁.heap H).get? b=some o:=fun e n=>zcQ e n
  have noA:∀ {b:Addr} {o:Obj} {es:Array DictEntry} {ep:Nat},s₁.heap.get? b=some o->o.data=.dict es ep->H b=none:=fun {b o es ep} e d=>by
   cases q:H b with
   | none=>rfl
   | some u=>
    have e':b=a:=hA b (by rw [q];simp)
    subst e'
    rw [ha] at e;cases e
    have d':Data.seq vs.toArray _=Data.dict es ep:=d
    cases d'
  have nsK:∀ {b:Addr} {m:Str->Option Value},s₁.heap.Ns b m->(zdW s₁.heap H).Ns b m:=fun {b m} ⟨o,es,ep,e,d,r⟩=>⟨o,es,ep,base_of e (noA e d),d,r⟩
  have hKb:K.In (zdW s₁.heap H):=fun b o e=>base_of (KX b o e) (by
   cases q:H b with
   | none=>rfl
   | some u=>
    have e':b=a:=hA b (by rw [q];simp)
    subst e'
    rw [hK (by rw [q];simp)] at e;cases e)
  have hM:Mod K mg (zdW s₁.heap H):=⟨hKb,nsK hns,⟨mb,nsK hb,hbb⟩,let ⟨mc,h1,h2⟩:=hlim;⟨mc,nsK h1,h2⟩⟩
  have e0:ziW P w K mg (zdW s₁.heap H) callerA [] s₁ H:=⟨rfl,hM,fun b o e=>zfx e,Nat.le_of_eq (zaV _ _),trivial,fun b hb=>absurd (show b ∈ ([]:List Addr) from hb) (by simp),hok,.of_eq hg,htk⟩
  refine codeAny_mono ((F _ hKb (nsK hns)).run callerA [] s₁ H ⟨[.ref a],[]⟩ [.ref a] [.ref a] _ _ hr e0 (hbind s₁ (.ref a)) (.cons rfl .nil) (hsp H hO hS)) fun r s' h=>?_
  cases r with
  | error e=>exact (hCX H e s' h).elim
  | ok fl=>
   cases fl with
   | next=>exact False.elim h
   | brk=>exact False.elim h
   | cont=>exact False.elim h
   | ret u=>
    obtain ⟨⟨v,H',os,bare,un,hok',r',q⟩,_⟩:=h
    have q':v=.bl true:=q
    subst q'
    obtain rfl:u=Value.bool true:=r'
    refine ⟨rfl,OldK.of_keep fun b o e=>?_,os,bare⟩
    cases q:H b with
    | none=>exact un.keep b o e q (by intro z;exact absurd (show b ∈ ([]:List Addr) from z) (by simp)) (by simp)
    | some u=>
     rcases hO b with z|⟨ob,xs,z⟩
     ·rw [q] at z;cases z
     ·have z2:=un.frzs b ob _ z
      obtain ⟨e1,_⟩:=hok b _ z
      obtain ⟨e2,_⟩:=hok' b _ z2
      rw [e] at e1;cases e1
      exact e2
 cases hk:K.lookup a with
 | some o=>
  -- the script is one of the module's own objects
  have e:=KX a o hk
  rw [ha] at e
  cases e
  refine core (fun _=>none) (fun _=>.inl rfl) (.inr ⟨_,vs.toArray,_,hk,rfl,rfl,rfl,by rw [List.size_toArray,lenV];exact hl,by simpa using rv⟩) (fun b u z=>by have z':(none:Option HO)=some u:=z;cases z') (fun b z=>absurd rfl z) fun z=>absurd rfl z
 | none=>
  refine core (fun b=>if b=a then some (.frz { cls:=.type "list",data:=.seq vs.toArray } (.lst (ns.map V.int))) else none) (fun b=>?_) (.inl (.inr ⟨{ cls:=.type "list",data:=.seq vs.toArray },if_pos rfl⟩)) (fun b u z=>?_) (fun b z=>?_) fun _=>hk
  ·by_cases hb:b=a
   ·exact .inr ⟨_,_,if_pos hb⟩
   ·exact .inl (if_neg hb)
  ·by_cases hb:b=a
   ·have z':=(if_pos hb).symm.trans z
    cases z'
    subst hb
    exact ⟨ha,by rw [List.length_map];exact hl,vs,_,rv,ha⟩
   ·have z':=(if_neg hb).symm.trans z
    cases z'
  ·by_cases hb:b=a
   ·exact hb
   ·exact absurd (if_neg hb) z
theorem walk_of {l:PySem.W.OpenLaw} {n k:Nat} {q:Program} {loose:List Str} {XP:(Str->Option Value)->Heap->Prop} {YP:World->Heap->Prop} {d:DefRec} {K:Params->PySem.W.Frag} {CX:World->CXT} {sp:World->Sp} {x:Str} {α:Type} {Yf:Shared->α} {Ya:World->α}
  (hn:l.most=some n) (hn2:n <= sizeLine) (hdf:d.params.defaults=[]) (hr:Room k callerA) (hYf:∀ w s,Yf s=Ya w->YP w s.heap) (hYk:∀ w h h',YP w h->(∀ b o,h.get? b=some o->h'.get? b=some o)->YP w h')
  (hY:∀ (w:World) (h:Heap),YP w h->(K w.params).In h)
  (F:∀ (w:World) (mg:Str->Option Value) (fa:Addr) (h:Heap),(K w.params).In h->h.Ns mainGlobals mg->mg d.name=some (.ref fa)->
   ∃ fd:FuncData,(∀ (s:Shared) (u:Value),BindsTo s fd ⟨[u],[]⟩ [(x,u)])/\
    ∀ base:Heap,(K w.params).In base->base.Ns mainGlobals mg->FnOk l.prog w (K w.params) mg base (CX w) k fa fd [x] (sp w))
  (hsp:∀ (w:World) (H:Hp) (a:Addr) (ns:List Int),ns.length <= n->zjf H->SqL (K w.params) H a (ns.map V.int)->sp w [.ref a] H (fun v _=>v=.bl true) fun _ _ _=>False)
  (hCX:∀ (w:World) (H:Hp) (s:Shared) (e:Value) (s':Shared),CX w [] H s (fun _ _ _=>False) e s'->False):
  PySem.W.WalkX q loose XP (fun s=>(Yf s,decide (0 < s.toks))) (fun w=>(Ya w,true)) l.row.toRowW d [] (fun f vs=>PySem.call f vs):=by
 refine Att.attach_call hn hdf hYf hYk fun w s₀ s₁ mg mb fa o pm cd doc a vs ns G Y ho hd hcd hmg hobj hints hlen hg htk=>?_
 have KX:=hY w _ Y
 obtain ⟨fd,hb,hF⟩:=F w mg fa _ KX G.T.g hmg
 exact zcL KX G.T.g G.T.b G.T.builtins G.T.nolimit hg htk hobj hints (Nat.le_trans hlen hn2) hr hF hb (fun H hO hS=>hsp w H a ns hlen hO hS) fun H e s'=>hCX w H s₁ e s'
def z2H (s:Stmt):Arguments:=match s with
 | .FunctionDef _ a _ _ _ _ _ _ _ _=>a
 | _=>{ posonlyargs:=[],args:=[],vararg:=none,kwonlyargs:=[],kw_defaults:=[],kwarg:=none,defaults:=[] }
def z2b (s:Stmt):List Stmt:=match s with
 | .FunctionDef _ _ b _ _ _ _ _ _ _=>b
 | _=>[]
def z05 (s:Stmt):Scope:=match s with
 | .FunctionDef _ _ _ _ _ _ sc _ _ _=>sc
 | _=>{ kind:=.function,names:=[],isGenerator:=false,isCoroutine:=false }
abbrev CX0:CXT:=fun _ _ _ _ _ _=>False
abbrev E0:XK:=fun _ _ _=>False
theorem zjI {X:Cx}:z96 CX0 X E0:=fun _ _ _ _ _ _ _ h=>h.elim
structure Fun (K:PySem.W.Frag) (x qual:Str) (st:Stmt) (f:Addr) (fd:FuncData):Prop where
 ex:∃ (oc:Value) (od:Option Addr) (kV doc pm:Value) (an:Option Addr) (cdv ct:Value) (osl:Array (Option Value)),
  fd=PySem.W.fnOf x qual (z2H st) (z2b st) (z05 st) .none kV doc pm an cdv ct/\K.lookup f=some ⟨oc,od,.func fd,osl⟩/\PySem.W.codeIn K cdv qual=true
 kp:PySem.W.keepIn K (.ref f)=true
section
variable {K:PySem.W.Frag}
theorem Fun.binds {x qual:Str} {st:Stmt} {f:Addr} {fd:FuncData} {ps:List Str} (F:Fun K x qual st f fd)
  (h:∀ (kV doc pm:Value) (an:Option Addr) (cdv ct:Value) (us:List Value),us.length=ps.length->bindArgs (PySem.W.fnOf x qual (z2H st) (z2b st) (z05 st) .none kV doc pm an cdv ct) ⟨us,[]⟩=pure (ps.zip us)):Binds K fd ps []:=by
 obtain ⟨oc,od,kV,doc,pm,an,cdv,ct,osl,rfl,lk,hcd⟩:=F.ex
 exact .all (h kV doc pm an cdv ct)
theorem zei {x qual:Str} {st:Stmt} {f:Addr} {oc:Value} {od an:Option Addr} {osl:Array (Option Value)} {kV doc pm cdv ct:Value} (l:K.lookup f=some ⟨oc,od,.func (PySem.W.fnOf x qual (z2H st) (z2b st) (z05 st) .none kV doc pm an cdv ct),osl⟩)
  (c:PySem.W.codeIn K cdv qual=true) (k:PySem.W.keepIn K (.ref f)=true):Fun K x qual st f (PySem.W.fnOf x qual (z2H st) (z2b st) (z05 st) .none kV doc pm an cdv ct):=⟨⟨oc,od,kV,doc,pm,an,cdv,ct,osl,rfl,l,c⟩,k⟩
end
theorem zjr {A:Around} {k:Nat} (hr:Room k A):A.units + 1 < cLine:=Nat.lt_of_le_of_lt (Nat.add_le_add_left (by decide:1 <= 64) _) hr.units
def Same (H H':Hp):Prop:=∀ b o,H b=some o->H' b=some o
theorem Same.refl (H:Hp):Same H H:=fun _ _ h=>h
theorem Same.trans {H H1 H2:Hp} (a:Same H H1) (b:Same H1 H2):Same H H2:=fun c o h=>b c o (a c o h)
theorem Same.free {H H':Hp} (e:Same H H') {l:Addr} (h:H' l=Option.none):H l=Option.none:=by
 cases q:H l with
 | none=>rfl
 | some o=>
  rw [e l o q] at h
  cases h
section
variable {κ:Type} [DecidableEq κ]
def z6Y (kvs:List (κ × V)) (k:κ):Option V:=(kvs.find? fun kv=>decide (kv.1=k)).map (·.2)
def zar (kvs:List (κ × V)) (k:κ) (v:V):List (κ × V):=
 if (kvs.any fun kv=>decide (kv.1=k))=true then kvs.map (fun kv=>if kv.1=k then (kv.1,v) else kv) else kvs ++ [(k,v)]
theorem z4o {p:κ × V} {r:List (κ × V)} {k:κ} (e:p.1=k):z6Y (p :: r) k=some p.2:=by simp [z6Y,List.find?_cons,e]
theorem z3y {p:κ × V} {r:List (κ × V)} {k:κ} (e:¬ p.1=k):z6Y (p :: r) k=z6Y r k:=by simp [z6Y,List.find?_cons,e]
theorem z9g (k:κ):∀ kvs:List (κ × V),(kvs.any fun kv=>decide (kv.1=k))=(z6Y kvs k).isSome
 | []=>rfl
 | p :: r=>by
  rw [List.any_cons]
  by_cases e:p.1=k
  ·simp only [z4o e,decide_eq_true e,Bool.true_or,Option.isSome_some]
  ·rw [z3y e,decide_eq_false e,Bool.false_or];exact z9g k r
theorem z4H (kvs:List (κ × V)) (k:κ) (v:V):(zar kvs k v).length <= kvs.length + 1:=by
 unfold zar
 split
 ·rw [List.length_map];omega
 ·rw [List.length_append,List.length_cons,List.length_nil];omega
theorem zcR {kvs:List (κ × V)} {k:κ} (v:V) (h:z6Y kvs k=none):zar kvs k v=kvs ++ [(k,v)]:=by
 unfold zar
 rw [z9g,h]
 exact if_neg (by decide)
theorem KV.val {kvs:List (κ × V)} {vs:List (κ × Value)} (r:KV kvs vs) (k:κ):RelO (z6Y kvs k) (valueAt vs k):=by
 unfold KV at r
 induction r with
 | nil=>exact True.intro
 | @cons p q ps qs h t ih=>
  obtain ⟨h1,h2⟩:=h
  by_cases e:p.1=k
  ·have e':q.1=k:=h1.symm.trans e
   have b:valueAt (q :: qs) k=some q.2:=by simp [valueAt,List.find?_cons,e']
   rw [z4o e,b];exact h2
  ·have e':¬ q.1=k:=fun z=>e (h1.trans z)
   have b:valueAt (q :: qs) k=valueAt qs k:=by simp [valueAt,List.find?_cons,e']
   rw [z3y e,b];exact ih
theorem KV.any {kvs:List (κ × V)} {vs:List (κ × Value)} (r:KV kvs vs) (k:κ):(kvs.any fun kv=>decide (kv.1=k))=vs.any fun kv=>decide (kv.1=k):=by
 unfold KV at r
 induction r with
 | nil=>rfl
 | cons h t ih=>rw [List.any_cons,List.any_cons,ih,h.1]
theorem KV.repl {kvs:List (κ × V)} {vs:List (κ × Value)} (r:KV kvs vs) (k:κ) {y:V} {u:Value} (ry:RelV y u):
  KV (kvs.map fun kv=>if kv.1=k then (kv.1,y) else kv) (vs.map fun kv=>if kv.1=k then (kv.1,u) else kv):=by
 unfold KV at r ⊢
 induction r with
 | nil=>exact .nil
 | @cons p q ps qs h t ih=>
  rw [List.map_cons,List.map_cons]
  refine .cons ?_ ih
  obtain ⟨h1,h2⟩:=h
  by_cases e:p.1=k
  ·rw [if_pos e,if_pos (h1.symm.trans e)];exact ⟨h1,ry⟩
  ·rw [if_neg e,if_neg (fun z=>e (h1.trans z))];exact ⟨h1,h2⟩
theorem KV.put {kvs:List (κ × V)} {vs:List (κ × Value)} (r:KV kvs vs) (k:κ) {y:V} {u:Value} (ry:RelV y u):KV (zar kvs k y) (stored vs k u):=by
 unfold zar stored
 rw [r.any k]
 by_cases e:(vs.any fun kv=>decide (kv.1=k))=true
 ·rw [if_pos e,if_pos e];exact r.repl k ry
 ·rw [if_neg e,if_neg e];exact Paired.snoc r ⟨rfl,ry⟩
theorem KV.length {kvs:List (κ × V)} {vs:List (κ × Value)} (r:KV kvs vs):kvs.length=vs.length:=Paired.length r
end
theorem zaY {P:Program} {w:World} {k:Key} {u:Value} (r:RelV (kV k) u):(z1a P w).is k u=true:=by
 cases k with
 | inl i=>obtain ⟨t,e⟩:=(show ∃ t,u=Value.int i t from r);subst e;exact z8D P w i t
 | inr x=>obtain ⟨t,e⟩:=(show ∃ t,u=Value.str x t from r);subst e;exact z8F P w x t
theorem z7B {P:Program} {w:World}:∀ {ks:List Key} {us:List Value},Vals (ks.map kV) us->ItemsAre (z1a P w) ks us
 | [],_,r=>by rw [List.map_nil] at r;cases r;exact .nil
 | k :: ks,_,r=>by
  rw [List.map_cons] at r
  cases r with
  | cons h t=>exact .cons (zaY h) (z7B t)
abbrev KT (H:Hp):List (List Key × V)->List (List Key × Addr × Value)->Prop:=Paired fun p q=>p.1=q.1/\H q.2.1=some (.tup (p.1.map kV))/\RelV p.2 q.2.2
theorem KT.val {H:Hp} {kvs:List (List Key × V)} {xs:List (List Key × Addr × Value)} (r:KT H kvs xs) (k:List Key):RelO (z6Y kvs k) ((atKey xs k).map (·.2)):=by
 induction r with
 | nil=>exact True.intro
 | @cons p q ps qs h t ih=>
  obtain ⟨h1,_,h2⟩:=h
  by_cases e:p.1=k
  ·have e':q.1=k:=h1.symm.trans e
   have b:atKey (q :: qs) k=some q.2:=by simp [atKey,List.find?_cons,e']
   rw [z4o e,b];exact h2
  ·have e':¬ q.1=k:=fun z=>e (h1.trans z)
   have b:atKey (q :: qs) k=atKey qs k:=by simp [atKey,List.find?_cons,e']
   rw [z3y e,b];exact ih
section
variable {P:Program} {w:World} {H:Hp} {h:Heap} {a:Addr}
theorem zgZ {u:HO} (ok:HOk P w H h) (e:Rd H a u):ObjOk P w H h a u:=e.ok ok
theorem zdq {kvs:List (Key × V)} (ok:HOk P w H h) (e:Rd H a (.dK kvs)):kvs.length <= sizeLine/\(a == sysModules)=false/\∃ vs,KV kvs vs/\h.DictOf (z1a P w) a vs:=
 show ObjOk P w H h a (.dK kvs) from zgZ ok e
theorem zhc {kvs:List (Key × V)} (ok:HOk P w H h) (e:H a=some (.dK kvs)):kvs.length <= sizeLine/\(a == sysModules)=false/\∃ vs,KV kvs vs/\h.DictOf (z1a P w) a vs:=zdq ok (.inl e)
theorem zez {ks:List Key} (ok:HOk P w H h) (e:H a=some (.tup (ks.map kV))):(tupleKind (z1a P w)).is h ks a:=by
 obtain ⟨_,its,r,o,h1,h2,n,h3⟩:=(show ObjOk P w H h a (.tup (ks.map kV)) from ok a _ e)
 exact ⟨o,its.toArray,n,h1,h2,h3,by simpa using z7B r⟩
theorem zij {kvs:List (List Key × V)} (ok:HOk P w H h) (e:Rd H a (.dT kvs)):kvs.length <= sizeLine/\(a == sysModules)=false/\
  ∃ xs,KT H kvs xs/\h.DictOfH (tupleKind (z1a P w)) a xs:=by
 obtain ⟨z,y,xs,r,o,es,ep,h1,h2,h3,h4,h5⟩:=(show ObjOk P w H h a (.dT kvs) from zgZ ok e)
 refine ⟨z,y,xs,r,o,es,ep,h1,h2,h3,h4,fun x hx=>?_,h5⟩
 have all:∀ {l:List (List Key × V)} {m:List (List Key × Addr × Value)},KT H l m->∀ x ∈ m,(tupleKind (z1a P w)).is h x.1 x.2.1:=by
  intro l m q
  induction q with
  | nil=>intro x hx;exact nomatch hx
  | @cons p q ps qs hq t ih=>
   intro x hx
   rcases List.mem_cons.mp hx with e|hx
   ·subst e
    exact zez ok (by rw [<- hq.1];exact hq.2.1)
   ·exact ih x hx
 exact all r x hx
end
def zjl (H:Hp) (a:Addr) (y:V) (r:Option V):Prop:=
 (∃ kvs k,Rd H a (.dK kvs)/\y=kV k/\r=z6Y kvs k) \/ ∃ kvs k b,Rd H a (.dT kvs)/\y=.ref b/\H b=some (.tup (k.map kV))/\r=z6Y kvs k
section
variable {X:Cx} {pins:List (Addr × Obj)} {σ:St} {H:Hp} {s:Shared} {a:Addr} {y v:V} {u:Value} {o:Option V} {A:Around} {E:Value->Shared->Prop}
theorem Inv.big (I:Inv X pins σ H s):sysModules < s.heap.objs.size:=by
 have h:mainGlobals < s.heap.objs.size:=(I.mod.glob.keeps I.bk).lt
 exact Nat.lt_trans (by decide) h
theorem zb2 {Q:Value->Shared->Prop} (hu:A.units + 1 < cLine) (I:Inv X pins σ H s) (g:zjl H a y (some v)) (ry:RelV y u) (h:∀ w' s',Inv X pins σ H s'->RelV v w'->Q w' s'):
  wpAny (model X.prog X.w) A (getItem (.ref a) u) Q E s:=by
 rcases g with ⟨kvs,k,e,ey,l⟩|⟨kvs,k,b,e,ey,eb,l⟩
 ·subst ey
  obtain ⟨z,hd,vs,rel,dd⟩:=zdq I.hok e
  obtain ⟨w',hw,rw'⟩:=RelO.some_of (v:=v) (o:=valueAt vs k) (by rw [l];exact rel.val k)
  exact wpAny_getItem_of (zaY ry) dd.mapOf hw (h w' _ (I.tok _) rw')
 ·subst ey
  cases (show u=Value.ref b from ry)
  obtain ⟨z,hd,xs,rel,dd⟩:=zij I.hok e
  obtain ⟨w',hw,rw'⟩:=RelO.some_of (v:=v) (o:=(atKey xs k).map (·.2)) (by rw [l];exact rel.val k)
  obtain ⟨p,hp,hp2⟩:=Option.map_eq_some_iff.mp hw
  refine wpAny_getItem_heap (tupleKind_room_in1 hu) (zez I.hok eb) dd hp ?_
  rw [hp2]
  exact h w' _ (I.tok _) rw'
theorem zbY {h':Heap} {t':Nat} {ob:HO} (I:Inv X pins σ H s) (mu:Mut (H a)) (hs:Heap.SameBut a s.heap h') (he:∃ q,h'.get? a=some q) (new:ObjOk X.prog X.w (upd H a ob) h' a ob) (ht:0 < t':=by first|exact Nat.succ_pos _|exact Inv.tk ‹_›|assumption|omega):
  Inv X pins σ (upd H a ob) { s with heap:=h',toks:=t' }:=
 I.write (x:=a) (e:=a) mu (.inl rfl) (fun b q hb z=>(hs.2 b hb).trans z) he new
theorem zem {P:Program} {w:World} {H':Hp} {h':Heap} {kvs:List (Key × V)} {vs:List (Key × Value)} (z:kvs.length <= sizeLine) (hd:(a == sysModules)=false) (rel:KV kvs vs) (dd:h'.DictOf (z1a P w) a vs):
  ObjOk P w H' h' a (.dK kvs):=⟨z,hd,vs,rel,dd⟩
end
section
end
def zgJ (i:Expr):Prop:=∀ ov iv,subscripted i false ov iv=operate [ov,iv] (getItem ov iv)
theorem z8v {prog:Program} {w:World} {A:Around} {E:Value->Shared->Prop} {s:Shared} {env:Env} {value slice:Expr} {pos:Pos} {T id:String} {Q:Value->Shared->Prop}
  (hl:typeLookup (.type T) "__getitem__" = pure (some (.builtin id))) (hs:zgJ slice)
  (h:wpAny (model prog w) A (eval value env) (fun o s₁=>wpAny (model prog w) A (eval slice env) (fun i s₂=>s₂.TypeIs o T/\wpAny (model prog w) A (getItem o i) Q E s₂) E s₁) E s):
  wpAny (model prog w) A (eval (.Subscript value slice pos) env) Q E s:=by
 refine Subscript_ (wpAny_mono h (fun o s₁ h₁=>wpAny_mono h₁ (fun i s₂ h₂=>?_) fun _ _ x=>x) fun _ _ x=>x)
 obtain ⟨hT,h₂⟩:=h₂
 unfold subscriptTail
 refine wpAny_bind ?_
 rw [getitemInPython_of_ne hT.not_modules]
 refine wpAny_bind (wpAny_specialOf hT hl ?_)
 have fin:wpAny (model prog w) A (subscripted slice false o i) (fun r s₃=>wpAny (model prog w) A (letTemporaryGo value o r >>= fun _=>pure r) Q E s₃) E s₂:=by
  rw [hs o i]
  exact wpAny_operating (wpAny_mono h₂ (fun r s₃ h₃=>wpAny_bind (wpAny_letTemporaryGo (wpAny_pure h₃))) fun _ _ x=>x)
 first
  | exact wpAny_pure (wpAny_bind fin)
  | exact wpAny_bind (wpAny_pure (wpAny_bind fin))
  | exact wpAny_bind fin
theorem z8o {X:Cx} {pins:List (Addr × Obj)} {σ:St} {H:Hp} {s:Shared} {a:Addr} {y:V} {o:Option V} (I:Inv X pins σ H s) (g:zjl H a y o):s.TypeIs (.ref a) "dict":=by
 rcases g with ⟨kvs,k,e,_,_⟩|⟨kvs,k,b,e,_,_,_⟩
 ·obtain ⟨_,_,vs,_,dd⟩:=zdq I.hok e
  exact dd.typeIs
 ·obtain ⟨_,_,xs,_,dd⟩:=zij I.hok e
  exact dd.typeIs
def zjo (td ty:TE):TE:=fun σ H Q=>td σ H fun x H1=>ty σ H1 fun y H2=>∃ a v,x=.ref a/\zjl H2 a y (some v)/\Q v H2
section
variable {X:Cx} {o i:Expr} {pos:Pos} {td ty:TE}
theorem zeZ (hu:X.A.units + 1 < cLine) (ho:PE X o td) (hi:PE X i ty) (hs:zgJ i):PE X (.Subscript o i pos) (zjo td ty):=by
 intro pins s σ H Q I h
 refine z8v PySem.F.slot_dict_getitem.lookup hs (thn (ho pins s σ H _ I h) fun u s1 ⟨x,H1,I1,rx,q1⟩=>thn (hi pins s1 σ H1 _ I1 q1) fun iv s2 ⟨y,H2,I2,ry,a,v,ex,g,q2⟩=>?_)
 subst ex
 obtain rfl:u=Value.ref a:=rx
 exact ⟨z8o I2 g,zb2 hu I2 g ry fun w' s3 I3 rw'=>⟨v,H2,I3,rw',q2⟩⟩
end
theorem zcI {P:Program} {w:World} {H:Hp} (h:Heap) (hb:sysModules < h.objs.size):ObjOk P w H (h.push { cls:=.type "dict",data:=.dict #[] }) h.objs.size (.dK []):=
 ⟨Nat.zero_le _,beq_eq_false_iff_ne.mpr (Ne.symm (Nat.ne_of_lt hb)),[],.nil,Heap.DictOf.new h⟩
def z7c:List (TE × TE)->St->Hp->(List (V × V)->Hp->Prop)->Prop
 | [],_,H,Q=>Q [] H
 | (tk,tv) :: r,σ,H,Q=>tk σ H fun x H1=>tv σ H1 fun y H2=>z7c r σ H2 fun ps H3=>Q ((x,y) :: ps) H3
abbrev VV:List (V × V)->List (Value × Value)->Prop:=Paired fun p q=>RelV p.1 q.1/\RelV p.2 q.2
def PPs (X:Cx) (pos:Pos) (keys:List (Option Expr)) (values:List Expr) (trs:List (TE × TE)):Prop:=
 ∀ (pins:List (Addr × Obj)) (s:Shared) (σ:St) (H:Hp) (Q:List (V × V)->Hp->Prop),Inv X pins σ H s->z7c trs σ H Q->
  wpAny (model X.prog X.w) X.A (evalPairs (pairTrees keys values X.env pos)) (fun vs s'=>∃ ps H',Inv X pins σ H' s'/\VV ps vs/\Q ps H') X.xe s
theorem zfw {X:Cx} {pos:Pos}:PPs X pos [] [] []:=fun pins s σ H Q I h=>pairTrees_nil_walk ⟨[],H,I,.nil,h⟩
theorem ze7 {X:Cx} {pos:Pos} {k v:Expr} {ks:List (Option Expr)} {vs:List Expr} {tk tv:TE} {trs:List (TE × TE)} (hk:PE X k tk) (hv:PE X v tv) (hr:PPs X pos ks vs trs):
  PPs X pos (some k :: ks) (v :: vs) ((tk,tv) :: trs):=fun pins s σ H Q I h=>
 pairTrees_cons_walk (thn (hk pins s σ H _ I h) fun u s1 ⟨x,H1,I1,rx,q1⟩=>thn (hv pins s1 σ H1 _ I1 q1) fun w2 s2 ⟨y,H2,I2,ry,q2⟩=>
  thn (hr pins s2 σ H2 _ I2 q2) fun ws s3 ⟨ps,H3,I3,rel,q3⟩=>⟨(x,y) :: ps,H3,I3,.cons ⟨rx,ry⟩ rel,q3⟩)
def z3t (kvs more:List (Key × V)):List (Key × V):=more.foldl (fun acc kv=>zar acc kv.1 kv.2) kvs
theorem KV.merge:∀ {more:List (Key × V)} {rs:List (Key × Value)} {kvs:List (Key × V)} {vs:List (Key × Value)},KV more rs->KV kvs vs->KV (z3t kvs more) (merged vs rs):=by
 intro more rs kvs vs r
 unfold KV at r
 induction r generalizing kvs vs with
 | nil=>intro q;exact q
 | @cons p q ps qs h t ih=>
  intro r0
  have e:KV (zar kvs p.1 p.2) (stored vs q.1 q.2):=by
   have:=r0.put p.1 h.2
   rw [<- h.1];exact this
  exact ih e
theorem z3w:∀ (more kvs:List (Key × V)),(z3t kvs more).length <= kvs.length + more.length
 | [],kvs=>by show kvs.length <= kvs.length + 0;omega
 | p :: r,kvs=>by
  have h1:=z3w r (zar kvs p.1 p.2)
  have h2:=z4H kvs p.1 p.2
  show (z3t (zar kvs p.1 p.2) r).length <= _
  rw [List.length_cons];omega
theorem z5R {P:Program} {w:World}:∀ {kvs:List (Key × V)} {ws:List (Value × Value)},VV (kvs.map fun kv=>(kV kv.1,kv.2)) ws->∃ rs,Carries (z1a P w) ws rs/\KV kvs rs
 | [],_,r=>by rw [List.map_nil] at r;cases r;exact ⟨[],True.intro,.nil⟩
 | p :: kvs,_,r=>by
  rw [List.map_cons] at r
  cases r with
  | @cons a b as bs h t=>
   obtain ⟨rs,c,q⟩:=z5R (P:=P) (w:=w) t
   obtain ⟨b1,b2⟩:=b
   exact ⟨(p.1,b2) :: rs,⟨zaY h.1,rfl,c⟩,.cons ⟨rfl,h.2⟩ q⟩
def zji (trs:List (TE × TE)):TE:=fun σ H Q=>∀ p,H p=none->z7c trs σ (upd H p (.dK [])) fun ps H2=>H2 p=some (.dK [])/\∃ kvs:List (Key × V),ps=kvs.map (fun kv=>(kV kv.1,kv.2))/\kvs.length <= 15/\Q (.ref p) (upd H2 p (.dK (z3t [] kvs)))
theorem zfK {X:Cx} {pos:Pos} {keys:List (Option Expr)} {values:List Expr} {trs:List (TE × TE)} (h:PPs X pos keys values trs) (hall:keys.all (·.isSome)=true) (hl:keys.length=values.length) (h0:keys ≠ [])
  (h15:keys.length <= 15):PE X (.Dict keys values pos) (zji trs):=by
 intro pins s σ H Q I q
 have hn:=I.hok.fresh (Nat.le_refl s.heap.objs.size)
 have I1:=I.laid (a:=s.heap.objs.size) (o:=.dK []) (h':=s.heap.push { cls:=.type "dict",data:=.dict #[] }) (t':=s.toks) (fun _ _ q=>Heap.get?_push_of_some _ q) (Nat.le_refl _) (zcI s.heap I.big)
 refine wpAny_Dict_walk (knd:=z1a X.prog X.w) hall hl h0 h15 (thn (h pins _ σ _ _ I1 (q _ hn)) fun ws s2 ⟨ps,H2,I2,rel,e,kvs,ep,lk,q2⟩=>?_)
 subst ep
 obtain ⟨rs,c,rk⟩:=z5R (P:=X.prog) (w:=X.w) rel
 obtain ⟨z,hd,vs0,r0,dd⟩:=zhc I2.hok e
 cases r0
 refine ⟨rs,c,dd,fun h' dd' hs=>⟨.ref s.heap.objs.size,_,?_,rfl,q2⟩⟩
 have hz:(z3t [] kvs).length <= sizeLine:=by
  have h1:=z3w kvs []
  rw [List.length_nil] at h1
  rw [sizeLine_eq];omega
 have he:∃ q,h'.get? s.heap.objs.size=some q:=let ⟨q,_,_,hq,_⟩:=dd';⟨q,hq⟩
 exact zbY I2 (by rw [e];exact True.intro) hs he (zem hz hd (rk.merge .nil) dd') (Nat.add_pos_left I2.tk _)
structure M1 (X:Cx) (o:Expr) (m:Str) (apos:Pos) (e:Expr) (cpos:Pos):Prop where
 base:attributeBase o m X.env (eval o X.env)=eval o X.env
 few:((backTo cpos (starEach [e] X.env)).all (fun x=>!x.1) && (backToKw cpos (keywordEach [] X.env)).all (fun x=>x.1.isSome)
  && decide (([e]:List Expr).length + ([]:List Keyword).length + (if ([]:List Keyword).isEmpty then 0 else 1) < 30))=true
 line:(apos.endLine == cpos.line)=true
 trees:backTo cpos (starEach [e] X.env)=[(false,eval e X.env)]
structure M2 (X:Cx) (o:Expr) (m:Str) (apos:Pos) (e f:Expr) (cpos:Pos):Prop where
 base:attributeBase o m X.env (eval o X.env)=eval o X.env
 few:((backTo cpos (starEach [e,f] X.env)).all (fun x=>!x.1) && (backToKw cpos (keywordEach [] X.env)).all (fun x=>x.1.isSome)
  && decide (([e,f]:List Expr).length + ([]:List Keyword).length + (if ([]:List Keyword).isEmpty then 0 else 1) < 30))=true
 line:(apos.endLine == cpos.line)=true
 trees:backTo cpos (starEach [e,f] X.env)=[(false,eval e X.env),(false,eval f X.env)]
section
end
section
end
end L2
namespace DL
open PySem L2
theorem wT {X:Cx} {pins:List (Addr × Obj)} {σv:St} {H:Hp} {s:Shared} {α:Type} {M:Model} {A:Around} {m:Sem α} {Q:α->Shared->Prop} {E:Value->Shared->Prop} (I:L2.Inv X pins σv H s) (h:wpAny M A m (fun a s'=>0 < s'.toks->Q a s') (fun e s'=>0 < s'.toks->E e s') s):wpAny M A m Q E s:=wpAny_with_toks I.tk h
structure XcK (K:PySem.W.Frag) (C:Addr):Prop where
 ga:PySem.W.findIn K (.ref C) "__getattribute__" = some (some (.builtin "BaseException.__getattribute__"))
 nh:PySem.W.findIn K (.ref C) "__getattr__" = some none
 cl:∃ cd,PySem.W.clsIn K C=some cd
 at_:PySem.W.findIn K (.ref C) "__class__" = some (some (.builtin "object.__class__"))
 gt:PySem.W.specialIn K (.builtin "object.__class__") "__get__" = some (some (.builtin "getset_descriptor.__get__"))
 tk:PySem.W.takesIn K (.builtin "object.__class__")=some true
 ob:PySem.W.mroIn K C (.type "object")=some true
 bx:PySem.W.mroIn K C (.type "BaseException")=some true
 kit:∀ c ∈ (["int", "bool", "str", "list", "tuple", "dict"]:List String),PySem.W.kitOne K (.ref C) (.type c)=some false
section
open PySem.W
variable {prog:Program} {w:World} {A:Around} {E:Value->Shared->Prop} {s:Shared} {K:PySem.W.Frag} {x C:Addr} {ox:Obj}
theorem zfy {M:Model} {nameV:Value} {Q:Unit->Shared->Prop} (X:K.In s.heap) (k:XcK K C) (I:PySem.W.InstAt s.heap x ox C none) (hq:Q () s):wpAny M A (checkBuiltinCall "BaseException.__getattribute__" ⟨[.ref x,nameV],[]⟩) Q E s:=by
 have hk:builtinKind "BaseException.__getattribute__" = some .slot:=by decide +kernel
 have hsplit:splitId "BaseException.__getattribute__" = some ("BaseException", "__getattribute__"):=by decide +kernel
 have ha:=F.args_bexc_ga (.ref x) nameV
 have L0:=I.type (M:=M)
 have L1:=looks_mroIn (M:=M) X k.bx
 have LI:Looks M s.heap (isInstance (.ref x) (.type "BaseException")) true:=L0.andThen L1
 simp only [checkBuiltinCall,hk,hsplit]
 refine wpAny_bind (LI.at ?_)
 repeat (first|wp_step|exact hq)
theorem zfV {Q:Option Value->Shared->Prop} (X:K.In s.heap) (k:XcK K C) (I:PySem.W.InstAt s.heap x ox C none) (h:Q (some (.ref C)) { s with toks:=s.toks + 1 }):wpAny (model prog w) A (getAttr? (.ref x) "__class__") Q E s:=by
 obtain ⟨cd,hcd⟩:=k.cl
 have hf:findObj K C none "__class__" = some (.bind (.builtin "getset_descriptor.__get__") (.builtin "object.__class__")):=by
  unfold findObj
  rw [hcd,k.at_]
  simp only [Option.bind_some,k.gt,k.tk]
 have L0:=I.type (M:=model prog w)
 have L1:=looks_findIn (M:=model prog w) X k.ga
 have L2:=looks_findIn (M:=model prog w) X k.nh
 have LF:=looks_find (M:=model prog w) X I hf
 unfold getAttr? getAttrBy? getAttrBy
 refine wpAny_bind (wpAny_mkText (wpAny_bind (wpAny_attempt (wpAny_holding (wpAny_bind (L0.at (wpAny_bind (L1.at ?_))))))))
 have hx1:(onTheHeap (Value.ref C) && Value.builtin "BaseException.__getattribute__" == Value.builtin "object.__getattribute__")=false:=by
  rw [show (Value.builtin "BaseException.__getattribute__" == Value.builtin "object.__getattribute__")=false from by decide +kernel];rfl
 show wpAny _ _ (if (onTheHeap (Value.ref C) && Value.builtin "BaseException.__getattribute__" == Value.builtin "object.__getattribute__")=true then _ else _) _ _ _
 rw [if_neg (by rw [hx1];decide)]
 unfold getAttrByItsOwn hookBefore
 rw [if_pos (by rfl)]
 refine wpAny_bind (L2.at (wpAny_bind (wpAny_attempt (wpAny_holding ?_))))
 unfold callGetattribute boundAndCalled
 rw [if_neg (by decide)]
 rw [F.attr_ValueError.ga.bind (.ref x)]
 refine wpAny_bind (wpAny_pure (wpAny_call ?_))
 refine codeAny_call_builtin F.attr_ValueError.ga.plain F.entry_bexc_ga (zfy (s:={ s with toks:=s.toks + 1 }) X k I ?_)
 unfold Builtin.«object.__getattribute__»
 refine wpAny_bind (wpAny_pure (wpAny_bind (wpAny_pure (wpAny_bind (L0.at (wpAny_bind (LF.at ?_)))))))
 show wpAny _ _ (Builtin.ObjectAttr.bindTo _ _ _ _) _ _ _
 unfold Builtin.ObjectAttr.bindTo
 refine wpAny_bind (wpAny_holding (wpAny_call (class_get (s:={ s with toks:=s.toks + 1 }) X I k.ob ?_)))
 exact wpAny_pure (wpAny_pure (wpAny_pure h))
theorem zhx (k:XcK K C):KitX K (.ref x) (.ref C) (fun h=>∃ ox,PySem.W.InstAt h x ox C none) where
 ty:=fun _ _ _ ⟨ox,I⟩=>I.type
 it:=fun _ _ X _=>by
  obtain ⟨cd,hcd⟩:=k.cl
  unfold clsIn at hcd
  split at hcd
  ·rename_i c' d' cd' sl' ho
   intro A' Q' E' s' kp q
   unfold isType loadHead
   exact wpAny_bind (wpAny_loadPart (kp _ _ (X _ _ ho)) (wpAny_pure q))
  ·cases hcd
 ne:=fun h tp dd its n sl X htp=>by
  obtain ⟨cd,hcd⟩:=k.cl
  refine Bool.eq_false_iff.mpr fun q=>?_
  have e:C=tp:=Value.ref.inj (beq_iff_eq.mp q)
  subst e
  unfold clsIn at hcd
  split at hcd
  ·rename_i c' d' cd' sl' ho
   have z:=(X _ _ ho).symm.trans htp
   cases z
  ·cases hcd
 ca:=fun X ⟨ox,I⟩ q=>zfV X k I q
end
end DL
namespace DL
open PySem L2
inductive D where
 | non
 | bl (b:Bool)
 | int (i:Int)
 | str (cs:List Nat)
 | lst (xs:List D)
 | tup (xs:List D)
 | own (k:Nat)
 | dct
 | exn (C:Nat)
 | tab (P:Nat)
 | map (ks:List (Sum Int (List Nat))) (ds:List D)
 deriving Repr,BEq,Inhabited
abbrev Ow:=List (List D)
inductive R (α:Type) where
 | ok (a:α) (O:Ow)
 | exc (c:Nat) (O:Ow)
 | bad
 deriving Repr,BEq,Inhabited
def R.bnd {α β:Type} (r:R α) (k:α->Ow->R β):R β:=match r with
 | .ok a O=>k a O
 | .exc c O=>.exc c O
 | .bad=>.bad
abbrev Sg:=List (Option D)
abbrev DE:=Sg->Ow->R D
abbrev DT:=Sg->Ow->R Bool
abbrev DA:=Sg->Ow->R (List D)
section
variable (K:PySem.W.Frag) (H:Hp) (hid μ:List Addr)
def zkp (K:PySem.W.Frag) (a:Addr) (xs:List V):Prop:=∃ (o:Obj) (its:Array Value) (n:Nat),K.lookup a=some o/\o.cls=.type "list"/\o.dict=none/\o.data=.seq its n/\its.size <= sizeLine/\Vals xs its.toList
def zkO (K:PySem.W.Frag) (a:Addr) (xs:List V):Prop:=∃ (o:Obj) (its:Array Value) (n:Nat),K.lookup a=some o/\o.cls=.type "tuple"/\o.data=.seq its n/\its.size <= sizeLine/\Vals xs its.toList
def LstAt (a:Addr) (vs:List V):Prop:=(Rd H a (.lst vs)/\a ∉ hid/\a ∉ μ) \/ zkp K a vs
def TupAt (a:Addr) (vs:List V):Prop:=(Rd H a (.tup vs)/\a ∉ hid/\a ∉ μ) \/ zkO K a vs
end
def kD:Sum Int (List Nat)->Key
 | .inl i=>.inl i
 | .inr cs=>.inr ⟨cs.toArray⟩
def Tidy (H:Hp) (P:Addr):Prop:=∃ ps,H P=some (.tbl ps)/\TriplesOk ps.toList/\∀ pos cv,codeAmong pos ps.toList=some cv->∃ c φ,cv=.ref c/\H c=some (.ext φ)/\∀ h:Heap,φ h->∃ q,h.CodeRec (.ref c) q
def zaI (o:HO):Prop:=∀ ps,o ≠ .tbl ps
section
variable (K:PySem.W.Frag) (H:Hp) (hid μ:List Addr)
mutual
def Dat:D->V->Prop
 | .non,v=>v=.non
 | .bl b,v=>v=.bl b
 | .int i,v=>v=.int i
 | .str cs,v=>v=.str ⟨cs.toArray⟩
 | .lst ds,v=>∃ a vs,v=.ref a/\LstAt K H hid μ a vs/\Dats ds vs
 | .tup ds,v=>∃ a vs,v=.ref a/\TupAt K H hid μ a vs/\Dats ds vs
 | .own k,v=>∃ a,v=.ref a/\μ[k]?=some a
 | .dct,v=>∃ a,v=.ref a/\Rd H a (.dK [])/\a ∉ hid/\a ∉ μ
 | .exn C,v=>∃ a φ,v=.ref a/\(XcK K C/\∀ h:Heap,φ h->∃ ox,PySem.W.InstAt h a ox C none)/\Rd H a (.ext φ)/\a ∉ hid/\a ∉ μ
 | .tab P,v=>v=.bl false/\Tidy H P
 | .map ks ds,v=>∃ a vs,v=.ref a/\Rd H a (.dK ((ks.map kD).zip vs))/\a ∉ hid/\a ∉ μ/\ks.length=vs.length/\Dats ds vs
def Dats:List D->List V->Prop
 | [],vs=>vs=[]
 | d :: ds,vs=>∃ v r,vs=v :: r/\Dat d v/\Dats ds r
end
structure Cells (O:Ow):Prop where
 len:μ.length=O.length
 nd:μ.Nodup
 nh:∀ a ∈ μ,a ∉ hid
 ht:∀ a ∈ hid,H a ≠ none
 at_:∀ (k:Nat) a,μ[k]?=some a->∃ ds vs,O[k]?=some ds/\H a=some (.lst vs)/\Dats K H hid μ ds vs
structure EnvOk (σ:Sg) (σv:St):Prop where
 len:σ.length=σv.length
 at_:∀ (i:Nat) d,σ[i]?=some (some d)->∃ v,σv[i]?=some (some v)/\Dat K H hid μ d v
end
structure Ext (H:Hp) (μ:List Addr) (H':Hp) (μ':List Addr):Prop where
 pre:∃ ν,μ'=μ ++ ν
 kept:∀ b o,H b=some o->b ∉ μ->zaI o->H' b=some o
 fresh:∀ b ∈ μ',b ∈ μ \/ H b=none
 there:∀ b,H b ≠ none->H' b ≠ none
 tab:∀ P,Tidy H P->Tidy H' P
structure Mv (H:Hp) (hid μ:List Addr) (H':Hp) (hid' μ':List Addr):Prop where
 pre:∃ ν,μ'=μ ++ ν
 kept:∀ b o,H b=some o->b ∉ μ->b ∉ hid->zaI o->H' b=some o
 fresh:∀ b ∈ μ',b ∈ μ \/ H b=none
 hids:∀ b ∈ hid',b ∈ hid \/ H b=none
 there:∀ b,H b ≠ none->H' b ≠ none
 tab:∀ P,Tidy H P->Tidy H' P
section
variable {K:PySem.W.Frag} {H H' H1 H2:Hp} {hid hid' hid1 hid2 μ μ' μ1 μ2:List Addr}
theorem Ext.keep (e:Ext H μ H' μ') (b:Addr) (o:HO) (h:H b=some o) (n:b ∉ μ) (ht:zaI o:=by intro ps z;cases z):H' b=some o:=e.kept b o h n ht
theorem Tidy.upd {P p:Addr} {o:HO} (t:Tidy H P) (hp:H p=none \/ ∃ vs,H p=some (.lst vs)):Tidy (L2.upd H p o) P:=by
 obtain ⟨ps,h1,h2,h3⟩:=t
 have n1:P ≠ p:=by
  rintro rfl
  rcases hp with z|⟨vs,z⟩ <;> (rw [z] at h1;cases h1)
 refine ⟨ps,by rw [z0g n1];exact h1,h2,fun pos cv e=>?_⟩
 obtain ⟨c,φ,rfl,hc,hf⟩:=h3 pos cv e
 have n2:c ≠ p:=by
  rintro rfl
  rcases hp with z|⟨vs,z⟩ <;> (rw [z] at hc;cases hc)
 exact ⟨c,φ,rfl,by rw [z0g n2];exact hc,hf⟩
theorem Ext.refl:Ext H μ H μ:=⟨⟨[],by simp⟩,fun _ _ h _ _=>h,fun _ h=>.inl h,fun _ h=>h,fun _ t=>t⟩
theorem Ext.trans (a:Ext H μ H1 μ1) (b:Ext H1 μ1 H2 μ2):Ext H μ H2 μ2:=by
 refine ⟨?_,fun c o h n ht=>?_,fun c h=>?_,fun c h=>b.there c (a.there c h),fun P t=>b.tab P (a.tab P t)⟩
 ·obtain ⟨x,rfl⟩:=a.pre
  obtain ⟨y,rfl⟩:=b.pre
  exact ⟨x ++ y,by simp⟩
 ·refine b.kept c o (a.kept c o h n ht) (fun m=>?_) ht
  rcases a.fresh c m with z|z
  ·exact n z
  ·rw [z] at h;cases h
 ·rcases b.fresh c h with z|z
  ·exact a.fresh c z
  ·by_cases hm:c ∈ μ
   ·exact .inl hm
   ·cases e:H c with
    | none=>exact .inr rfl
    | some o=>exact absurd z (a.there c (by rw [e];simp))
theorem Ext.mv (a:Ext H μ H' μ'):Mv H hid μ H' hid μ':=⟨a.pre,fun b o h n _ ht=>a.kept b o h n ht,a.fresh,fun _ h=>.inl h,a.there,a.tab⟩
theorem Mv.refl:Mv H hid μ H hid μ:=Ext.refl.mv
theorem Mv.trans (a:Mv H hid μ H1 hid1 μ1) (b:Mv H1 hid1 μ1 H2 hid2 μ2):Mv H hid μ H2 hid2 μ2:=by
 have nn:∀ c,H1 c=none->H c=none:=fun c h=>by
  cases e:H c with
  | none=>rfl
  | some o=>exact absurd h (a.there c (by rw [e];simp))
 refine ⟨?_,fun c o h n1 n2 ht=>?_,fun c h=>?_,fun c h=>?_,fun c h=>b.there c (a.there c h),fun P t=>b.tab P (a.tab P t)⟩
 ·obtain ⟨x,rfl⟩:=a.pre
  obtain ⟨y,rfl⟩:=b.pre
  exact ⟨x ++ y,by simp⟩
 ·refine b.kept c o (a.kept c o h n1 n2 ht) (fun m=>?_) (fun m=>?_) ht
  ·rcases a.fresh c m with z|z
   ·exact n1 z
   ·rw [z] at h;cases h
  ·rcases a.hids c m with z|z
   ·exact n2 z
   ·rw [z] at h;cases h
 ·rcases b.fresh c h with z|z
  ·exact a.fresh c z
  ·exact .inr (nn c z)
 ·rcases b.hids c h with z|z
  ·exact a.hids c z
  ·exact .inr (nn c z)
theorem Mv.hide {b:Addr} (h:H b=none):Mv H hid μ H (b :: hid) μ:=⟨⟨[],by simp⟩,fun _ _ h _ _ _=>h,fun _ m=>.inl m,fun c m=>(List.mem_cons.mp m).elim (fun e=>.inr (by rw [e];exact h)) .inl,fun _ h=>h,fun _ t=>t⟩
theorem Mv.unhide {b:Addr}:Mv H (b :: hid) μ H hid μ:=⟨⟨[],by simp⟩,fun _ _ h _ _ _=>h,fun _ m=>.inl m,fun _ m=>.inl (List.mem_cons_of_mem _ m),fun _ h=>h,fun _ t=>t⟩
theorem Rd.mv {a:Addr} {u:HO} (r:Rd H a u) (e:Mv H hid μ H' hid' μ') (n1:a ∉ hid) (n2:a ∉ μ) (ht:zaI u:=by intro ps z;cases z):Rd H' a u/\a ∉ hid'/\a ∉ μ':=by
 have out:∀ o,H a=some o->a ∉ hid'/\a ∉ μ':=by
  intro o h
  constructor
  ·intro m
   rcases e.hids a m with z|z
   ·exact n1 z
   ·rw [z] at h;cases h
  ·intro m
   rcases e.fresh a m with z|z
   ·exact n2 z
   ·rw [z] at h;cases h
 rcases r with r|⟨o,r⟩
 ·exact ⟨.inl (e.kept _ _ r n2 n1 ht),out _ r⟩
 ·exact ⟨.inr ⟨o,e.kept _ _ r n2 n1 (by intro ps z;cases z)⟩,out _ r⟩
theorem LstAt.mv {a:Addr} {vs:List V} (h:LstAt K H hid μ a vs) (e:Mv H hid μ H' hid' μ'):LstAt K H' hid' μ' a vs:=
 h.imp (fun z=>Rd.mv z.1 e z.2.1 z.2.2) id
theorem TupAt.mv {a:Addr} {vs:List V} (h:TupAt K H hid μ a vs) (e:Mv H hid μ H' hid' μ'):TupAt K H' hid' μ' a vs:=
 h.imp (fun z=>Rd.mv z.1 e z.2.1 z.2.2) id
theorem LstAt.sq {a:Addr} {vs:List V} (h:LstAt K H hid μ a vs):SqL K H a vs:=h.elim (fun z=>.inl z.1) .inr
theorem TupAt.sq {a:Addr} {vs:List V} (h:TupAt K H hid μ a vs):SqT K H a vs:=h.elim (fun z=>.inl z.1) .inr
mutual
theorem Dat.mv (e:Mv H hid μ H' hid' μ'):∀ {d:D} {v:V},Dat K H hid μ d v->Dat K H' hid' μ' d v
 | .non,_,h=>h
 | .bl _,_,h=>h
 | .int _,_,h=>h
 | .str _,_,h=>h
 | .lst ds,v,h=>by
  unfold Dat at h ⊢
  obtain ⟨a,vs,r,l,q⟩:=h
  exact ⟨a,vs,r,l.mv e,Dats.mv e q⟩
 | .tup ds,v,h=>by
  unfold Dat at h ⊢
  obtain ⟨a,vs,r,l,q⟩:=h
  exact ⟨a,vs,r,l.mv e,Dats.mv e q⟩
 | .own k,v,h=>by
  unfold Dat at h ⊢
  obtain ⟨a,r,q⟩:=h
  obtain ⟨x,rfl⟩:=e.pre
  exact ⟨a,r,by rw [List.getElem?_append_left (List.getElem?_eq_some_iff.mp q).1];exact q⟩
 | .dct,v,h=>by
  unfold Dat at h ⊢
  obtain ⟨a,r,q,n1,n2⟩:=h
  exact ⟨a,r,Rd.mv q e n1 n2⟩
 | .exn C,v,h=>by
  unfold Dat at h ⊢
  obtain ⟨a,φ,r,g,q,n1,n2⟩:=h
  exact ⟨a,φ,r,g,Rd.mv q e n1 n2⟩
 | .tab P,v,h=>by
  unfold Dat at h ⊢
  exact ⟨h.1,e.tab _ h.2⟩
 | .map ks ds,v,h=>by
  unfold Dat at h ⊢
  obtain ⟨a,vs,r,q,n1,n2,hl,d⟩:=h
  obtain ⟨r1,r2,r3⟩:=Rd.mv q e n1 n2
  exact ⟨a,vs,r,r1,r2,r3,hl,Dats.mv e d⟩
theorem Dats.mv (e:Mv H hid μ H' hid' μ'):∀ {ds:List D} {vs:List V},Dats K H hid μ ds vs->Dats K H' hid' μ' ds vs
 | [],_,h=>h
 | d :: ds,vs,h=>by
  unfold Dats at h ⊢
  obtain ⟨v,r,e1,h1,h2⟩:=h
  exact ⟨v,r,e1,Dat.mv e h1,Dats.mv e h2⟩
end
theorem Dat.ext (e:Ext H μ H' μ') {d:D} {v:V} (h:Dat K H hid μ d v):Dat K H' hid μ' d v:=h.mv e.mv
theorem Dats.ext (e:Ext H μ H' μ') {ds:List D} {vs:List V} (h:Dats K H hid μ ds vs):Dats K H' hid μ' ds vs:=h.mv e.mv
theorem EnvOk.mv {σ:Sg} {σv:St} (h:EnvOk K H hid μ σ σv) (e:Mv H hid μ H' hid' μ'):EnvOk K H' hid' μ' σ σv:=
 ⟨h.len,fun i d q=>let ⟨v,a,b⟩:=h.at_ i d q;⟨v,a,b.mv e⟩⟩
theorem EnvOk.ext {σ:Sg} {σv:St} (h:EnvOk K H hid μ σ σv) (e:Ext H μ H' μ'):EnvOk K H' hid μ' σ σv:=h.mv e.mv
theorem EnvOk.set {σ:Sg} {σv:St} (h:EnvOk K H hid μ σ σv) {d:D} {v:V} (q:Dat K H hid μ d v) (i:Nat):EnvOk K H hid μ (σ.set i (some d)) (σv.set i (some v)):=by
 refine ⟨by simp [h.len],fun j x e=>?_⟩
 by_cases hj:i=j
 ·subst hj
  have hi:i < σ.length:=by have:=(List.getElem?_eq_some_iff.mp e).1;simpa using this
  rw [List.getElem?_set_self hi] at e
  cases e
  exact ⟨v,by rw [List.getElem?_set_self (by rw [<- h.len];exact hi)],q⟩
 ·rw [List.getElem?_set_ne hj] at e
  obtain ⟨w,a,b⟩:=h.at_ j x e
  exact ⟨w,by rw [List.getElem?_set_ne hj];exact a,b⟩
theorem Dats.length:∀ {ds:List D} {vs:List V},Dats K H hid μ ds vs->ds.length=vs.length
 | [],_,h=>by unfold Dats at h;subst h;rfl
 | d :: ds,vs,h=>by
  unfold Dats at h
  obtain ⟨v,r,rfl,_,h2⟩:=h
  simp [Dats.length h2]
theorem Dats.nil:Dats K H hid μ [] []:=by unfold Dats;rfl
theorem Dats.cons {d:D} {v:V} {ds:List D} {vs:List V} (h:Dat K H hid μ d v) (t:Dats K H hid μ ds vs):Dats K H hid μ (d :: ds) (v :: vs):=by
 unfold Dats;exact ⟨v,vs,rfl,h,t⟩
theorem Dats.append:∀ {ds es:List D} {vs ws:List V},Dats K H hid μ ds vs->Dats K H hid μ es ws->Dats K H hid μ (ds ++ es) (vs ++ ws)
 | [],_,_,_,h,t=>by unfold Dats at h;subst h;exact t
 | d :: ds,es,vs,ws,h,t=>by
  unfold Dats at h
  obtain ⟨v,r,rfl,h1,h2⟩:=h
  exact .cons h1 (Dats.append h2 t)
theorem Dats.get:∀ {ds:List D} {vs:List V} {i:Nat} {d:D},Dats K H hid μ ds vs->ds[i]?=some d->∃ v,vs[i]?=some v/\Dat K H hid μ d v
 | [],_,_,_,_,e=>by simp at e
 | d :: ds,vs,0,x,h,e=>by
  unfold Dats at h
  obtain ⟨v,r,rfl,h1,h2⟩:=h
  simp at e;subst e
  exact ⟨v,by simp,h1⟩
 | d :: ds,vs,i + 1,x,h,e=>by
  unfold Dats at h
  obtain ⟨v,r,rfl,h1,h2⟩:=h
  obtain ⟨z,a,b⟩:=Dats.get (i:=i) h2 (by simpa using e)
  exact ⟨z,by simpa using a,b⟩
theorem Dats.take:∀ {ds:List D} {vs:List V} (n:Nat),Dats K H hid μ ds vs->Dats K H hid μ (ds.take n) (vs.take n)
 | _,_,0,_=>by simpa using Dats.nil
 | [],_,n + 1,h=>by unfold Dats at h;subst h;simpa using Dats.nil
 | d :: ds,vs,n + 1,h=>by
  unfold Dats at h
  obtain ⟨v,r,rfl,h1,h2⟩:=h
  simpa using Dats.cons h1 (Dats.take n h2)
theorem Dats.drop:∀ {ds:List D} {vs:List V} (n:Nat),Dats K H hid μ ds vs->Dats K H hid μ (ds.drop n) (vs.drop n)
 | _,_,0,h=>by simpa using h
 | [],_,n + 1,h=>by unfold Dats at h;subst h;simpa using Dats.nil
 | d :: ds,vs,n + 1,h=>by
  unfold Dats at h
  obtain ⟨v,r,rfl,h1,h2⟩:=h
  simpa using Dats.drop n h2
theorem Dats.set {d:D} {v:V} (q:Dat K H hid μ d v):∀ {ds:List D} {vs:List V} (i:Nat),Dats K H hid μ ds vs->Dats K H hid μ (ds.set i d) (vs.set i v)
 | [],_,i,h=>by unfold Dats at h;subst h;simpa using Dats.nil
 | x :: ds,vs,0,h=>by
  unfold Dats at h
  obtain ⟨w,r,rfl,h1,h2⟩:=h
  simpa using Dats.cons q h2
 | x :: ds,vs,i + 1,h=>by
  unfold Dats at h
  obtain ⟨w,r,rfl,h1,h2⟩:=h
  simpa using Dats.cons h1 (Dats.set q i h2)
theorem z1E {p:Addr} {o:HO} (b:Addr) (h:H b ≠ none):upd H p o b ≠ none:=by
 by_cases e:b=p
 ·subst e;rw [z0u];simp
 ·rw [z0g e];exact h
theorem Ext.laid {p:Addr} {o:HO} (h:H p=none):Ext H μ (upd H p o) μ:=
 ⟨⟨[],by simp⟩,fun b u e _ _=>by rw [z0g (z0p e h)];exact e,fun _ m=>.inl m,z1E,fun _ t=>t.upd (.inl h)⟩
theorem Cells.laid {p:Addr} {o:HO} {O:Ow} (c:Cells K H hid μ O) (h:H p=none):Cells K (upd H p o) hid μ O:=by
 refine ⟨c.len,c.nd,c.nh,fun a m=>?_,fun k a e=>?_⟩
 ·by_cases q:a=p
  ·subst q;rw [z0u];simp
  ·rw [z0g q];exact c.ht a m
 ·obtain ⟨ds,vs,h1,h2,h3⟩:=c.at_ k a e
  exact ⟨ds,vs,h1,by rw [z0g (z0p h2 h)];exact h2,h3.ext (.laid h)⟩
theorem Cells.not_in {O:Ow} (c:Cells K H hid μ O) {p:Addr} (h:H p=none):p ∉ hid/\p ∉ μ:=by
 refine ⟨fun m=>c.ht p m h,fun m=>?_⟩
 obtain ⟨k,hk,e⟩:=List.mem_iff_getElem.mp m
 obtain ⟨ds,vs,_,h2,_⟩:=c.at_ k p (by rw [List.getElem?_eq_some_iff];exact ⟨hk,e⟩)
 rw [h] at h2;cases h2
theorem Dat.newL {O:Ow} {p:Addr} {vs:List V} {ds:List D} (c:Cells K H hid μ O) (h:H p=none) (q:Dats K H hid μ ds vs):Dat K (upd H p (.lst vs)) hid μ (.lst ds) (.ref p):=by
 unfold Dat
 exact ⟨p,vs,rfl,.inl ⟨.inl z0u,c.not_in h⟩,q.ext (.laid h)⟩
theorem Dat.newT {O:Ow} {p:Addr} {vs:List V} {ds:List D} (c:Cells K H hid μ O) (h:H p=none) (q:Dats K H hid μ ds vs):Dat K (upd H p (.tup vs)) hid μ (.tup ds) (.ref p):=by
 unfold Dat
 exact ⟨p,vs,rfl,.inl ⟨.inl z0u,c.not_in h⟩,q.ext (.laid h)⟩
theorem Ext.cell {p:Addr} {o:HO} (h:H p=none):Ext H μ (upd H p o) (μ ++ [p]):=
 ⟨⟨[p],rfl⟩,fun b u e _ _=>by rw [z0g (z0p e h)];exact e,fun b m=>by
  rcases List.mem_append.mp m with m|m
  ·exact .inl m
  ·have:b=p:=by simpa using m
   subst this;exact .inr h,z1E,fun _ t=>t.upd (.inl h)⟩
theorem Cells.cell {O:Ow} {p:Addr} {vs:List V} {ds:List D} (c:Cells K H hid μ O) (h:H p=none) (q:Dats K H hid μ ds vs):Cells K (upd H p (.lst vs)) hid (μ ++ [p]) (O ++ [ds]):=by
 have ni:=c.not_in h
 refine ⟨by simp [c.len],?_,fun a m=>?_,fun a m=>?_,fun k a e=>?_⟩
 ·rw [List.nodup_append]
  refine ⟨c.nd,by simp,fun a ha b hb=>?_⟩
  have:b=p:=by simpa using hb
  subst this
  rintro rfl
  exact ni.2 ha
 ·rcases List.mem_append.mp m with m|m
  ·exact c.nh a m
  ·have:a=p:=by simpa using m
   subst this;exact ni.1
 ·by_cases q:a=p
  ·subst q;rw [z0u];simp
  ·rw [z0g q];exact c.ht a m
 ·by_cases hk:k < μ.length
  ·rw [List.getElem?_append_left hk] at e
   obtain ⟨ds',vs',h1,h2,h3⟩:=c.at_ k a e
   exact ⟨ds',vs',by rw [List.getElem?_append_left (by rw [<- c.len];exact hk)];exact h1,by rw [z0g (z0p h2 h)];exact h2,h3.ext (.cell h)⟩
  ·rw [List.getElem?_append_right (by omega)] at e
   have e0:k - μ.length=0:=by
    have:=(List.getElem?_eq_some_iff.mp e).1
    simp at this;omega
   rw [e0] at e
   simp at e;subst e
   refine ⟨ds,vs,?_,z0u,q.ext (.cell h)⟩
   have:k=O.length:=by have:=c.len;omega
   subst this;simp
theorem Ext.put {p:Addr} {o:HO} (h:p ∈ μ) (hl:∃ vs,H p=some (.lst vs)):Ext H μ (upd H p o) μ:=
 ⟨⟨[],by simp⟩,fun b u e n _=>by rw [z0g (by rintro rfl;exact n h)];exact e,fun _ m=>.inl m,z1E,fun _ t=>t.upd (.inr hl)⟩
theorem Cells.put {O:Ow} {p:Addr} {k:Nat} {vs:List V} {ds:List D} (c:Cells K H hid μ O) (hk:μ[k]?=some p) (q:Dats K H hid μ ds vs):Cells K (upd H p (.lst vs)) hid μ (O.set k ds):=by
 have hm:p ∈ μ:=List.mem_of_getElem? hk
 have hl:∃ vs,H p=some (.lst vs):=let ⟨_,vs,_,h2,_⟩:=c.at_ k p hk;⟨vs,h2⟩
 refine ⟨by simp [c.len],c.nd,c.nh,fun a m=>?_,fun j a e=>?_⟩
 ·by_cases q:a=p
  ·subst q;rw [z0u];simp
  ·rw [z0g q];exact c.ht a m
 ·by_cases hj:j=k
  ·subst hj
   rw [hk] at e;cases e
   refine ⟨ds,vs,?_,z0u,q.ext (.put hm hl)⟩
   rw [List.getElem?_set_self (by rw [<- c.len];exact (List.getElem?_eq_some_iff.mp hk).1)]
  ·have ne:a ≠ p:=by
    rintro rfl
    obtain ⟨h1,e1⟩:=List.getElem?_eq_some_iff.mp e
    obtain ⟨h2,e2⟩:=List.getElem?_eq_some_iff.mp hk
    exact hj ((List.getElem_inj c.nd).mp (e1.trans e2.symm))
   obtain ⟨ds',vs',h1,h2,h3⟩:=c.at_ j a e
   exact ⟨ds',vs',by rw [List.getElem?_set_ne (Ne.symm hj)];exact h1,by rw [z0g ne];exact h2,h3.ext (.put hm hl)⟩
end
section
variable (Ex:Nat->Hp->Prop) (K:PySem.W.Frag)
def post {α β:Type} (rel:Hp->List Addr->α->β->Prop) (H:Hp) (hid μ:List Addr) (r:R α) (Q:β->Hp->Prop):Prop:=match r with
 | .ok d O'=>∀ v H' μ',Ext H μ H' μ'->Cells K H' hid μ' O'->rel H' μ' d v->Q v H'
 | .exc c O'=>∀ H' μ',Ext H μ H' μ'->Cells K H' hid μ' O'->Ex c H'
 | .bad=>False
abbrev z1G (H:Hp) (hid μ:List Addr) (r:R D) (Q:VK):Prop:=post Ex K (fun H' μ' d v=>Dat K H' hid μ' d v) H hid μ r Q
abbrev z4b (H:Hp) (hid μ:List Addr) (r:R Bool) (Q:Bool->Hp->Prop):Prop:=post Ex K (fun _ _ d v=>d=v) H hid μ r Q
abbrev zhp (H:Hp) (hid μ:List Addr) (r:R (List D)) (Q:List V->Hp->Prop):Prop:=post Ex K (fun H' μ' d v=>Dats K H' hid μ' d v) H hid μ r Q
def rd (t:DE):TE:=fun σv H Q=>∃ hid μ σ O,EnvOk K H hid μ σ σv/\Cells K H hid μ O/\z1G Ex K H hid μ (t σ O) Q
def rdT (t:DT):TT:=fun σv H Q=>∃ hid μ σ O,EnvOk K H hid μ σ σv/\Cells K H hid μ O/\z4b Ex K H hid μ (t σ O) Q
def rdA (t:DA):TA:=fun σv H Q=>∃ hid μ σ O,EnvOk K H hid μ σ σv/\Cells K H hid μ O/\zhp Ex K H hid μ (t σ O) Q
end
section
variable {Ex:Nat->Hp->Prop} {K:PySem.W.Frag} {H H1:Hp} {hid μ μ1:List Addr}
theorem post.ext {α β:Type} {rel:Hp->List Addr->α->β->Prop} {r:R α} {Q:β->Hp->Prop} (h:post Ex K rel H hid μ r Q) (e:Ext H μ H1 μ1):post Ex K rel H1 hid μ1 r Q:=by
 cases r with
 | ok d O'=>exact fun v H' μ' e' c q=>h v H' μ' (e.trans e') c q
 | exc c O'=>exact fun H' μ' e' c=>h H' μ' (e.trans e') c
 | bad=>exact h
theorem post.bnd {α β α' β':Type} {rel:Hp->List Addr->α->β->Prop} {rel':Hp->List Addr->α'->β'->Prop} {r:R α} {k:α->Ow->R α'} {Q:β'->Hp->Prop} {Q1:β->Hp->Prop}
  (h:post Ex K rel' H hid μ (r.bnd k) Q)
  (hk:∀ d O1 v H1 μ1,Ext H μ H1 μ1->Cells K H1 hid μ1 O1->rel H1 μ1 d v->post Ex K rel' H1 hid μ1 (k d O1) Q->Q1 v H1):post Ex K rel H hid μ r Q1:=by
 cases r with
 | ok d O'=>exact fun v H' μ' e c q=>hk d O' v H' μ' e c q (post.ext (show post Ex K rel' H hid μ (k d O') Q from h) e)
 | exc c O'=>exact h
 | bad=>exact h
theorem post.ok {α β:Type} {rel:Hp->List Addr->α->β->Prop} {d:α} {O:Ow} {Q:β->Hp->Prop} {v:β} (h:post Ex K rel H hid μ (.ok d O) Q) {H':Hp} {μ':List Addr} (e:Ext H μ H' μ') (c:Cells K H' hid μ' O) (q:rel H' μ' d v):Q v H':=h v H' μ' e c q
theorem post.here {α β:Type} {rel:Hp->List Addr->α->β->Prop} {d:α} {O:Ow} {Q:β->Hp->Prop} {v:β} (h:post Ex K rel H hid μ (.ok d O) Q) (c:Cells K H hid μ O) (q:rel H μ d v):Q v H:=h v H μ .refl c q
end
structure PD (X:Cx) (Ex:Nat->Hp->Prop) (e:Expr) (t:DE):Prop where
 out:PE X e (rd Ex X.K t)
structure PDT (X:Cx) (Ex:Nat->Hp->Prop) (e:Expr) (t:DT):Prop where
 out:PT X e (rdT Ex X.K t)
structure PDA (X:Cx) (Ex:Nat->Hp->Prop) (es:List Expr) (t:DA):Prop where
 out:PA X es (rdA Ex X.K t)
theorem PE.imp {X:Cx} {e:Expr} {t t':TE} (h:PE X e t) (f:∀ σ H Q,t' σ H Q->t σ H Q):PE X e t':=fun pins s σ H Q I q=>h pins s σ H Q I (f σ H Q q)
theorem PT.imp {X:Cx} {e:Expr} {t t':TT} (h:PT X e t) (f:∀ σ H Q,t' σ H Q->t σ H Q):PT X e t':=fun pins s σ H Q I q=>h pins s σ H Q I (f σ H Q q)
theorem PA.imp {X:Cx} {e:List Expr} {t t':TA} (h:PA X e t) (f:∀ σ H Q,t' σ H Q->t σ H Q):PA X e t':=fun pos pins s σ H Q I q=>h pos pins s σ H Q I (f σ H Q q)
theorem PW.imp {X:Cx} {e:Expr} {t t':TT} (h:PW X e t) (f:∀ σ H Q,t' σ H Q->t σ H Q):PW X e t':=fun w pins s σ H Q I q=>h w pins s σ H Q I (f σ H Q q)
end DL
namespace DL
open PySem L2
def z02 (i:Nat):DE:=fun σ O=>match σ[i]? with
 | some (some d)=>.ok d O
 | _=>.bad
def dC (d:D):DE:=fun _ O=>.ok d O
section
variable {X:Cx} {Ex:Nat->Hp->Prop} {pos:Pos} {a b c:Expr} {ta tb tc:DE}
theorem z1m {e:Expr} {t:TE} {t':DE} (h:PE X e t) (f:∀ hid μ σ O σv H Q,EnvOk X.K H hid μ σ σv->Cells X.K H hid μ O->z1G Ex X.K H hid μ (t' σ O) Q->t σv H Q):PD X Ex e t':=
 ⟨PE.imp h fun σv H Q ⟨hid,μ,σ,O,e1,c1,q⟩=>f hid μ σ O σv H Q e1 c1 q⟩
theorem z9z {e:Expr} {t:TT} {t':DT} (h:PT X e t) (f:∀ hid μ σ O σv H Q,EnvOk X.K H hid μ σ σv->Cells X.K H hid μ O->z4b Ex X.K H hid μ (t' σ O) Q->t σv H Q):PDT X Ex e t':=
 ⟨PT.imp h fun σv H Q ⟨hid,μ,σ,O,e1,c1,q⟩=>f hid μ σ O σv H Q e1 c1 q⟩
theorem zeA {e:List Expr} {t:TA} {t':DA} (h:PA X e t) (f:∀ hid μ σ O σv H Q,EnvOk X.K H hid μ σ σv->Cells X.K H hid μ O->zhp Ex X.K H hid μ (t' σ O) Q->t σv H Q):PDA X Ex e t':=
 ⟨PA.imp h fun σv H Q ⟨hid,μ,σ,O,e1,c1,q⟩=>f hid μ σ O σv H Q e1 c1 q⟩
theorem rd.go {α' β':Type} {rel':Hp->List Addr->α'->β'->Prop} {t:DE} {hid μ:List Addr} {σ:Sg} {O:Ow} {σv:St} {H:Hp} {Q1:VK} {k:D->Ow->R α'} {Q:β'->Hp->Prop} (e1:EnvOk X.K H hid μ σ σv) (c1:Cells X.K H hid μ O)
  (q:post Ex X.K rel' H hid μ ((t σ O).bnd k) Q)
  (f:∀ d O1 v H1 μ1,EnvOk X.K H1 hid μ1 σ σv->Ext H μ H1 μ1->Cells X.K H1 hid μ1 O1->Dat X.K H1 hid μ1 d v->post Ex X.K rel' H1 hid μ1 (k d O1) Q->Q1 v H1):rd Ex X.K t σv H Q1:=
 ⟨hid,μ,σ,O,e1,c1,post.bnd q fun d O1 v H1 μ1 x c r p=>f d O1 v H1 μ1 (e1.ext x) x c r p⟩
theorem rdT.go {α' β':Type} {rel':Hp->List Addr->α'->β'->Prop} {t:DT} {hid μ:List Addr} {σ:Sg} {O:Ow} {σv:St} {H:Hp} {Q1:Bool->Hp->Prop} {k:Bool->Ow->R α'} {Q:β'->Hp->Prop} (e1:EnvOk X.K H hid μ σ σv) (c1:Cells X.K H hid μ O)
  (q:post Ex X.K rel' H hid μ ((t σ O).bnd k) Q)
  (f:∀ v O1 H1 μ1,EnvOk X.K H1 hid μ1 σ σv->Ext H μ H1 μ1->Cells X.K H1 hid μ1 O1->post Ex X.K rel' H1 hid μ1 (k v O1) Q->Q1 v H1):rdT Ex X.K t σv H Q1:=
 ⟨hid,μ,σ,O,e1,c1,post.bnd q fun d O1 v H1 μ1 x c r p=>by
  have r:d=v:=r
  subst r
  exact f d O1 H1 μ1 (e1.ext x) x c p⟩
theorem rdA.go {α' β':Type} {rel':Hp->List Addr->α'->β'->Prop} {t:DA} {hid μ:List Addr} {σ:Sg} {O:Ow} {σv:St} {H:Hp} {Q1:List V->Hp->Prop} {k:List D->Ow->R α'} {Q:β'->Hp->Prop} (e1:EnvOk X.K H hid μ σ σv) (c1:Cells X.K H hid μ O)
  (q:post Ex X.K rel' H hid μ ((t σ O).bnd k) Q)
  (f:∀ d O1 v H1 μ1,EnvOk X.K H1 hid μ1 σ σv->Ext H μ H1 μ1->Cells X.K H1 hid μ1 O1->Dats X.K H1 hid μ1 d v->post Ex X.K rel' H1 hid μ1 (k d O1) Q->Q1 v H1):rdA Ex X.K t σv H Q1:=
 ⟨hid,μ,σ,O,e1,c1,post.bnd q fun d O1 v H1 μ1 x c r p=>f d O1 v H1 μ1 (e1.ext x) x c r p⟩
theorem ziG {i:Nat} {x:Str} (hN:X.N[i]?=some x) (hv:Vis X.env.scope x) (hd:(x == ("__debug__":Str))=false:=by decide) (hcd:(x == ("__classdict__":Str))=false:=by decide):PD X Ex (.Name x pos) (z02 i):=
 z1m (ziJ hN hv hd hcd) fun hid μ σ O σv H Q e1 c1 q=>by
  unfold z02 at q
  split at q
  ·rename_i d hd
   obtain ⟨v,h1,h2⟩:=e1.at_ i d hd
   exact ⟨v,h1,post.here q c1 h2⟩
  ·exact False.elim q
theorem ziH {i j}:PD X Ex (.Constant (.int i) j pos) (dC (.int i)):=z1m zeH fun hid μ σ O σv H Q e1 c1 q=>post.here q c1 (by unfold Dat;rfl)
theorem zjs {i j}:PD X Ex (.Constant (.bool i) j pos) (dC (.bl i)):=z1m zjz fun hid μ σ O σv H Q e1 c1 q=>post.here q c1 (by unfold Dat;rfl)
theorem zhQ {j}:PD X Ex (.Constant .none j pos) (dC .non):=z1m zeE fun hid μ σ O σv H Q e1 c1 q=>post.here q c1 (by unfold Dat;rfl)
theorem zgS {x:Str} {j} (cs:List Nat) (h:x=⟨cs.toArray⟩):PD X Ex (.Constant (.str x) j pos) (dC (.str cs)):=z1m zeC fun hid μ σ O σv H Q e1 c1 q=>post.here q c1 (by unfold Dat;rw [h])
theorem zdO {x:Str} {y:Str} {t:Tok} (cs:List Nat) (hg:Gl X x) (hm:X.mg x=some (.str y t)) (h:y=⟨cs.toArray⟩) (hd:(x == ("__debug__":Str))=false:=by decide):PD X Ex (.Name x pos) (dC (.str cs)):=
 z1m (z8c (v:=.str y) hg hm ⟨t,rfl⟩ hd) fun hid μ σ O σv H Q e1 c1 q=>post.here q c1 (by unfold Dat;rw [h])
def dOp (f:Ow->D->D->R D) (ta tb:DE):DE:=fun σ O=>(ta σ O).bnd fun x O1=>(tb σ O1).bnd fun y O2=>f O2 x y
def OpD (X:Cx) (Ex:Nat->Hp->Prop) (r:R2) (f:Ow->D->D->R D):Prop:=∀ (H:Hp) (hid μ:List Addr) (O:Ow) (x y:D) (v w:V) (Q:VK),Cells X.K H hid μ O->Dat X.K H hid μ x v->Dat X.K H hid μ y w->z1G Ex X.K H hid μ (f O x y) Q->r v w H Q
theorem z9A {r:R2} {f:Ow->D->D->R D} (h:OpD X Ex r f) (hid μ:List Addr) (σ:Sg) (O:Ow) (σv:St) (H:Hp) (Q:VK) (e1:EnvOk X.K H hid μ σ σv) (c1:Cells X.K H hid μ O) (q:z1G Ex X.K H hid μ (dOp f ta tb σ O) Q):
  tOp r (rd Ex X.K ta) (rd Ex X.K tb) σv H Q:=
 rd.go e1 c1 q fun x O1 v H1 μ1 e2 x2 c2 d2 q2=>rd.go e2 c2 q2 fun y O2 w H2 μ2 e3 x3 c3 d3 q3=>h H2 hid μ2 O2 x y v w Q c3 (d2.ext x3) d3 q3
theorem z8b {op:Operator} {r:R2} {f:Ow->D->D->R D} (ho:OpR X (binaryOp op) r) (h:OpD X Ex r f) (ha:PD X Ex a ta) (hb:PD X Ex b tb):PD X Ex (.BinOp a op b pos) (dOp f ta tb):=
 z1m (zju ho ha.out hb.out) (z9A h)
theorem z3p {op:CmpOp} {r:R2} {f:Ow->D->D->R D} (ho:OpR X (compareOp op) r) (h:OpD X Ex r f) (ha:PD X Ex a ta) (hb:PD X Ex b tb) (hm:behindInMarks op b=false):PD X Ex (.Compare a [op] [b] pos) (dOp f ta tb):=
 z1m (zfW ho ha.out hb.out hm) (z9A h)
def z0k (t:DE):DT:=fun σ O=>(t σ O).bnd fun x O1=>match x with
 | .bl k=>.ok k O1
 | _=>.bad
theorem z98 {t:TE} {td:DE} (f:∀ hid μ σ O σv H Q,EnvOk X.K H hid μ σ σv->Cells X.K H hid μ O->z1G Ex X.K H hid μ (td σ O) Q->t σv H Q) (hid μ:List Addr) (σ:Sg) (O:Ow) (σv:St) (H:Hp) (Q:Bool->Hp->Prop)
  (e1:EnvOk X.K H hid μ σ σv) (c1:Cells X.K H hid μ O) (q:z4b Ex X.K H hid μ (z0k td σ O) Q):zh9 t σv H Q:=by
 refine f hid μ σ O σv H _ e1 c1 ?_
 refine post.bnd q fun d O1 v H1 μ1 x c r p=>?_
 cases d with
 | bl k=>
  have r:v=.bl k:=by unfold Dat at r;exact r
  exact ⟨k,r,post.here p c rfl⟩
 | _=>exact False.elim p
theorem z2E {op:CmpOp} {r:R2} {f:Ow->D->D->R D} (ho:OpR X (compareOp op) r) (h:OpD X Ex r f) (ha:PD X Ex a ta) (hb:PD X Ex b tb) (hm:behindInMarks op b=false):PDT X Ex (.Compare a [op] [b] pos) (z0k (dOp f ta tb)):=
 z9z (zfJ ho ha.out hb.out hm) (z98 (z9A h))
def zgM (O:Ow):D->R Bool
 | .non=>.ok false O
 | .bl b=>.ok b O
 | .int i=>.ok (i != 0) O
 | .str cs=>if cs.length <= 100000 then .ok (!cs.isEmpty) O else .bad
 | .lst ds=>.ok (!ds.isEmpty) O
 | .tup ds=>.ok (!ds.isEmpty) O
 | .own k=>match O[k]? with
  | some ds=>.ok (!ds.isEmpty) O
  | none=>.bad
 | .dct=>.bad
 | .exn _=>.bad
 | .tab _=>.bad
 | .map _ _=>.bad
def z1g (t:DE):DT:=fun σ O=>(t σ O).bnd fun x O1=>zgM O1 x
theorem z0O {n:Nat} (h:n <= 100000):n <= sizeLine:=Nat.le_trans h (by decide)
theorem z1T {K:PySem.W.Frag} {H:Hp} {hid μ:List Addr} {ds:List D} {vs:List V} (h:Dats K H hid μ ds vs):(!ds.isEmpty) = !vs.isEmpty:=by
 have e:=h.length
 cases ds <;> cases vs <;> simp_all
theorem zfX (ha:PD X Ex a ta) (he:∀ whole,isTrue a X.env whole=(do let v <- whole;standAt a.pos;holding [v] (truthy v))):PDT X Ex a (z1g ta):=
 z9z (ze5 ha.out he) fun hid μ σ O σv H Q e1 c1 q=>rd.go e1 c1 q fun d O1 v H1 μ1 e2 x c r p=>by
  cases d with
  | non=>unfold Dat at r;subst r;exact ⟨_,rfl,post.here p c rfl⟩
  | bl b=>unfold Dat at r;subst r;exact ⟨_,rfl,post.here p c rfl⟩
  | int b=>unfold Dat at r;subst r;exact ⟨_,rfl,post.here p c rfl⟩
  | str cs=>
   unfold Dat at r;subst r
   by_cases hl:cs.length <= 100000
   ·have p':z4b Ex X.K H1 hid μ1 (.ok (!cs.isEmpty) O1) Q:=by
     have p2:z4b Ex X.K H1 hid μ1 (if cs.length <= 100000 then .ok (!cs.isEmpty) O1 else .bad) Q:=p
     rw [if_pos hl] at p2;exact p2
    refine ⟨_,⟨?_,rfl⟩,?_⟩
    ·show cs.toArray.size <= _
     rw [List.size_toArray];exact z0O hl
    ·have e:(((⟨cs.toArray⟩:Str).length:Int) != 0) = !cs.isEmpty:=by
      show ((cs.toArray.size:Int) != 0)=_
      rw [List.size_toArray]
      cases cs <;> simp [bne]
      omega
     rw [e];exact post.here p' c rfl
   ·have p2:z4b Ex X.K H1 hid μ1 (if cs.length <= 100000 then .ok (!cs.isEmpty) O1 else .bad) Q:=p
    rw [if_neg hl] at p2;exact False.elim p2
  | lst ds=>
   unfold Dat at r
   obtain ⟨a,vs,rfl,l,q⟩:=r
   exact ⟨_,.inl ⟨vs,l.sq,rfl⟩,by rw [<- z1T q];exact post.here p c rfl⟩
  | tup ds=>
   unfold Dat at r
   obtain ⟨a,vs,rfl,l,q⟩:=r
   exact ⟨_,.inr (.inl ⟨vs,l.sq,rfl⟩),by rw [<- z1T q];exact post.here p c rfl⟩
  | own k=>
   unfold Dat at r
   obtain ⟨a,rfl,hk⟩:=r
   obtain ⟨ds,vs,h1,h2,h3⟩:=c.at_ k a hk
   have p':z4b Ex X.K H1 hid μ1 (.ok (!ds.isEmpty) O1) Q:=by
    have p2:z4b Ex X.K H1 hid μ1 (match O1[k]? with|some ds=>.ok (!ds.isEmpty) O1|none=>.bad) Q:=p
    rw [h1] at p2;exact p2
   exact ⟨_,.inl ⟨vs,.of h2,rfl⟩,by rw [<- z1T h3];exact post.here p' c rfl⟩
  | dct=>exact False.elim p
  | exn _=>exact False.elim p
  | tab _=>exact False.elim p
  | map _ _=>exact False.elim p
def fI (g:Int->Int->Option D):Ow->D->D->R D:=fun O x y=>match x,y with
 | .int i,.int j=>match g i j with
  | some d=>.ok d O
  | none=>.bad
 | _,_=>.bad
theorem z4Y {C:Int->Int->Prop} {gv:Int->Int->V} {g:Int->Int->Option D} (h:∀ i j d,g i j=some d->C i j/\∀ K H hid μ,Dat K H hid μ d (gv i j)):OpD X Ex (rI C gv) (fI g):=by
 intro H hid μ O x y v w Q c dx dy q
 unfold fI at q
 split at q
 ·rename_i i j
  unfold Dat at dx dy
  subst dx;subst dy
  split at q
  ·rename_i d hd
   obtain ⟨h1,h2⟩:=h i j d hd
   exact ⟨i,j,rfl,rfl,h1,post.here q c (h2 _ _ _ _)⟩
  ·exact False.elim q
 ·exact False.elim q
theorem z3o {gv:Int->Int->V} {g:Int->Int->Option D} (h:∀ i j d,g i j=some d->∀ K H hid μ,Dat K H hid μ d (gv i j)):OpD X Ex (rI0 gv) (fI g):=by
 intro H hid μ O x y v w Q c dx dy q
 unfold fI at q
 split at q
 ·rename_i i j
  unfold Dat at dx dy
  subst dx;subst dy
  split at q
  ·rename_i d hd
   exact ⟨i,j,rfl,rfl,post.here q c (h i j d hd _ _ _ _)⟩
  ·exact False.elim q
 ·exact False.elim q
theorem z0I {K H hid μ} {i:Int}:Dat K H hid μ (.int i) (.int i):=by unfold Dat;rfl
theorem z1i {K H hid μ} {i:Bool}:Dat K H hid μ (.bl i) (.bl i):=by unfold Dat;rfl
theorem z8A {K H hid μ}:Dat K H hid μ .non .non:=by unfold Dat;rfl
theorem z8d {K H hid μ} {cs:List Nat}:Dat K H hid μ (.str cs) (.str ⟨cs.toArray⟩):=by unfold Dat;rfl
def gB (p:Int->Int->Bool):Int->Int->Option D:=fun i j=>some (.bl (p i j))
def gI (p:Int->Int->Int):Int->Int->Option D:=fun i j=>some (.int (p i j))
def zaC:Int->Int->Option D:=gI fun i j=>i - j
def z7D:Int->Int->Option D:=fun i j=>if (-1000000000000000 < i/\i < 1000000000000000) \/ (-1000000000000000 < j/\j < 1000000000000000) then some (.int (i * j)) else none
def za9:Int->Int->Option D:=fun i j=>if 0 < j/\j < 1073741824 then some (.int (i / j)) else none
def z5D:Int->Int->Option D:=fun i j=>if 0 < j then some (.int (i % j)) else none
def zau:Int->Int->Option D:=fun i j=>if 0 <= j/\j <= 1000000/\i.natAbs < 2 ^ 64 then some (.int (i ^ j.toNat)) else none
def z87:Int->Int->Option D:=fun i j=>if 0 <= j/\j <= 1000000/\i.natAbs < 2 ^ 64 then some (.int (i * 2 ^ j.toNat)) else none
theorem zfj:OpD X Ex (rI0 fun i j=>.int (i - j)) (fI zaC):=z3o fun i j d h _ _ _ _=>by cases h;exact z0I
theorem zgl:OpD X Ex (rI CMul fun i j=>.int (i * j)) (fI z7D):=z4Y fun i j d h=>by
 unfold z7D at h;split at h
 ·rename_i hc;cases h;exact ⟨hc.imp (fun z=>⟨by omega,by omega⟩) fun z=>⟨by omega,by omega⟩,fun _ _ _ _=>z0I⟩
 ·cases h
theorem zf2:OpD X Ex (rI zk6 fun i j=>.int (i / j)) (fI za9):=z4Y fun i j d h=>by
 unfold za9 at h;split at h
 ·rename_i hc;cases h;exact ⟨hc,fun _ _ _ _=>z0I⟩
 ·cases h
theorem zgq:OpD X Ex (rI (fun _ j=>0 < j) fun i j=>.int (i % j)) (fI z5D):=z4Y fun i j d h=>by
 unfold z5D at h;split at h
 ·rename_i hc;cases h;exact ⟨hc,fun _ _ _ _=>z0I⟩
 ·cases h
theorem zeW:OpD X Ex (rI zj2 fun i j=>.int (i ^ j.toNat)) (fI zau):=z4Y fun i j d h=>by
 unfold zau at h;split at h
 ·rename_i hc;cases h;exact ⟨hc,fun _ _ _ _=>z0I⟩
 ·cases h
theorem zgj:OpD X Ex (rI zj2 fun i j=>.int (i * 2 ^ j.toNat)) (fI z87):=z4Y fun i j d h=>by
 unfold z87 at h;split at h
 ·rename_i hc;cases h;exact ⟨hc,fun _ _ _ _=>z0I⟩
 ·cases h
def fLt:Ow->D->D->R D:=fI (gB fun i j=>decide (i < j))
def fLe:Ow->D->D->R D:=fI (gB fun i j=>decide (i <= j))
def fGt:Ow->D->D->R D:=fI (gB fun i j=>decide (j < i))
def fGe:Ow->D->D->R D:=fI (gB fun i j=>decide (j <= i))
theorem zcw:OpD X Ex (rI0 fun i j=>.bl (decide (i < j))) fLt:=z3o fun i j d h _ _ _ _=>by cases h;exact z1i
theorem zeB:OpD X Ex (rI0 fun i j=>.bl (decide (i <= j))) fLe:=z3o fun i j d h _ _ _ _=>by cases h;exact z1i
theorem zeI:OpD X Ex (rI0 fun i j=>.bl (decide (j < i))) fGt:=z3o fun i j d h _ _ _ _=>by cases h;exact z1i
theorem zeD:OpD X Ex (rI0 fun i j=>.bl (decide (j <= i))) fGe:=z3o fun i j d h _ _ _ _=>by cases h;exact z1i
def zg0:D->Bool
 | .non=>true
 | _=>false
def zjj:Ow->D->D->R D:=fun O x y=>match y with
 | .non=>.ok (.bl (zg0 x)) O
 | _=>.bad
theorem zgi {K H hid μ} {x:D} {v:V} (h:Dat K H hid μ x v):decide (v=.non)=zg0 x:=by
 cases x with
 | non=>unfold Dat at h;subst h;rfl
 | bl _=>unfold Dat at h;subst h;rfl
 | int _=>unfold Dat at h;subst h;rfl
 | str _=>unfold Dat at h;subst h;rfl
 | lst _=>unfold Dat at h;obtain ⟨_,_,rfl,_⟩:=h;rfl
 | tup _=>unfold Dat at h;obtain ⟨_,_,rfl,_⟩:=h;rfl
 | own _=>unfold Dat at h;obtain ⟨_,rfl,_⟩:=h;rfl
 | dct=>unfold Dat at h;obtain ⟨_,rfl,_⟩:=h;rfl
 | exn _=>unfold Dat at h;obtain ⟨_,_,rfl,_⟩:=h;rfl
 | tab _=>unfold Dat at h;obtain ⟨rfl,_⟩:=h;rfl
 | map _ _=>unfold Dat at h;obtain ⟨_,_,rfl,_⟩:=h;rfl
theorem zgA:OpD X Ex (fun x y H Q=>y=.non/\Q (.bl (decide (x=.non))) H) zjj:=by
 intro H hid μ O x y v w Q c dx dy q
 cases y with
 | non=>
  unfold Dat at dy;subst dy
  refine ⟨rfl,?_⟩
  rw [zgi dx]
  exact post.here (show z1G Ex X.K H hid μ (.ok (.bl (zg0 x)) O) Q from q) c z1i
 | _=>exact False.elim q
def ze2 (t u:DE):DE:=fun σ O=>(t σ O).bnd fun x O1=>match x with
 | .bl true=>u σ O1
 | .bl false=>.ok (.bl false) O1
 | _=>.bad
def dOr (t u:DE):DE:=fun σ O=>(t σ O).bnd fun x O1=>match x with
 | .bl true=>.ok (.bl true) O1
 | .bl false=>u σ O1
 | _=>.bad
def zhe (t:DE):DE:=fun σ O=>(t σ O).bnd fun x O1=>match x with
 | .bl b=>.ok (.bl (!b)) O1
 | _=>.bad
def z1P (t u:DT):DT:=fun σ O=>(t σ O).bnd fun x O1=>if x=true then u σ O1 else .ok false O1
def z6Z (t u:DT):DT:=fun σ O=>(t σ O).bnd fun x O1=>if x=true then .ok true O1 else u σ O1
def z1B (t:DT):DT:=fun σ O=>(t σ O).bnd fun x O1=>.ok (!x) O1
theorem zit {op} (ha:PD X Ex a ta):PD X Ex (.BoolOp op [a] pos) ta:=⟨ziN ha.out⟩
theorem zgT {rest:List Expr} (ha:PD X Ex a ta) (hb:PD X Ex (.BoolOp .And (b :: rest) pos) tb):PD X Ex (.BoolOp .And (a :: b :: rest) pos) (ze2 ta tb):=
 z1m (zhs ha.out hb.out) fun hid μ σ O σv H Q e1 c1 q=>rd.go e1 c1 q fun d O1 v H1 μ1 e2 x c r p=>by
  cases d with
  | bl k=>
   unfold Dat at r;subst r
   refine ⟨k,rfl,?_⟩
   cases k with
   | true=>rw [if_pos rfl];exact ⟨hid,μ1,σ,O1,e2,c,p⟩
   | false=>rw [if_neg Bool.false_ne_true];exact post.here p c z1i
  | _=>exact False.elim p
theorem zjQ {rest:List Expr} (ha:PD X Ex a ta) (hb:PD X Ex (.BoolOp .Or (b :: rest) pos) tb):PD X Ex (.BoolOp .Or (a :: b :: rest) pos) (dOr ta tb):=
 z1m (zjF ha.out hb.out) fun hid μ σ O σv H Q e1 c1 q=>rd.go e1 c1 q fun d O1 v H1 μ1 e2 x c r p=>by
  cases d with
  | bl k=>
   unfold Dat at r;subst r
   refine ⟨k,rfl,?_⟩
   cases k with
   | true=>rw [if_pos rfl];exact post.here p c z1i
   | false=>rw [if_neg Bool.false_ne_true];exact ⟨hid,μ1,σ,O1,e2,c,p⟩
  | _=>exact False.elim p
theorem zil (ha:PD X Ex a ta):PD X Ex (.UnaryOp .Not a pos) (zhe ta):=
 z1m (zgW ha.out) fun hid μ σ O σv H Q e1 c1 q=>rd.go e1 c1 q fun d O1 v H1 μ1 e2 x c r p=>by
  cases d with
  | bl k=>unfold Dat at r;subst r;exact ⟨k,rfl,post.here p c z1i⟩
  | _=>exact False.elim p
structure PDW (X:Cx) (Ex:Nat->Hp->Prop) (e:Expr) (t:DT):Prop where
 out:PW X e (rdT Ex X.K t)
theorem PDW.pt {e:Expr} {t:DT} (h:PDW X Ex e t):PDT X Ex e t:=⟨L2.PW.pt h.out⟩
theorem zeo {e:Expr} {t:TT} {t':DT} (h:PW X e t) (f:∀ hid μ σ O σv H Q,EnvOk X.K H hid μ σ σv->Cells X.K H hid μ O->z4b Ex X.K H hid μ (t' σ O) Q->t σv H Q):PDW X Ex e t':=
 ⟨PW.imp h fun σv H Q ⟨hid,μ,σ,O,e1,c1,q⟩=>f hid μ σ O σv H Q e1 c1 q⟩
theorem zgs {rest:List Expr} {tA tB:DT} (ha:PDT X Ex a tA) (hb:PDW X Ex (.BoolOp .And (b :: rest) pos) tB):PDW X Ex (.BoolOp .And (a :: b :: rest) pos) (z1P tA tB):=
 zeo (zh6 ha.out hb.out) fun hid μ σ O σv H Q e1 c1 q=>rdT.go e1 c1 q fun k O1 H1 μ1 e2 x c p=>by
  cases k with
  | true=>rw [if_pos rfl];exact ⟨hid,μ1,σ,O1,e2,c,p⟩
  | false=>rw [if_neg Bool.false_ne_true];exact post.here p c rfl
theorem ziw {rest:List Expr} {tA tB:DT} (ha:PDT X Ex a tA) (hb:PDW X Ex (.BoolOp .Or (b :: rest) pos) tB):PDW X Ex (.BoolOp .Or (a :: b :: rest) pos) (z6Z tA tB):=
 zeo (zjE ha.out hb.out) fun hid μ σ O σv H Q e1 c1 q=>rdT.go e1 c1 q fun k O1 H1 μ1 e2 x c p=>by
  cases k with
  | true=>rw [if_pos rfl];exact post.here p c rfl
  | false=>rw [if_neg Bool.false_ne_true];exact ⟨hid,μ1,σ,O1,e2,c,p⟩
theorem zcM {tA:DT} (ha:PDT X Ex a tA):PDW X Ex (.BoolOp .And [a] pos) tA:=⟨zfF ha.out⟩
theorem zg6 {tA:DT} (ha:PDT X Ex a tA):PDW X Ex (.BoolOp .Or [a] pos) tA:=⟨zhJ ha.out⟩
theorem zfQ {tA:DT} (ha:PDT X Ex a tA):PDT X Ex (.UnaryOp .Not a pos) (z1B tA):=
 z9z (ziy ha.out) fun hid μ σ O σv H Q e1 c1 q=>rdT.go e1 c1 q fun k O1 H1 μ1 e2 x c p=>post.here p c rfl
def zcf (f g:Ow->D->D->R D) (ta tb tc:DE):DE:=fun σ O=>(ta σ O).bnd fun x O1=>(tb σ O1).bnd fun y O2=>(f O2 x y).bnd fun z O3=>match z with
 | .bl true=>(tc σ O3).bnd fun w O4=>g O4 y w
 | .bl false=>.ok (.bl false) O3
 | _=>.bad
theorem zdV {op op':CmpOp} {r r':R2} {f g:Ow->D->D->R D} (ho:OpR X (compareOp op) r) (h:OpD X Ex r f) (ho':OpR X (compareOp op') r') (h':OpD X Ex r' g) (ha:PD X Ex a ta) (hb:PD X Ex b tb) (hc:PD X Ex c tc)
  (hm:lastMarks [op,op'] [b,c]=false:=by with_unfolding_all rfl):PD X Ex (.Compare a [op,op'] [b,c] pos) (zcf f g ta tb tc):=
 z1m (zd8 ho ho' ha.out hb.out hc.out hm) fun hid μ σ O σv H Q e1 c1 q=>rd.go e1 c1 q fun x O1 v H1 μ1 e2 x2 c2 d2 q2=>rd.go e2 c2 q2 fun y O2 w H2 μ2 e3 x3 c3 d3 q3=>
  h H2 hid μ2 O2 x y v w _ c3 (d2.ext x3) d3 (post.bnd q3 fun z O3 u H3 μ3 x4 c4 r4 p=>by
   cases z with
   | bl k=>
    unfold Dat at r4;subst r4
    refine ⟨k,rfl,?_⟩
    cases k with
    | true=>rw [if_pos rfl];exact rd.go (e3.ext x4) c4 p fun w2 O4 v4 H4 μ4 e5 x5 c5 d5 q5=>h' H4 hid μ4 O4 y w2 w v4 Q c5 ((d3.ext x4).ext x5) d5 q5
    | false=>rw [if_neg Bool.false_ne_true];exact post.here p c4 z1i
   | _=>exact False.elim p)
def z03:DA:=fun _ O=>.ok [] O
def z01 (t:DE) (u:DA):DA:=fun σ O=>(t σ O).bnd fun x O1=>(u σ O1).bnd fun xs O2=>.ok (x :: xs) O2
theorem zfb:PDA X Ex [] z03:=zeA z78 fun hid μ σ O σv H Q e1 c1 q=>post.here q c1 .nil
theorem zcH {es:List Expr} {t:DA} (ha:PD X Ex a ta) (hr:PDA X Ex es t) (hs:starEach (a :: es) X.env=(false,eval a X.env) :: starEach es X.env:=by rfl):PDA X Ex (a :: es) (z01 ta t):=
 zeA (z2z ha.out hr.out hs) fun hid μ σ O σv H Q e1 c1 q=>rd.go e1 c1 q fun x O1 v H1 μ1 e2 x2 c2 d2 q2=>rdA.go e2 c2 q2 fun y O2 w H2 μ2 e3 x3 c3 d3 q3=>post.here q3 c3 (.cons (d2.ext x3) d3)
def z2T (t:DA):DE:=fun σ O=>(t σ O).bnd fun xs O1=>if xs.length <= 100000 then .ok (.tup xs) O1 else .bad
def z1q (t:DA):DE:=fun σ O=>(t σ O).bnd fun xs O1=>if xs.length <= 100000 then .ok (.lst xs) O1 else .bad
def z2R (t:DA):DE:=fun σ O=>(t σ O).bnd fun xs O1=>if xs.length <= 100000 then .ok (.own O1.length) (O1 ++ [xs]) else .bad
theorem post.ite {α β:Type} {K:PySem.W.Frag} {H:Hp} {hid μ:List Addr} {rel:Hp->List Addr->α->β->Prop} {Q:β->Hp->Prop} {c:Prop} [Decidable c] {r:R α} (h:post Ex K rel H hid μ (if c then r else .bad) Q):c/\post Ex K rel H hid μ r Q:=by
 by_cases hc:c
 ·rw [if_pos hc] at h;exact ⟨hc,h⟩
 ·rw [if_neg hc] at h;exact False.elim h
theorem zh7 {es:List Expr} {t:DA} {x1} (h:PDA X Ex es t):PD X Ex (.Tuple es x1 pos) (z2T t):=
 z1m (zen h.out) fun hid μ σ O σv H Q e1 c1 q=>rdA.go e1 c1 q fun xs O1 vs H1 μ1 e2 x2 c2 d2 q2=>by
  obtain ⟨hl,q2⟩:=post.ite q2
  exact ⟨by rw [<- d2.length];exact z0O hl,fun p hp=>post.ok q2 (.laid hp) (c2.laid hp) (Dat.newT c2 hp d2)⟩
theorem ziC {es:List Expr} {t:DA} (h:PDA X Ex es t):PD X Ex (.List es pos) (z1q t):=
 z1m (zeO h.out) fun hid μ σ O σv H Q e1 c1 q=>rdA.go e1 c1 q fun xs O1 vs H1 μ1 e2 x2 c2 d2 q2=>by
  obtain ⟨hl,q2⟩:=post.ite q2
  exact ⟨by rw [<- d2.length];exact z0O hl,fun p hp=>post.ok q2 (.laid hp) (c2.laid hp) (Dat.newL c2 hp d2)⟩
theorem z22 {K:PySem.W.Frag} {H:Hp} {hid μ:List Addr} {p:Addr} {n:Nat} (h:μ.length=n):Dat K H hid (μ ++ [p]) (.own n) (.ref p):=by
 unfold Dat
 exact ⟨p,rfl,by rw [<- h];simp⟩
theorem zgD {es:List Expr} {t:DA} (h:PDA X Ex es t):PD X Ex (.List es pos) (z2R t):=
 z1m (zeO h.out) fun hid μ σ O σv H Q e1 c1 q=>rdA.go e1 c1 q fun xs O1 vs H1 μ1 e2 x2 c2 d2 q2=>by
  obtain ⟨hl,q2⟩:=post.ite q2
  exact ⟨by rw [<- d2.length];exact z0O hl,fun p hp=>post.ok q2 (.cell hp) (c2.cell hp d2) (z22 c2.len)⟩
end
inductive Src where
 | val (ds:List D)
 | own (k:Nat)
 | zip (a b:Src)
 deriving Repr,Inhabited
def Src.get:Src->Ow->Nat->Option D
 | .val ds,_,i=>ds[i]?
 | .own k,O,i=>match O[k]? with
  | some ds=>ds[i]?
  | none=>none
 | .zip a b,O,i=>match a.get O i,b.get O i with
  | some x,some y=>some (.tup [x,y])
  | _,_=>none
def Src.size:Src->Ow->Nat
 | .val ds,_=>ds.length
 | .own k,O=>match O[k]? with
  | some ds=>ds.length
  | none=>0
 | .zip a b,O=>min (a.size O) (b.size O)
abbrev DI:=Sg->Ow->R Src
def SrcAt (K:PySem.W.Frag) (J:It) (src:Src) (H:Hp) (hid μ:List Addr):Prop:=∀ hid' H' μ' O',Mv H hid μ H' hid' μ'->Cells K H' hid' μ' O'->∀ i,
 match src.get O' i with
 | some d=>J.go i H'/\∀ x H'',J.yld i H' x H''->Ext H' μ' H'' μ'/\Cells K H'' hid' μ' O'/\Dat K H'' hid' μ' d x
 | none=>J.stop i H'
def rdI (Ex:Nat->Hp->Prop) (K:PySem.W.Frag) (t:DI):TI:=fun σv H Rr=>∃ hid μ σ O,EnvOk K H hid μ σ σv/\Cells K H hid μ O/\post Ex K (fun H' μ' s J=>SrcAt K J s H' hid μ') H hid μ (t σ O) Rr
structure PDI (X:Cx) (Ex:Nat->Hp->Prop) (tg iter:Expr) (t:DI):Prop where
 out:PI X tg iter (rdI Ex X.K t)
theorem SrcAt.mv {K:PySem.W.Frag} {J:It} {src:Src} {H H1:Hp} {hid hid1 μ μ1:List Addr} (h:SrcAt K J src H hid μ) (e:Mv H hid μ H1 hid1 μ1):SrcAt K J src H1 hid1 μ1:=
 fun hid' H' μ' O' m c=>h hid' H' μ' O' (e.trans m) c
theorem SrcAt.val {K:PySem.W.Frag} {H:Hp} {hid μ:List Addr} {ds:List D} {vs:List V} {a:Addr} (l:LstAt K H hid μ a vs) (q:Dats K H hid μ ds vs):SrcAt K (Itl K a) (.val ds) H hid μ:=by
 intro hid' H' μ' O' m c i
 have sq:=(l.mv m).sq
 have q':=q.mv m
 show match ds[i]? with|some d=>_|none=>_
 cases e:ds[i]? with
 | some d=>
  obtain ⟨v,h1,h2⟩:=q'.get e
  refine ⟨⟨vs,v,sq,h1⟩,fun x H'' y=>?_⟩
  obtain ⟨rfl,y⟩:=y
  have:=y vs sq
  rw [h1] at this;cases this
  exact ⟨.refl,c,h2⟩
 | none=>
  refine ⟨vs,sq,?_⟩
  have:=List.getElem?_eq_none_iff.mp e
  rw [<- q.length];exact this
theorem SrcAt.tup {K:PySem.W.Frag} {H:Hp} {hid μ:List Addr} {ds:List D} {vs:List V} {a:Addr} (l:TupAt K H hid μ a vs) (q:Dats K H hid μ ds vs):SrcAt K (Itt K a) (.val ds) H hid μ:=by
 intro hid' H' μ' O' m c i
 have sq:=(l.mv m).sq
 have q':=q.mv m
 show match ds[i]? with|some d=>_|none=>_
 cases e:ds[i]? with
 | some d=>
  obtain ⟨v,h1,h2⟩:=q'.get e
  refine ⟨⟨vs,v,sq,h1⟩,fun x H'' y=>?_⟩
  obtain ⟨rfl,y⟩:=y
  have:=y vs sq
  rw [h1] at this;cases this
  exact ⟨.refl,c,h2⟩
 | none=>
  refine ⟨vs,sq,?_⟩
  have:=List.getElem?_eq_none_iff.mp e
  rw [<- q.length];exact this
theorem SrcAt.own {K:PySem.W.Frag} {H:Hp} {hid μ:List Addr} {k:Nat} {a:Addr} (hk:μ[k]?=some a):SrcAt K (Itl K a) (.own k) H hid μ:=by
 intro hid' H' μ' O' m c i
 obtain ⟨ν,rfl⟩:=m.pre
 have hk':(μ ++ ν)[k]?=some a:=by rw [List.getElem?_append_left (List.getElem?_eq_some_iff.mp hk).1];exact hk
 obtain ⟨ds,vs,h1,h2,h3⟩:=c.at_ k a hk'
 have sq:SqL K H' a vs:=.of h2
 show match (match O'[k]? with|some ds=>ds[i]?|none=>none) with|some d=>_|none=>_
 rw [h1]
 show match ds[i]? with|some d=>_|none=>_
 cases e:ds[i]? with
 | some d=>
  obtain ⟨v,g1,g2⟩:=h3.get e
  refine ⟨⟨vs,v,sq,g1⟩,fun x H'' y=>?_⟩
  obtain ⟨rfl,y⟩:=y
  have:=y vs sq
  rw [g1] at this;cases this
  exact ⟨.refl,c,g2⟩
 | none=>
  refine ⟨vs,sq,?_⟩
  have:=List.getElem?_eq_none_iff.mp e
  rw [<- h3.length];exact this
def Its (x:Str):It:=⟨fun i _=>i < x.cps.size,fun i H v H'=>H'=H/\∃ c,x.cps[i]?=some c/\v=.str ⟨#[c]⟩,fun i _=>x.cps.size <= i⟩
theorem SrcAt.str {K:PySem.W.Frag} {H:Hp} {hid μ:List Addr} {cs:List Nat}:SrcAt K (Its ⟨cs.toArray⟩) (.val (cs.map fun c=>.str [c])) H hid μ:=by
 intro hid' H' μ' O' m c i
 show match (cs.map fun c=>D.str [c])[i]? with|some d=>_|none=>_
 rw [List.getElem?_map]
 cases e:cs[i]? with
 | some d=>
  have hi:=(List.getElem?_eq_some_iff.mp e).1
  refine ⟨by show i < cs.toArray.size;simpa using hi,fun x H'' y=>?_⟩
  obtain ⟨rfl,z,h1,rfl⟩:=y
  have h1':cs.toArray[i]?=some z:=h1
  rw [List.getElem?_toArray,e] at h1'
  cases h1'
  refine ⟨.refl,c,?_⟩
  unfold Dat
  rfl
 | none=>
  have:=List.getElem?_eq_none_iff.mp e
  show cs.toArray.size <= i
  simpa using this
theorem SrcAt.rng {K:PySem.W.Frag} {H:Hp} {hid μ:List Addr} {lo:Int} {n:Nat}:SrcAt K (Itr lo n) (.val ((List.range n).map fun i=>.int (lo + (i:Nat)))) H hid μ:=by
 intro hid' H' μ' O' m c i
 show match ((List.range n).map fun i=>D.int (lo + (i:Nat)))[i]? with|some d=>_|none=>_
 rw [List.getElem?_map]
 by_cases hi:i < n
 ·rw [List.getElem?_range hi]
  refine ⟨hi,fun x H'' y=>?_⟩
  obtain ⟨rfl,rfl⟩:=y
  exact ⟨.refl,c,z0I⟩
 ·rw [List.getElem?_eq_none_iff.mpr (by simpa using hi)]
  exact Nat.not_lt.mp hi
theorem zdH {P:Program} {w:World} {K:PySem.W.Frag} {tg:Expr} (x:Str) (t:Tok) (it:Addr):zb9 P w K tg (Its x) [it] it (fun i h=>h.IsStrIter it (strIterType x) x t i) where
 mem:=by simp
 obj:=fun i h st b hb=>by
  have e:b=it:=by simpa using hb
  subst e
  obtain ⟨o,e,c,d⟩:=st
  exact ⟨o,e,fun v z=>by rw [d] at z;cases z⟩
 keep:=fun i h h' st k=>by
  obtain ⟨o,e,c,d⟩:=st
  exact ⟨o,k it (by simp) o e,c,d⟩
 item:=by
  intro X hP hw hK hc i pins s σ H E I hf st hg
  subst hP hw hK
  obtain ⟨f0,f1,f2,f3,f4,f5⟩:=hf it (by simp)
  obtain ⟨ch,hx⟩:∃ c,x.cps[i]?=some c:=⟨_,Array.getElem?_eq_getElem (show i < x.cps.size from hg)⟩
  have go:∀ (ty:String),(["enumerate", "zip", "dict_itemiterator", "dict_reverseitemiterator", "odict_iterator", "itertools.zip_longest", "itertools.pairwise"].contains ty=false)->strIterType x=ty->∀ h',h'.IsStrIter it ty x t (i + 1)->Heap.SameBut it s.heap h'->
    ∃ u,some (Value.str ⟨#[ch]⟩ s.toks)=some u/\wpAny (model X.prog X.w) X.A (letOwnedTupleGo tg (.ref it) u) (fun _ s2=>∃ y H',Inv X pins σ H' s2/\RelV y u/\(Its x).yld i H y H'/\s2.heap.IsStrIter it (strIterType x) x t (i + 1)/\∀ b ∈ [it],H' b=none) E { s with heap:=h',toks:=s.toks + 1 }:=by
   intro ty hn et h' st' sb
   have I1:Inv X pins σ H { s with heap:=h',toks:=s.toks + 1 }:=I.turned (t':=s.toks + 1) (fun b o hb e=>(sb.2 b hb).trans e) f0 f1 f3 f4 f5
   obtain ⟨o,e,c,d⟩:=id st'
   refine ⟨_,rfl,zdb (s:={ s with heap:=h',toks:=s.toks + 1 }) e c d hn ⟨.str ⟨#[ch]⟩,H,I1,⟨_,rfl⟩,⟨rfl,_,hx,rfl⟩,?_,fun b hb=>(hf b hb).1⟩⟩
   rw [et];exact st'
  unfold strIterType at st go ⊢
  split at st
  ·rename_i ha
   exact wpAny_pyNext_ascii_item st hx fun h' st' sb=>go "str_ascii_iterator" (by decide) (by rw [if_pos ha]) h' st' sb
  ·rename_i ha
   exact wpAny_pyNext_wide_item st hx fun h' st' sb=>go "str_iterator" (by decide) (by rw [if_neg ha]) h' st' sb
 done:=by
  intro X hP hw hK hc i pins s σ H E I hf st hg
  subst hP hw hK
  obtain ⟨f0,f1,f2,f3,f4,f5⟩:=hf it (by simp)
  have hx:x.cps[i]?=none:=by
   have:x.cps.size <= i:=hg
   simp [this]
  unfold strIterType at st
  split at st
  ·exact wpAny_pyNext_ascii_end (I.ok.hd hc) st hx fun h' eb=>⟨rfl,I.turned (t':=s.toks) (fun b o hb e=>eb b o hb e) f0 f1 f3 f4 f5⟩
  ·exact wpAny_pyNext_wide_end (I.ok.hd hc) st hx fun h' eb=>⟨rfl,I.turned (t':=s.toks) (fun b o hb e=>eb b o hb e) f0 f1 f3 f4 f5⟩
 self:=fun _ _ s _ _ st h=>by
  unfold strIterType at st
  split at st
  ·exact wpAny_pyIter_striter_ascii st h
  ·exact wpAny_pyIter_striter_wide st h
section
variable {X:Cx} {Ex:Nat->Hp->Prop} {pos:Pos} {a b c tg:Expr} {ta:DE}
def zhB (O:Ow):D->R Src
 | .lst ds=>.ok (.val ds) O
 | .tup ds=>.ok (.val ds) O
 | .str cs=>.ok (.val (cs.map fun c=>.str [c])) O
 | .own k=>.ok (.own k) O
 | _=>.bad
def dIt (t:DE):DI:=fun σ O=>(t σ O).bnd fun x O1=>zhB O1 x
theorem zff (ha:PD X Ex a ta):PDI X Ex tg a (dIt ta):=by
 refine ⟨?_⟩
 rintro pins s σv H Rr I ⟨hid,μ,σ,O,e1,c1,q⟩
 refine thn (ha.out pins s σv H _ I (rd.go e1 c1 q (Q1:=fun v H1=>∃ hid μ1 O1 d,Cells X.K H1 hid μ1 O1/\Dat X.K H1 hid μ1 d v/\post Ex X.K (fun H' μ' s J=>SrcAt X.K J s H' hid μ') H1 hid μ1 (zhB O1 d) Rr)
  fun d O1 v H1 μ1 e2 x c r p=>⟨hid,μ1,O1,d,c,r,p⟩)) fun u s1 ⟨v,H1,I1,ru,hid,μ1,O1,d,c,r,p⟩=>?_
 have new:∀ (b:Addr),b ∈ [s1.heap.objs.size]->z88 X pins H1 b:=fun b hb=>by
  have e:b=s1.heap.objs.size:=by simpa using hb
  subst e
  exact I1.fpOk (Nat.le_refl _) (I1.hok.fresh (Nat.le_refl _))
 cases d with
 | lst ds=>
  unfold Dat at r
  obtain ⟨a,vs,rfl,l,q⟩:=r
  cases ru
  obtain ⟨its,rv,p1,hz⟩:=I1.list l.sq
  refine wpAny_pyIter_list p1.isList ?_
  exact ⟨s1.heap.objs.size,[s1.heap.objs.size],_,_,H1,rfl,I1.kept (t':=s1.toks) fun b o e=>Heap.get?_push_of_some _ e,z7b a _,⟨_,Heap.get?_push_size _ rfl,rfl,rfl⟩,new,post.here p c (.val l q)⟩
 | tup ds=>
  unfold Dat at r
  obtain ⟨a,vs,rfl,l,q⟩:=r
  cases ru
  obtain ⟨its,rv,p1,hz⟩:=I1.tuple l.sq
  refine wpAny_pyIter_tuple (show s1.heap.IsTuple a its.toArray from p1) ?_
  exact ⟨s1.heap.objs.size,[s1.heap.objs.size],_,_,H1,rfl,I1.kept (t':=s1.toks) fun b o e=>Heap.get?_push_of_some _ e,zag a _,⟨_,Heap.get?_push_size _ rfl,rfl,rfl⟩,new,post.here p c (.tup l q)⟩
 | str cs=>
  unfold Dat at r
  subst r
  obtain ⟨t,rfl⟩:=ru
  refine wpAny_pyIter_strU ?_
  exact ⟨s1.heap.objs.size,[s1.heap.objs.size],_,_,H1,rfl,I1.kept (t':=s1.toks) fun b o e=>Heap.get?_push_of_some _ e,zdH ⟨cs.toArray⟩ t _,⟨_,Heap.get?_push_size _ rfl,rfl,rfl⟩,new,post.here p c .str⟩
 | own k=>
  unfold Dat at r
  obtain ⟨a,rfl,hk⟩:=r
  cases ru
  obtain ⟨ds,vs,h1,h2,h3⟩:=c.at_ k a hk
  obtain ⟨its,rv,p1,hz⟩:=I1.list (.of h2)
  refine wpAny_pyIter_list p1.isList ?_
  exact ⟨s1.heap.objs.size,[s1.heap.objs.size],_,_,H1,rfl,I1.kept (t':=s1.toks) fun b o e=>Heap.get?_push_of_some _ e,z7b a _,⟨_,Heap.get?_push_size _ rfl,rfl,rfl⟩,new,post.here p c (.own hk)⟩
 | _=>exact False.elim p
def zeG (lo hi:Int):Src:=.val ((List.range (hi - lo).toNat).map fun i=>.int (lo + (i:Nat)))
def z14 (t:DA):DI:=fun σ O=>(t σ O).bnd fun xs O1=>match xs with
 | [.int j]=>if -1000000 <= j/\j <= 1000000 then .ok (zeG 0 j) O1 else .bad
 | _=>.bad
theorem PI.imp {iter:Expr} {t t':TI} (h:PI X tg iter t) (f:∀ σ H Q,t' σ H Q->t σ H Q):PI X tg iter t':=fun pins s σ H Q I q=>h pins s σ H Q I (f σ H Q q)
theorem z2D {K:PySem.W.Frag} {H:Hp} {hid μ:List Addr} {d:D} {vs:List V} (h:Dats K H hid μ [d] vs):∃ v,vs=[v]/\Dat K H hid μ d v:=by
 unfold Dats at h
 obtain ⟨v,r,rfl,h1,h2⟩:=h
 unfold Dats at h2
 subst h2
 exact ⟨v,rfl,h1⟩
theorem z8s {K:PySem.W.Frag} {H:Hp} {hid μ:List Addr} {d e:D} {vs:List V} (h:Dats K H hid μ [d,e] vs):∃ v w,vs=[v,w]/\Dat K H hid μ d v/\Dat K H hid μ e w:=by
 unfold Dats at h
 obtain ⟨v,r,rfl,h1,h2⟩:=h
 obtain ⟨w,rfl,h3⟩:=z2D h2
 exact ⟨v,w,rfl,h1,h3⟩
theorem z9U {t:DA} {p pos:Pos} (hg:Gl X "range") (hm:X.mg "range" = none) (ha:PDA X Ex [a] t) (hs:starEach [a] X.env=[(false,eval a X.env)]:=by rfl):PDI X Ex tg (.Call (.Name "range" p) [a] [] pos) (z14 t):=
 PDI.mk <| PI.imp (zaL hg hm ha.out hs) fun σv H Q ⟨hid,μ,σ,O,e1,c1,q⟩=>rdA.go e1 c1 q fun d O1 vs H1 μ1 e2 x c r p=>by
  split at p
  ·rename_i j
   obtain ⟨⟨h1,h2⟩,p⟩:=post.ite p
   obtain ⟨v,rfl,hv⟩:=z2D r
   unfold Dat at hv;subst hv
   refine ⟨j,rfl,by omega,by omega,?_⟩
   have:=post.here p c (SrcAt.rng (lo:=0) (n:=(j - 0).toNat))
   simpa using this
  ·exact False.elim p
end
inductive RS where
 | nx (σ:Sg) (O:Ow)
 | rt (d:D) (O:Ow)
 | bk (σ:Sg) (O:Ow)
 | ct (σ:Sg) (O:Ow)
 | exc (c:Nat) (O:Ow)
 | bad
 deriving Repr,Inhabited
abbrev DS:=Sg->Ow->RS
def R.bnS {α:Type} (r:R α) (k:α->Ow->RS):RS:=match r with
 | .ok a O=>k a O
 | .exc c O=>.exc c O
 | .bad=>.bad
section
variable (Ex:Nat->Hp->Prop) (K:PySem.W.Frag)
def postS (H:Hp) (hid μ:List Addr) (r:RS) (E:zcu):Prop:=match r with
 | .nx σ O=>∀ σv H' μ',Ext H μ H' μ'->EnvOk K H' hid μ' σ σv->Cells K H' hid μ' O->E.nx σv H'
 | .rt d O=>∀ v H' μ',Ext H μ H' μ'->Cells K H' hid μ' O->Dat K H' hid μ' d v->E.rt v H'
 | .bk σ O=>∀ σv H' μ',Ext H μ H' μ'->EnvOk K H' hid μ' σ σv->Cells K H' hid μ' O->E.bk σv H'
 | .ct σ O=>∀ σv H' μ',Ext H μ H' μ'->EnvOk K H' hid μ' σ σv->Cells K H' hid μ' O->E.ct σv H'
 | .exc c O=>∀ H' μ',Ext H μ H' μ'->Cells K H' hid μ' O->Ex c H'
 | .bad=>False
def rds (t:DS):TS:=fun E σv H=>∃ hid μ σ O,EnvOk K H hid μ σ σv/\Cells K H hid μ O/\postS Ex K H hid μ (t σ O) E
end
structure PDS (X:Cx) (Ex:Nat->Hp->Prop) (st:Stmt) (t:DS):Prop where
 out:PS X st (rds Ex X.K t)
structure z89 (X:Cx) (Ex:Nat->Hp->Prop) (st:List Stmt) (t:DS):Prop where
 out:PSs X st (rds Ex X.K t)
theorem PS.imp {X:Cx} {st:Stmt} {t t':TS} (h:PS X st t) (f:∀ E σ H,t' E σ H->t E σ H):PS X st t':=fun pins s σ H D I q=>h pins s σ H D I (f D σ H q)
theorem PSs.imp {X:Cx} {st:List Stmt} {t t':TS} (h:PSs X st t) (f:∀ E σ H,t' E σ H->t E σ H):PSs X st t':=fun pins s σ H D I q=>h pins s σ H D I (f D σ H q)
section
variable {Ex:Nat->Hp->Prop} {K:PySem.W.Frag} {H H1:Hp} {hid μ μ1:List Addr}
theorem postS.ext {r:RS} {E:zcu} (h:postS Ex K H hid μ r E) (e:Ext H μ H1 μ1):postS Ex K H1 hid μ1 r E:=by
 cases r with
 | nx σ O=>exact fun σv H' μ' e' a b=>h σv H' μ' (e.trans e') a b
 | bk σ O=>exact fun σv H' μ' e' a b=>h σv H' μ' (e.trans e') a b
 | ct σ O=>exact fun σv H' μ' e' a b=>h σv H' μ' (e.trans e') a b
 | rt d O=>exact fun v H' μ' e' a b=>h v H' μ' (e.trans e') a b
 | exc c O=>exact fun H' μ' e' a=>h H' μ' (e.trans e') a
 | bad=>exact h
theorem postS.bnS {α β:Type} {rel:Hp->List Addr->α->β->Prop} {r:R α} {k:α->Ow->RS} {E:zcu} {Q1:β->Hp->Prop} (h:postS Ex K H hid μ (r.bnS k) E)
  (hk:∀ d O1 v H1 μ1,Ext H μ H1 μ1->Cells K H1 hid μ1 O1->rel H1 μ1 d v->postS Ex K H1 hid μ1 (k d O1) E->Q1 v H1):post Ex K rel H hid μ r Q1:=by
 cases r with
 | ok d O'=>exact fun v H' μ' e c q=>hk d O' v H' μ' e c q (postS.ext (show postS Ex K H hid μ (k d O') E from h) e)
 | exc c O'=>exact h
 | bad=>exact h
end
section
variable {X:Cx} {Ex:Nat->Hp->Prop} {pos:Pos} {a b c e tg:Expr} {tb tc te:DE}
theorem z2W {st:Stmt} {t:TS} {t':DS} (h:PS X st t) (f:∀ hid μ σ O E σv H,EnvOk X.K H hid μ σ σv->Cells X.K H hid μ O->postS Ex X.K H hid μ (t' σ O) E->t E σv H):PDS X Ex st t':=
 ⟨PS.imp h fun E σv H ⟨hid,μ,σ,O,e1,c1,q⟩=>f hid μ σ O E σv H e1 c1 q⟩
theorem z8P {st:List Stmt} {t:TS} {t':DS} (h:PSs X st t) (f:∀ hid μ σ O E σv H,EnvOk X.K H hid μ σ σv->Cells X.K H hid μ O->postS Ex X.K H hid μ (t' σ O) E->t E σv H):z89 X Ex st t':=
 ⟨PSs.imp h fun E σv H ⟨hid,μ,σ,O,e1,c1,q⟩=>f hid μ σ O E σv H e1 c1 q⟩
theorem rd.goS {t:DE} {hid μ:List Addr} {σ:Sg} {O:Ow} {σv:St} {H:Hp} {Q1:VK} {k:D->Ow->RS} {E:zcu} (e1:EnvOk X.K H hid μ σ σv) (c1:Cells X.K H hid μ O)
  (q:postS Ex X.K H hid μ ((t σ O).bnS k) E)
  (f:∀ d O1 v H1 μ1,EnvOk X.K H1 hid μ1 σ σv->Ext H μ H1 μ1->Cells X.K H1 hid μ1 O1->Dat X.K H1 hid μ1 d v->postS Ex X.K H1 hid μ1 (k d O1) E->Q1 v H1):rd Ex X.K t σv H Q1:=
 ⟨hid,μ,σ,O,e1,c1,postS.bnS q fun d O1 v H1 μ1 x c r p=>f d O1 v H1 μ1 (e1.ext x) x c r p⟩
theorem rdT.goS {t:DT} {hid μ:List Addr} {σ:Sg} {O:Ow} {σv:St} {H:Hp} {Q1:Bool->Hp->Prop} {k:Bool->Ow->RS} {E:zcu} (e1:EnvOk X.K H hid μ σ σv) (c1:Cells X.K H hid μ O)
  (q:postS Ex X.K H hid μ ((t σ O).bnS k) E)
  (f:∀ v O1 H1 μ1,EnvOk X.K H1 hid μ1 σ σv->Ext H μ H1 μ1->Cells X.K H1 hid μ1 O1->postS Ex X.K H1 hid μ1 (k v O1) E->Q1 v H1):rdT Ex X.K t σv H Q1:=
 ⟨hid,μ,σ,O,e1,c1,postS.bnS q fun d O1 v H1 μ1 x c r p=>by
  have r:d=v:=r
  subst r
  exact f d O1 H1 μ1 (e1.ext x) x c p⟩
def z1z:DS:=fun σ O=>.nx σ O
def z0n (t u:DS):DS:=fun σ O=>match t σ O with
 | .nx σ' O'=>u σ' O'
 | r=>r
theorem ze0:z89 X Ex [] z1z:=z8P zgd fun hid μ σ O E σv H e1 c1 q=>q σv H μ .refl e1 c1
theorem z04 {st:Stmt} {rest:List Stmt} {t u:DS} (h1:PDS X Ex st t) (h2:z89 X Ex rest u):z89 X Ex (st :: rest) (z0n t u):=
 z8P (zdy h1.out h2.out) fun hid μ σ O E σv H e1 c1 q=>by
  refine ⟨hid,μ,σ,O,e1,c1,?_⟩
  unfold z0n at q
  cases ht:t σ O with
  | nx σ' O'=>
   rw [ht] at q
   exact fun σv' H' μ' e2 a b=>⟨hid,μ',σ',O',a,b,q.ext e2⟩
  | rt d O'=>rw [ht] at q;exact q
  | bk σ' O'=>rw [ht] at q;exact q
  | ct σ' O'=>rw [ht] at q;exact q
  | exc c O'=>rw [ht] at q;exact q
  | bad=>rw [ht] at q;exact q
theorem z08 {st:Stmt} {t:DS} (h1:PDS X Ex st t):z89 X Ex [st] t:=⟨zg7 h1.out⟩
def z0F (t:DE):DS:=fun σ O=>(t σ O).bnS fun d O1=>.rt d O1
theorem zf3 (he:PD X Ex e te):PDS X Ex (.Return (some e) pos) (z0F te):=
 z2W (zhT he.out) fun hid μ σ O E σv H e1 c1 q=>rd.goS e1 c1 q fun d O1 v H1 μ1 e2 x c r p=>p v H1 μ1 .refl c r
def sIf (c:DT) (t u:DS):DS:=fun σ O=>(c σ O).bnS fun b O1=>if b=true then t σ O1 else u σ O1
theorem zh2 {c:Expr} {x y:List Stmt} {tc:DT} {t u:DS} (hc:PDT X Ex c tc) (ha:z89 X Ex x t) (hb:z89 X Ex y u):PDS X Ex (.If c x y pos) (sIf tc t u):=
 z2W (zjK hc.out ha.out hb.out) fun hid μ σ O E σv H e1 c1 q=>rdT.goS e1 c1 q fun k O1 H1 μ1 e2 x c p=>by
  cases k with
  | true=>rw [if_pos rfl];exact ⟨hid,μ1,σ,O1,e2,c,p⟩
  | false=>rw [if_neg Bool.false_ne_true];exact ⟨hid,μ1,σ,O1,e2,c,p⟩
def ziU:DS:=fun _ _=>.bad
theorem z9R {st:List Stmt}:z89 X Ex st ziU:=z8P zcA fun hid μ σ O E σv H e1 c1 q=>q
def z20 (t:DE):DS:=fun σ O=>(t σ O).bnS fun _ O1=>.nx σ O1
theorem zdQ (he:PD X Ex e te) (hs:swapsWith e none pos.line X.env=pure false:=by rfl):PDS X Ex (.Expr e pos) (z20 te):=
 z2W (zeV he.out hs) fun hid μ σ O E σv H e1 c1 q=>rd.goS e1 c1 q fun d O1 v H1 μ1 e2 x c r p=>p σv H1 μ1 .refl e2 c
def z0A (i:Nat) (t:DE):DS:=fun σ O=>(t σ O).bnS fun d O1=>.nx (σ.set i (some d)) O1
theorem zbP {i:Nat} {x:Str} {pos':Pos} (hN:X.N.Nodup) (hi:X.N[i]?=some x) (hx:Loc X.env.scope x) (he:PD X Ex e te) (hs:swapsWith e (some (.Name x pos')) pos.line X.env=pure false:=by rfl)
  (hf:X.fn x=true \/ X.env.scope.names.lookup x=some .local:=by first|exact .inl rfl|exact .inr rfl):PDS X Ex (.Assign [.Name x pos'] e pos) (z0A i te):=
 z2W (zhk hN hi hx he.out hs hf) fun hid μ σ O E σv H e1 c1 q=>rd.goS e1 c1 q fun d O1 v H1 μ1 e2 x c r p=>p (σv.set i (some v)) H1 μ1 .refl (e2.set r i) c
def ziY (i j:Nat) (t:DA):DS:=fun σ O=>(t σ O).bnS fun ds O1=>match ds with
 | [x,y]=>.nx ((σ.set i (some x)).set j (some y)) O1
 | _=>.bad
inductive Tg where
 | one (i:Nat)
 | two (i j:Nat)
def Tg.put:Tg->D->Sg->Option Sg
 | .one i,d,σ=>some (σ.set i (some d))
 | .two i j,d,σ=>match d with
  | .tup [x,y]=>some ((σ.set i (some x)).set j (some y))
  | _=>none
def Tg.rd (K:PySem.W.Frag):Tg->TG
 | .one i=>z4V i
 | .two i j=>zie K 2 (z6d (z4V i) (z6d (z4V j) ziV))
def Tg.slots:Tg->List Nat
 | .one i=>[i]
 | .two i j=>[i,j]
theorem Tg.ok2 {K:PySem.W.Frag} {H:Hp} {hid μ:List Addr} {σ σ':Sg} {σv:St} {d:D} {v:V} {Q:St->Hp->Prop} (g:Tg) (e1:EnvOk K H hid μ σ σv) (q:Dat K H hid μ d v) (h:g.put d σ=some σ')
  (k:∀ σv',EnvOk K H hid μ σ' σv'->(∀ i,i ∉ g.slots->σv'[i]?=σv[i]?)->Q σv' H):g.rd K v σv H Q:=by
 cases g with
 | one i=>
  cases h
  exact k _ (e1.set q i) fun j hj=>List.getElem?_set_ne (fun e=>hj (by simp [Tg.slots,e]))
 | two i j=>
  unfold Tg.put at h
  dsimp only at h
  split at h
  ·rename_i x y
   cases h
   unfold Dat at q
   obtain ⟨a,vs,rfl,l,q⟩:=q
   obtain ⟨u,w,rfl,q1,q2⟩:=z8s q
   refine ⟨a,[u,w],rfl,l.sq,rfl,u,[w],rfl,w,[],rfl,rfl,k _ ((e1.set q1 i).set q2 j) fun m hm=>?_⟩
   rw [List.getElem?_set_ne (fun e=>hm (by simp [Tg.slots,e])),List.getElem?_set_ne (fun e=>hm (by simp [Tg.slots,e]))]
  ·cases h
theorem Tg.ok {K:PySem.W.Frag} {H:Hp} {hid μ:List Addr} {σ σ':Sg} {σv:St} {d:D} {v:V} {Q:St->Hp->Prop} (g:Tg) (e1:EnvOk K H hid μ σ σv) (q:Dat K H hid μ d v) (h:g.put d σ=some σ') (k:∀ σv',EnvOk K H hid μ σ' σv'->Q σv' H):g.rd K v σv H Q:=by
 cases g with
 | one i=>cases h;exact k _ (e1.set q i)
 | two i j=>
  unfold Tg.put at h
  dsimp only at h
  split at h
  ·rename_i x y
   cases h
   unfold Dat at q
   obtain ⟨a,vs,rfl,l,q⟩:=q
   obtain ⟨u,w,rfl,q1,q2⟩:=z8s q
   exact ⟨a,[u,w],rfl,l.sq,rfl,u,[w],rfl,w,[],rfl,rfl,k _ ((e1.set q1 i).set q2 j)⟩
  ·cases h
theorem zh8 {i:Nat} {x:Str} (hN:X.N.Nodup) (hi:X.N[i]?=some x) (hx:Loc X.env.scope x) (hf:X.fn x=true \/ X.env.scope.names.lookup x=some .local:=by first|exact .inl rfl|exact .inr rfl|assumption):PG X (.Name x pos) ((Tg.one i).rd X.K):=z3I hN hi hx hf
def z2k (src:Src) (step:D->Sg->Ow->RS):Nat->Nat->Sg->Ow->RS
 | 0,i,σ,O=>match src.get O i with
  | none=>.nx σ O
  | some _=>.bad
 | f + 1,i,σ,O=>match src.get O i with
  | none=>.nx σ O
  | some d=>match step d σ O with
   | .nx σ' O'=>z2k src step f (i + 1) σ' O'
   | .ct σ' O'=>z2k src step f (i + 1) σ' O'
   | .bk σ' O'=>.nx σ' O'
   | r=>r
def z63 (it:DI) (g:Tg) (body:DS):DS:=fun σ O=>(it σ O).bnS fun src O1=>z2k src (fun d σ O=>match g.put d σ with|some σ'=>body σ' O|none=>.bad) (src.size O1) 0 σ O1
theorem zg8 {iter:Expr} {body:List Stmt} {it:DI} {g:Tg} {tb:DS} (hp:PassesOwn (model X.prog X.w) X.A X.env X.xe) (hc:X.calm=true) (hi:PDI X Ex tg iter it) (hg:PG X tg (g.rd X.K)) (hb:z89 X Ex body tb)
  (hs:∀ x,foldedSetIterable iter X.env x=pure x:=by intro _;rfl):PDS X Ex (.For tg iter body [] pos) (z63 it g tb):=
 z2W (zi3 hp hc hi.out hg hb.out hs) fun hid μ σ O E σv H e1 c1 q=>by
  refine ⟨hid,μ,σ,O,e1,c1,postS.bnS q fun src O1 J H1 μ1 x1 c2 sa p=>?_⟩
  generalize hst:(fun (d:D) (σ:Sg) (O:Ow)=>match g.put d σ with|some σ'=>tb σ' O|none=>RS.bad)=step at p
  refine ⟨fun i m σv' H'=>∃ μ' σ' O',Ext H1 μ1 H' μ'/\EnvOk X.K H' hid μ' σ' σv'/\Cells X.K H' hid μ' O'/\postS Ex X.K H' hid μ' (z2k src step m i σ' O') E,⟨_,μ1,σ,O1,.refl,e1.ext x1,c2,p⟩,?_⟩
  rintro i m σv2 H2 ⟨μ2,σ2,O2,x2,e2,c3,p2⟩
  have sa2:=sa hid H2 μ2 O2 x2.mv c3 i
  cases hget:src.get O2 i with
  | none=>
   rw [hget] at sa2
   refine .inl ⟨sa2,?_⟩
   cases m with
   | zero=>
    have p3:postS Ex X.K H2 hid μ2 (match src.get O2 i with|none=>.nx σ2 O2|some _=>.bad) E:=p2
    rw [hget] at p3
    exact p3 σv2 H2 μ2 .refl e2 c3
   | succ f=>
    unfold z2k at p2
    rw [hget] at p2
    exact p2 σv2 H2 μ2 .refl e2 c3
  | some d=>
   rw [hget] at sa2
   obtain ⟨go,yl⟩:=sa2
   cases m with
   | zero=>
    have p3:postS Ex X.K H2 hid μ2 (match src.get O2 i with|none=>.nx σ2 O2|some _=>.bad) E:=p2
    rw [hget] at p3
    exact False.elim p3
   | succ f=>
    refine .inr ⟨go,fun σv' H'=>∃ μ' σ' O',Ext H1 μ1 H' μ'/\EnvOk X.K H' hid μ' σ' σv'/\Cells X.K H' hid μ' O'/\postS Ex X.K H' hid μ' (z2k src step f (i + 1) σ' O') E,fun σ' H' h=>⟨f,Nat.lt_succ_self f,h⟩,fun v H3 y=>?_⟩
    obtain ⟨x3,c4,r⟩:=yl v H3 y
    unfold z2k at p2
    rw [hget] at p2
    have p3:postS Ex X.K H3 hid μ2 (match step d σ2 O2 with
     | .nx σ' O'=>z2k src step f (i + 1) σ' O'
     | .ct σ' O'=>z2k src step f (i + 1) σ' O'
     | .bk σ' O'=>.nx σ' O'
     | r=>r) E:=postS.ext p2 x3
    cases hput:g.put d σ2 with
    | none=>
     rw [<- hst] at p3
     simp only [hput] at p3
     exact False.elim p3
    | some σ3=>
     refine Tg.ok g (e2.ext x3) r hput fun σv3 e3=>⟨hid,μ2,σ3,O2,e3,c4,?_⟩
     have hs1:step d σ2 O2=tb σ3 O2:=by rw [<- hst];simp only [hput]
     rw [hs1] at p3
     have x4:=x2.trans x3
     cases ht:tb σ3 O2 with
     | nx σ4 O4=>rw [ht] at p3;exact fun σv' H' μ' e5 a b=>⟨μ',σ4,O4,x4.trans e5,a,b,p3.ext e5⟩
     | ct σ4 O4=>rw [ht] at p3;exact fun σv' H' μ' e5 a b=>⟨μ',σ4,O4,x4.trans e5,a,b,p3.ext e5⟩
     | bk σ4 O4=>rw [ht] at p3;exact p3
     | rt d4 O4=>rw [ht] at p3;exact p3
     | exc c4 O4=>rw [ht] at p3;exact p3
     | bad=>rw [ht] at p3;exact p3
end
structure Cl where
 it:DI
 g:Tg
 ifs:List DT
def z0b:List Cl->List Nat
 | []=>[]
 | c :: cs=>c.g.slots ++ z0b cs
def clr {α:Type} (σ:List (Option α)):List Nat->List (Option α)
 | []=>σ
 | i :: r=>clr (σ.set i none) r
def z5x:List DT->DT
 | []=>fun _ O=>.ok true O
 | c :: cs=>fun σ O=>(c σ O).bnd fun b O1=>if b=true then z5x cs σ O1 else .ok false O1
def z0s (src:Src) (step:D->Ow->List D->R (List D)):Nat->Nat->Ow->List D->R (List D)
 | 0,i,O,acc=>match src.get O i with
  | none=>.ok acc O
  | some _=>.bad
 | f + 1,i,O,acc=>match src.get O i with
  | none=>.ok acc O
  | some d=>(step d O acc).bnd fun acc' O'=>z0s src step f (i + 1) O' acc'
def z2Q:List Cl->DE->Sg->Ow->List D->R (List D)
 | [],elt,σ,O,acc=>(elt σ O).bnd fun v O1=>if acc.length < 100000 then .ok (acc ++ [v]) O1 else .bad
 | c :: cs,elt,σ,O,acc=>(c.it σ O).bnd fun src O1=>z0s src (fun d O2 acc=>match c.g.put d (clr σ (z0b (c :: cs))) with
   | some σ1=>(z5x c.ifs σ1 O2).bnd fun b O3=>if b=true then z2Q cs elt σ1 O3 acc else .ok acc O3
   | none=>.bad) (src.size O1) 0 O1 acc
def z5v (c:Cl) (cs:List Cl) (elt:DE) (σ:Sg):D->Ow->List D->R (List D):=fun d O2 acc=>match c.g.put d (clr σ (z0b (c :: cs))) with
   | some σ1=>(z5x c.ifs σ1 O2).bnd fun b O3=>if b=true then z2Q cs elt σ1 O3 acc else .ok acc O3
   | none=>.bad
abbrev Em:=Sg->Ow->List D->R (List D)
def emL (te:DE):Em:=fun σ O acc=>(te σ O).bnd fun v O1=>if acc.length < 100000 then .ok (acc ++ [v]) O1 else .bad
def z2a:List Cl->Em->Sg->Ow->List D->R (List D)
 | [],em,σ,O,acc=>em σ O acc
 | c :: cs,em,σ,O,acc=>(c.it σ O).bnd fun src O1=>z0s src (fun d O2 acc=>match c.g.put d (clr σ (z0b (c :: cs))) with
   | some σ1=>(z5x c.ifs σ1 O2).bnd fun b O3=>if b=true then z2a cs em σ1 O3 acc else .ok acc O3
   | none=>.bad) (src.size O1) 0 O1 acc
def z2i (c:Cl) (cs:List Cl) (em:Em) (σ:Sg):D->Ow->List D->R (List D):=fun d O2 acc=>match c.g.put d (clr σ (z0b (c :: cs))) with
   | some σ1=>(z5x c.ifs σ1 O2).bnd fun b O3=>if b=true then z2a cs em σ1 O3 acc else .ok acc O3
   | none=>.bad
theorem zbS (te:DE):∀ cls:List Cl,z2a cls (emL te)=z2Q cls te
 | []=>by funext σ O acc;unfold z2a z2Q emL;rfl
 | c :: cs=>by funext σ O acc;unfold z2a z2Q;rw [zbS te cs]
theorem zgh (c:Cl) (cs:List Cl) (te:DE):z2i c cs (emL te)=z5v c cs te:=by
 funext σ d O acc;unfold z2i z5v;rw [zbS te cs]
theorem z5c {α:Type}:∀ (l:List Nat) (σ:List (Option α)),(clr σ l).length=σ.length
 | [],_=>rfl
 | i :: r,σ=>by unfold clr;rw [z5c r];simp
theorem zbn {α:Type}:∀ (l:List Nat) (σ:List (Option α)) (i:Nat),i ∉ l->(clr σ l)[i]?=σ[i]?
 | [],σ,i,h=>rfl
 | j :: r,σ,i,h=>by
  unfold clr
  rw [zbn r _ i fun z=>h (List.mem_cons_of_mem _ z),List.getElem?_set_ne fun z=>h (by simp [z])]
theorem z6o {α:Type}:∀ (l:List Nat) (σ:List (Option α)) (i:Nat) (d:α),(clr σ l)[i]?=some (some d)->σ[i]?=some (some d)/\i ∉ l
 | [],σ,i,d,h=>⟨h,by simp⟩
 | j :: r,σ,i,d,h=>by
  unfold clr at h
  obtain ⟨h1,h2⟩:=z6o r _ i d h
  by_cases e:j=i
  ·subst e
   by_cases hl:j < σ.length
   ·rw [List.getElem?_set_self hl] at h1;cases h1
   ·rw [List.getElem?_eq_none_iff.mpr (by simp;omega)] at h1;cases h1
  ·rw [List.getElem?_set_ne e] at h1
   exact ⟨h1,by simp [h2];exact fun z=>e z.symm⟩
structure Ea (A:Addr) (H:Hp) (μ:List Addr) (H':Hp) (μ':List Addr):Prop where
 pre:∃ ν,μ'=μ ++ ν
 kept:∀ b o,H b=some o->b ∉ μ->b ≠ A->zaI o->H' b=some o
 fresh:∀ b ∈ μ',b ∈ μ \/ H b=none
 there:∀ b,H b ≠ none->H' b ≠ none
 tab:∀ P,Tidy H P->Tidy H' P
section
variable {K:PySem.W.Frag} {A:Addr} {H H' H1 H2:Hp} {hid μ μ' μ1 μ2:List Addr}
theorem Ext.ea (e:Ext H μ H' μ'):Ea A H μ H' μ':=⟨e.pre,fun b o h n _ ht=>e.kept b o h n ht,e.fresh,e.there,e.tab⟩
theorem Ea.refl:Ea A H μ H μ:=Ext.refl.ea
theorem Ea.trans (a:Ea A H μ H1 μ1) (b:Ea A H1 μ1 H2 μ2):Ea A H μ H2 μ2:=by
 have nn:∀ c,H1 c=none->H c=none:=fun c h=>by
  cases e:H c with
  | none=>rfl
  | some o=>exact absurd h (a.there c (by rw [e];simp))
 refine ⟨?_,fun c o h n1 n2 ht=>?_,fun c h=>?_,fun c h=>b.there c (a.there c h),fun P t=>b.tab P (a.tab P t)⟩
 ·obtain ⟨x,rfl⟩:=a.pre
  obtain ⟨y,rfl⟩:=b.pre
  exact ⟨x ++ y,by simp⟩
 ·refine b.kept c o (a.kept c o h n1 n2 ht) (fun m=>?_) n2 ht
  rcases a.fresh c m with z|z
  ·exact n1 z
  ·rw [z] at h;cases h
 ·rcases b.fresh c h with z|z
  ·exact a.fresh c z
  ·exact .inr (nn c z)
theorem Ea.mv (e:Ea A H μ H' μ'):Mv H (A :: hid) μ H' (A :: hid) μ':=⟨e.pre,fun b o h n1 n2 ht=>e.kept b o h n1 (fun z=>n2 (by simp [z])) ht,e.fresh,fun _ m=>.inl m,e.there,e.tab⟩
theorem Ea.putX {o:HO} (ht:∀ P,Tidy H P->Tidy (upd H A o) P):Ea A H μ (upd H A o) μ:=⟨⟨[],by simp⟩,fun b u h _ n _=>by rw [z0g n];exact h,fun _ m=>.inl m,z1E,ht⟩
theorem Cells.putX {o:HO} {O:Ow} (c:Cells K H (A :: hid) μ O) (ht:∀ P,Tidy H P->Tidy (upd H A o) P):Cells K (upd H A o) (A :: hid) μ O:=by
 refine ⟨c.len,c.nd,c.nh,fun a m=>z1E a (c.ht a m),fun k a e=>?_⟩
 obtain ⟨ds,vs,h1,h2,h3⟩:=c.at_ k a e
 have ne:a ≠ A:=fun z=>c.nh a (List.mem_of_getElem? e) (by simp [z])
 exact ⟨ds,vs,h1,by rw [z0g ne];exact h2,h3.mv (Ea.putX (A:=A) ht).mv⟩
theorem Ea.put {o:HO} (hl:∃ vs,H A=some (.lst vs)):Ea A H μ (upd H A o) μ:=.putX fun _ t=>t.upd (.inr hl)
theorem Cells.putA {o:HO} {O:Ow} (c:Cells K H (A :: hid) μ O) (hl:∃ vs,H A=some (.lst vs)):Cells K (upd H A o) (A :: hid) μ O:=c.putX fun _ t=>t.upd (.inr hl)
theorem Cells.unhide (c:Cells K H (A :: hid) μ O):Cells K H hid μ O:=
 ⟨c.len,c.nd,fun a m z=>c.nh a m (List.mem_cons_of_mem _ z),fun a m=>c.ht a (List.mem_cons_of_mem _ m),fun k a e=>
  let ⟨ds,vs,h1,h2,h3⟩:=c.at_ k a e
  ⟨ds,vs,h1,h2,h3.mv .unhide⟩⟩
end
abbrev Ex0:Nat->Hp->Prop:=fun _ _=>False
inductive ClsOk (X:Cx):List Comprehension->List Cl->Prop where
 | nil:ClsOk X [] []
 | cons {tg iter:Expr} {ifs:List Expr} {gs:List Comprehension} {c:Cl} {cs:List Cl} (hi:PDI X Ex0 tg iter c.it) (hs:∀ x,foldedSetIterable iter X.env x=pure x) (hg:PG X tg (c.g.rd X.K))
   (hf:PySem.Paired (fun e t=>PDT X Ex0 e t) ifs c.ifs) (r:ClsOk X gs cs):ClsOk X (⟨tg,iter,ifs,0⟩ :: gs) (c :: cs)
section
variable {X:Cx}
theorem z11 {α:Type} {M:Model} {A:Around} {t:Sem α} {Q Q':α->Shared->Prop} {E:Value->Shared->Prop} {s:Shared} (hx:X.xe=fun _ _=>False) (h:wpAny M A t Q X.xe s) (k:∀ a s',Q a s'->Q' a s'):wpAny M A t Q' E s:=
 wpAny_mono h k fun e s' z=>by rw [hx] at z;exact z.elim
theorem z4Z {env:Env} {M:Model} {A:Around} {E:Value->Shared->Prop} {s:Shared} {Q:Bool->Shared->Prop} (h:Q false s):∀ (ifs:List Expr),wpAny M A (forIn ifs false fun c r=>if r=true then do let ok <- isTrue c env (eval c env);pure (ForInStep.yield ok) else pure (ForInStep.yield r)) Q E s
 | []=>wpAny_pure h
 | c :: cs=>by
  simp only [List.forIn_cons,Bool.false_eq_true,if_false]
  exact wpAny_bind (wpAny_pure (z4Z h cs))
theorem z9f {E:Value->Shared->Prop} {hid:List Addr} (hx:X.xe=fun _ _=>False):∀ {ifs:List Expr} {ts:List DT},PySem.Paired (fun e t=>PDT X Ex0 e t) ifs ts->∀ (pins:List (Addr × Obj)) (s:Shared) (σv:St) (H:Hp) (μ:List Addr) (σ:Sg) (O:Ow) (Q:Bool->Shared->Prop),
  L2.Inv X pins σv H s->EnvOk X.K H hid μ σ σv->Cells X.K H hid μ O->
  z4b Ex0 X.K H hid μ (z5x ts σ O) (fun b H'=>∀ s',L2.Inv X pins σv H' s'->Q b s')->
  wpAny (model X.prog X.w) X.A (forIn ifs true fun c r=>if r=true then do let ok <- isTrue c X.env (eval c X.env);pure (ForInStep.yield ok) else pure (ForInStep.yield r)) Q E s
 | _,_,.nil,pins,s,σv,H,μ,σ,O,Q,I,e1,c1,q=>wpAny_pure (post.here (v:=true) q c1 rfl s I)
 | _ :: ifs,_ :: ts,.cons hc hr,pins,s,σv,H,μ,σ,O,Q,I,e1,c1,q=>by
  simp only [List.forIn_cons,if_true]
  refine wpAny_bind (wpAny_bind (z11 hx (hc.out pins s σv H _ I (rdT.go e1 c1 q (Q1:=fun b H1=>∃ μ1 O1,EnvOk X.K H1 hid μ1 σ σv/\Cells X.K H1 hid μ1 O1/\z4b Ex0 X.K H1 hid μ1 (if b=true then z5x ts σ O1 else .ok false O1) (fun b H'=>∀ s',L2.Inv X pins σv H' s'->Q b s'))
   fun b O1 H1 μ1 e2 x c p=>⟨μ1,O1,e2,c,p⟩)) fun b s1 ⟨H1,I1,μ1,O1,e2,c2,p⟩=>wpAny_pure ?_))
  show wpAny _ _ (forIn ifs b _) _ _ _
  cases b with
  | true=>rw [if_pos rfl] at p;exact z9f hx hr pins s1 σv H1 μ1 σ O1 Q I1 e2 c2 p
  | false=>rw [if_neg Bool.false_ne_true] at p;exact z4Z (post.here (v:=false) p c2 rfl s1 I1) ifs
structure z8i where
 ex:List Comprehension->Scope->Pos->Expr
 emit:Value->Env->Sem Unit
 new:Sem Value
 ho:Program->World->Addr->HO
 G:PySem.W.Frag->Program->World->Addr->List Addr->Hp->List Addr->List D->Prop
structure Bs (X:Cx) (C:z8i) (A:Addr) (hid:List Addr) (pins:List (Addr × Obj)) (s:Shared) (σv:St) (H:Hp) (μ:List Addr) (σ:Sg) (O:Ow) (acc:List D):Prop where
 inv:L2.Inv X pins σv H s
 env:EnvOk X.K H (A :: hid) μ σ σv
 cells:Cells X.K H (A :: hid) μ O
 grown:C.G X.K X.prog X.w A hid H μ acc
def zhu (X:Cx) (C:z8i) (A:Addr) (hid:List Addr) (pins:List (Addr × Obj)) (σv:St) (H:Hp) (μ:List Addr) (sl:List Nat) (acc:List D) (O:Ow) (Q:Shared->Prop):Prop:=
 ∀ s' σv' H' μ',L2.Inv X pins σv' H' s'->Ea A H μ H' μ'->Cells X.K H' (A :: hid) μ' O->C.G X.K X.prog X.w A hid H' μ' acc->σv'.length=σv.length->(∀ i,i ∉ sl->σv'[i]?=σv[i]?)->Q s'
def z2B (X:Cx) (C:z8i) (A:Addr) (hid:List Addr) (pins:List (Addr × Obj)) (σv:St) (H:Hp) (μ:List Addr) (sl:List Nat) (r:R (List D)) (Q:Shared->Prop):Prop:=match r with
 | .ok acc O=>zhu X C A hid pins σv H μ sl acc O Q
 | _=>False
def z6N (e:Expr) (em:Value->Env->Sem Unit) (gens:List Comprehension) (k:Nat) (acc:Value) (env:Env):Sem Unit:=match gens[k]? with
 | some g'=>do
  let x <- eval g'.iter env
  standAt g'.iter.pos
  let x <- if g'.is_async != 0 then foldedIterable g'.iter x else foldedSetIterable g'.iter env x
  let _ <- runOwn (.compStart e k (<- holding [x] (if g'.is_async != 0 then asyncIter x else pyIter x)) acc env) env
 | none=>em acc env
def zh5 (C:z8i):Prop:=∀ (gens:List Comprehension) (scope:Scope) (pos:Pos) (k:Nat) (it acc:Value) (env:Env) {tg iter:Expr} {ifs:List Expr},gens[k]?=some ⟨tg,iter,ifs,0⟩->
  (gens[k + 1]?=none \/ ∃ tg' iter' ifs',gens[k + 1]?=some ⟨tg',iter',ifs',0⟩)->
  compTurn (C.ex gens scope pos) k it acc env=(do
   standAt iter.pos
   match <- pyNext it with
   | none=>pure (.done .next)
   | some v=>
    letOwnedTupleGo tg it v
    assign tg env v
    let mut ok:=true
    for c in ifs do
     if ok then ok <- isTrue c env (eval c env)
    if ok then z6N (C.ex gens scope pos) C.emit gens (k + 1) acc env
    again (.compLoop (C.ex gens scope pos) k it acc env))
structure z47 (C:z8i):Prop where
 cl:∀ gens scope pos,clausesOf (C.ex gens scope pos)=gens
 turn:zh5 C
 keep:∀ {K P w A hid H μ acc H' μ'},C.G K P w A hid H μ acc->A ∉ μ->Ext H μ H' μ'->C.G K P w A hid H' μ' acc
 new:∀ {P:Program} {w:World} {A:Around} {E:Value->Shared->Prop} {Q:Value->Shared->Prop} {s:Shared},(∀ o:Obj,o.isFreed=false->(∀ (H:Hp) (h:Heap) (a:Addr),sysModules < a->h.get? a=some o->ObjOk P w (upd H a (C.ho P w a)) h a (C.ho P w a))->Q (.ref s.heap.objs.size) { s with heap:=s.heap.push o })->wpAny (model P w) A C.new Q E s
 g0:∀ {K P w a hid H μ},C.G K P w a hid (upd H a (C.ho P w a)) μ []
 q1:∀ gens scope pos k it acc env,(Code.compLoop (C.ex gens scope pos) k it acc env).quiet=true
 u1:∀ (A:Around) gens scope pos k it acc env,A.under (Code.compLoop (C.ex gens scope pos) k it acc env)=A
 d1:∀ P w gens scope pos k it acc env,(model P w).den (Code.compLoop (C.ex gens scope pos) k it acc env)=(compTurn (C.ex gens scope pos) k it acc env).onRaise (fun x=>do noteFrame x env;theTreesLotGoes x)
 u2:∀ (A:Around) gens scope pos k it acc env,A.under (Code.compStart (C.ex gens scope pos) k it acc env)=A
 d2:∀ P w gens scope pos k it acc env,(model P w).den (Code.compStart (C.ex gens scope pos) k it acc env)=(compStart (C.ex gens scope pos) k it acc env).onRaise (fun x=>do noteFrame x env;standAt theWindowsPlace)
def z8k (elt:Expr):z8i where
 ex:=fun gens scope pos=>.ListComp elt gens scope pos
 emit:=fun acc env=>do let _ <- call (.builtin "list.append") [acc,<- eval elt env]
 new:=newList []
 ho:=fun _ _ _=>.lst []
 G:=fun K _ _ A hid H μ acc=>∃ vs,H A=some (.lst vs)/\Dats K H (A :: hid) μ acc vs
theorem z95 (elt:Expr):z47 (z8k elt) where
 cl:=fun _ _ _=>rfl
 turn:=fun gens scope pos k it acc env tg iter ifs hk hn=>by
  show compTurn (.ListComp elt gens scope pos) k it acc env=_
  unfold compTurn z6N
  rcases hn with hn|⟨tg',iter',ifs',hn⟩
  ·simp only [hk,hn]
   rfl
  ·simp only [hk,hn,bne_self_eq_false,Bool.false_eq_true,if_false,bind_assoc,pure_bind]
   first|rfl|congr 1
 keep:=fun ⟨vs,hA,dA⟩ nA x=>⟨vs,x.keep _ _ hA nA,dA.ext x⟩
 new:=fun h=>wpAny_newObj_type (h _ rfl fun H h a _ e=>⟨Nat.zero_le _,[],0,.nil,e⟩)
 g0:=⟨[],z0u,.nil⟩
 q1:=fun _ _ _ _ _ _ _=>rfl
 u1:=fun _ _ _ _ _ _ _ _=>rfl
 d1:=fun _ _ _ _ _ _ _ _ _=>rfl
 u2:=fun _ _ _ _ _ _ _ _=>rfl
 d2:=fun _ _ _ _ _ _ _ _ _=>rfl
section
variable {C:z8i} {A:Addr} {hid:List Addr} {elt:Expr} {gens:List Comprehension} {scope:Scope} {pos:Pos} {te:DE} {em:Em}
def z2Y (X:Cx) (C:z8i) (A:Addr) (hid:List Addr) (e:Expr) (gens:List Comprehension) (em:Em) (k:Nat) (cls:List Cl):Prop:=∀ (pins:List (Addr × Obj)) (s:Shared) (σv:St) (H:Hp) (μ:List Addr) (σ:Sg) (O:Ow) (acc:List D) (Q:Shared->Prop) (E:Value->Shared->Prop),
 Bs X C A hid pins s σv H μ σ O acc->z2B X C A hid pins σv H μ (z0b cls) (z2a cls em σ O acc) Q->wpAny (model X.prog X.w) X.A (z6N e C.emit gens k (.ref A) X.env) (fun _ s'=>Q s') E s
theorem zcY {k:Nat} {e:Expr} (hx:X.xe=fun _ _=>False) (he:PD X Ex0 elt te) (hk:gens[k]?=none):z2Y X (z8k elt) A hid e gens (emL te) k []:=by
 intro pins s σv H μ σ O acc Q E B q
 unfold z6N
 rw [hk]
 show wpAny _ _ (do let _ <- call (.builtin "list.append") [.ref A,<- eval elt X.env]) _ _ s
 obtain ⟨vs,hA,dA⟩:=B.grown
 cases hte:te σ O with
 | ok d O1=>
  have q2:z2B X (z8k elt) A hid pins σv H μ (z0b []) (if acc.length < 100000 then .ok (acc ++ [d]) O1 else .bad) Q:=by
   have:=q
   unfold z2a emL at this
   rw [hte] at this
   exact this
  by_cases hl:acc.length < 100000
  ·rw [if_pos hl] at q2
   refine wpAny_bind (z11 hx (he.out pins s σv H (fun v H1=>∃ μ1,Ext H μ H1 μ1/\Cells X.K H1 (A :: hid) μ1 O1/\Dat X.K H1 (A :: hid) μ1 d v) B.inv ⟨A :: hid,μ,σ,O,B.env,B.cells,by rw [hte];exact fun v H' μ' x c r=>⟨μ',x,c,r⟩⟩)
    fun u s1 ⟨v,H1,I1,ru,μ1,x,c,r⟩=>?_)
   have nA:A ∉ μ:=fun m=>B.cells.nh A m (by simp)
   have hA1:H1 A=some (.lst vs):=x.keep A _ hA nA
   have dA1:=dA.ext x
   refine wpAny_bind (z11 hx (z7U pins s1 σv H1 (.ref A) [v] (.ref A) [u] (fun _ H2=>H2=upd H1 A (.lst (vs ++ [v]))) I1 rfl (.cons ru .nil)
    ⟨A,vs,v,rfl,rfl,hA1,Nat.lt_of_lt_of_le (by rw [<- dA1.length];exact hl) (by decide),rfl⟩) fun u2 s2 ⟨v2,H2,I2,r2,e2⟩=>?_)
   subst e2
   refine wpAny_pure (q2 s2 σv _ μ1 I2 (x.ea.trans (.put ⟨_,hA1⟩)) (c.putA ⟨_,hA1⟩) ⟨_,z0u,?_⟩ rfl fun _ _=>rfl)
   exact (dA1.append (.cons r .nil)).mv (Ea.put ⟨_,hA1⟩).mv
  ·rw [if_neg hl] at q2;exact q2.elim
 | exc c O1=>
  unfold z2a emL at q;rw [hte] at q;exact q.elim
 | bad=>
  unfold z2a emL at q;rw [hte] at q;exact q.elim
theorem zbj (co:z47 C) {k:Nat} {tg iter:Expr} {ifs:List Expr} {c:Cl} {cs:List Cl} (hx:X.xe=fun _ _=>False) (hcalm:X.calm=true) (hk:gens[k]?=some ⟨tg,iter,ifs,0⟩) (hg:PG X tg (c.g.rd X.K)) (hf:PySem.Paired (fun e t=>PDT X Ex0 e t) ifs c.ifs)
  (hb:z2Y X C A hid (C.ex gens scope pos) gens em (k + 1) cs) (hn:gens[k + 1]?=none \/ ∃ tg' iter' ifs',gens[k + 1]?=some ⟨tg',iter',ifs',0⟩) {it:Addr} {fp:List Addr} {tn:Nat->Heap->Prop} {J:It} {src:Src} (T:zb9 X.prog X.w X.K tg J fp it tn)
  (pins:List (Addr × Obj)) (s:Shared) (σv:St) (H:Hp) (μ:List Addr) (σ:Sg) (O:Ow) (acc:List D) (n:Nat) (Q:Shared->Prop) (st:tn 0 s.heap) (hfp:∀ b ∈ fp,z88 X pins H b) (sa:SrcAt X.K J src H (A :: hid) μ)
  (B:Bs X C A hid pins s σv H μ σ O acc) (q:z2B X C A hid pins σv H μ (z0b (c :: cs)) (z0s src (z2i c cs em σ) n 0 O acc) Q):
  codeAny (model X.prog X.w) X.A (.compLoop (C.ex gens scope pos) k (.ref it) (.ref A) X.env) (fun r s'=>∃ f,r=.ok f/\Q s') s:=by
 have stat:∀ {H':Hp},(∀ b ∈ fp,H' b=none)->∀ b ∈ fp,z88 X pins H' b:=fun hn b hb=>⟨hn b hb,(hfp b hb).2⟩
 let P:Nat->Shared->Prop:=fun m s'=>∃ i σv' H' μ' O' acc',L2.Inv X pins σv' H' s'/\tn i s'.heap/\(∀ b ∈ fp,H' b=none)/\Ea A H μ H' μ'/\Cells X.K H' (A :: hid) μ' O'/\C.G X.K X.prog X.w A hid H' μ' acc'/\
  σv'.length=σv.length/\(∀ i,i ∉ z0b (c :: cs)->σv'[i]?=σv[i]?)/\z2B X C A hid pins σv H μ (z0b (c :: cs)) (z0s src (z2i c cs em σ) m i O' acc') Q
 refine codeAny_loop (co.q1 _ _ _ _ _ _ _) P (fun m s1 hP=>?_) n ⟨0,σv,H,μ,O,acc,B.inv,st,fun b hb=>(hfp b hb).1,.refl,B.cells,B.grown,rfl,fun _ _=>rfl,q⟩
 rw [co.u1,co.d1]
 refine wpAny_noted ?_
 rw [co.turn _ _ _ _ _ _ _ hk hn]
 obtain ⟨i,σv1,H1,μ1,O1,acc1,I1,st1,fr1,x1,c1,g1,l1,k1,q1⟩:=hP
 have sa1:=sa (A :: hid) H1 μ1 O1 x1.mv c1 i
 -- the names that stand
 have env1:EnvOk X.K H1 (A :: hid) μ1 (clr σ (z0b (c :: cs))) σv1:=by
  refine ⟨by rw [z5c,B.env.len,l1],fun j d hj=>?_⟩
  obtain ⟨h1,h2⟩:=z6o _ _ _ _ hj
  obtain ⟨v,h3,h4⟩:=B.env.at_ j d h1
  exact ⟨v,by rw [k1 j h2];exact h3,h4.mv x1.mv⟩
 cases hget:src.get O1 i with
 | none=>
  rw [hget] at sa1
  have q2:zhu X C A hid pins σv H μ (z0b (c :: cs)) acc1 O1 Q:=by
   cases m with
   | zero=>unfold z0s at q1;rw [hget] at q1;exact q1
   | succ f=>unfold z0s at q1;rw [hget] at q1;exact q1
  refine wpAny_bind (wpAny_standAt (wpAny_bind (thn (T.done X rfl rfl rfl hcalm i pins s1 σv1 H1 _ I1 (stat fr1) st1 sa1) fun r s2 ⟨hr,I2⟩=>?_)))
  subst hr
  exact wpAny_pure ⟨_,rfl,q2 s2 σv1 H1 μ1 I2 x1 c1 g1 l1 k1⟩
 | some d=>
  rw [hget] at sa1
  obtain ⟨go,yl⟩:=sa1
  cases m with
  | zero=>
   unfold z0s at q1;rw [hget] at q1;exact q1.elim
  | succ f=>
   have q2:z2B X C A hid pins σv H μ (z0b (c :: cs)) ((z2i c cs em σ d O1 acc1).bnd fun acc' O'=>z0s src (z2i c cs em σ) f (i + 1) O' acc') Q:=by
    have:=q1
    unfold z0s at this
    rw [hget] at this
    exact this
   refine wpAny_bind (wpAny_standAt (wpAny_bind (thn (T.item X rfl rfl rfl hcalm i pins s1 σv1 H1 _ I1 (stat fr1) st1 go) fun r s2 ⟨u,hr,h2⟩=>?_)))
   subst hr
   refine wpAny_bind (thn h2 fun _ s3 ⟨v,H3,I3,r3,y3,st3,fr3⟩=>?_)
   obtain ⟨x3,c3,d3⟩:=yl v H3 y3
   have I3':=I3.pinned (stat fr3) (T.obj _ _ st3)
   cases hput:c.g.put d (clr σ (z0b (c :: cs))) with
   | none=>
    unfold z2i at q2;rw [hput] at q2;exact q2.elim
   | some σ3=>
    have hstep:z2i c cs em σ d O1 acc1=((z5x c.ifs σ3 O1).bnd fun b O3=>if b=true then z2a cs em σ3 O3 acc1 else .ok acc1 O3):=by
     unfold z2i;rw [hput]
    rw [hstep] at q2
    refine wpAny_bind (z11 hx (hg _ s3 σv1 H3 v u (fun σv4 H4=>H4=H3/\EnvOk X.K H3 (A :: hid) μ1 σ3 σv4/\∀ j,j ∉ c.g.slots->σv4[j]?=σv1[j]?) I3' r3 (Tg.ok2 c.g (env1.ext x3) d3 hput fun σv4 e4 k4=>⟨rfl,e4,k4⟩)) fun _ s4 ⟨σv4,H4,I4,e4,env4,k4⟩=>?_)
    subst e4
    have l4:σv4.length=σv.length:=by rw [I4.len,<- I3.len,l1]
    have k4':∀ j,j ∉ z0b (c :: cs)->σv4[j]?=σv[j]?:=fun j hj=>by
     rw [k4 j fun z=>hj (List.mem_append_left _ z)];exact k1 j hj
    have nA:A ∉ μ1:=fun m=>c1.nh A m (by simp)
    have x13:Ea A H μ H4 μ1:=x1.trans x3.ea
    have g3:=co.keep g1 nA x3
    -- behind the step: the next turn
    have again:∀ {s':Shared} {σv':St} {H':Hp} {μ':List Addr} {O':Ow} {acc':List D},L2.Inv X (pins ++ z77 fp s3.heap) σv' H' s'->Ea A H μ H' μ'->Cells X.K H' (A :: hid) μ' O'->C.G X.K X.prog X.w A hid H' μ' acc'->σv'.length=σv.length->
      (∀ i,i ∉ z0b (c :: cs)->σv'[i]?=σv[i]?)->z2B X C A hid pins σv H μ (z0b (c :: cs)) (z0s src (z2i c cs em σ) f (i + 1) O' acc') Q->∃ m,m < f + 1/\P m s':=by
     intro s' σv' H' μ' O' acc' I' x' c' g' l' k' p'
     refine ⟨f,Nat.lt_succ_self f,i + 1,σv',H',μ',O',acc',I'.unpinned,T.keep _ _ _ st3 fun b hb o e=>(I'.pin (b,o) (List.mem_append_right _ (List.mem_append_right _ (z2N hb e)))).1,fun b hb=>?_,x',c',g',l',k',p'⟩
     obtain ⟨o,e,d⟩:=T.obj _ _ st3 b hb
     exact (I'.pin (b,o) (List.mem_append_right _ (List.mem_append_right _ (z2N hb e)))).2.1
    cases hall:z5x c.ifs σ3 O1 with
    | exc c' O'=>rw [hall] at q2;exact q2.elim
    | bad=>rw [hall] at q2;exact q2.elim
    | ok b O3=>
     rw [hall] at q2
     have q3:z2B X C A hid pins σv H μ (z0b (c :: cs)) ((if b=true then z2a cs em σ3 O3 acc1 else .ok acc1 O3).bnd fun acc' O'=>z0s src (z2i c cs em σ) f (i + 1) O' acc') Q:=q2
     refine wpAny_bind (z9f (hid:=A :: hid) hx hf _ s4 σv4 H4 μ1 σ3 O1 _ I4 env4 c3 ?_)
     rw [hall]
     intro b' H5 μ5 x5 c5 eb s5 I5
     have eb:b=b':=eb
     subst eb
     have g5:=co.keep g3 nA x5
     have x15:Ea A H μ H5 μ5:=x13.trans x5.ea
     cases b with
     | false=>
      rw [if_neg Bool.false_ne_true] at q3
      exact wpAny_pure ⟨rfl,again I5 x15 c5 g5 l4 k4' q3⟩
     | true=>
      rw [if_pos rfl] at q3
      refine wpAny_bind (hb _ s5 σv4 H5 μ5 σ3 O3 acc1 _ _ ⟨I5,env4.ext x5,c5,g5⟩ ?_)
      cases hcd:z2a cs em σ3 O3 acc1 with
      | exc c' O'=>rw [hcd] at q3;exact q3.elim
      | bad=>rw [hcd] at q3;exact q3.elim
      | ok acc6 O6=>
       rw [hcd] at q3
       intro s6 σv6 H6 μ6 I6 x6 c6 g6 l6 k6
       refine wpAny_pure ⟨rfl,again I6 (x15.trans x6) c6 g6 (l6.trans l4) (fun j hj=>?_) q3⟩
       rw [k6 j fun z=>hj (List.mem_append_right _ z)]
       exact k4' j hj
end
end
section
variable {X:Cx} {C:z8i} {A:Addr} {hid:List Addr} {gens:List Comprehension} {scope:Scope} {pos:Pos} {em:Em}
theorem z9F (co:z47 C) {k:Nat} {tg iter:Expr} {ifs:List Expr} {it:Addr} {fp:List Addr} {tn:Nat->Heap->Prop} {J:It} {env:Env} {P:Result->Shared->Prop} {s:Shared} {acc:Value} (hk:gens[k]?=some ⟨tg,iter,ifs,0⟩) (T:zb9 X.prog X.w X.K tg J fp it tn) (i:Nat) (st:tn i s.heap)
  (h:codeAny (model X.prog X.w) X.A (.compLoop (C.ex gens scope pos) k (.ref it) acc env) P s):
  codeAny (model X.prog X.w) X.A (.compStart (C.ex gens scope pos) k (.ref it) acc env) P s:=by
 refine codeAny_of_tree ?_
 rw [co.u2,co.d2]
 refine wpAny_notedAt ?_
 unfold compStart
 have hcl:clausesOf (C.ex gens scope pos)=gens:=co.cl _ _ _
 simp only [hcl,hk,Option.elim,bne_self_eq_false,Bool.false_eq_true,if_false]
 refine wpAny_bind (wpAny_askSetting (wpAny_ite ?_))
 split
 ·exact wpAny_pure (And.intro (co.q1 _ _ _ _ _ _ _) h)
 ·refine wpAny_bind (wpAny_rule ?_)
  exact wpAny_bind (wpAny_standAt (wpAny_bind (T.self _ i s _ _ st (wpAny_pure (And.intro (co.q1 _ _ _ _ _ _ _) h)))))
theorem zbr (co:z47 C) (hx:X.xe=fun _ _=>False) (hcalm:X.calm=true) (he:∀ k,gens[k]?=none->z2Y X C A hid (C.ex gens scope pos) gens em k []):∀ {rest:List Comprehension} {cls:List Cl},ClsOk X rest cls->∀ k,gens.drop k=rest->z2Y X C A hid (C.ex gens scope pos) gens em k cls
 | _,_,.nil,k,hd=>he k (by
   have:=congrArg List.length hd
   simp at this
   exact List.getElem?_eq_none_iff.mpr (by omega))
 | ⟨tg,iter,ifs,_⟩ :: gs,c :: cs,.cons hi hs hg hf r,k,hd=>by
  have hk:gens[k]?=some ⟨tg,iter,ifs,0⟩:=by
   have:(gens.drop k)[0]?=some ⟨tg,iter,ifs,0⟩:=by rw [hd];rfl
   simpa using this
  have hd':gens.drop (k + 1)=gs:=by
   have:=congrArg (List.drop 1) hd
   simpa [List.drop_drop,Nat.add_comm] using this
  have hb:=zbr co hx hcalm he r (k + 1) hd'
  have hn:gens[k + 1]?=none \/ ∃ tg' iter' ifs',gens[k + 1]?=some ⟨tg',iter',ifs',0⟩:=by
   have e:gens[k + 1]?=gs[0]?:=by rw [<- hd'];simp
   cases r with
   | nil=>exact .inl (by rw [e];rfl)
   | cons _ _ _ _ _=>exact .inr ⟨_,_,_,by rw [e];rfl⟩
  intro pins s σv H μ σ O acc Q E B q
  unfold z6N
  rw [hk]
  simp only [bne_self_eq_false,Bool.false_eq_true,if_false]
  cases hit:c.it σ O with
  | exc c' O'=>unfold z2a at q;rw [hit] at q;exact q.elim
  | bad=>unfold z2a at q;rw [hit] at q;exact q.elim
  | ok src O1=>
   have q1:z2B X C A hid pins σv H μ (z0b (c :: cs)) (z0s src (z2i c cs em σ) (src.size O1) 0 O1 acc) Q:=by
    have:=q
    unfold z2a at this
    rw [hit] at this
    exact this
   refine wpAny_bind (z11 hx (hi.out pins s σv H (fun J H1=>∃ μ1,Ext H μ H1 μ1/\Cells X.K H1 (A :: hid) μ1 O1/\SrcAt X.K J src H1 (A :: hid) μ1) B.inv ⟨A :: hid,μ,σ,O,B.env,B.cells,by rw [hit];exact fun J H1 μ1 x c sa=>⟨μ1,x,c,sa⟩⟩) fun v s1 h1=>?_)
   refine wpAny_bind (wpAny_standAt ?_)
   refine wpAny_bind (wpAny_of_eq (hs v) ?_)
   refine wpAny_bind (wpAny_holding (z11 hx h1 fun itv s2 h2=>?_))
   obtain ⟨it,fp,tn,J,H2,e,I2,T,st2,f2,μ2,x2,c2,sa⟩:=h2
   subst e
   refine wpAny_bind (wpAny_runOwn (h:=none) ?_)
   show codeAny _ X.A _ _ _
   have nA:A ∉ μ:=fun m=>B.cells.nh A m (by simp)
   refine z9F co hk T 0 st2 ?_
   refine codeAny_mono (zbj co (A:=A) (hid:=hid) (em:=em) (c:=c) (cs:=cs) hx hcalm hk hg hf hb hn T pins s2 σv H2 μ2 σ O1 acc (src.size O1) (fun s'=>Q s') st2 f2 sa ⟨I2,B.env.ext x2,c2,co.keep B.grown nA x2⟩ ?_) fun r s' hr=>?_
   ·cases hw:z0s src (z2i c cs em σ) (src.size O1) 0 O1 acc with
    | exc c' O'=>rw [hw] at q1;exact q1.elim
    | bad=>rw [hw] at q1;exact q1.elim
    | ok acc' O'=>
     rw [hw] at q1
     exact fun s' σv' H' μ' I' x' c' g' l' k'=>q1 s' σv' H' μ' I' (x2.ea.trans x') c' g' l' k'
   ·obtain ⟨f,rfl,hq⟩:=hr
    exact wpAny_pure hq
end
def cxB (X:Cx) (N':List Str) (scope:Scope) (cells:List (Str × Addr)) (C:Addr) (s:Shared) (H:Hp) (fp:List Addr):Cx:=
 { X with
  N:=N',s₀:=s,H₀:=H
  env:={ scope:=relabel scope X.env,locals:=C,globals:=X.env.globals,cells:=cells,qual:=X.env.qual,func:=none,code:=X.env.code,frame:=X.env.frame,builtins:=X.env.builtins }
  outer:=X.stack,ex:=fp,fn:=fun x=>scope.names.lookup x == some .cell,pn:=[],xe:=fun _ _=>False }
structure BOk (sc scope:Scope) (N':List Str) (sl:List Nat):Prop where
 kind:scope.kind=.function
 nd:(scope.names.map (·.1)).Nodup
 frees:∀ y ∈ scope.names,y.2=.free->sc.names.lookup y.1=some .cell \/ sc.names.lookup y.1=some .free
 own:∀ (i:Nat) x,N'[i]?=some x->(x,NameKind.local) ∈ scope.names \/ (x,NameKind.cell) ∈ scope.names->i ∈ sl
theorem z13 {β:Type}:∀ {l:List (Str × β)} {x:Str} {b:β},(l.map (·.1)).Nodup->(x,b) ∈ l->l.lookup x=some b
 | [],_,_,_,h=>by cases h
 | (y,c) :: r,x,b,nd,h=>by
  obtain ⟨n1,n2⟩:=List.nodup_cons.mp nd
  rcases List.mem_cons.mp h with e|h
  ·cases e;simp [List.lookup_cons]
  ·have ne:x ≠ y:=fun e=>n1 (List.mem_map.mpr ⟨(x,b),h,e⟩)
   rw [List.lookup_cons]
   have:(x == y)=false:=by simpa using ne
   rw [this]
   exact z13 n2 h
theorem z28 (env:Env) (x:Str):∀ (names:List (Str × NameKind)),(names.map fun (n,k)=>if (k == NameKind.free && env.scope.kind == .function && env.kindOf n == some .cell) then (n,NameKind.cell) else (n,k)).lookup x =
  (names.lookup x).map fun k=>if (k == NameKind.free && env.scope.kind == .function && env.kindOf x == some .cell) then NameKind.cell else k
 | []=>rfl
 | (n,k) :: r=>by
  show List.lookup x ((if (k == NameKind.free && env.scope.kind == .function && env.kindOf n == some .cell)=true then (n,NameKind.cell) else (n,k)) :: _)=_
  cases hx:x == n with
  | true=>
   have e:x=n:=by simpa using hx
   subst e
   simp only [List.lookup_cons,hx,Option.map_some]
   split
   ·rename_i h;simp [List.lookup_cons,h]
   ·rename_i h;simp [List.lookup_cons,h]
  | false=>
   have ih:=z28 env x r
   simp only [List.lookup_cons,hx]
   rw [<- ih]
   split <;> simp only [List.lookup_cons,hx]
theorem z4J {scope:Scope} {env:Env} {x:Str} (h:Vis (relabel scope env) x):(x,NameKind.local) ∈ scope.names \/ (x,NameKind.cell) ∈ scope.names \/ (x,NameKind.free) ∈ scope.names:=by
 unfold Vis relabel at h
 simp only [z28] at h
 cases e:scope.names.lookup x with
 | none=>rw [e] at h;simp at h
 | some k=>
  have m:=PySem.mem_of_lookup e
  cases k with
  | «local»=>exact .inl m
  | cell=>exact .inr (.inl m)
  | free=>exact .inr (.inr m)
  | _=>rw [e] at h;simp at h
def z0L (cells:List (Str × Addr)):List (Str × NameKind)->List (Str × Addr)->List (Str × Addr)
 | [],acc=>acc
 | (n,k) :: r,acc=>if k == .free then z0L cells r ((n,(cells.lookup n).getD 0) :: acc) else z0L cells r acc
theorem z67 {scope:Scope} {env:Env} (h:∀ y ∈ scope.names,y.2=.free->∃ c,env.cells.lookup y.1=some c):closureFor scope env=pure (z0L env.cells scope.names []):=by
 have key:∀ (names:List (Str × NameKind)) (acc:List (Str × Addr)),(∀ y ∈ names,y.2=.free->∃ c,env.cells.lookup y.1=some c)->
   (forIn names acc fun (x:Str × NameKind) (cs:List (Str × Addr))=>(if x.2 == .free then (do let a <- cellOf env x.1;pure (ForInStep.yield ((x.1,a) :: cs))) else pure (ForInStep.yield cs):Sem _))=pure (z0L env.cells names acc):=by
  intro names
  induction names with
  | nil=>intro acc _;rfl
  | cons y r ih=>
   intro acc hn
   obtain ⟨n,k⟩:=y
   rw [List.forIn_cons]
   unfold z0L
   by_cases hk:(k == NameKind.free)=true
   ·obtain ⟨c,hc⟩:=hn (n,k) List.mem_cons_self (by simpa using hk)
    have e1:cellOf env n=pure c:=by unfold cellOf;rw [hc]
    simp only [hk,if_true,e1,pure_bind,hc,Option.getD_some]
    exact ih _ fun y hy=>hn y (List.mem_cons_of_mem _ hy)
   ·simp only [hk,if_false,pure_bind,Bool.false_eq_true]
    exact ih _ fun y hy=>hn y (List.mem_cons_of_mem _ hy)
 have:=key scope.names [] h
 unfold closureFor
 refine Eq.trans ?_ (congrArg (fun m=>m >>= fun cs=>pure cs) this)
 congr 1
theorem z3K {cells:List (Str × Addr)} {x:Str} {c:Addr}:∀ (names:List (Str × NameKind)) (acc:List (Str × Addr)),(x,c) ∈ z0L cells names acc->(x,c) ∈ acc \/ ((x,NameKind.free) ∈ names/\c=(cells.lookup x).getD 0)
 | [],acc,h=>.inl h
 | (n,k) :: r,acc,h=>by
  unfold z0L at h
  by_cases hk:(k == NameKind.free)=true
  ·rw [if_pos hk] at h
   rcases z3K r _ h with m|⟨m,e⟩
   ·rcases List.mem_cons.mp m with m|m
    ·cases m
     have:k=.free:=by simpa using hk
     subst this
     exact .inr ⟨List.mem_cons_self,rfl⟩
    ·exact .inl m
   ·exact .inr ⟨List.mem_cons_of_mem _ m,e⟩
  ·rw [if_neg hk] at h
   rcases z3K r _ h with m|⟨m,e⟩
   ·exact .inl m
   ·exact .inr ⟨List.mem_cons_of_mem _ m,e⟩
theorem z3N {cells:List (Str × Addr)} {p:Str × Addr}:∀ (names:List (Str × NameKind)) (acc:List (Str × Addr)),p ∈ acc->p ∈ z0L cells names acc
 | [],acc,h=>h
 | (n,k) :: r,acc,h=>by
  unfold z0L
  split
  ·exact z3N r _ (List.mem_cons_of_mem _ h)
  ·exact z3N r _ h
theorem z3L {cells:List (Str × Addr)} {x:Str}:∀ (names:List (Str × NameKind)) (acc:List (Str × Addr)),(x,NameKind.free) ∈ names->(x,(cells.lookup x).getD 0) ∈ z0L cells names acc
 | (n,k) :: r,acc,h=>by
  unfold z0L
  rcases List.mem_cons.mp h with e|h
  ·cases e
   rw [if_pos (by decide)]
   exact z3N r _ List.mem_cons_self
  ·split
   ·exact z3L r _ h
   ·exact z3L r _ h
theorem zbW {x:Str} {c:Addr}:∀ (names:List (Str × NameKind)) (n:Nat) (acc:List (Str × Addr)),(x,c) ∈ cellsFrom n names acc->(x,c) ∈ acc \/ ((x,NameKind.cell) ∈ names/\n <= c)
 | [],n,acc,h=>.inl h
 | (y,k) :: r,n,acc,h=>by
  unfold cellsFrom at h
  by_cases hk:(k == NameKind.cell)=true
  ·rw [if_pos hk] at h
   rcases zbW r _ _ h with m|⟨m,e⟩
   ·rcases List.mem_cons.mp m with m|m
    ·cases m
     have:k=.cell:=by simpa using hk
     subst this
     exact .inr ⟨List.mem_cons_self,Nat.le_refl _⟩
    ·exact .inl m
   ·exact .inr ⟨List.mem_cons_of_mem _ m,Nat.le_of_succ_le e⟩
  ·rw [if_neg hk] at h
   rcases zbW r _ _ h with m|⟨m,e⟩
   ·exact .inl m
   ·exact .inr ⟨List.mem_cons_of_mem _ m,e⟩
theorem zaA {p:Str × Addr}:∀ (names:List (Str × NameKind)) (n:Nat) (acc:List (Str × Addr)),p ∈ acc->p ∈ cellsFrom n names acc
 | [],_,_,h=>h
 | (y,k) :: r,n,acc,h=>by
  unfold cellsFrom
  split
  ·exact zaA r _ _ (List.mem_cons_of_mem _ h)
  ·exact zaA r _ _ h
theorem z6K:∀ (names:List (Str × NameKind)) (n:Nat) (acc:List (Str × Addr)),(acc.Pairwise fun x y=>x.2 ≠ y.2)->(∀ p ∈ acc,p.2 < n)->(cellsFrom n names acc).Pairwise fun x y=>x.2 ≠ y.2
 | [],_,_,h,_=>h
 | (y,k) :: r,n,acc,h,hl=>by
  unfold cellsFrom
  split
  ·refine z6K r (n + 1) _ (List.pairwise_cons.mpr ⟨fun p hp=>?_,h⟩) fun p hp=>?_
   ·exact fun e=>absurd (hl p hp) (by show ¬ p.2 < n;rw [<- e];exact Nat.lt_irrefl _)
   ·rcases List.mem_cons.mp hp with rfl|hp
    ·exact Nat.lt_succ_self _
    ·exact Nat.lt_succ_of_lt (hl p hp)
  ·exact z6K r n acc h hl
theorem z6P:∀ (names:List (Str × NameKind)) (n:Nat) (acc:List (Str × Addr)),((names.map (·.1)).Nodup)->(acc.map (·.1)).Nodup->(∀ p ∈ acc,∀ k,(p.1,k) ∈ names->k ≠ NameKind.cell)->((cellsFrom n names acc).map (·.1)).Nodup
 | [],_,_,_,h,_=>h
 | (y,k) :: r,n,acc,nd,h,hl=>by
  obtain ⟨n1,n2⟩:=List.nodup_cons.mp nd
  unfold cellsFrom
  by_cases hk:(k == NameKind.cell)=true
  ·rw [if_pos hk]
   have hk':k=.cell:=by simpa using hk
   refine z6P r (n + 1) _ n2 (List.nodup_cons.mpr ⟨fun m=>?_,h⟩) fun p hp k' hk2=>?_
   ·obtain ⟨p,hp,e⟩:=List.mem_map.mp m
    exact hl p hp k (by rw [e];exact List.mem_cons_self) hk'
   ·rcases List.mem_cons.mp hp with rfl|hp
    ·exact absurd (List.mem_map.mpr ⟨(y,k'),hk2,rfl⟩) n1
    ·exact hl p hp k' (List.mem_cons_of_mem _ hk2)
  ·rw [if_neg hk]
   exact z6P r n acc n2 h fun p hp k' hk2=>hl p hp k' (List.mem_cons_of_mem _ hk2)
theorem z2J {cells:List (Str × Addr)}:∀ (names:List (Str × NameKind)) (acc:List (Str × Addr)),((names.map (·.1)).Nodup)->(acc.map (·.1)).Nodup->(∀ p ∈ acc,p.1 ∉ names.map (·.1))->((z0L cells names acc).map (·.1)).Nodup
 | [],_,_,h,_=>h
 | (y,k) :: r,acc,nd,h,hl=>by
  obtain ⟨n1,n2⟩:=List.nodup_cons.mp nd
  unfold z0L
  split
  ·refine z2J r _ n2 (List.nodup_cons.mpr ⟨fun m=>?_,h⟩) fun p hp=>?_
   ·obtain ⟨p,hp,e⟩:=List.mem_map.mp m
    exact hl p hp (by rw [e];simp)
   ·rcases List.mem_cons.mp hp with rfl|hp
    ·exact n1
    ·exact fun m=>hl p hp (List.mem_cons_of_mem _ m)
  ·exact z2J r acc n2 h fun p hp m=>hl p hp (List.mem_cons_of_mem _ m)
theorem z8h {x:Str} {c:Addr}:∀ (names:List (Str × NameKind)) (h:Heap) (acc:List (Str × Addr)),(x,c) ∈ cellsFrom h.objs.size names acc->(x,c) ∈ acc \/ (pushCells h names).IsCell c none
 | [],_,_,m=>.inl m
 | (y,k) :: r,h,acc,m=>by
  unfold cellsFrom at m
  unfold pushCells
  by_cases hk:(k == NameKind.cell)=true
  ·rw [if_pos hk] at m ⊢
   have e:h.objs.size + 1=(h.push { cls:=.type "cell",data:=.cell none }).objs.size:=(Heap.size_push ..).symm
   rw [e] at m
   rcases z8h r _ _ m with m|m
   ·rcases List.mem_cons.mp m with m|m
    ·cases m
     exact .inr ⟨_,pushCells_keeps _ _ _ _ (Heap.get?_push_size _ rfl),rfl⟩
    ·exact .inl m
   ·exact .inr m
  ·rw [if_neg hk] at m ⊢
   exact z8h r _ _ m
theorem z7z {l:List (Str × Addr)} (nd:(l.map (·.1)).Nodup) (inj:∀ p ∈ l,∀ q ∈ l,p.2=q.2->p.1=q.1):l.Pairwise fun x y=>x.2 ≠ y.2:=by
 induction l with
 | nil=>exact .nil
 | cons p r ih=>
  obtain ⟨n1,n2⟩:=List.nodup_cons.mp nd
  refine List.pairwise_cons.mpr ⟨fun q hq e=>n1 ?_,ih n2 fun a ha b hb=>inj a (List.mem_cons_of_mem _ ha) b (List.mem_cons_of_mem _ hb)⟩
  exact List.mem_map.mpr ⟨q,hq,(inj p List.mem_cons_self q (List.mem_cons_of_mem _ hq) e).symm⟩
abbrev z7V:Obj:={ cls:=.type "dict",data:=.dict #[] }
section
variable {X:Cx} {pins:List (Addr × Obj)} {σv:St} {H:Hp} {s:Shared}
abbrev zd1 (ob:Obj) (h:Heap) (names:List (Str × NameKind)):Heap:=pushCells ((h.push ob).push z7V) names
theorem z5b (ob:Obj) (h:Heap) (names:List (Str × NameKind)) (b:Addr) (o:Obj) (e:h.get? b=some o):(zd1 ob h names).get? b=some o:=pushCells_keeps _ _ _ _ (Heap.get?_push_of_some _ (Heap.get?_push_of_some _ e))
theorem zjk (ob:Obj) (h:Heap):((h.push ob).push z7V).objs.size=h.objs.size + 2:=by rw [Heap.size_push,Heap.size_push]
theorem zcc {scope:Scope} {ext:List Str} {sl:List Nat} {fp:List Addr} (I:L2.Inv X pins σv H s) (hfp:∀ b ∈ fp,z88 X pins H b) (hlt:∀ b ∈ fp,b < s.heap.objs.size) (hb:BOk X.env.scope scope (X.N ++ ext) sl) {ob:Obj} {u:HO} (hfr:ob.isFreed=false) (hob:∀ h:Heap,h.get? s.heap.objs.size=some ob->ObjOk X.prog X.w (upd H s.heap.objs.size u) h s.heap.objs.size u):
  L2.Inv (cxB X (X.N ++ ext) scope (cellsFrom (s.heap.objs.size + 2) scope.names (z0L X.env.cells scope.names [])) (s.heap.objs.size + 1) s H fp) [] (clr (σv ++ List.replicate ext.length none) sl)
   (upd H s.heap.objs.size u) { s with heap:=zd1 ob s.heap scope.names }:=by
 have hclt:∀ x c,X.env.cells.lookup x=some c->c < s.heap.objs.size:=fun x c e=>by
  obtain ⟨v,z⟩:=I.cell x c e
  exact z.lt
 -- a free name of the block has its cell around
 have hfree:∀ x,(x,NameKind.free) ∈ scope.names->∃ c,X.env.cells.lookup x=some c:=fun x hx=>I.ok.has x (hb.frees _ hx rfl)
 have hcl:∀ x c,(x,c) ∈ z0L X.env.cells scope.names []->(x,NameKind.free) ∈ scope.names/\X.env.cells.lookup x=some c:=fun x c hm=>by
  rcases z3K _ _ hm with m|⟨m,e⟩
  ·cases m
  ·obtain ⟨c',hc'⟩:=hfree x m
   rw [hc'] at e
   exact ⟨m,by rw [e];exact hc'⟩
 have hlc:∀ x,(x,NameKind.free) ∈ scope.names->∀ c,X.env.cells.lookup x=some c->(x,c) ∈ z0L X.env.cells scope.names []:=fun x hx c e=>by
  have:=z3L (cells:=X.env.cells) scope.names [] hx
  rw [e] at this
  exact this
 have ndcl:((z0L X.env.cells scope.names []).map (·.1)).Nodup:=z2J _ _ hb.nd (by simp) (by intro p hp;cases hp)
 have ndc:((cellsFrom (s.heap.objs.size + 2) scope.names (z0L X.env.cells scope.names [])).map (·.1)).Nodup:=z6P _ _ _ hb.nd ndcl fun p hp k hk e=>by
  subst e
  have h1:=(hcl p.1 p.2 hp).1
  have:=z13 hb.nd h1
  rw [z13 hb.nd hk] at this
  cases this
 have apart:(cellsFrom (s.heap.objs.size + 2) scope.names (z0L X.env.cells scope.names [])).Pairwise fun x y=>x.2 ≠ y.2:=by
  refine z6K _ _ _ (z7z ndcl fun p hp q hq e=>?_) fun p hp=>Nat.lt_of_lt_of_le (hclt _ _ (hcl p.1 p.2 hp).2) (Nat.le_add_right _ _)
  refine I.ok.inj p.1 q.1 p.2 (hcl p.1 p.2 hp).2 ?_
  rw [e];exact (hcl q.1 q.2 hq).2
 have hsplit:∀ x c,(cellsFrom (s.heap.objs.size + 2) scope.names (z0L X.env.cells scope.names [])).lookup x=some c->((x,NameKind.free) ∈ scope.names/\X.env.cells.lookup x=some c) \/ ((x,NameKind.cell) ∈ scope.names/\s.heap.objs.size + 2 <= c):=fun x c e=>by
  rcases zbW _ _ _ (PySem.mem_of_lookup e) with m|m
  ·exact .inl (hcl x c m)
  ·exact .inr m
 have fresh:∀ a,s.heap.objs.size <= a->H a=none:=fun a ha=>I.hok.fresh ha
 have kp:=z5b ob s.heap scope.names
 have oldc:∀ x,(x,NameKind.free) ∈ scope.names->∀ c,X.env.cells.lookup x=some c->(cellsFrom (s.heap.objs.size + 2) scope.names (z0L X.env.cells scope.names [])).lookup x=some c:=fun x hx c e=>
  z13 ndc (zaA _ _ _ (hlc x hx c e))
 refine ⟨⟨I.ok.mod,hb.kind,I.ok.glob,I.ok.blt,Nat.le_succ _,fun x y c h1 h2=>name_of_addr apart (PySem.mem_of_lookup h1) (PySem.mem_of_lookup h2),fun x hx=>?_,fun x c hx h=>?_,I.ok.hd,I.ok.frames,.inl rfl,fun b hbm=>⟨?_,fun x c e=>?_⟩,I.bs,?_,fun b o e hbm=>?_,fun b hbm z=>?_,I.stack,I.stkFree⟩,
  rfl,I.bare,Un.laid kp (Nat.le_refl _) (fresh _ (Nat.le_refl _)),?_,fun x c e=>?_,?_,fun x c e=>?_,fun p hp=>absurd (show p ∈ ([]:List (Addr × Obj)) from hp) (by simp),I.hok.laid kp (Nat.le_refl _) ?_,?_,I.tk⟩
 ·-- has
  have hx:Vis (relabel scope X.env) x:=.inr hx
  rcases z4J hx with m|m|m
  ·exfalso
   have e:=z13 hb.nd m
   have e2:(relabel scope X.env).names.lookup x=some .local:=lookup_relabel_local e
   rcases (show (relabel scope X.env).names.lookup x=some .cell \/ (relabel scope X.env).names.lookup x=some .free by rename_i h0;exact h0) with q|q
   ·rw [e2] at q;cases q
   ·rw [e2] at q;cases q
  ·exact Option.isSome_iff_exists.mp (PySem.W.cellsFrom_some scope.names _ _ (.inl (z13 hb.nd m)))
  ·obtain ⟨c,hc⟩:=hfree x m
   exact ⟨c,oldc x m c hc⟩
 ·-- cab
  have hx:(scope.names.lookup x == some .cell)=true:=hx
  rcases hsplit x c h with ⟨m,_⟩|⟨_,m⟩
  ·rw [z13 hb.nd m] at hx;cases hx
  ·exact Nat.le_trans (Nat.le_add_right _ _) m
 ·exact Nat.ne_of_lt (Nat.lt_succ_of_lt (hlt b hbm))
 ·rcases hsplit x c e with ⟨_,m⟩|⟨_,m⟩
  ·exact (hfp b hbm).2.2.2.2.1 x c m
  ·have h0:b < s.heap.objs.size:=hlt b hbm
   exact fun z=>by
    rw [z] at m
    exact absurd (Nat.lt_of_lt_of_le h0 (Nat.le_trans (Nat.le_add_right _ 2) m)) (Nat.lt_irrefl _)
 ·exact Nat.le_trans I.ok.bsz I.sz
 ·rcases (hfp b hbm).2.2.2.1 with z|z
  ·exact I.ok.noex b o e z
  ·exact absurd (Nat.lt_of_lt_of_le (Heap.lt_size e) (Nat.le_trans I.ok.bsz z)) (Nat.lt_irrefl _)
 ·rcases List.mem_cons.mp (I.stkSub b z) with q|q
  ·exact (hfp b hbm).2.1 q
  ·exact (hfp b hbm).2.2.1 q
 ·-- loc
  refine ⟨fun _=>none,?_,fun i x v h1 h2 h3=>?_⟩
  ·have z:=(Heap.Ns.new (s.heap.push ob) (.type "dict")).keeps (pushCells_keeps scope.names _)
   rw [Heap.size_push] at z
   exact z
  ·obtain ⟨g1,g2⟩:=z6o _ _ _ _ h2
   have hi:i < σv.length:=by
    by_cases hi:i < σv.length
    ·exact hi
    ·rw [List.getElem?_append_right (by omega),List.getElem?_replicate] at g1
     split at g1 <;> cases g1
   rw [List.getElem?_append_left hi] at g1
   have hxN:X.N[i]?=some x:=by
    have h1:(X.N ++ ext)[i]?=some x:=h1
    rw [List.getElem?_append_left (by rw [<- I.len];exact hi)] at h1
    exact h1
   rcases z4J h3 with m|m|m
   ·exact absurd (hb.own i x h1 (.inl m)) g2
   ·exact absurd (hb.own i x h1 (.inr m)) g2
   ·obtain ⟨m0,hn,hl⟩:=I.loc
    have kx:=hb.frees _ m rfl
    obtain ⟨u,ru,lk⟩:=hl i x v hxN g1 (.inr kx)
    refine ⟨u,ru,?_⟩
    rcases lk with ⟨q,_⟩|⟨q,c,hc,z⟩
    ·exfalso
     have q:X.env.scope.names.lookup x=some .local:=q
     rcases kx with k|k <;> (rw [q] at k;cases k)
    ·refine .inr ⟨?_,c,oldc x m c hc,z.keeps kp⟩
     have e:=z13 hb.nd m
     show (relabel scope X.env).names.lookup x=some .cell \/ (relabel scope X.env).names.lookup x=some .free
     unfold relabel
     simp only [z28,e,Option.map_some]
     split
     ·exact .inl rfl
     ·exact .inr rfl
 ·-- cell
  rcases z8h scope.names ((s.heap.push ob).push z7V) (z0L X.env.cells scope.names []) (x:=x) (c:=c) (by rw [zjk];exact PySem.mem_of_lookup e) with m|m
  ·obtain ⟨v,z⟩:=I.cell x c (hcl x c m).2
   exact ⟨v,z.keeps kp⟩
  ·exact ⟨none,m⟩
 ·show upd H s.heap.objs.size u (s.heap.objs.size + 1)=none
  rw [z0g (Nat.ne_of_gt (Nat.lt_succ_self _))]
  exact fresh _ (Nat.le_succ _)
 ·rcases hsplit x c e with ⟨_,m⟩|⟨_,m⟩
  ·rw [z0g (Nat.ne_of_lt (hclt x c m))]
   exact I.freeC x c m
  ·have ne:c ≠ s.heap.objs.size:=fun z=>by
    rw [z] at m
    exact absurd m (by omega)
   rw [z0g ne]
   exact fresh c (Nat.le_trans (Nat.le_add_right _ 2) m)
 ·exact hob _ (pushCells_keeps _ _ _ _ (Heap.get?_push_of_some _ (Heap.get?_push_size _ hfr)))
 ·show _=(X.N ++ ext).length
  rw [z5c,List.length_append,List.length_replicate,List.length_append,I.len]
end
def noX {α:Type}:R α->R α
 | .ok a O=>.ok a O
 | _=>.bad
def z19 (ext:Nat) (it0:DI) (g:Tg) (ts:List DT) (cs:List Cl) (em:Em):Sg->Ow->R (List D):=fun σ O=>(it0 σ O).bnd fun src O1=>
 noX (z0s src (z2i ⟨it0,g,ts⟩ cs em (clr (σ ++ List.replicate ext none) (z0b (⟨it0,g,ts⟩ :: cs)))) (src.size O1) 0 O1 [])
def z2F (ext:Nat) (it0:DI) (g:Tg) (ts:List DT) (cs:List Cl) (te:DE):Sg->Ow->R (List D):=fun σ O=>(it0 σ O).bnd fun src O1=>
 noX (z0s src (z5v ⟨it0,g,ts⟩ cs te (clr (σ ++ List.replicate ext none) (z0b (⟨it0,g,ts⟩ :: cs)))) (src.size O1) 0 O1 [])
theorem z5S (ext:Nat) (it0:DI) (g:Tg) (ts:List DT) (cs:List Cl) (te:DE):z19 ext it0 g ts cs (emL te)=z2F ext it0 g ts cs te:=by
 funext σ O;unfold z19 z2F;rw [zgh]
section
variable {C:z8i} {em:Em}
variable {X:Cx} {M:Model} {A:Around} {E:Value->Shared->Prop} {s:Shared}
theorem z7l {scope:Scope} {globals:Addr} {cl:List (Str × Addr)} {qual:Str} {env:Env} {Q:Env->Shared->Prop}
  (h:Q { scope,locals:=s.heap.objs.size,globals,cells:=cellsFrom (s.heap.objs.size + 1) scope.names cl,qual,func:=none,code:=env.code,frame:=env.frame,builtins:=env.builtins } { s with heap:=pushCells (s.heap.push z7V) scope.names }):
  wpAny M A (newFunctionEnv scope globals cl [] qual none .none (some env)) Q E s:=by
 simp only [newFunctionEnv,Option.isSome_some,if_true]
 refine wpAny_bind (wpAny_alloc ?_)
 refine wpAny_bind (wpAny_layCells _ (fun name kind cells=>by cases hkc:kind == NameKind.cell <;> simp [hkc]) _ _ _ _ ?_)
 rw [show ({ s with heap:=s.heap.push z7V }:Shared).heap.objs.size=s.heap.objs.size + 1 from Heap.size_push ..]
 simp only [List.forIn_nil,pure_bind]
 exact wpAny_pure h
structure zeK (X:Cx) (C:z8i) (pins:List (Addr × Obj)) (σv:St) (H:Hp) (hid μ:List Addr) (L Cn:Addr) (acc:List D) (O:Ow) (s':Shared):Prop where
 inv:∃ H' μ',L2.Inv X pins σv H' s'/\Ext H μ H' μ'/\Cells X.K H' (L :: hid) μ' O/\H L=none/\H' Cn=none/\C.G X.K X.prog X.w L hid H' μ' acc
 ns:∃ m,s'.heap.Ns Cn m
 loc:Cn ≠ X.env.locals
 young:X.s₀.heap.objs.size <= Cn
 cel:∀ x c,X.env.cells.lookup x=some c->c ≠ Cn
 pns:∀ p ∈ X.pn ++ pins,p.1 ≠ Cn
theorem Inv.bare {pins:List (Addr × Obj)} {σv:St} {H:Hp} {s':Shared} {C:Addr} {h':Heap} (I:L2.Inv X pins σv H s') (hs:Heap.SameBut C s'.heap h') (hn:H C=none) (loc:C ≠ X.env.locals) (young:X.s₀.heap.objs.size <= C) (cel:∀ x c,X.env.cells.lookup x=some c->c ≠ C)
  (pns:∀ p ∈ X.pn ++ pins,p.1 ≠ C):L2.Inv X pins σv H { s' with heap:=h' }:=I.turned (t':=s'.toks) (fun b o hb e=>(hs.2 b hb).trans e) hn loc (.inr young) cel pns
theorem z9T (co:z47 C) {tg iter:Expr} {ifs:List Expr} {gs:List Comprehension} {scope:Scope} {pos:Pos} {ext:List Str} {it0:DI} {g:Tg} {ts:List DT} {cs:List Cl} {pins:List (Addr × Obj)} {σv:St} {H:Hp} {hid μ:List Addr} {σ:Sg} {O:Ow} {src:Src} {acc:List D} {O2:Ow}
  {it:Addr} {fp:List Addr} {tn:Nat->Heap->Prop} {J:It} {RR:Value->Addr->Result->Shared->Prop}
  (hcalm:X.calm=true) (hb:BOk X.env.scope scope (X.N ++ ext) (z0b (⟨it0,g,ts⟩ :: cs)))
  (blk:∀ cells Cn s H fp,PG (cxB X (X.N ++ ext) scope cells Cn s H fp) tg (g.rd X.K)/\PySem.Paired (fun e t=>PDT (cxB X (X.N ++ ext) scope cells Cn s H fp) Ex0 e t) ifs ts/\ClsOk (cxB X (X.N ++ ext) scope cells Cn s H fp) gs cs/\∀ A hid k,(⟨tg,iter,ifs,0⟩ :: gs:List Comprehension)[k]?=none->z2Y (cxB X (X.N ++ ext) scope cells Cn s H fp) C A hid (C.ex (⟨tg,iter,ifs,0⟩ :: gs) scope pos) (⟨tg,iter,ifs,0⟩ :: gs) em k [])
  (I:L2.Inv X pins σv H s) (e1:EnvOk X.K H hid μ σ σv) (c1:Cells X.K H hid μ O) (T:zb9 X.prog X.w X.K tg J fp it tn) (st:tn 0 s.heap) (hfp:∀ b ∈ fp,z88 X pins H b) (sa:SrcAt X.K J src H hid μ)
  (hw:z0s src (z2i ⟨it0,g,ts⟩ cs em (clr (σ ++ List.replicate ext.length none) (z0b (⟨it0,g,ts⟩ :: cs)))) (src.size O) 0 O []=.ok acc O2)
  (hRR:∀ f s',zeK X C pins σv H hid μ s.heap.objs.size (s.heap.objs.size + 1) acc O2 s'->RR (.ref s.heap.objs.size) (s.heap.objs.size + 1) (.ok f) s'):
  wpAny (model X.prog X.w) X.A C.new (fun ac s₃=>wpAny (model X.prog X.w) X.A (newFunctionEnv scope X.env.globals (z0L X.env.cells scope.names []) [] X.env.qual none .none (some X.env)) (fun cenv s₄=>
   codeAny (model X.prog X.w) X.A (.compStart (C.ex (⟨tg,iter,ifs,0⟩ :: gs) scope pos) 0 (.ref it) ac { cenv with scope:=relabel scope X.env }) (RR ac cenv.locals) s₄) E s₃) E s:=by
 refine co.new fun ob hfr hob=>?_
 refine z7l ?_
 have hsz:(s.heap.push ob).objs.size=s.heap.objs.size + 1:=Heap.size_push ..
 have hlt:∀ b ∈ fp,b < s.heap.objs.size:=fun b hb=>by
  obtain ⟨o,ho,_⟩:=T.obj 0 _ st b hb
  exact Heap.lt_size ho
 have IB:=zcc (u:=C.ho X.prog X.w s.heap.objs.size) I hfp hlt hb hfr (fun h=>hob H h _ I.big)
 have nL:H s.heap.objs.size=none:=I.hok.fresh (Nat.le_refl _)
 have hne:∀ b ∈ fp,b ≠ s.heap.objs.size:=fun b hb=>Nat.ne_of_lt (hlt b hb)
 obtain ⟨b1,b2,b3,b4⟩:=blk (cellsFrom (s.heap.objs.size + 2) scope.names (z0L X.env.cells scope.names [])) (s.heap.objs.size + 1) s H fp
 generalize hX':cxB X (X.N ++ ext) scope (cellsFrom (s.heap.objs.size + 2) scope.names (z0L X.env.cells scope.names [])) (s.heap.objs.size + 1) s H fp=X' at IB b1 b2 b3 b4
 have eP:X'.prog=X.prog:=by rw [<- hX'];rfl
 have eW:X'.w=X.w:=by rw [<- hX'];rfl
 have eK:X'.K=X.K:=by rw [<- hX'];rfl
 have eA:X'.A=X.A:=by rw [<- hX'];rfl
 have ex:X'.xe=fun _ _=>False:=by rw [<- hX'];rfl
 have ec:X'.calm=true:=by rw [<- hX'];exact hcalm
 have eenv:X'.env={ scope:=relabel scope X.env,locals:=s.heap.objs.size + 1,globals:=X.env.globals,cells:=cellsFrom (s.heap.objs.size + 2) scope.names (z0L X.env.cells scope.names []),qual:=X.env.qual,func:=none,code:=X.env.code,frame:=X.env.frame,builtins:=X.env.builtins }:=by rw [<- hX'];rfl
 have eenv2:({ ({ scope,locals:=(s.heap.push ob).objs.size,globals:=X.env.globals,cells:=cellsFrom ((s.heap.push ob).objs.size + 1) scope.names (z0L X.env.cells scope.names []),qual:=X.env.qual,func:=none,code:=X.env.code,frame:=X.env.frame,builtins:=X.env.builtins }:Env) with scope:=relabel scope X.env }:Env)=X'.env:=by
  rw [eenv,hsz]
 show codeAny _ _ (.compStart _ 0 _ _ ({ ({ scope,locals:=(s.heap.push ob).objs.size,globals:=X.env.globals,cells:=cellsFrom ((s.heap.push ob).objs.size + 1) scope.names (z0L X.env.cells scope.names []),qual:=X.env.qual,func:=none,code:=X.env.code,frame:=X.env.frame,builtins:=X.env.builtins }:Env) with scope:=relabel scope X.env }:Env)) (RR _ (s.heap.push ob).objs.size) _
 rw [eenv2,hsz]
 have mv0:Mv H hid μ (upd H s.heap.objs.size (C.ho X.prog X.w s.heap.objs.size)) (s.heap.objs.size :: hid) μ:=(Mv.hide nL).trans ⟨⟨[],by simp⟩,fun b o h _ n2 _=>by rw [z0g (fun z=>n2 (by simp [z]))];exact h,fun _ m=>.inl m,fun _ m=>.inl m,z1E,fun _ t=>t.upd (.inl nL)⟩
 have c2:Cells X.K (upd H s.heap.objs.size (C.ho X.prog X.w s.heap.objs.size)) (s.heap.objs.size :: hid) μ O:=by
  refine ⟨c1.len,c1.nd,fun a m z=>?_,fun a m=>?_,fun k a e=>?_⟩
  ·rcases List.mem_cons.mp z with rfl|z
   ·exact (c1.not_in nL).2 m
   ·exact c1.nh a m z
  ·rcases List.mem_cons.mp m with rfl|m
   ·rw [z0u];simp
   ·exact z1E a (c1.ht a m)
  ·obtain ⟨ds,vs,h1,h2,h3⟩:=c1.at_ k a e
   exact ⟨ds,vs,h1,by rw [z0g (z0p h2 nL)];exact h2,h3.mv mv0⟩
 have e2:EnvOk X.K (upd H s.heap.objs.size (C.ho X.prog X.w s.heap.objs.size)) (s.heap.objs.size :: hid) μ (clr (σ ++ List.replicate ext.length none) (z0b (⟨it0,g,ts⟩ :: cs))) (clr (σv ++ List.replicate ext.length none) (z0b (⟨it0,g,ts⟩ :: cs))):=by
  refine ⟨by rw [z5c,z5c,List.length_append,List.length_append,e1.len];simp,fun i d h=>?_⟩
  obtain ⟨g1,g2⟩:=z6o _ _ _ _ h
  have hi:i < σ.length:=by
   by_cases hi:i < σ.length
   ·exact hi
   ·rw [List.getElem?_append_right (by omega),List.getElem?_replicate] at g1
    split at g1 <;> cases g1
  rw [List.getElem?_append_left hi] at g1
  obtain ⟨v,h1,h2⟩:=e1.at_ i d g1
  exact ⟨v,by rw [zbn _ _ _ g2,List.getElem?_append_left (by rw [<- e1.len];exact hi)];exact h1,h2.mv mv0⟩
 have hfp':∀ b ∈ fp,z88 X' [] (upd H s.heap.objs.size (C.ho X.prog X.w s.heap.objs.size)) b:=fun b hbm=>by
  obtain ⟨f0,f1,f2,f3,f4,f5⟩:=hfp b hbm
  have h1:=IB.ok.exf
  refine ⟨by rw [z0g (hne b hbm)];exact f0,?_,?_,.inl ?_,?_,?_⟩
  ·exact (h1 b (by rw [<- hX'];exact hbm)).1
  ·rw [<- hX']
   exact fun z=>IB.ok.exfs b (by rw [<- hX'];exact hbm) (by rw [<- hX'];exact z)
  ·rw [<- hX'];exact hbm
  ·exact (h1 b (by rw [<- hX'];exact hbm)).2
  ·rw [<- hX']
   exact fun p hp=>absurd (show p ∈ ([]:List (Addr × Obj)) from hp) (by simp)
 have st':tn 0 (zd1 ob s.heap scope.names):=T.keep _ _ _ st fun b _ o e=>z5b _ _ _ _ _ e
 have T':zb9 X'.prog X'.w X'.K tg J fp it tn:=by rw [eP,eW,eK];exact T
 have key:=zbj (X:=X') co (A:=s.heap.objs.size) (hid:=hid) (gens:=⟨tg,iter,ifs,0⟩ :: gs) (scope:=scope) (pos:=pos) (em:=em) (k:=0) (c:=⟨it0,g,ts⟩) (cs:=cs) ex ec rfl (by rw [eK];exact b1) b2 (zbr co ex ec (b4 _ _) b3 1 rfl) (by
   cases b3 with
   | nil=>exact .inl rfl
   | cons _ _ _ _ _=>exact .inr ⟨_,_,_,rfl⟩) T' [] { s with heap:=zd1 ob s.heap scope.names } (clr (σv ++ List.replicate ext.length none) (z0b (⟨it0,g,ts⟩ :: cs))) (upd H s.heap.objs.size (C.ho X.prog X.w s.heap.objs.size)) μ (clr (σ ++ List.replicate ext.length none) (z0b (⟨it0,g,ts⟩ :: cs))) O [] (src.size O)
   (fun s'=>zeK X C pins σv H hid μ s.heap.objs.size (s.heap.objs.size + 1) acc O2 s') st' hfp' (by rw [eK];exact sa.mv mv0) ⟨IB,by rw [eK];exact e2,by rw [eK];exact c2,by rw [eK,eP,eW];exact co.g0⟩ ?_
 ·have key2:=z9F (X:=X') co (gens:=⟨tg,iter,ifs,0⟩ :: gs) (scope:=scope) (pos:=pos) (env:=X'.env) rfl T' 0 st' key
  rw [eP,eW,eA] at key2
  exact codeAny_mono key2 fun r s' ⟨f,hr,q⟩=>by subst hr;exact hRR f s' q
 ·rw [hw]
  intro s' σv' H' μ' I' x' c' g' l' k'
  rw [eK] at c'
  rw [eK,eP,eW] at g'
  have xe:Ext H μ H' μ':=⟨x'.pre,fun b o h n ht=>x'.kept b o (by rw [z0g (z0p h nL)];exact h) n (z0p h nL) ht,fun b m=>(x'.fresh b m).imp id fun z=>by
   by_cases q:b=s.heap.objs.size
   ·rw [q];exact nL
   ·rw [z0g q] at z;exact z,fun b h=>x'.there b (z1E b h),fun P t=>x'.tab P (t.upd (.inl nL))⟩
  have un:Un (frs X.stack) fp H H' s.heap s'.heap:=by
   have:=I'.base
   rw [<- hX'] at this
   exact this
  have os:s'.os=s.os:=by
   have:=I'.os
   rw [<- hX'] at this
   exact this
  have hok:HOk X.prog X.w H' s'.heap:=by
   have:=I'.hok
   rw [eP,eW] at this
   exact this
  have IX:L2.Inv X pins σv H' s':=I.call' os un hok I'.bare fun b hbm=>by
   obtain ⟨f0,f1,f2,f3,f4,f5⟩:=hfp b hbm
   exact ⟨f3,f1,f4,f5⟩
  have big:∀ b,b < s.heap.objs.size->b ≠ s.heap.objs.size + 1:=fun b h=>Nat.ne_of_lt (Nat.lt_succ_of_lt h)
  refine ⟨⟨H',μ',IX,xe,c',nL,?_,g'⟩,?_,?_,?_,fun x c e=>?_,fun p hp=>?_⟩
  ·have:=I'.free
   rw [eenv] at this
   exact this
  ·obtain ⟨m,hn,_⟩:=I'.loc
   rw [eenv] at hn
   exact ⟨m,hn⟩
  ·exact (big _ I.lt).symm
  ·exact Nat.le_trans I.sz (Nat.le_succ _)
  ·obtain ⟨v,z⟩:=I.cell x c e
   exact big _ z.lt
  ·exact big _ (Heap.lt_size (I.pin p hp).1)
end
section
variable {X:Cx} {Ex:Nat->Hp->Prop}
theorem zhd {α:Type} {r:R α} {a:α} {O:Ow} (h:noX r=.ok a O):r=.ok a O:=by
 cases r with
 | ok _ _=>exact h
 | exc _ _=>cases h
 | bad=>cases h
theorem zgb {α:Type} {r:R α} {c:Nat} {O:Ow} (h:noX r=.exc c O):False:=by
 cases r <;> cases h
def zcj (C:z8i) (Ex:Nat->Hp->Prop) (K:PySem.W.Frag) (P:Program) (w:World) (H:Hp) (hid μ:List Addr) (r:R (List D)) (Q:Addr->Hp->Prop):Prop:=match r with
 | .ok acc O'=>∀ L H' μ',H L=none->Ext H μ H' μ'->Cells K H' (L :: hid) μ' O'->C.G K P w L hid H' μ' acc->Q L H'
 | .exc c O'=>∀ H' μ',Ext H μ H' μ'->Cells K H' hid μ' O'->Ex c H'
 | .bad=>False
theorem Ext.none {H H':Hp} {μ μ':List Addr} (e:Ext H μ H' μ') {L:Addr} (h:H' L=Option.none):H L=Option.none:=by
 cases q:H L with
 | none=>rfl
 | some o=>exact absurd h (e.there L (by rw [q];simp))
theorem z4t {C:z8i} (co:z47 C) {em:Em} {tg iter:Expr} {ifs:List Expr} {gs:List Comprehension} {scope:Scope} {pos cpos:Pos} {ext:List Str} {it0:DI} {g:Tg} {ts:List DT} {cs:List Cl} {pins:List (Addr × Obj)} {σv:St} {H:Hp} {s:Shared} {hid μ:List Addr} {σ:Sg} {O:Ow}
  {use:Option (Value->Sem Unit)} {Q:Value->Shared->Prop} (hcalm:X.calm=true) (hi:PDI X Ex tg iter it0) (hb:BOk X.env.scope scope (X.N ++ ext) (z0b (⟨it0,g,ts⟩ :: cs)))
  (blk:∀ cells Cn s H fp,PG (cxB X (X.N ++ ext) scope cells Cn s H fp) tg (g.rd X.K)/\PySem.Paired (fun e t=>PDT (cxB X (X.N ++ ext) scope cells Cn s H fp) Ex0 e t) ifs ts/\ClsOk (cxB X (X.N ++ ext) scope cells Cn s H fp) gs cs/\∀ A hid k,(⟨tg,iter,ifs,0⟩ :: gs:List Comprehension)[k]?=none->z2Y (cxB X (X.N ++ ext) scope cells Cn s H fp) C A hid (C.ex (⟨tg,iter,ifs,0⟩ :: gs) scope pos) (⟨tg,iter,ifs,0⟩ :: gs) em k [])
  (hs:∀ x,foldedSetIterable iter X.env x=pure x) (I:L2.Inv X pins σv H s) (e1:EnvOk X.K H hid μ σ σv) (c1:Cells X.K H hid μ O)
  (q:zcj C Ex X.K X.prog X.w H hid μ (z19 ext.length it0 g ts cs em σ O)
   (fun (L:Addr) H'=>∀ s' Cn,L2.Inv X pins σv H' s'->(∃ m,s'.heap.Ns Cn m)->H' Cn=none->Cn ≠ X.env.locals->X.s₀.heap.objs.size <= Cn->(∀ x c,X.env.cells.lookup x=some c->c ≠ Cn)->(∀ p ∈ X.pn ++ pins,p.1 ≠ Cn)->
    compPost (model X.prog X.w) X.A X.xe use Q (.ref L) Cn (.ok .next) s')):
  wpAny (model X.prog X.w) X.A (comprehension (C.ex (⟨tg,iter,ifs,0⟩ :: gs) scope pos) scope X.env cpos C.new false (eval iter X.env) use) Q X.xe s:=by
 have hfree:∀ y ∈ scope.names,y.2=.free->∃ c,X.env.cells.lookup y.1=some c:=fun y hy hf=>by
  obtain ⟨n,k⟩:=y
  subst hf
  exact I.ok.has n (hb.frees _ hy rfl)
 refine wpAny_comprehension_free (g:=⟨tg,iter,ifs,0⟩) (gs:=gs) (co.cl _ _ _) hs (z67 hfree) hb.kind (fun x hx hl=>?_) ?_
 ·obtain ⟨n,k⟩:=x
  subst hl
  exact z13 hb.nd hx
 unfold z19 at q
 cases hit:it0 σ O with
 | bad=>rw [hit] at q;exact False.elim q
 | exc c' O'=>
  rw [hit] at q
  refine thn (hi.out pins s σv H (fun J H1=>False) I ⟨hid,μ,σ,O,e1,c1,by rw [hit];exact q⟩) fun v s1 h1=>thn h1 fun itv s2 h2=>?_
  obtain ⟨it,fp,tn,J,H2,e,I2,T,st2,f2,z⟩:=h2
  exact z.elim
 | ok src O2=>
  rw [hit] at q
  refine thn (hi.out pins s σv H (fun J H1=>∃ μ1,Ext H μ H1 μ1/\Cells X.K H1 hid μ1 O2/\SrcAt X.K J src H1 hid μ1) I ⟨hid,μ,σ,O,e1,c1,by rw [hit];exact fun J H1 μ1 x c sa=>⟨μ1,x,c,sa⟩⟩) fun v s1 h1=>thn h1 fun itv s2 h2=>?_
  obtain ⟨it,fp,tn,J,H2,e,I2,T,st2,f2,μ2,x2,c2,sa⟩:=h2
  subst e
  have p:zcj C Ex X.K X.prog X.w H hid μ (noX (z0s src (z2i ⟨it0,g,ts⟩ cs em (clr (σ ++ List.replicate ext.length none) (z0b (⟨it0,g,ts⟩ :: cs)))) (src.size O2) 0 O2 [])) _:=q
  cases hw:noX (z0s src (z2i ⟨it0,g,ts⟩ cs em (clr (σ ++ List.replicate ext.length none) (z0b (⟨it0,g,ts⟩ :: cs)))) (src.size O2) 0 O2 []) with
  | bad=>rw [hw] at p;exact False.elim p
  | exc c' O'=>exact (zgb hw).elim
  | ok acc O3=>
   rw [hw] at p
   refine z9T co (RR:=fun ac Cn=>compPost (model X.prog X.w) X.A X.xe use Q ac Cn) hcalm hb blk I2 (e1.ext x2) c2 T st2 f2 sa (zhd hw) fun f s' Bh=>?_
   obtain ⟨H',μ',I',x',c',nL,nC,gv⟩:=Bh.inv
   have:=p (s2.heap.objs.size) H' μ' (x2.none nL) (x2.trans x') c' gv s' (s2.heap.objs.size + 1) I' Bh.ns nC Bh.loc Bh.young Bh.cel Bh.pns
   unfold compPost at this ⊢
   cases use <;> exact this
theorem z5M {K:PySem.W.Frag} {H:Hp} {hid μ:List Addr} {O:Ow} {L:Addr} {vs:List V} {ds:List D} (c:Cells K H (L :: hid) μ O) (n1:L ∉ hid) (h:H L=some (.lst vs)) (q:Dats K H (L :: hid) μ ds vs):Dat K H hid μ (.lst ds) (.ref L):=by
 unfold Dat
 exact ⟨L,vs,rfl,.inl ⟨.inl h,n1,fun m=>c.nh L m (by simp)⟩,q.mv .unhide⟩
mutual
theorem Dat.swap {K:PySem.W.Frag} {H:Hp} {hid μ:List Addr} {L:Addr}:∀ {d:D} {v:V},Dat K H (L :: hid) μ d v->Dat K H hid (μ ++ [L]) d v
 | .non,_,h=>h
 | .bl _,_,h=>h
 | .int _,_,h=>h
 | .str _,_,h=>h
 | .lst ds,v,h=>by
  unfold Dat at h ⊢
  obtain ⟨a,vs,r,l,q⟩:=h
  refine ⟨a,vs,r,l.imp (fun z=>⟨z.1,fun m=>z.2.1 (List.mem_cons_of_mem _ m),fun m=>?_⟩) id,Dats.swap q⟩
  rcases List.mem_append.mp m with m|m
  ·exact z.2.2 m
  ·exact z.2.1 (by simp at m;simp [m])
 | .tup ds,v,h=>by
  unfold Dat at h ⊢
  obtain ⟨a,vs,r,l,q⟩:=h
  refine ⟨a,vs,r,l.imp (fun z=>⟨z.1,fun m=>z.2.1 (List.mem_cons_of_mem _ m),fun m=>?_⟩) id,Dats.swap q⟩
  rcases List.mem_append.mp m with m|m
  ·exact z.2.2 m
  ·exact z.2.1 (by simp at m;simp [m])
 | .own k,v,h=>by
  unfold Dat at h ⊢
  obtain ⟨a,r,q⟩:=h
  exact ⟨a,r,by rw [List.getElem?_append_left (List.getElem?_eq_some_iff.mp q).1];exact q⟩
 | .dct,v,h=>by
  unfold Dat at h ⊢
  obtain ⟨a,r,q,n1,n2⟩:=h
  refine ⟨a,r,q,fun m=>n1 (List.mem_cons_of_mem _ m),fun m=>?_⟩
  rcases List.mem_append.mp m with m|m
  ·exact n2 m
  ·exact n1 (by simp at m;simp [m])
 | .exn C,v,h=>by
  unfold Dat at h ⊢
  obtain ⟨a,φ,r,g,q,n1,n2⟩:=h
  refine ⟨a,φ,r,g,q,fun m=>n1 (List.mem_cons_of_mem _ m),fun m=>?_⟩
  rcases List.mem_append.mp m with m|m
  ·exact n2 m
  ·exact n1 (by simp at m;simp [m])
 | .tab P,v,h=>by
  unfold Dat at h ⊢
  exact h
 | .map ks ds,v,h=>by
  unfold Dat at h ⊢
  obtain ⟨a,vs,r,q,n1,n2,hl,d⟩:=h
  refine ⟨a,vs,r,q,fun m=>n1 (List.mem_cons_of_mem _ m),fun m=>?_,hl,Dats.swap d⟩
  rcases List.mem_append.mp m with m|m
  ·exact n2 m
  ·exact n1 (by simp at m;simp [m])
theorem Dats.swap {K:PySem.W.Frag} {H:Hp} {hid μ:List Addr} {L:Addr}:∀ {ds:List D} {vs:List V},Dats K H (L :: hid) μ ds vs->Dats K H hid (μ ++ [L]) ds vs
 | [],_,h=>h
 | d :: ds,vs,h=>by
  unfold Dats at h ⊢
  obtain ⟨v,r,e1,h1,h2⟩:=h
  exact ⟨v,r,e1,Dat.swap h1,Dats.swap h2⟩
end
theorem Cells.swap {K:PySem.W.Frag} {H:Hp} {hid μ:List Addr} {O:Ow} {L:Addr} {vs:List V} {ds:List D} (c:Cells K H (L :: hid) μ O) (n1:L ∉ hid) (h:H L=some (.lst vs)) (q:Dats K H (L :: hid) μ ds vs):Cells K H hid (μ ++ [L]) (O ++ [ds]):=by
 have nm:L ∉ μ:=fun m=>c.nh L m (by simp)
 refine ⟨by simp [c.len],?_,fun a m=>?_,fun a m=>c.ht a (List.mem_cons_of_mem _ m),fun k a e=>?_⟩
 ·rw [List.nodup_append]
  refine ⟨c.nd,by simp,fun a ha b hb=>?_⟩
  have:b=L:=by simpa using hb
  subst this
  rintro rfl
  exact nm ha
 ·rcases List.mem_append.mp m with m|m
  ·exact fun z=>c.nh a m (List.mem_cons_of_mem _ z)
  ·have:a=L:=by simpa using m
   subst this;exact n1
 ·by_cases hk:k < μ.length
  ·rw [List.getElem?_append_left hk] at e
   obtain ⟨ds',vs',h1,h2,h3⟩:=c.at_ k a e
   exact ⟨ds',vs',by rw [List.getElem?_append_left (by rw [<- c.len];exact hk)];exact h1,h2,h3.swap⟩
  ·rw [List.getElem?_append_right (by omega)] at e
   have e0:k - μ.length=0:=by
    have:=(List.getElem?_eq_some_iff.mp e).1
    simp at this;omega
   rw [e0] at e
   simp at e;subst e
   refine ⟨ds,vs,?_,h,q.swap⟩
   have:k=O.length:=by have:=c.len;omega
   subst this;simp
theorem Ext.grow {H H':Hp} {μ μ':List Addr} (e:Ext H μ H' μ') {L:Addr} (h:H L=Option.none):Ext H μ H' (μ' ++ [L]):=by
 obtain ⟨ν,rfl⟩:=e.pre
 refine ⟨⟨ν ++ [L],by simp⟩,e.kept,fun b m=>?_,e.there,e.tab⟩
 rcases List.mem_append.mp m with m|m
 ·exact e.fresh b m
 ·have:b=L:=by simpa using m
  subst this;exact .inr h
def z9V (o:Bool) (r:R (List D)):R D:=r.bnd fun acc O1=>if o=true then .ok (.own O1.length) (O1 ++ [acc]) else .ok (.lst acc) O1
theorem zda {elt:Expr} {P:Program} {w:World} {K:PySem.W.Frag} {H:Hp} {hid μ:List Addr} {O:Ow} (c1:Cells K H hid μ O) {r:R (List D)} {o:Bool} {Q:VK} (q:z1G Ex K H hid μ (z9V o r) Q) {Q1:Addr->Hp->Prop} (h:∀ L H',Q (.ref L) H'->Q1 L H'):zcj (z8k elt) Ex K P w H hid μ r Q1:=by
 cases r with
 | bad=>exact q
 | exc c' O'=>exact q
 | ok acc O'=>
  intro L H' μ' nL x c ⟨vs,hv,dv⟩
  have n1:L ∉ hid:=fun m=>c1.ht L m nL
  cases o with
  | false=>exact h L H' (post.ok (show z1G Ex K H hid μ (.ok (.lst acc) O') Q from q) x c.unhide (z5M c n1 hv dv))
  | true=>exact h L H' (post.ok (show z1G Ex K H hid μ (.ok (.own O'.length) (O' ++ [acc])) Q from q) (x.grow nL) (c.swap n1 hv dv) (z22 c.len))
theorem zbL {elt:Expr} {P:Program} {w:World} {K:PySem.W.Frag} {H:Hp} {hid μ:List Addr} {O:Ow} (c1:Cells K H hid μ O) {σ:Sg} {σv:St} (e1:EnvOk K H hid μ σ σv) {r:R (List D)} {o:Bool} {i:Nat} {E:zcu} (q:postS Ex K H hid μ ((z9V o r).bnS fun d O1=>.nx (σ.set i (some d)) O1) E) {Q1:Addr->Hp->Prop} (h:∀ L H',E.nx (σv.set i (some (.ref L))) H'->Q1 L H'):
  zcj (z8k elt) Ex K P w H hid μ r Q1:=by
 cases r with
 | bad=>exact q
 | exc c' O'=>exact q
 | ok acc O'=>
  intro L H' μ' nL x c ⟨vs,hv,dv⟩
  have n1:L ∉ hid:=fun m=>c1.ht L m nL
  cases o with
  | false=>
   have q:postS Ex K H hid μ (.nx (σ.set i (some (.lst acc))) O') E:=q
   exact h L H' (q _ H' μ' x ((e1.ext x).set (z5M c n1 hv dv) i) c.unhide)
  | true=>
   have q:postS Ex K H hid μ (.nx (σ.set i (some (.own O'.length))) (O' ++ [acc])) E:=q
   exact h L H' (q _ H' (μ' ++ [L]) (x.grow nL) ((e1.ext (x.grow nL)).set (z22 c.len) i) (c.swap n1 hv dv))
theorem zk9 {elt tg iter:Expr} {ifs:List Expr} {gs:List Comprehension} {scope:Scope} {pos:Pos} {ext:List Str} {g:Tg} {ts:List DT} {cs:List Cl} {te:DE}
  (blk:∀ cells C s H fp,PG (cxB X (X.N ++ ext) scope cells C s H fp) tg (g.rd X.K)/\PySem.Paired (fun e t=>PDT (cxB X (X.N ++ ext) scope cells C s H fp) Ex0 e t) ifs ts/\ClsOk (cxB X (X.N ++ ext) scope cells C s H fp) gs cs/\PD (cxB X (X.N ++ ext) scope cells C s H fp) Ex0 elt te) (cells Cn s H fp):
  PG (cxB X (X.N ++ ext) scope cells Cn s H fp) tg (g.rd X.K)/\PySem.Paired (fun e t=>PDT (cxB X (X.N ++ ext) scope cells Cn s H fp) Ex0 e t) ifs ts/\ClsOk (cxB X (X.N ++ ext) scope cells Cn s H fp) gs cs/\∀ A hid k,(⟨tg,iter,ifs,0⟩ :: gs:List Comprehension)[k]?=none->z2Y (cxB X (X.N ++ ext) scope cells Cn s H fp) (z8k elt) A hid ((z8k elt).ex (⟨tg,iter,ifs,0⟩ :: gs) scope pos) (⟨tg,iter,ifs,0⟩ :: gs) (emL te) k []:=
 let ⟨h1,h2,h3,h4⟩:=blk cells Cn s H fp
 ⟨h1,h2,h3,fun _ _ _ hk=>zcY rfl h4 hk⟩
def z0i (o:Bool) (ext:Nat) (it0:DI) (g:Tg) (ts:List DT) (cs:List Cl) (te:DE):DE:=fun σ O=>z9V o (z2F ext it0 g ts cs te σ O)
theorem zfz {elt tg iter:Expr} {ifs:List Expr} {gs:List Comprehension} {scope:Scope} {pos:Pos} (o:Bool) (ext:List Str) {it0:DI} {g:Tg} {ts:List DT} {cs:List Cl} {te:DE} (hcalm:X.calm=true) (hi:PDI X Ex tg iter it0) (hb:BOk X.env.scope scope (X.N ++ ext) (z0b (⟨it0,g,ts⟩ :: cs)))
  (blk:∀ cells C s H fp,PG (cxB X (X.N ++ ext) scope cells C s H fp) tg (g.rd X.K)/\PySem.Paired (fun e t=>PDT (cxB X (X.N ++ ext) scope cells C s H fp) Ex0 e t) ifs ts/\ClsOk (cxB X (X.N ++ ext) scope cells C s H fp) gs cs/\PD (cxB X (X.N ++ ext) scope cells C s H fp) Ex0 elt te)
  (hs:∀ x,foldedSetIterable iter X.env x=pure x:=by intro _;rfl):PD X Ex (.ListComp elt (⟨tg,iter,ifs,0⟩ :: gs) scope pos) (z0i o ext.length it0 g ts cs te):=by
 refine ⟨?_⟩
 rintro pins s σv H Q I ⟨hid,μ,σ,O,e1,c1,q⟩
 rw [eval_ListComp]
 unfold z0i at q
 rw [<- z5S] at q
 refine z4t (z95 elt) (use:=none) hcalm hi hb (zk9 blk) hs I e1 c1 (zda c1 q fun L H' hQ s' C I' ns nC l1 y1 ce pn=>?_)
 obtain ⟨m,hn⟩:=ns
 exact ⟨m,hn,fun h' hs'=>⟨.ref L,H',Inv.bare I' hs' nC l1 y1 ce pn,rfl,hQ⟩⟩
theorem z8q {elt tg iter:Expr} {ifs:List Expr} {gs:List Comprehension} {scope:Scope} {pos spos py:Pos} {y:Str} {i:Nat} (o:Bool) (ext:List Str) {it0:DI} {g:Tg} {ts:List DT} {cs:List Cl} {te:DE} (hcalm:X.calm=true) (hN:X.N.Nodup) (hiy:X.N[i]?=some y) (hy:X.env.scope.names.lookup y=some .local)
  (hi:PDI X Ex tg iter it0) (hb:BOk X.env.scope scope (X.N ++ ext) (z0b (⟨it0,g,ts⟩ :: cs)))
  (blk:∀ cells C s H fp,PG (cxB X (X.N ++ ext) scope cells C s H fp) tg (g.rd X.K)/\PySem.Paired (fun e t=>PDT (cxB X (X.N ++ ext) scope cells C s H fp) Ex0 e t) ifs ts/\ClsOk (cxB X (X.N ++ ext) scope cells C s H fp) gs cs/\PD (cxB X (X.N ++ ext) scope cells C s H fp) Ex0 elt te)
  (hsw:swapsWith (.ListComp elt (⟨tg,iter,ifs,0⟩ :: gs) scope pos) (some (.Name y py)) spos.line X.env=pure true)
  (hs:∀ x,foldedSetIterable iter X.env x=pure x:=by intro _;rfl):PDS X Ex (.Assign [.Name y py] (.ListComp elt (⟨tg,iter,ifs,0⟩ :: gs) scope pos) spos) (z0A i (z0i o ext.length it0 g ts cs te)):=by
 refine ⟨?_⟩
 rintro pins s σv H E I ⟨hid,μ,σ,O,e1,c1,q⟩
 rw [exec_Assign_Name_used _ _ _ _ hsw]
 refine wpAny_bind (wpAny_standAt (wpAny_bind ?_))
 show wpAny _ X.A (do let _ <- comprehension (.ListComp elt (⟨tg,iter,ifs,0⟩ :: gs) scope pos) scope X.env _ (newList []) false (eval iter X.env) (some (assign (.Name y py) X.env))) _ _ s
 have q:postS Ex X.K H hid μ ((z9V o (z2F ext.length it0 g ts cs te σ O)).bnS fun d O1=>.nx (σ.set i (some d)) O1) E:=q
 rw [<- z5S] at q
 refine wpAny_bind (wpAny_mono (z4t (z95 elt) (use:=some (assign (.Name y py) X.env)) (Q:=fun _ s'=>SP X pins E .next s') hcalm hi hb (zk9 blk) hs I e1 c1 (zbL c1 e1 q fun L H' hQ s' C I' ns nC l1 y1 ce pn=>?_)) (fun _ s' hq=>wpAny_pure (wpAny_pure hq)) fun _ _ e=>e)
 obtain ⟨m,hn⟩:=ns
 show wpAny _ _ (assign (.Name y py) X.env (.ref L)) _ _ s'
 refine wpAny_assign_Name (z7R (v:=.ref L) I' hN hiy (.inl hy) rfl (fun s'' I'' hsame=>?_) (.inr hy))
 obtain ⟨a,hsb,ha⟩:=hsame
 have hCa:C ≠ a:=by
  rcases ha with z|z
  ·rw [z];exact l1
  ·exact fun e=>ce y a z e.symm
 refine ⟨m,hn.sameBut hsb hCa,fun h' hs'=>?_⟩
 exact ⟨_,H',Inv.bare I'' hs' nC l1 y1 ce pn,hQ⟩
end
def z0W {α β:Type} (f:α->Option β):List α->Option (List β)
 | []=>some []
 | x :: xs=>match f x,z0W f xs with
  | some p,some ps=>some (p :: ps)
  | _,_=>none
def zat (cs:List Nat):Option PyData:=if cs.all (· < 1114112)=true then some (.str ⟨cs.toArray⟩) else none
def z1f (O:Ow):Nat->D->Option PyData
 | 0,d=>match d with
  | .non=>some .none
  | .bl b=>some (.bool b)
  | .int i=>some (.int i)
  | .str cs=>zat cs
  | _=>none
 | n + 1,d=>match d with
  | .non=>some .none
  | .bl b=>some (.bool b)
  | .int i=>some (.int i)
  | .str cs=>zat cs
  | .lst ds=>(z0W (z1f O n) ds).map .list
  | .tup ds=>(z0W (z1f O n) ds).map .tuple
  | .own k=>match O[k]? with
   | some ds=>(z0W (z1f O n) ds).map .list
   | none=>none
  | .dct=>none
  | .exn _=>none
  | .tab _=>none
  | .map _ _=>none
section
variable {X:Cx} {pins:List (Addr × Obj)} {σv:St} {H:Hp} {s:Shared} {hid μ:List Addr} {O:Ow}
theorem z2n {n:Nat} (I:L2.Inv X pins σv H s) (ih:∀ (d:D) (v:V) (u:Value) (p:PyData),Dat X.K H hid μ d v->RelV v u->z1f O n d=some p->∃ as,Reads s.heap u p as/\p.canLay0=true/\p.depth <= n):
  ∀ (ds:List D) (vs:List V) (us:List Value) (ps:List PyData),Dats X.K H hid μ ds vs->Vals vs us->z0W (z1f O n) ds=some ps->∃ as,ReadsAll s.heap us ps as/\PyData.canLayAll0 ps=true/\PyData.depthAll ps <= n
 | [],vs,us,ps,h,r,e=>by
  unfold Dats at h;subst h
  cases r
  cases e
  exact ⟨[],.nil,rfl,Nat.zero_le _⟩
 | d :: ds,vs,us,ps,h,r,e=>by
  unfold Dats at h
  obtain ⟨v,t,rfl,h1,h2⟩:=h
  cases r with
  | cons r1 r2=>
   unfold z0W at e
   split at e
   ·rename_i p ps' e1 e2
    cases e
    obtain ⟨as,q1,q2,q3⟩:=ih d v _ p h1 r1 e1
    obtain ⟨bs,z1,z2,z3⟩:=z2n I ih ds t _ ps' h2 r2 e2
    refine ⟨as ++ bs,.cons q1 z1,?_,?_⟩
    ·unfold PyData.canLayAll0;rw [q2,z2];rfl
    ·unfold PyData.depthAll;exact Nat.max_le.mpr ⟨q3,z3⟩
   ·cases e
theorem z5U {n:Nat} {cs:List Nat} {t:Tok} {p:PyData} (e:zat cs=some p):∃ as,Reads s.heap (.str ⟨cs.toArray⟩ t) p as/\p.canLay0=true/\p.depth <= n:=by
 unfold zat at e
 split at e
 ·rename_i hc
  cases e
  exact ⟨[],.str _ _,by unfold PyData.canLay0 PyData.strOk;simpa using hc,Nat.zero_le _⟩
 ·cases e
theorem z1d (I:L2.Inv X pins σv H s) (c:Cells X.K H hid μ O):∀ (n:Nat) (d:D) (v:V) (u:Value) (p:PyData),Dat X.K H hid μ d v->RelV v u->z1f O n d=some p->∃ as,Reads s.heap u p as/\p.canLay0=true/\p.depth <= n:=by
 intro n
 induction n with
 | zero=>
  intro d v u p h r e
  cases d with
  | non=>unfold Dat at h;subst h;cases r;cases e;exact ⟨[],.none,rfl,Nat.zero_le _⟩
  | bl b=>unfold Dat at h;subst h;cases r;cases e;exact ⟨[],.bool _,rfl,Nat.zero_le _⟩
  | int b=>unfold Dat at h;subst h;obtain ⟨t,rfl⟩:=r;cases e;exact ⟨[],.int _ _,rfl,Nat.zero_le _⟩
  | str cs=>
   unfold Dat at h;subst h;obtain ⟨t,rfl⟩:=r
   exact z5U (show zat cs=some p from e)
  | _=>cases e
 | succ n ih=>
  intro d v u p h r e
  cases d with
  | non=>unfold Dat at h;subst h;cases r;cases e;exact ⟨[],.none,rfl,Nat.zero_le _⟩
  | bl b=>unfold Dat at h;subst h;cases r;cases e;exact ⟨[],.bool _,rfl,Nat.zero_le _⟩
  | int b=>unfold Dat at h;subst h;obtain ⟨t,rfl⟩:=r;cases e;exact ⟨[],.int _ _,rfl,Nat.zero_le _⟩
  | str cs=>
   unfold Dat at h;subst h;obtain ⟨t,rfl⟩:=r
   exact z5U (show zat cs=some p from e)
  | lst ds=>
   unfold Dat at h
   obtain ⟨a,vs,rfl,l,q⟩:=h
   cases r
   have e:(z0W (z1f O n) ds).map PyData.list=some p:=e
   cases e1:z0W (z1f O n) ds with
   | none=>rw [e1] at e;cases e
   | some ps=>
    rw [e1] at e;cases e
    obtain ⟨its,rv,⟨o,k,ho,hc,hd,hdt⟩,hz⟩:=I.list l.sq
    obtain ⟨as,z1,z2,z3⟩:=z2n I ih ds vs its ps q rv e1
    exact ⟨_,.list ho hc hdt (by simpa using z1),by unfold PyData.canLay0;exact z2,by unfold PyData.depth;omega⟩
  | tup ds=>
   unfold Dat at h
   obtain ⟨a,vs,rfl,l,q⟩:=h
   cases r
   have e:(z0W (z1f O n) ds).map PyData.tuple=some p:=e
   cases e1:z0W (z1f O n) ds with
   | none=>rw [e1] at e;cases e
   | some ps=>
    rw [e1] at e;cases e
    obtain ⟨its,rv,⟨o,ho,hc,k,hdt⟩,hz⟩:=I.tuple l.sq
    obtain ⟨as,z1,z2,z3⟩:=z2n I ih ds vs its ps q rv e1
    exact ⟨_,.tuple ho hc hdt (by simpa using z1),by unfold PyData.canLay0;exact z2,by unfold PyData.depth;omega⟩
  | own k=>
   unfold Dat at h
   obtain ⟨a,rfl,hk⟩:=h
   cases r
   obtain ⟨ds,vs,h1,h2,h3⟩:=c.at_ k a hk
   have e:(match O[k]? with|some ds=>(z0W (z1f O n) ds).map PyData.list|none=>none)=some p:=e
   rw [h1] at e
   cases e1:z0W (z1f O n) ds with
   | none=>simp only [e1] at e;cases e
   | some ps=>
    simp only [e1] at e;cases e
    obtain ⟨its,rv,⟨o,k',ho,hc,hd,hdt⟩,hz⟩:=I.list (.of h2)
    obtain ⟨as,z1,z2,z3⟩:=z2n I ih ds vs its ps h3 rv e1
    exact ⟨_,.list ho hc hdt (by simpa using z1),by unfold PyData.canLay0;exact z2,by unfold PyData.depth;omega⟩
  | dct=>cases e
  | exn _=>cases e
  | tab _=>cases e
  | map _ _=>cases e
end
def py (O:Ow) (d:D):Option PyData:=z1f O 8 d
def rPy (K:PySem.W.Frag) (f:PyData->PyData->Option Bool):R2:=fun v w H Q=>∃ hid μ O x y a b k,Cells K H hid μ O/\Dat K H hid μ x v/\Dat K H hid μ y w/\py O x=some a/\py O y=some b/\f a b=some k/\Q (.bl k) H
def fPy (f:PyData->PyData->Option Bool):Ow->D->D->R D:=fun O x y=>match py O x,py O y with
 | some a,some b=>match f a b with
  | some k=>.ok (.bl k) O
  | none=>.bad
 | _,_=>.bad
section
variable {X:Cx} {Ex:Nat->Hp->Prop}
theorem z5Z {f:PyData->PyData->Option Bool}:OpD X Ex (rPy X.K f) (fPy f):=by
 intro H hid μ O x y v w Q c dx dy q
 unfold fPy at q
 split at q
 ·rename_i a b e1 e2
  split at q
  ·rename_i k e3
   exact ⟨hid,μ,O,x,y,a,b,k,c,dx,dy,e1,e2,e3,post.here q c z1i⟩
  ·exact False.elim q
 ·exact False.elim q
def eqF:PyData->PyData->Option Bool:=fun a b=>some (PyData.eqv a b)
def neF:PyData->PyData->Option Bool:=fun a b=>some (!PyData.eqv a b)
def inF:PyData->PyData->Option Bool:=fun a b=>match b with
 | .list xs=>some (xs.any fun y=>PyData.eqv y a)
 | .tuple xs=>some (xs.any fun y=>PyData.eqv y a)
 | _=>none
def zgN:PyData->PyData->Option Bool:=fun a b=>match b with
 | .list xs=>some (!xs.any fun y=>PyData.eqv y a)
 | .tuple xs=>some (!xs.any fun y=>PyData.eqv y a)
 | _=>none
theorem z6H {p:PyData} (h1:p.canLay0=true) (h2:p.depth <= 8):SeqAt.shaped p=true:=by
 unfold SeqAt.shaped
 rw [h1,decide_eq_true (show p.depth <= 64 by omega)];rfl
theorem zbq (hu:X.A.units + 64 < cLine):OpR X (compareOp .Eq) (rPy X.K eqF):=by
 intro pins s σ H x y v u Q I rx ry h
 obtain ⟨hid,μ,O,dx,dy,a,b,k,c,h1,h2,e1,e2,e3,q⟩:=h
 obtain ⟨as,z1,z2,z3⟩:=z1d I c 8 dx x v a h1 rx e1
 obtain ⟨bs,y1,y2,y3⟩:=z1d I c 8 dy y u b h2 ry e2
 cases e3
 exact PyProof.Rows.eq_dataH z1 y1 (z6H z2 z3) (z6H y2 y3) hu ⟨.bl _,H,I,rfl,q⟩
theorem zbs (hu:X.A.units + 64 < cLine):OpR X (compareOp .NotEq) (rPy X.K neF):=by
 intro pins s σ H x y v u Q I rx ry h
 obtain ⟨hid,μ,O,dx,dy,a,b,k,c,h1,h2,e1,e2,e3,q⟩:=h
 obtain ⟨as,z1,z2,z3⟩:=z1d I c 8 dx x v a h1 rx e1
 obtain ⟨bs,y1,y2,y3⟩:=z1d I c 8 dy y u b h2 ry e2
 cases e3
 exact PyProof.Rows.ne_dataH z1 y1 (z6H z2 z3) (z6H y2 y3) hu ⟨.bl _,H,I,rfl,q⟩
theorem zdB {A:Around} {n m:Nat} (h:m <= 8) (hu:A.units + 64 < cLine):A.units + 1 + min n m < cLine:=by
 have:=Nat.min_le_right n m
 omega
theorem zg5 (hu:X.A.units + 64 < cLine):OpR X (compareOp .In) (rPy X.K inF):=by
 intro pins s σ H x y v u Q I rx ry h
 obtain ⟨hid,μ,O,dx,dy,a,b,k,c,h1,h2,e1,e2,e3,q⟩:=h
 obtain ⟨as,z1,z2,z3⟩:=z1d I c 8 dx x v a h1 rx e1
 obtain ⟨bs,y1,y2,y3⟩:=z1d I c 8 dy y u b h2 ry e2
 cases b with
 | list xs=>cases e3;exact SeqAt.in_list_reads y1 z1 y2 z2 (zdB z3 hu) ⟨.bl _,H,I,rfl,q⟩
 | tuple xs=>cases e3;exact SeqAt.in_tuple_reads y1 z1 y2 z2 (zdB z3 hu) ⟨.bl _,H,I,rfl,q⟩
 | _=>cases e3
theorem zdX (hu:X.A.units + 64 < cLine):OpR X (compareOp .NotIn) (rPy X.K zgN):=by
 intro pins s σ H x y v u Q I rx ry h
 obtain ⟨hid,μ,O,dx,dy,a,b,k,c,h1,h2,e1,e2,e3,q⟩:=h
 obtain ⟨as,z1,z2,z3⟩:=z1d I c 8 dx x v a h1 rx e1
 obtain ⟨bs,y1,y2,y3⟩:=z1d I c 8 dy y u b h2 ry e2
 cases b with
 | list xs=>cases e3;exact SeqAt.notIn_list_reads y1 z1 y2 z2 (zdB z3 hu) ⟨.bl _,H,I,rfl,q⟩
 | tuple xs=>cases e3;exact SeqAt.notIn_tuple_reads y1 z1 y2 z2 (zdB z3 hu) ⟨.bl _,H,I,rfl,q⟩
 | _=>cases e3
end
end DL
namespace DL
open PySem L2
section
variable {e:Expr}
def lsV (O:Ow):D->Option (List D)
 | .lst ds=>some ds
 | .own k=>O[k]?
 | _=>none
def tpV:D->Option (List D)
 | .tup ds=>some ds
 | _=>none
theorem z2d {K:PySem.W.Frag} {H:Hp} {hid μ:List Addr} {O:Ow} {d:D} {v:V} {ds:List D} (cl:Cells K H hid μ O) (h:Dat K H hid μ d v) (e:lsV O d=some ds):∃ p vs,v=.ref p/\SqL K H p vs/\Dats K H hid μ ds vs:=by
 cases d with
 | lst xs=>
  unfold Dat at h
  obtain ⟨p,vs,rfl,l,q⟩:=h
  cases e
  exact ⟨p,vs,rfl,l.sq,q⟩
 | own k=>
  unfold Dat at h
  obtain ⟨p,rfl,hk⟩:=h
  obtain ⟨ds',vs,h1,h2,h3⟩:=cl.at_ k p hk
  have e:O[k]?=some ds:=e
  rw [h1] at e;cases e
  exact ⟨p,vs,rfl,.of h2,h3⟩
 | _=>cases e
theorem z9P {K:PySem.W.Frag} {H:Hp} {hid μ:List Addr} {d:D} {v:V} {ds:List D} (h:Dat K H hid μ d v) (e:tpV d=some ds):∃ p vs,v=.ref p/\SqT K H p vs/\Dats K H hid μ ds vs:=by
 cases d with
 | tup xs=>
  unfold Dat at h
  obtain ⟨p,vs,rfl,l,q⟩:=h
  cases e
  exact ⟨p,vs,rfl,l.sq,q⟩
 | _=>cases e
def zku:Ow->D->D->R D:=fun O x y=>match x,y with
 | .str s,.str t=>if s.length + t.length <= 100000 then .ok (.str (s ++ t)) O else .bad
 | _,_=>.bad
end
theorem z9l {K:PySem.W.Frag} {H:Hp} {hid μ:List Addr} {ds:List D} {vs:List V} (h:Dats K H hid μ ds vs) {i:Int} {d:D} (e:atI ds i=some d):∃ v,atI vs i=some v/\Dat K H hid μ d v:=by
 unfold atI at e ⊢
 rw [<- h.length]
 cases q:ixN ds.length i with
 | none=>rw [q] at e;cases e
 | some j=>rw [q] at e;exact h.get e
def fIx:Ow->D->D->R D:=fun O x y=>match y with
 | .int i=>match lsV O x with
  | some ds=>match atI ds i with
   | some d=>.ok d O
   | none=>.bad
  | none=>match tpV x with
   | some ds=>match atI ds i with
    | some d=>.ok d O
    | none=>.bad
   | none=>match x with
    | .str cs=>if cs.length <= 100000 then match atI cs i with
      | some ch=>.ok (.str [ch]) O
      | none=>.bad
     else .bad
    | _=>.bad
 | _=>.bad
section
variable {X:Cx} {Ex:Nat->Hp->Prop} {pos:Pos} {a b c e:Expr} {ta tb:DE}
theorem zho:OpD X Ex (rIx X.K) fIx:=by
 intro H hid μ O x y v w Q c dx dy q
 unfold fIx at q
 split at q
 ·rename_i i
  unfold Dat at dy;subst dy
  split at q
  ·rename_i ds e
   obtain ⟨p,vs,rfl,sq,dd⟩:=z2d c dx e
   split at q
   ·rename_i d ed
    obtain ⟨z,h1,h2⟩:=z9l dd ed
    exact .inl ⟨p,vs,i,z,rfl,rfl,sq,h1,post.here q c h2⟩
   ·exact False.elim q
  ·split at q
   ·rename_i ds e
    obtain ⟨p,vs,rfl,sq,dd⟩:=z9P dx e
    split at q
    ·rename_i d ed
     obtain ⟨z,h1,h2⟩:=z9l dd ed
     exact .inr (.inl ⟨p,vs,i,z,rfl,rfl,sq,h1,post.here q c h2⟩)
    ·exact False.elim q
   ·split at q
    ·rename_i cs _ _
     unfold Dat at dx;subst dx
     obtain ⟨hl,q⟩:=post.ite q
     split at q
     ·rename_i ch ed
      refine .inr (.inr ⟨_,i,ch,rfl,rfl,?_,?_,post.here q c z8d⟩)
      ·show cs.toArray.size <= _
       rw [List.size_toArray];exact z0O hl
      ·simpa using ed
     ·exact False.elim q
    ·exact False.elim q
 ·exact False.elim q
theorem zjy (ha:PD X Ex a ta) (hb:PD X Ex b tb) (hs:zbV b):PD X Ex (.Subscript a b pos) (dOp fIx ta tb):=z1m (zjh zhy ha.out hb.out hs) (z9A zho)
def z06 (f:Ow->List D->R D) (t:DA):DE:=fun σ O=>(t σ O).bnd fun xs O1=>f O1 xs
def z35 (X:Cx) (Ex:Nat->Hp->Prop) (r:List V->Hp->VK->Prop) (f:Ow->List D->R D):Prop:=∀ (H:Hp) (hid μ:List Addr) (O:Ow) (xs:List D) (vs:List V) (Q:VK),Cells X.K H hid μ O->Dats X.K H hid μ xs vs->z1G Ex X.K H hid μ (f O xs) Q->r vs H Q
theorem zeS {r:List V->Hp->VK->Prop} {f:Ow->List D->R D} {t:DA} (h:z35 X Ex r f) (hid μ:List Addr) (σ:Sg) (O:Ow) (σv:St) (H:Hp) (Q:VK) (e1:EnvOk X.K H hid μ σ σv) (c1:Cells X.K H hid μ O) (q:z1G Ex X.K H hid μ (z06 f t σ O) Q):tCB r (rdA Ex X.K t) σv H Q:=
 rdA.go e1 c1 q fun xs O1 vs H1 μ1 e2 x c d p=>h H1 hid μ1 O1 xs vs Q c d p
theorem z23 {x:Str} {id:String} {p:Pos} {es:List Expr} {r:List V->Hp->VK->Prop} {f:Ow->List D->R D} {t:DA} (hc:CallR X (.builtin id) r) (h:z35 X Ex r f) (hg:Gl X x) (hm:X.mg x=none) (hv:bootBuiltins x=some (.builtin id)) (ha:PDA X Ex (e :: es) t)
  (hn:x ≠ "__name__":=by decide) (hdb:(x == ("__debug__":Str))=false:=by decide) (he:starEach (e :: es) X.env=(false,eval e X.env) :: starEach es X.env:=by rfl) (hpl:(backTo pos (starEach es X.env)).any (·.1)=false:=by rfl):
  PD X Ex (.Call (.Name x p) (e :: es) [] pos) (z06 f t):=z1m (z4r hc hg hm hv ha.out hn hdb he hpl) (zeS h)
theorem z5g {x:Str} {T:String} {p:Pos} {es:List Expr} {r:List V->Hp->VK->Prop} {f:Ow->List D->R D} {t:DA} (hc:CallR X (.type T) r) (h:z35 X Ex r f) (hg:Gl X x) (hm:X.mg x=none) (hv:bootBuiltins x=some (.type T)) (ha:PDA X Ex (e :: es) t)
  (hn:x ≠ "__name__":=by decide) (hdb:(x == ("__debug__":Str))=false:=by decide) (he:starEach (e :: es) X.env=(false,eval e X.env) :: starEach es X.env:=by rfl) (hpl:(backTo pos (starEach es X.env)).any (·.1)=false:=by rfl):
  PD X Ex (.Call (.Name x p) (e :: es) [] pos) (z06 f t):=z1m (zaU hc hg hm hv ha.out hn hdb he hpl) (zeS h)
def z1r:Ow->List D->R D:=fun O xs=>match xs with
 | [x]=>match lsV O x with
  | some ds=>.ok (.int ds.length) O
  | none=>match tpV x with
   | some ds=>.ok (.int ds.length) O
   | none=>match x with
    | .str cs=>if cs.length <= 100000 then .ok (.int cs.length) O else .bad
    | _=>.bad
 | _=>.bad
theorem zix:z35 X Ex (fun xs H Q=>∃ x n,xs=[x]/\zke X.K x H n/\Q (.int n) H) z1r:=by
 intro H hid μ O xs vs Q c d q
 unfold z1r at q
 split at q
 ·rename_i x
  obtain ⟨v,rfl,dx⟩:=z2D d
  split at q
  ·rename_i ds e
   obtain ⟨p,ws,rfl,sq,dd⟩:=z2d c dx e
   exact ⟨_,ds.length,rfl,.inl ⟨ws,sq,dd.length⟩,post.here q c z0I⟩
  ·split at q
   ·rename_i ds e
    obtain ⟨p,ws,rfl,sq,dd⟩:=z9P dx e
    exact ⟨_,ds.length,rfl,.inr ⟨ws,sq,dd.length⟩,post.here q c z0I⟩
   ·split at q
    ·rename_i cs _ _
     unfold Dat at dx;subst dx
     obtain ⟨hl,q⟩:=post.ite q
     refine ⟨_,cs.length,rfl,⟨?_,?_⟩,post.here q c z0I⟩
     ·show cs.toArray.size <= _
      rw [List.size_toArray];exact z0O hl
     ·show cs.length=cs.toArray.size
      rw [List.size_toArray]
    ·exact False.elim q
 ·exact False.elim q
def zjv:Ow->List D->R D:=fun O xs=>match xs with
 | [.int i]=>.ok (.int i) O
 | [.bl k]=>.ok (.int (if k then 1 else 0)) O
 | _=>.bad
theorem zhn:z35 X Ex (fun xs H Q=>(∃ i,xs=[.int i]/\Q (.int i) H) \/ ∃ k,xs=[.bl k]/\Q (.int (if k then 1 else 0)) H) zjv:=by
 intro H hid μ O xs vs Q c d q
 unfold zjv at q
 split at q
 ·obtain ⟨v,rfl,dx⟩:=z2D d
  unfold Dat at dx;subst dx
  exact .inl ⟨_,rfl,post.here q c z0I⟩
 ·obtain ⟨v,rfl,dx⟩:=z2D d
  unfold Dat at dx;subst dx
  exact .inr ⟨_,rfl,post.here q c z0I⟩
 ·exact False.elim q
def z0P:Ow->List D->R D:=fun O xs=>match xs with
 | [x]=>match lsV O x with
  | some ds=>.ok (.tup ds) O
  | none=>match tpV x with
   | some ds=>.ok (.tup ds) O
   | none=>.bad
 | _=>.bad
theorem zdw:z35 X Ex (fun xs H Q=>∃ p ys,xs=[.ref p]/\((SqL X.K H p ys/\∀ l,H l=none->Q (.ref l) (upd H l (.tup ys))) \/ (SqT X.K H p ys/\Q (.ref p) H))) z0P:=by
 intro H hid μ O xs vs Q c d q
 unfold z0P at q
 split at q
 ·rename_i x
  obtain ⟨v,rfl,dx⟩:=z2D d
  split at q
  ·rename_i ds e
   obtain ⟨p,ws,rfl,sq,dd⟩:=z2d c dx e
   exact ⟨p,ws,rfl,.inl ⟨sq,fun l hl=>post.ok q (.laid hl) (c.laid hl) (Dat.newT c hl dd)⟩⟩
  ·split at q
   ·rename_i ds e
    obtain ⟨p,ws,rfl,sq,dd⟩:=z9P dx e
    refine ⟨p,ws,rfl,.inr ⟨sq,post.here q c ?_⟩⟩
    cases x with
    | tup ys=>cases e;exact dx
    | _=>cases e
   ·exact False.elim q
 ·exact False.elim q
def za8:Ow->List D->R D:=fun O xs=>match xs with
 | [.int i,.int j]=>.ok (.int (if j > i then j else i)) O
 | _=>.bad
def zab:Ow->List D->R D:=fun O xs=>match xs with
 | [.int i,.int j]=>.ok (.int (if j < i then j else i)) O
 | _=>.bad
theorem zgr:z35 X Ex (fun xs H Q=>∃ i j,xs=[.int i,.int j]/\Q (.int (if j > i then j else i)) H) za8:=by
 intro H hid μ O xs vs Q c d q
 unfold za8 at q
 split at q
 ·obtain ⟨v,w,rfl,d1,d2⟩:=z8s d
  unfold Dat at d1 d2;subst d1;subst d2
  exact ⟨_,_,rfl,post.here q c z0I⟩
 ·exact False.elim q
theorem zfq:z35 X Ex (fun xs H Q=>∃ i j,xs=[.int i,.int j]/\Q (.int (if j < i then j else i)) H) zab:=by
 intro H hid μ O xs vs Q c d q
 unfold zab at q
 split at q
 ·obtain ⟨v,w,rfl,d1,d2⟩:=z8s d
  unfold Dat at d1 d2;subst d1;subst d2
  exact ⟨_,_,rfl,post.here q c z0I⟩
 ·exact False.elim q
end
def DSp (K:PySem.W.Frag) (Ec:XK->Nat->Hp->Prop) (n:Nat) (F:List D->Ow->R D):Sp:=fun vs H Q E=>vs.length=n/\∃ hid μ ds O,Dats K H hid μ ds vs/\Cells K H hid μ O/\z1G (Ec E) K H hid μ (F ds O) Q
abbrev Ec0:XK->Nat->Hp->Prop:=fun _ _ _=>False
section
variable {X:Cx} {CX:CXT} {k:Nat} {f:Addr} {fd:FuncData} {ps:List Str} {E:XK} {Ec:XK->Nat->Hp->Prop} {x:Str} {p pos:Pos} {e:Expr} {es:List Expr} {t:DA} {F:List D->Ow->R D} {n:Nat}
def dFn (n:Nat) (F:List D->Ow->R D) (t:DA):DE:=fun σ O=>(t σ O).bnd fun ds O1=>if ds.length=n then F ds O1 else .bad
theorem zjG (G:FnOk X.prog X.w X.K X.mg X.base CX k f fd ps (DSp X.K Ec n F)) (hr:Room k X.A) (hg:Gl X x) (hm:X.mg x=some (.ref f)) (hk:PySem.W.keepIn X.K (.ref f)=true) (hb:Binds X.K fd ps []) (hx:z96 CX X E) (ha:PDA X (Ec E) (e :: es) t)
  (hdb:(x == ("__debug__":Str))=false:=by decide) (he:starEach (e :: es) X.env=(false,eval e X.env) :: starEach es X.env:=by rfl) (hpl:(backTo pos (starEach es X.env)).any (·.1)=false:=by rfl):
  PD X (Ec E) (.Call (.Name x p) (e :: es) [] pos) (dFn n F t):=
 z1m (zfZ (dvs:=[]) (ds:=[]) G hr hg hm hk hb .nil hx ha.out hdb he hpl) fun hid μ σ O σv H Q e1 c1 q=>rdA.go e1 c1 q fun ds O1 vs H1 μ1 e2 x2 c2 d2 q2=>by
  obtain ⟨hl,q2⟩:=post.ite q2
  refine ⟨by rw [List.append_nil,<- d2.length];exact hl,hid,μ1,ds,O1,?_,c2,q2⟩
  rw [List.append_nil];exact d2
end
def fin (r:RS):R D:=match r with
 | .nx _ O=>.ok .non O
 | .rt d O=>.ok d O
 | .exc c O=>.exc c O
 | _=>.bad
def z1H (n:Nat) (t:DS):List D->Ow->R D:=fun ds O=>fin (t (ds.map some ++ List.replicate (n - ds.length) none) O)
theorem z8L {K:PySem.W.Frag} {H:Hp} {hid μ:List Addr} {ds:List D} {vs:List V} (h:Dats K H hid μ ds vs) (N:List Str):EnvOk K H hid μ (ds.map some ++ List.replicate (N.length - ds.length) none) (L2.start N vs):=by
 unfold L2.start
 have hl:=h.length
 refine ⟨by simp [hl],fun i d e=>?_⟩
 have hi:i < ds.length:=by
  by_cases hi:i < ds.length
  ·exact hi
  ·rw [List.getElem?_append_right (by simpa using hi),List.getElem?_replicate] at e
   split at e <;> cases e
 rw [List.getElem?_append_left (by simpa using hi),List.getElem?_map] at e
 cases q:ds[i]? with
 | none=>rw [q] at e;cases e
 | some d'=>
  rw [q] at e;cases e
  obtain ⟨v,h1,h2⟩:=h.get q
  exact ⟨v,by rw [List.getElem?_append_left (by simp;omega),List.getElem?_map,h1];rfl,h2⟩
abbrev cx0 (P:Program) (w:World) (K:PySem.W.Frag) (mg:Str->Option Value) (base:Heap) (N:List Str) (qual:Str) (scope:Scope) (f:Addr) (cdv:Value) (A:Around) (outer:List Env) (s:Shared) (H:Hp) (E:XK):Cx:=
 (zgK (fun _ _ _ _ _ _=>False) P w K mg base N qual scope f cdv A outer s H E).nox
theorem zgU {P:Program} {w:World} {K:PySem.W.Frag} {mg:Str->Option Value} {base:Heap} {k:Nat} {f:Addr} {name qual:Str} {params:Arguments} {body:List Stmt} {scope:Scope} {dV kV doc pm cdv ct oc:Value} {an od:Option Addr} {osl:Array (Option Value)} {N ps:List Str} {t:DS}
  (lk:K.lookup f=some ⟨oc,od,.func (PySem.W.fnOf name qual params body scope dV kV doc pm an cdv ct),osl⟩) (hcd:PySem.W.codeIn K cdv qual=true) (S:z0a N ps scope)
  (hbody:∀ (A:Around) (outer:List Env) (s:Shared) (H:Hp) (E:XK),Room k (A.deeper (PyProof.Rows.envOfC qual scope s.heap.objs.size f cdv))->z89 (cx0 P w K mg base N qual scope f cdv A outer s H E) Ex0 body t):
  FnOk P w K mg base (fun _ _ _ _ _ _=>False) (k + 1) f (PySem.W.fnOf name qual params body scope dV kV doc pm an cdv ct) ps (DSp K Ec0 ps.length (z1H N.length t)):=by
 refine z0X lk hcd S (fun vs H Q E h=>h.1) fun A outer s H vs Q E hr h=>?_
 obtain ⟨hl,hid,μ,ds,O,d,c,q⟩:=h
 refine ⟨_,(hbody A outer s H E hr).out.nox,hid,μ,_,O,z8L d N,c,?_⟩
 unfold z1H at q
 generalize t (ds.map some ++ List.replicate (N.length - ds.length) none) O=r at q
 cases r with
 | nx σ O'=>exact fun σv H' μ' x e c'=>q .non H' μ' x c' z8A
 | rt d' O'=>exact fun v H' μ' x c' r=>q v H' μ' x c' r
 | bk σ O'=>exact False.elim q
 | ct σ O'=>exact False.elim q
 | exc c' O'=>exact fun H' μ' x c2=>q H' μ' x c2
 | bad=>exact False.elim q
def z2S:D->String
 | .non => "NoneType"
 | .bl _ => "bool"
 | .int _ => "int"
 | .str _ => "str"
 | .lst _ => "list"
 | .own _ => "list"
 | .tup _ => "tuple"
 | .dct => "dict"
 | .exn _ => "exception"
 | .tab _ => "bool"
 | .map _ _ => "dict"
def z86 (t c:String):Bool:=t == c || (t == "bool" && c == "int")
section
variable {X:Cx} {Ex:Nat->Hp->Prop} {pos:Pos} {a b c e:Expr} {ta te:DE} {pins:List (Addr × Obj)} {σv:St} {H:Hp} {s:Shared} {hid μ:List Addr} {O:Ow}
def z4i:List String:=["NoneType", "bool", "int", "str", "list", "tuple", "dict"]
theorem z25 (K:PySem.W.Frag) {t c:String} (ht:t ∈ z4i) (hc:c ∈ ["int", "bool", "str", "list", "tuple", "dict"]):PySem.W.kitOne K (.type t) (.type c)=some (z86 t c):=by
 simp only [z4i,List.mem_cons,List.not_mem_nil,or_false] at ht hc
 rcases ht with rfl|rfl|rfl|rfl|rfl|rfl|rfl <;> rcases hc with rfl|rfl|rfl|rfl|rfl|rfl <;> first|rfl|decide
theorem z55 {v:V} {u:Value} {d:D} (I:L2.Inv X pins σv H s) (cl:Cells X.K H hid μ O) (h:Dat X.K H hid μ d v) (r:RelV v u):∃ (T:Value) (Hh:Heap->Prop),PySem.W.KitX X.K u T Hh/\Hh s.heap/\u ≠ .builtin "__main__.__loader__#opaque"/\∀ c ∈ (["int", "bool", "str", "list", "tuple", "dict"]:List String),PySem.W.kitOne X.K T (.type c)=some (z86 (z2S d) c):=by
 cases d with
 | non=>unfold Dat at h;subst h;cases r;exact ⟨.type "NoneType",_,PySem.W.kitx_none,True.intro,(fun z=>nomatch z),fun c hc=>z25 X.K (t := "NoneType") (by simp [z4i]) hc⟩
 | bl _=>unfold Dat at h;subst h;cases r;exact ⟨.type "bool",_,PySem.W.kitx_bool,True.intro,(fun z=>nomatch z),fun c hc=>z25 X.K (t := "bool") (by simp [z4i]) hc⟩
 | int _=>unfold Dat at h;subst h;obtain ⟨t,rfl⟩:=r;exact ⟨.type "int",_,PySem.W.kitx_int,True.intro,(fun z=>nomatch z),fun c hc=>z25 X.K (t := "int") (by simp [z4i]) hc⟩
 | str _=>unfold Dat at h;subst h;obtain ⟨t,rfl⟩:=r;exact ⟨.type "str",_,PySem.W.kitx_str,True.intro,(fun z=>nomatch z),fun c hc=>z25 X.K (t := "str") (by simp [z4i]) hc⟩
 | lst ds=>
  unfold Dat at h
  obtain ⟨p,vs,rfl,l,q⟩:=h
  cases r
  obtain ⟨its,rv,⟨o,n,h1,h2,_⟩,_⟩:=I.list l.sq
  exact ⟨.type "list",_,PySem.W.kitx_list,⟨o,h1,h2⟩,(fun z=>nomatch z),fun c hc=>z25 X.K (t := "list") (by simp [z4i]) hc⟩
 | own k=>
  unfold Dat at h
  obtain ⟨p,rfl,hk⟩:=h
  cases r
  obtain ⟨ds,vs,_,h2,_⟩:=cl.at_ k p hk
  obtain ⟨its,rv,⟨o,n,h1,h2,_⟩,_⟩:=I.list (.of h2)
  exact ⟨.type "list",_,PySem.W.kitx_list,⟨o,h1,h2⟩,(fun z=>nomatch z),fun c hc=>z25 X.K (t := "list") (by simp [z4i]) hc⟩
 | tup ds=>
  unfold Dat at h
  obtain ⟨p,vs,rfl,l,q⟩:=h
  cases r
  obtain ⟨its,rv,⟨o,h1,h2,_⟩,_⟩:=I.tuple l.sq
  exact ⟨.type "tuple",_,PySem.W.kitx_tuple,⟨o,h1,h2⟩,(fun z=>nomatch z),fun c hc=>z25 X.K (t := "tuple") (by simp [z4i]) hc⟩
 | dct=>
  unfold Dat at h
  obtain ⟨p,rfl,hr,_⟩:=h
  cases r
  obtain ⟨_,_,vs,_,o,es,ep,h1,h2,_⟩:=Rd.ok hr I.hok
  exact ⟨.type "dict",_,PySem.W.kitx_dict,⟨o,h1,h2.1⟩,(fun z=>nomatch z),fun c hc=>z25 X.K (t := "dict") (by simp [z4i]) hc⟩
 | tab _=>unfold Dat at h;obtain ⟨rfl,_⟩:=h;cases r;exact ⟨.type "bool",_,PySem.W.kitx_bool,True.intro,(fun z=>nomatch z),fun c hc=>z25 X.K (t := "bool") (by simp [z4i]) hc⟩
 | map ks ds=>
  unfold Dat at h
  obtain ⟨p,vs,rfl,hr,_⟩:=h
  cases r
  obtain ⟨_,_,vs,_,o,es,ep,h1,h2,_⟩:=Rd.ok hr I.hok
  exact ⟨.type "dict",_,PySem.W.kitx_dict,⟨o,h1,h2.1⟩,(fun z=>nomatch z),fun c hc=>z25 X.K (t := "dict") (by simp [z4i]) hc⟩
 | exn C=>
  unfold Dat at h
  obtain ⟨p,φ,rfl,⟨k,g⟩,hr,_⟩:=h
  cases r
  obtain ⟨y,_⟩:=Rd.ok hr I.hok
  refine ⟨_,_,zhx k,g _ y,(fun z=>nomatch z),fun c hc=>?_⟩
  rw [k.kit c hc]
  simp only [List.mem_cons,List.not_mem_nil,or_false] at hc
  rcases hc with rfl|rfl|rfl|rfl|rfl|rfl <;> rfl
def kOk:List String:=["int", "bool", "str", "list", "tuple", "dict"]
theorem zbA:CallR X (.builtin "isinstance") (fun xs H Q=>∃ x C hid μ O d,xs=[x,.ty C]/\C ∈ kOk/\Cells X.K H hid μ O/\Dat X.K H hid μ d x/\Q (.bl (z86 (z2S d) C)) H):=by
 intro pins s σ H xs us Q I r h
 obtain ⟨x,C,hid,μ,O,d,rfl,hC,cl,dx,q⟩:=h
 obtain ⟨u,w',rfl,rx,rc⟩:=zaf r
 cases rc
 obtain ⟨T,Hh,Z,p,hx,hk⟩:=z55 I cl dx rx
 exact wT I (PySem.W.kia_one Z I.kIn p (hk _ hC) hx fun tk htk=>⟨.bl _,H,I.tok tk,rfl,q⟩)
def z2V (C:String) (t:DE):DE:=fun σ O=>(t σ O).bnd fun d O1=>.ok (.bl (z86 (z2S d) C)) O1
theorem z9a {C:Str} {n:String} {p p':Pos} (ha:PD X Ex a ta) (hn:n ∈ kOk) (hg:Gl X "isinstance") (hm:X.mg "isinstance" = none) (hv:bootBuiltins "isinstance" = some (.builtin "isinstance")) (hgC:Gl X C) (hmC:X.mg C=none) (hvC:bootBuiltins C=some (.type n)) (hCn:C ≠ "__name__":=by decide)
  (hCd:(C == ("__debug__":Str))=false:=by decide) (he:starEach [a,.Name C p'] X.env=(false,eval a X.env) :: starEach [.Name C p'] X.env:=by rfl) (he2:starEach [.Name C p'] X.env=[(false,eval (.Name C p') X.env)]:=by rfl) (hpl:(backTo pos (starEach [.Name C p'] X.env)).any (·.1)=false:=by rfl):
  PD X Ex (.Call (.Name "isinstance" p) [a,.Name C p'] [] pos) (z2V n ta):=
 z1m (z4r (zbA (X:=X)) hg hm hv (z2z ha.out (z2z (z93 (v:=.ty n) hgC hmC hvC rfl hCn hCd) z78 he2) he) (by decide) (by decide) he hpl) fun hid μ σ O σv H Q e1 c1 q=>rd.go e1 c1 q fun d O1 v H1 μ1 e2 x cl r p2=>
  ⟨v,n,hid,μ1,O1,d,rfl,hn,cl,r,post.here p2 cl z1i⟩
def zal (to:DE) (t:DA):DE:=fun σ O=>(to σ O).bnd fun x O1=>match x with
 | .own k=>(t σ O1).bnd fun ys O2=>match ys,O2[k]? with
  | [y],some ds=>if ds.length < 100000 then .ok .non (O2.set k (ds ++ [y])) else .bad
  | _,_=>.bad
 | _=>.bad
theorem zcy {o:Expr} {to:DE} {t:DA} {es:List Expr} {apos cpos:Pos} (ho:PD X Ex o to) (ha:PDA X Ex (e :: es) t) (hbase:attributeBase o "append" X.env (eval o X.env)=eval o X.env:=by rfl)
  (hfew:((backTo cpos (starEach (e :: es) X.env)).all (fun x=>!x.1) && (backToKw cpos (keywordEach [] X.env)).all (fun x=>x.1.isSome) && decide ((e :: es).length + ([]:List Keyword).length + (if ([]:List Keyword).isEmpty then 0 else 1) < 30))=true:=by rfl)
  (hline:(apos.endLine == cpos.line)=true:=by rfl) (hs:starEach (e :: es) X.env=(false,eval e X.env) :: starEach es X.env:=by rfl) (hplain:(backTo cpos (starEach es X.env)).any (·.1)=false:=by rfl):
  PD X Ex (.Call (.Attribute o "append" apos) (e :: es) [] cpos) (zal to t):=
 z1m (zdE PySem.F.plainAttrs_list PySem.F.slot_list_append PySem.F.type_list_append z7U ho.out ha.out hbase hfew hline hs hplain) fun hid μ σ O σv H Q e1 c1 q=>rd.go e1 c1 q fun d O1 v H1 μ1 e2 x cl r p=>by
  cases d with
  | own k=>
   have hr:=r
   unfold Dat at r
   obtain ⟨A,rfl,hk⟩:=r
   obtain ⟨ds,vs,h1,h2,h3⟩:=cl.at_ k A hk
   refine ⟨.inl ⟨rfl,vs,.of h2⟩,rdA.go e2 cl p fun ys O2 ws H2 μ2 e3 x3 c3 d3 p3=>?_⟩
   split at p3
   ·rename_i y es' hds
    obtain ⟨hl,p3⟩:=post.ite p3
    obtain ⟨w,rfl,dw⟩:=z2D d3
    have hk2:μ2[k]?=some A:=by
     have:=hr.ext x3
     unfold Dat at this
     obtain ⟨A',e',hk'⟩:=this
     cases e';exact hk'
    obtain ⟨ds2,vs2,g1,g2,g3⟩:=c3.at_ k A hk2
    rw [hds] at g1;cases g1
    refine ⟨A,vs2,w,rfl,rfl,g2,Nat.lt_of_lt_of_le (by rw [<- g3.length];exact hl) (by decide),?_⟩
    exact post.ok p3 (.put (List.mem_of_getElem? hk2) ⟨_,g2⟩) (c3.put hk2 (g3.append (.cons dw .nil))) z8A
   ·exact False.elim p3
  | _=>exact False.elim p
def zcz (te to ti:DE):DS:=fun σ O=>(te σ O).bnS fun y O1=>(to σ O1).bnS fun x O2=>(ti σ O2).bnS fun i O3=>match x,i with
 | .own k,.int i=>match O3[k]? with
  | some ds=>match ixN ds.length i with
   | some j=>.nx σ (O3.set k (ds.set j y))
   | none=>.bad
  | none=>.bad
 | _,_=>.bad
theorem zgu {o i:Expr} {to ti:DE} {spos:Pos} (he:PD X Ex e te) (ho:PD X Ex o to) (hi:PD X Ex i ti) (ha:∀ v,assign (.Subscript o i pos) X.env v=(do
   let ov <- holding [v] (eval o X.env)
   let iv <- holding [v,ov] (eval i X.env)
   standAt pos
   holding [v,ov,iv] (setItem ov iv v)
   release [v,ov,iv] []):=by intro _;rfl) (hs:swapsWithSole [.Subscript o i pos] e spos.line X.env=pure false:=by rfl) (hw:swappedStores [.Subscript o i pos] e X.env=pure none:=by rfl)
  (h1:(assignEach [.Subscript o i pos] X.env).map (·.2)=[assign (.Subscript o i pos) X.env]:=by rfl):PDS X Ex (.Assign [.Subscript o i pos] e spos) (zcz te to ti):=
 z2W (zep he.out (ziA ho.out hi.out zcG ha) hs hw h1) fun hid μ σ O E σv H e1 c1 q=>rd.goS e1 c1 q fun y O1 v H1 μ1 e2 x1 c2 d2 q2=>rd.goS e2 c2 q2 fun x O2 u H2 μ2 e3 x2 c3 d3 q3=>rd.goS e3 c3 q3 fun ii O3 w H3 μ3 e4 x3 c4 d4 q4=>by
  split at q4
  ·rename_i k j
   split at q4
   ·rename_i ds hds
    split at q4
    ·rename_i m hm
     have d3':=d3.ext x3
     unfold Dat at d3' d4
     obtain ⟨A,rfl,hk⟩:=d3'
     subst d4
     obtain ⟨ds2,vs2,g1,g2,g3⟩:=c4.at_ k A hk
     rw [hds] at g1;cases g1
     refine ⟨A,vs2,j,m,rfl,rfl,g2,by rw [<- g3.length];exact hm,?_⟩
     exact q4 σv _ μ3 (.put (List.mem_of_getElem? hk) ⟨_,g2⟩) (e4.ext (.put (List.mem_of_getElem? hk) ⟨_,g2⟩)) (c4.put hk (g3.set ((d2.ext x2).ext x3) m))
    ·exact False.elim q4
   ·exact False.elim q4
  ·exact False.elim q4
def bls:List D->Option (List Bool)
 | []=>some []
 | .bl b :: r=>(bls r).map (b :: ·)
 | _=>none
theorem zbt {K:PySem.W.Frag}:∀ {ds:List D} {vs:List V} {bs:List Bool},Dats K H hid μ ds vs->bls ds=some bs->vs=bs.map V.bl
 | [],vs,bs,h,e=>by unfold Dats at h;subst h;cases e;rfl
 | d :: ds,vs,bs,h,e=>by
  unfold Dats at h
  obtain ⟨v,r,rfl,h1,h2⟩:=h
  cases d with
  | bl b=>
   unfold bls at e
   cases q:bls ds with
   | none=>rw [q] at e;cases e
   | some cs=>
    rw [q] at e;cases e
    unfold Dat at h1;subst h1
    rw [zbt h2 q];rfl
  | _=>cases e
def zcC:Ow->List D->R D:=fun O xs=>match xs with
 | [x]=>match lsV O x with
  | some ds=>match bls ds with
   | some bs=>.ok (.bl (bs.all id)) O
   | none=>.bad
  | none=>.bad
 | _=>.bad
def zao:Ow->List D->R D:=fun O xs=>match xs with
 | [x]=>match lsV O x with
  | some ds=>match bls ds with
   | some bs=>.ok (.bl (bs.any id)) O
   | none=>.bad
  | none=>.bad
 | _=>.bad
theorem zi4:z35 X Ex (fun xs H Q=>∃ (p:Addr) (bs:List Bool),xs=[.ref p]/\SqL X.K H p (bs.map V.bl)/\Q (.bl (bs.all id)) H) zcC:=by
 intro H hid μ O xs vs Q c d q
 unfold zcC at q
 split at q
 ·rename_i x
  obtain ⟨v,rfl,dx⟩:=z2D d
  split at q
  ·rename_i ds e
   obtain ⟨p,ws,rfl,sq,dd⟩:=z2d c dx e
   split at q
   ·rename_i bs eb
    refine ⟨p,bs,rfl,?_,post.here q c z1i⟩
    rw [<- zbt dd eb];exact sq
   ·exact False.elim q
  ·exact False.elim q
 ·exact False.elim q
theorem zim:z35 X Ex (fun xs H Q=>∃ (p:Addr) (bs:List Bool),xs=[.ref p]/\SqL X.K H p (bs.map V.bl)/\Q (.bl (bs.any id)) H) zao:=by
 intro H hid μ O xs vs Q c d q
 unfold zao at q
 split at q
 ·rename_i x
  obtain ⟨v,rfl,dx⟩:=z2D d
  split at q
  ·rename_i ds e
   obtain ⟨p,ws,rfl,sq,dd⟩:=z2d c dx e
   split at q
   ·rename_i bs eb
    refine ⟨p,bs,rfl,?_,post.here q c z1i⟩
    rw [<- zbt dd eb];exact sq
   ·exact False.elim q
  ·exact False.elim q
 ·exact False.elim q
theorem zce (bs:List Bool):(List.range bs.length).all (fun i=>bs.getD i true)=bs.all id:=by
 rw [Bool.eq_iff_iff,List.all_eq_true,List.all_eq_true]
 constructor
 ·intro h b hb
  obtain ⟨i,hi,e⟩:=List.mem_iff_getElem.mp hb
  have:=h i (by simpa using hi)
  rw [List.getD_eq_getElem?_getD,List.getElem?_eq_getElem hi,e] at this
  exact this
 ·intro h i hi
  have hi:i < bs.length:=by simpa using hi
  rw [List.getD_eq_getElem?_getD,List.getElem?_eq_getElem hi]
  exact h _ (List.getElem_mem hi)
theorem zaG (bs:List Bool):(List.range bs.length).any (fun i=>bs.getD i true)=bs.any id:=by
 rw [Bool.eq_iff_iff,List.any_eq_true,List.any_eq_true]
 constructor
 ·rintro ⟨i,hi,h⟩
  have hi:i < bs.length:=by simpa using hi
  rw [List.getD_eq_getElem?_getD,List.getElem?_eq_getElem hi] at h
  exact ⟨_,List.getElem_mem hi,h⟩
 ·rintro ⟨b,hb,h⟩
  obtain ⟨i,hi,e⟩:=List.mem_iff_getElem.mp hb
  exact ⟨i,by simpa using hi,by rw [List.getD_eq_getElem?_getD,List.getElem?_eq_getElem hi,e];exact h⟩
theorem zbJ {bs:List Bool} {its:List Value} (r:Vals (bs.map V.bl) its) {i:Nat} {v:Value} (h:its.toArray[i]?=some v):v=.bool (bs.getD i true):=by
 have h:its[i]?=some v:=by simpa using h
 have hi:i < bs.length:=by
  have:=r.length
  have:=(List.getElem?_eq_some_iff.mp h).1
  simp at *;omega
 obtain ⟨u,h1,h2⟩:=r.get (i:=i) (x:=.bl bs[i]) (by rw [List.getElem?_map,List.getElem?_eq_getElem hi];rfl)
 rw [h] at h1;cases h1
 cases h2
 rw [List.getD_eq_getElem?_getD,List.getElem?_eq_getElem hi];rfl
theorem zaO (hc:X.calm=true):CallR X (.builtin "all") (fun xs H Q=>∃ (p:Addr) (bs:List Bool),xs=[.ref p]/\SqL X.K H p (bs.map V.bl)/\Q (.bl (bs.all id)) H):=by
 intro pins s σ H xs us Q I r h
 obtain ⟨p,bs,rfl,sq,q⟩:=h
 obtain ⟨u,rfl,ru⟩:=z2Z r
 cases ru
 obtain ⟨its,rv,pl,hz⟩:=I.list sq
 have hl:its.toArray.size=bs.length:=by have:=rv.length;simp at *;omega
 have hne:p ≠ s.heap.objs.size:=by obtain ⟨o,n,e,_⟩:=pl;exact Nat.ne_of_lt (Heap.lt_size e)
 refine wT I (call_all_walk (wpAny_pyIter_list pl.isList ?_))
 refine ⟨s.heap.objs.size,_,_,its.toArray.size,_,_,fun i=>bs.getD i true,rfl,Walks.list (show X.A.in1.handled=none from I.ok.hd hc) _ p hne its.toArray,⟨⟨_,Heap.get?_push_size _ rfl,rfl,rfl⟩,pl.isList.push _⟩,fun i v s' Q' E' hP hQ=>?_,fun h' tk hk htk=>?_⟩
 ·rw [zbJ rv hP];exact wpAny_truthy_bool hQ
 ·rw [hl,zce]
  exact ⟨.bl _,H,I.kept (t':=tk) fun b o e=>hk b o (by simpa using Nat.ne_of_lt (Heap.lt_size e)) (Heap.get?_push_of_some _ e),rfl,q⟩
theorem zb6 (hc:X.calm=true):CallR X (.builtin "any") (fun xs H Q=>∃ (p:Addr) (bs:List Bool),xs=[.ref p]/\SqL X.K H p (bs.map V.bl)/\Q (.bl (bs.any id)) H):=by
 intro pins s σ H xs us Q I r h
 obtain ⟨p,bs,rfl,sq,q⟩:=h
 obtain ⟨u,rfl,ru⟩:=z2Z r
 cases ru
 obtain ⟨its,rv,pl,hz⟩:=I.list sq
 have hl:its.toArray.size=bs.length:=by have:=rv.length;simp at *;omega
 have hne:p ≠ s.heap.objs.size:=by obtain ⟨o,n,e,_⟩:=pl;exact Nat.ne_of_lt (Heap.lt_size e)
 refine wT I (call_any_walk (wpAny_pyIter_list pl.isList ?_))
 refine ⟨s.heap.objs.size,_,_,its.toArray.size,_,_,fun i=>bs.getD i true,rfl,Walks.list (show X.A.in1.handled=none from I.ok.hd hc) _ p hne its.toArray,⟨⟨_,Heap.get?_push_size _ rfl,rfl,rfl⟩,pl.isList.push _⟩,fun i v s' Q' E' hP hQ=>?_,fun h' tk hk htk=>?_⟩
 ·rw [zbJ rv hP];exact wpAny_truthy_bool hQ
 ·rw [hl,zaG]
  exact ⟨.bl _,H,I.kept (t':=tk) fun b o e=>hk b o (by simpa using Nat.ne_of_lt (Heap.lt_size e)) (Heap.get?_push_of_some _ e),rfl,q⟩
end
section
variable {X:Cx} {Ex:Nat->Hp->Prop} {pos:Pos} {a b c e o:Expr} {ta tb te to:DE} {pins:List (Addr × Obj)} {σv:St} {H:Hp} {s:Shared} {hid μ:List Addr} {O:Ow}
def zhf (K:PySem.W.Frag):R2:=fun x y H Q=>∃ l b xs zs,x=.ref l/\y=.ref b/\SqL K H l xs/\SqL K H b zs/\xs.length + zs.length <= sizeLine/\∀ p,H p=none->Q (.ref p) (upd H p (.lst (xs ++ zs)))
theorem zg2:OpR X (binaryOp .Add) (zhf X.K):=by
 intro pins s σ H x y v u Q I rx ry h
 obtain ⟨l,b,xs,zs,rfl,rfl,h1,h2,hz,q⟩:=h
 cases rx
 cases ry
 obtain ⟨its,r1,p1,z1⟩:=I.list h1
 obtain ⟨its2,r2,p2,z2⟩:=I.list h2
 obtain ⟨⟨c1,d1,t1,s1⟩,n1,g1,k1,m1,w1⟩:=p1
 obtain ⟨⟨c2,d2,t2,s2⟩,n2,g2,k2,m2,w2⟩:=p2
 simp only at k1 m1 w1 k2 m2 w2
 subst k1 m1 w1 k2 m2 w2
 have ea:its.toArray ++ its2.toArray=(its ++ its2).toArray:=by simp
 have l1:=r1.length
 have l2:=r2.length
 refine PySem.concat_meets ⟨_,g1,rfl⟩ ⟨_,g2,rfl⟩ PySem.noFill_list_add PySem.seq_list_add PySem.F.slot_list_add PySem.F.entry_list_add (PySem.F.args_list_add_2 _ _)
  (PyProof.Rows.list_addW l b its.toArray its2.toArray n1 n2 none none s1 s2 (by simp only [List.size_toArray];omega)) ⟨g1,g2,?_⟩
 rw [ea]
 exact ⟨.ref _,_,I.lnew (t':=s.toks) (r1.append r2) (by rw [List.length_append];omega),rfl,q _ I.fresh⟩
def z2G:Ow->D->D->R D:=fun O x y=>match x,y with
 | .int i,.int j=>.ok (.int (i + j)) O
 | .str p,.str q=>if p.length + q.length <= 100000 then .ok (.str (p ++ q)) O else .bad
 | .tup xs,.tup ys=>if xs ≠ []/\xs.length + ys.length <= 100000 then .ok (.tup (xs ++ ys)) O else .bad
 | x,y=>match lsV O x,lsV O y with
  | some xs,some ys=>if xs.length + ys.length <= 100000 then .ok (.lst (xs ++ ys)) O else .bad
  | _,_=>.bad
def ziu (K:PySem.W.Frag):R2:=fun x y H Q=>(∃ i j,x=.int i/\y=.int j/\Q (.int (i + j)) H) \/ (∃ i j,x=.str i/\y=.str j/\i.length + j.length <= sizeLine/\Q (.str (i ++ j)) H) \/ zhI K x y H Q \/ zhf K x y H Q
theorem zgE:OpR X (binaryOp .Add) (ziu X.K):=OpR.or zgV (OpR.or za2 (OpR.or zgp zg2))
theorem zfN:OpD X Ex (ziu X.K) z2G:=by
 intro H hid μ O x y v w Q c dx dy q
 unfold z2G at q
 split at q
 ·unfold Dat at dx dy;subst dx;subst dy
  exact .inl ⟨_,_,rfl,rfl,post.here q c z0I⟩
 ·rename_i p q'
  unfold Dat at dx dy;subst dx;subst dy
  obtain ⟨hl,q⟩:=post.ite q
  refine .inr (.inl ⟨_,_,rfl,rfl,?_,?_⟩)
  ·show p.toArray.size + q'.toArray.size <= _
   simp only [List.size_toArray];exact z0O hl
  ·have e:((⟨p.toArray⟩:Str) ++ (⟨q'.toArray⟩:Str))=⟨(p ++ q').toArray⟩:=by
    show (⟨p.toArray ++ q'.toArray⟩:Str)=_
    simp
   rw [e]
   exact post.here q c z8d
 ·rename_i xs ys
  have dx0:=dx
  unfold Dat at dx dy
  obtain ⟨p,vs,rfl,l1,q1⟩:=dx
  obtain ⟨p',vs',rfl,l2,q2⟩:=dy
  obtain ⟨⟨hn,hl⟩,q⟩:=post.ite q
  have e1:=q1.length
  have e2:=q2.length
  refine .inr (.inr (.inl ⟨p,p',vs,vs',rfl,rfl,l1.sq,l2.sq,?_,z0O (by omega),?_,?_⟩))
  ·rintro rfl
   exact hn (List.length_eq_zero_iff.mp e1)
  ·rintro rfl
   have:ys=[]:=List.length_eq_zero_iff.mp e2
   subst this
   rw [List.append_nil] at q
   exact post.here q c dx0
  ·intro _ l hl0
   exact post.ok q (.laid hl0) (c.laid hl0) (Dat.newT c hl0 (q1.append q2))
 ·split at q
  ·rename_i xs ys e1 e2
   obtain ⟨p,vs,rfl,s1,q1⟩:=z2d c dx e1
   obtain ⟨p',vs',rfl,s2,q2⟩:=z2d c dy e2
   obtain ⟨hl,q⟩:=post.ite q
   have l1:=q1.length
   have l2:=q2.length
   exact .inr (.inr (.inr ⟨p,p',vs,vs',rfl,rfl,s1,s2,z0O (by omega),fun l hl0=>post.ok q (.laid hl0) (c.laid hl0) (Dat.newL c hl0 (q1.append q2))⟩))
  ·exact False.elim q
theorem zhr (ha:PD X Ex a ta) (hb:PD X Ex b tb):PD X Ex (.BinOp a .Add b pos) (dOp z2G ta tb):=z8b zgE zfN ha hb
def zka (i:Int):List Nat:=((toString i:Str)).cps.toList
def zcX:Ow->List D->R D:=fun O xs=>match xs with
 | [.int i]=>if i.natAbs < 2 ^ 64 then .ok (.str (zka i)) O else .bad
 | _=>.bad
theorem zad {n:Nat} (h:n < 2 ^ 64):n.log2 < 1920:=by
 by_cases hn:n=0
 ·subst hn;decide
 ·have:=(Nat.log2_lt hn (k:=64)).mpr h
  omega
theorem z6G (x:Str):(⟨x.cps.toList.toArray⟩:Str)=x:=by
 cases x;simp
theorem zgm:z35 X Ex (fun xs H Q=>∃ i,xs=[.int i]/\i.natAbs.log2 < 1920/\Q (.str (toString i)) H) zcX:=by
 intro H hid μ O xs vs Q c d q
 unfold zcX at q
 split at q
 ·rename_i i
  obtain ⟨v,rfl,dx⟩:=z2D d
  unfold Dat at dx;subst dx
  obtain ⟨hl,q⟩:=post.ite q
  refine ⟨i,rfl,zad hl,post.here q c ?_⟩
  unfold Dat zka
  rw [z6G]
 ·exact False.elim q
def rS1 (g:Str->Str->Option V):V->List V->Hp->VK->Prop:=fun x xs H Q=>∃ i j v,x=.str i/\xs=[.str j]/\g i j=some v/\Q v H
def zjW (i j:Str):Option V:=some (.int (PySem.Builtin.Str.occurrences i j 0 i.length (i.length + 1)).length)
theorem zd0:MtR X "str.count" (rS1 zjW):=by
 intro pins s σ H x xs v us Q I rx rs h
 obtain ⟨i,j,w,rfl,rfl,hg,q⟩:=h
 obtain ⟨t,rfl⟩:=rx
 obtain ⟨u,rfl,t',rfl⟩:=z2Z rs
 cases hg
 exact SC.count ⟨.int _,H,I.tok _,⟨_,rfl⟩,q⟩
def zjg (i j:List Nat):Option D:=some (.int (PySem.Builtin.Str.occurrences ⟨i.toArray⟩ ⟨j.toArray⟩ 0 i.length (i.length + 1)).length)
def dS1 (g:List Nat->List Nat->Option D) (to:DE) (t:DA):DE:=fun σ O=>(to σ O).bnd fun x O1=>match x with
 | .str i=>(t σ O1).bnd fun ys O2=>match ys with
  | [.str j]=>match g i j with
   | some d=>.ok d O2
   | none=>.bad
  | _=>.bad
 | _=>.bad
theorem zjd {t:DA} {es:List Expr} {apos cpos:Pos} {name:Str} {id:String} {gv:Str->Str->Option V} {g:List Nat->List Nat->Option D} (slot:Slot "str" name id) (hty:typeOf (.builtin id)=pure (.type "method_descriptor")) (hm:MtR X id (rS1 gv))
  (hgg:∀ i j d,g i j=some d->∃ v,gv ⟨i.toArray⟩ ⟨j.toArray⟩=some v/\∀ K H hid μ,Dat K H hid μ d v) (ho:PD X Ex o to) (ha:PDA X Ex (e :: es) t) (hbase:attributeBase o name X.env (eval o X.env)=eval o X.env:=by rfl)
  (hfew:((backTo cpos (starEach (e :: es) X.env)).all (fun x=>!x.1) && (backToKw cpos (keywordEach [] X.env)).all (fun x=>x.1.isSome) && decide ((e :: es).length + ([]:List Keyword).length + (if ([]:List Keyword).isEmpty then 0 else 1) < 30))=true:=by rfl)
  (hline:(apos.endLine == cpos.line)=true:=by rfl) (hs:starEach (e :: es) X.env=(false,eval e X.env) :: starEach es X.env:=by rfl) (hplain:(backTo cpos (starEach es X.env)).any (·.1)=false:=by rfl):
  PD X Ex (.Call (.Attribute o name apos) (e :: es) [] cpos) (dS1 g to t):=
 z1m (zdE PySem.F.plainAttrs_str slot hty hm ho.out ha.out hbase hfew hline hs hplain) fun hid μ σ O σv H Q e1 c1 q=>rd.go e1 c1 q fun d O1 v H1 μ1 e2 x cl r p=>by
  cases d with
  | str i=>
   unfold Dat at r
   subst r
   refine ⟨rfl,rdA.go e2 cl p fun ys O2 ws H2 μ2 e3 x3 c3 d3 p3=>?_⟩
   split at p3
   ·rename_i j
    obtain ⟨w,rfl,dw⟩:=z2D d3
    unfold Dat at dw;subst dw
    split at p3
    ·rename_i d hd
     obtain ⟨v,h1,h2⟩:=hgg _ _ _ hd
     exact ⟨_,_,v,rfl,rfl,h1,post.here p3 c3 (h2 _ _ _ _)⟩
    ·exact False.elim p3
   ·exact False.elim p3
  | _=>exact False.elim p
theorem zhl:∀ i j d,zjg i j=some d->∃ v,zjW ⟨i.toArray⟩ ⟨j.toArray⟩=some v/\∀ K H hid μ,Dat K H hid μ d v:=fun i j d h=>by
 cases h
 have e:(⟨i.toArray⟩:Str).length=i.length:=by show i.toArray.size=_;simp
 exact ⟨_,rfl,fun _ _ _ _=>by unfold Dat;rw [e]⟩
def zbu:List D->Option (List Str)
 | []=>some []
 | .str cs :: r=>(zbu r).map (⟨cs.toArray⟩ :: ·)
 | _=>none
theorem zaW {K:PySem.W.Frag}:∀ {ds:List D} {vs:List V} {ys:List Str},Dats K H hid μ ds vs->zbu ds=some ys->vs=ys.map V.str
 | [],vs,ys,h,e=>by unfold Dats at h;subst h;cases e;rfl
 | d :: ds,vs,ys,h,e=>by
  unfold Dats at h
  obtain ⟨v,r,rfl,h1,h2⟩:=h
  cases d with
  | str cs=>
   unfold zbu at e
   cases q:zbu ds with
   | none=>rw [q] at e;cases e
   | some zs=>
    rw [q] at e;cases e
    unfold Dat at h1;subst h1
    rw [zaW h2 q];rfl
  | _=>cases e
theorem z2O:∀ {ys:List Str} {us:List Value},Vals (ys.map V.str) us->PyProof.Rows.StrsAre us ys:=by
 intro ys
 induction ys with
 | nil=>intro us r;rw [List.map_nil] at r;cases r;exact .nil
 | cons y ys ih=>
  intro us r
  rw [List.map_cons] at r
  cases r with
  | cons r1 r2=>
   obtain ⟨t,e⟩:=r1
   subst e
   exact .cons y t (ih r2)
def zjp (K:PySem.W.Frag):V->List V->Hp->VK->Prop:=fun x xs H Q=>∃ i p ys,x=.str i/\xs=[.ref p]/\(SqL K H p (ys.map V.str) \/ SqT K H p (ys.map V.str))/\i.length <= 16/\(ys.map (·.length)).sum + ys.length <= 1048576/\Q (.str (Txt.join i ys)) H
theorem zfn:MtR X "str.join" (zjp X.K):=by
 intro pins s σ H x xs v us Q I rx rs h
 obtain ⟨i,p,ys,rfl,rfl,sq,hi,hw,q⟩:=h
 obtain ⟨t,rfl⟩:=rx
 obtain ⟨u,rfl,ru⟩:=z2Z rs
 cases ru
 rcases sq with sq|sq
 ·obtain ⟨its,r1,p1,z1⟩:=I.list sq
  exact wT I (PyProof.Rows.join_listW p1.isList (z2O r1) hi hw fun t' k htk=>⟨.str _,H,I.tok k,⟨_,rfl⟩,q⟩)
 ·obtain ⟨its,r1,p1,z1⟩:=I.tuple sq
  exact wT I (PyProof.Rows.join_tupleW p1 (z2O r1) hi hw fun t' k htk=>⟨.str _,H,I.tok k,⟨_,rfl⟩,q⟩)
def zde (to:DE) (t:DA):DE:=fun σ O=>(to σ O).bnd fun x O1=>match x with
 | .str i=>(t σ O1).bnd fun ys O2=>match ys with
  | [z]=>match (match lsV O2 z with|some ds=>some ds|none=>tpV z) with
   | some ds=>match zbu ds with
    | some zs=>if i.length <= 16/\(zs.map (·.length)).sum + zs.length <= 1048576 then .ok (.str (Txt.join ⟨i.toArray⟩ zs).cps.toList) O2 else .bad
    | none=>.bad
   | none=>.bad
  | _=>.bad
 | _=>.bad
theorem zgH {t:DA} {es:List Expr} {apos cpos:Pos} (ho:PD X Ex o to) (ha:PDA X Ex (e :: es) t) (hbase:attributeBase o "join" X.env (eval o X.env)=eval o X.env:=by rfl)
  (hfew:((backTo cpos (starEach (e :: es) X.env)).all (fun x=>!x.1) && (backToKw cpos (keywordEach [] X.env)).all (fun x=>x.1.isSome) && decide ((e :: es).length + ([]:List Keyword).length + (if ([]:List Keyword).isEmpty then 0 else 1) < 30))=true:=by rfl)
  (hline:(apos.endLine == cpos.line)=true:=by rfl) (hs:starEach (e :: es) X.env=(false,eval e X.env) :: starEach es X.env:=by rfl) (hplain:(backTo cpos (starEach es X.env)).any (·.1)=false:=by rfl):
  PD X Ex (.Call (.Attribute o "join" apos) (e :: es) [] cpos) (zde to t):=
 z1m (zdE PySem.F.plainAttrs_str PySem.F.slot_str_join PySem.F.type_str_join zfn ho.out ha.out hbase hfew hline hs hplain) fun hid μ σ O σv H Q e1 c1 q=>rd.go e1 c1 q fun d O1 v H1 μ1 e2 x cl r p=>by
  cases d with
  | str i=>
   unfold Dat at r
   subst r
   refine ⟨rfl,rdA.go e2 cl p fun ys O2 ws H2 μ2 e3 x3 c3 d3 p3=>?_⟩
   split at p3
   ·rename_i z
    obtain ⟨w,rfl,dw⟩:=z2D d3
    split at p3
    ·rename_i ds hds
     split at p3
     ·rename_i zs hzs
      obtain ⟨⟨h1,h2⟩,p3⟩:=post.ite p3
      have h:∃ p ws,w=.ref p/\(SqL X.K H2 p ws \/ SqT X.K H2 p ws)/\Dats X.K H2 hid μ2 ds ws:=by
       cases e1:lsV O2 z with
       | some es=>
        rw [e1] at hds;cases hds
        obtain ⟨p,ws,h1,sq,dd⟩:=z2d c3 dw e1
        exact ⟨p,ws,h1,.inl sq,dd⟩
       | none=>
        rw [e1] at hds
        obtain ⟨p,ws,h1,sq,dd⟩:=z9P dw hds
        exact ⟨p,ws,h1,.inr sq,dd⟩
      obtain ⟨pp,ws,rfl,sq,dd⟩:=h
      have ev:=zaW dd hzs
      subst ev
      refine ⟨_,pp,zs,rfl,rfl,sq,?_,h2,post.here p3 c3 ?_⟩
      ·show i.toArray.size <= 16
       simpa using h1
      ·unfold Dat;rw [z6G]
     ·exact False.elim p3
    ·exact False.elim p3
   ·exact False.elim p3
  | _=>exact False.elim p
abbrev DO:=Sg->Ow->R (Option Int)
def rdO (Ex:Nat->Hp->Prop) (K:PySem.W.Frag) (t:DO):TO:=fun σv H Q=>∃ hid μ σ O,EnvOk K H hid μ σ σv/\Cells K H hid μ O/\post Ex K (fun _ _ (d v:Option Int)=>d=v) H hid μ (t σ O) Q
structure PDO (X:Cx) (Ex:Nat->Hp->Prop) (e:Option Expr) (t:DO):Prop where
 out:PO X e (rdO Ex X.K t)
def z7u:DO:=fun _ O=>.ok none O
def z8p (t:DE):DO:=fun σ O=>(t σ O).bnd fun d O1=>match d with
 | .int i=>.ok (some i) O1
 | _=>.bad
theorem PO.imp {e:Option Expr} {t t':TO} (h:PO X e t) (f:∀ σ H Q,t' σ H Q->t σ H Q):PO X e t':=fun pins s σ H Q I q=>h pins s σ H Q I (f σ H Q q)
theorem ze3:PDO X Ex none z7u:=PDO.mk <| PO.imp zfc fun σv H Q ⟨hid,μ,σ,O,e1,c1,q⟩=>post.here (v:=none) q c1 rfl
theorem zdJ (h:PD X Ex e te):PDO X Ex (some e) (z8p te):=PDO.mk <| PO.imp (zfH h.out) fun σv H Q ⟨hid,μ,σ,O,e1,c1,q⟩=>rd.go e1 c1 q fun d O1 v H1 μ1 e2 x cl r p=>by
 cases d with
 | int i=>unfold Dat at r;subst r;exact ⟨i,rfl,post.here (v:=some i) p cl rfl⟩
 | _=>exact False.elim p
theorem rdO.go {α' β':Type} {rel':Hp->List Addr->α'->β'->Prop} {t:DO} {hid μ:List Addr} {σ:Sg} {O:Ow} {σv:St} {H:Hp} {Q1:Option Int->Hp->Prop} {k:Option Int->Ow->R α'} {Q:β'->Hp->Prop} (e1:EnvOk X.K H hid μ σ σv) (c1:Cells X.K H hid μ O)
  (q:post Ex X.K rel' H hid μ ((t σ O).bnd k) Q)
  (f:∀ v O1 H1 μ1,EnvOk X.K H1 hid μ1 σ σv->Ext H μ H1 μ1->Cells X.K H1 hid μ1 O1->post Ex X.K rel' H1 hid μ1 (k v O1) Q->Q1 v H1):rdO Ex X.K t σv H Q1:=
 ⟨hid,μ,σ,O,e1,c1,post.bnd q fun d O1 v H1 μ1 x c r p=>by
  have r:d=v:=r
  subst r
  exact f d O1 H1 μ1 (e1.ext x) x c p⟩
def zkf:V->Option Int->Option Int->Hp->VK->Prop:=fun x lo hi H Q=>∃ i,x=.str i/\i.length <= sizeLine/\Q (.str (Txt.slice i lo hi)) H
theorem zac {h:Heap} {sl:Addr} {vl vu:Value} {lo hi:Option Int} (hs:h.IsSliceOf sl vl vu .none) (pl:IsPart vl lo) (pu:IsPart vu hi):∃ l u:Option (Int × Tok),h.IsSlice sl l u none/\l.map (·.1)=lo/\u.map (·.1)=hi:=by
 obtain ⟨ob,g,k1,k2⟩:=hs
 cases pl with
 | none=>
  cases pu with
  | none=>exact ⟨none,none,⟨ob,g,k1,k2⟩,rfl,rfl⟩
  | int j t=>exact ⟨none,some (j,t),⟨ob,g,k1,k2⟩,rfl,rfl⟩
 | int i t=>
  cases pu with
  | none=>exact ⟨some (i,t),none,⟨ob,g,k1,k2⟩,rfl,rfl⟩
  | int j t'=>exact ⟨some (i,t),some (j,t'),⟨ob,g,k1,k2⟩,rfl,rfl⟩
theorem zh3:SlR X zkf:=by
 intro pins s σ H x v vl vu lo hi sl Q I rx hs pl pu h
 obtain ⟨i,rfl,hz,q⟩:=h
 obtain ⟨t,rfl⟩:=rx
 obtain ⟨l,u,hs2,rfl,rfl⟩:=zac hs pl pu
 refine ⟨"str",_,PySem.F.slot_str_getitem.lookup,typeIs_str s i t,?_⟩
 exact wT I (wpAny_getItem_str_slice (l:=l) (u:=u) (st:=none) hs2 rfl (post_val_or_str ⟨Nat.le_trans (Txt.slice_le i _ _) hz,fun t' k htk=>⟨.str _,H,I.tok k,⟨_,rfl⟩,q⟩⟩))
def ziS (xs:List D) (lo hi:Option Int):List D:=(xs.drop (HT.sIx xs.length 0 lo)).take (HT.sIx xs.length xs.length hi - HT.sIx xs.length 0 lo)
def fSl (O:Ow) (x:D) (lo hi:Option Int):R D:=match x with
 | .str i=>if i.length <= 100000 then .ok (.str (Txt.slice ⟨i.toArray⟩ lo hi).cps.toList) O else .bad
 | .tup ds=>if HT.sIx ds.length 0 lo=0/\HT.sIx ds.length ds.length hi=ds.length then .bad else .ok (.tup (ziS ds lo hi)) O
 | x=>match lsV O x with
  | some ds=>.ok (.lst (ziS ds lo hi)) O
  | none=>.bad
def dSl (te:DE) (tl th:DO):DE:=fun σ O=>(te σ O).bnd fun x O1=>(tl σ O1).bnd fun lo O2=>(th σ O2).bnd fun hi O3=>fSl O3 x lo hi
def zkB (K:PySem.W.Frag):V->Option Int->Option Int->Hp->VK->Prop:=fun x lo hi H Q=>zkf x lo hi H Q \/ zkh K x lo hi H Q \/ zjV K x lo hi H Q
theorem z9t {K:PySem.W.Frag} {ds:List D} {vs:List V} (h:Dats K H hid μ ds vs) (lo hi:Option Int):Dats K H hid μ (ziS ds lo hi) (zev vs lo hi):=by
 unfold ziS zev
 rw [h.length]
 exact Dats.take _ (Dats.drop _ h)
theorem zjm {lo hi:Option Expr} {tl th:DO} {p2:Pos} (he:PD X Ex e te) (hl:PDO X Ex lo tl) (hu:PDO X Ex hi th):PD X Ex (.Subscript e (.Slice lo hi none p2) pos) (dSl te tl th):=
 z1m (zcZ (r:=zkB X.K) (SlR.or zh3 (SlR.or zic zgn)) he.out hl.out hu.out) fun hid μ σ O σv H Q e1 c1 q=>rd.go e1 c1 q fun d O1 v H1 μ1 e2 x cl r p=>rdO.go e2 cl p fun l O2 H2 μ2 e3 x3 c3 p3=>rdO.go e3 c3 p3 fun u O3 H3 μ3 e4 x4 c4 p4=>by
  have r':=(r.ext x3).ext x4
  unfold fSl at p4
  split at p4
  ·rename_i i
   unfold Dat at r';subst r'
   obtain ⟨hl.out,p4⟩:=post.ite p4
   refine .inl ⟨_,rfl,?_,post.here p4 c4 ?_⟩
   ·show i.toArray.size <= _
    rw [List.size_toArray];exact z0O hl.out
   ·unfold Dat;rw [z6G]
  ·rename_i ds
   unfold Dat at r'
   obtain ⟨pa,vs,rfl,la,q1⟩:=r'
   split at p4
   ·exact False.elim p4
   ·rename_i hw
    refine .inr (.inl ⟨pa,vs,rfl,la.sq,by rw [<- q1.length];exact hw,fun l' hl'=>post.ok p4 (.laid hl') (c4.laid hl') (Dat.newT c4 hl' (z9t q1 l u))⟩)
  ·split at p4
   ·rename_i ds eds
    obtain ⟨pa,vs,rfl,sq,q1⟩:=z2d c4 r' eds
    exact .inr (.inr ⟨pa,vs,rfl,sq,fun l' hl'=>post.ok p4 (.laid hl') (c4.laid hl') (Dat.newL c4 hl' (z9t q1 l u))⟩)
   ·exact False.elim p4
def zj5:Ow->D->D->R D:=fun O x y=>match x,y with
 | .str i,.str j=>.ok (.bl (!(PySem.Builtin.Str.occurrences ⟨j.toArray⟩ ⟨i.toArray⟩ 0 j.length 1).isEmpty)) O
 | _,_=>.bad
theorem zfv:OpD X Ex (fun x y H Q=>∃ i j,x=.str i/\y=.str j/\Q (.bl (!(Builtin.Str.occurrences j i 0 j.length 1).isEmpty)) H) zj5:=by
 intro H hid μ O x y v w Q c dx dy q
 unfold zj5 at q
 split at q
 ·rename_i i j
  unfold Dat at dx dy;subst dx;subst dy
  refine ⟨_,_,rfl,rfl,post.here q c ?_⟩
  have e:(⟨j.toArray⟩:Str).length=j.length:=by show j.toArray.size=_;simp
  rw [e];exact z1i
 ·exact False.elim q
theorem zfm {i j:Nat} {x y:Str} {t:DA} {px py pt:Pos} {kt k2 pt2} (hc:X.calm=true) (hN:X.N.Nodup) (hi:X.N[i]?=some x) (hj:X.N[j]?=some y) (hij:i ≠ j) (hx:X.env.scope.names.lookup x=some .local) (hy:X.env.scope.names.lookup y=some .local) (ha:PDA X Ex [a,b] t)
  (hw:swappedStores [.Tuple [.Name x px,.Name y py] kt pt] (.Tuple [a,b] k2 pt2) X.env=pure (some [x,y]))
  (hs:swapsWithSole [.Tuple [.Name x px,.Name y py] kt pt] (.Tuple [a,b] k2 pt2) pos.line X.env=pure false:=by rfl):
  PDS X Ex (.Assign [.Tuple [.Name x px,.Name y py] kt pt] (.Tuple [a,b] k2 pt2) pos) (ziY i j t):=
 z2W (ziM hc hN hi hj hij hx hy ha.out hw hs) fun hid μ σ O E σv H e1 c1 q=>⟨hid,μ,σ,O,e1,c1,postS.bnS q fun d O1 vs H1 μ1 x1 c2 r p=>by
  split at p
  ·obtain ⟨v,w,rfl,d1,d2⟩:=z8s r
   exact ⟨v,w,rfl,p _ H1 μ1 .refl (((e1.ext x1).set d1 i).set d2 j) c2⟩
  ·exact False.elim p⟩
end
def z0D (K:PySem.W.Frag) (mg:Str->Option Value) (x:Str) (st:Stmt):Prop:=∃ f fd,mg x=some (.ref f)/\L2.Fun K x x st f fd
structure Callee (P:Program) (w:World) (K:PySem.W.Frag) (mg:Str->Option Value) (base:Heap) (x:Str) (k n:Nat) (F:List D->Ow->R D):Prop where
 ex:∃ f fd ps,mg x=some (.ref f)/\PySem.W.keepIn K (.ref f)=true/\Binds K fd ps []/\FnOk P w K mg base CX0 k f fd ps (DSp K Ec0 n F)
theorem zhb {X:Cx} {x:Str} {k j n:Nat} {F:List D->Ow->R D} {p pos:Pos} {e:Expr} {es:List Expr} {t:DA} (c:Callee X.prog X.w X.K X.mg X.base x k n F) (hr:Room j X.A) (hk:k <= j) (hg:Gl X x) (ha:PDA X Ex0 (e :: es) t)
  (hdb:(x == ("__debug__":Str))=false:=by decide) (he:starEach (e :: es) X.env=(false,eval e X.env) :: starEach es X.env:=by rfl) (hpl:(backTo pos (starEach es X.env)).any (·.1)=false:=by rfl):
  PD X Ex0 (.Call (.Name x p) (e :: es) [] pos) (dFn n F t):=by
 obtain ⟨f,fd,ps,hm,hkp,hb,G⟩:=c.ex
 exact zjG (Ec:=Ec0) (E:=E0) (G.mono hk) hr hg hm hkp hb zjI ha hdb he hpl
theorem fnC {P:Program} {w:World} {K:PySem.W.Frag} {mg:Str->Option Value} {base:Heap} {k:Nat} {x:Str} {st:Stmt} {N ps:List Str} {t:DS} (h:z0D K mg x st) (S:z0a N ps (z05 st))
  (hb:∀ (kV doc pm:Value) (an:Option Addr) (cdv ct:Value) (us:List Value),us.length=ps.length->bindArgs (PySem.W.fnOf x x (z2H st) (z2b st) (z05 st) .none kV doc pm an cdv ct) ⟨us,[]⟩=pure (ps.zip us))
  (hbody:∀ (f:Addr) (cdv:Value) (A:Around) (outer:List Env) (s:Shared) (H:Hp) (E:XK),Room k (A.deeper (PyProof.Rows.envOfC x (z05 st) s.heap.objs.size f cdv))->z89 (cx0 P w K mg base N x (z05 st) f cdv A outer s H E) Ex0 (z2b st) t):
  Callee P w K mg base x (k + 1) ps.length (z1H N.length t):=by
 obtain ⟨f,fd,hm,F⟩:=h
 refine ⟨f,fd,ps,hm,F.kp,F.binds hb,?_⟩
 obtain ⟨oc,od,kV,doc,pm,an,cdv,ct,osl,rfl,lk,hcd⟩:=F.ex
 exact zgU lk hcd S fun A outer s H E hr=>hbody f cdv A outer s H E hr
theorem Callee.imp {P:Program} {w:World} {K:PySem.W.Frag} {mg:Str->Option Value} {base:Heap} {k n:Nat} {x:Str} {F G:List D->Ow->R D} (c:Callee P w K mg base x k n F)
  (h:∀ ds O H hid μ Q,Cells K H hid μ O->z1G Ex0 K H hid μ (G ds O) Q->z1G Ex0 K H hid μ (F ds O) Q):Callee P w K mg base x k n G:=by
 obtain ⟨f,fd,ps,hm,hkp,hb,Fo⟩:=c.ex
 refine ⟨f,fd,ps,hm,hkp,hb,Fo.imp fun vs H Q E ⟨hl,hid,μ,ds,O,d,cl,q⟩=>⟨hl,hid,μ,ds,O,d,cl,h ds O H hid μ Q cl q⟩⟩
theorem Callee.bad {P:Program} {w:World} {K:PySem.W.Frag} {mg:Str->Option Value} {base:Heap} {k n:Nat} {x:Str} {F:List D->Ow->R D} (c:Callee P w K mg base x k n F):Callee P w K mg base x k n (fun _ _=>.bad):=
 c.imp fun _ _ _ _ _ _ _ q=>False.elim q
def frz (O:Ow) (n:Nat):Nat->D->Option D
 | 0,d=>match d with
  | .own k=>if k < n then some (.own k) else none
  | .lst _=>none
  | .tup _=>none
  | .map _ _=>none
  | d=>some d
 | f + 1,d=>match d with
  | .own k=>if k < n then some (.own k) else match O[k]? with
   | some ds=>(z0W (frz O n f) ds).map .lst
   | none=>none
  | .lst ds=>(z0W (frz O n f) ds).map .lst
  | .tup ds=>(z0W (frz O n f) ds).map .tup
  | .map _ _=>none
  | d=>some d
def z8x (n:Nat) (r:R D):R D:=match r with
 | .ok d O=>match frz O n 8 d,z0W (z0W (frz O n 8)) (O.take n) with
  | some d',some O'=>.ok d' O'
  | _,_=>.bad
 | r=>r
section
variable {K:PySem.W.Frag} {H:Hp} {hid μ ν:List Addr} {O:Ow} {n:Nat}
theorem z2x {f:D->Option D} {μ':List Addr} (ih:∀ d d' v,f d=some d'->Dat K H hid μ d v->Dat K H hid μ' d' v):∀ (ds ds':List D) (vs:List V),z0W f ds=some ds'->Dats K H hid μ ds vs->Dats K H hid μ' ds' vs
 | [],ds',vs,e,h=>by cases e;unfold Dats at h ⊢;exact h
 | d :: ds,ds',vs,e,h=>by
  unfold z0W at e
  split at e
  ·rename_i p ps e1 e2
   cases e
   unfold Dats at h
   obtain ⟨v,r,rfl,h1,h2⟩:=h
   exact .cons (ih d p v e1 h1) (z2x ih ds ps r e2 h2)
  ·cases e
theorem zew (c:Cells K H hid (μ ++ ν) O) (hn:μ.length=n):∀ (f:Nat) (d d':D) (v:V),frz O n f d=some d'->Dat K H hid (μ ++ ν) d v->Dat K H hid μ d' v:=by
 have sub:∀ {a:Addr},a ∉ μ ++ ν->a ∉ μ:=fun h m=>h (List.mem_append_left _ m)
 have low:∀ {k:Nat} {v:V},k < n->Dat K H hid (μ ++ ν) (.own k) v->Dat K H hid μ (.own k) v:=fun {k v} hk h=>by
  unfold Dat at h ⊢
  obtain ⟨a,rfl,e⟩:=h
  rw [List.getElem?_append_left (by omega)] at e
  exact ⟨a,rfl,e⟩
 have dc:∀ {v:V},Dat K H hid (μ ++ ν) .dct v->Dat K H hid μ .dct v:=fun {v} h=>by
  unfold Dat at h ⊢
  obtain ⟨a,rfl,r,n1,n2⟩:=h
  exact ⟨a,rfl,r,n1,sub n2⟩
 have xc:∀ {C:Nat} {v:V},Dat K H hid (μ ++ ν) (.exn C) v->Dat K H hid μ (.exn C) v:=fun {C v} h=>by
  unfold Dat at h ⊢
  obtain ⟨a,φ,rfl,g,r,n1,n2⟩:=h
  exact ⟨a,φ,rfl,g,r,n1,sub n2⟩
 intro f
 induction f with
 | zero=>
  intro d d' v e h
  cases d with
  | own k=>
   unfold frz at e;dsimp only at e
   split at e
   ·rename_i hk;cases e;exact low hk h
   ·cases e
  | lst ds=>cases e
  | tup ds=>cases e
  | dct=>cases e;exact dc h
  | map ks ds=>cases e
  | exn C=>cases e;exact xc h
  | tab P=>cases e;unfold Dat at h ⊢;exact h
  | non=>cases e;unfold Dat at h ⊢;exact h
  | bl b=>cases e;unfold Dat at h ⊢;exact h
  | int i=>cases e;unfold Dat at h ⊢;exact h
  | str i=>cases e;unfold Dat at h ⊢;exact h
 | succ f ih=>
  intro d d' v e h
  cases d with
  | own k=>
   unfold frz at e;dsimp only at e
   split at e
   ·rename_i hk;cases e;exact low hk h
   ·rename_i hk
    unfold Dat at h
    obtain ⟨a,rfl,hk2⟩:=h
    obtain ⟨ds,vs,h1,h2,h3⟩:=c.at_ k a hk2
    rw [h1] at e
    dsimp only at e
    cases e1:z0W (frz O n f) ds with
    | none=>rw [e1] at e;cases e
    | some ps=>
     rw [e1] at e;cases e
     unfold Dat
     refine ⟨a,vs,rfl,.inl ⟨.inl h2,c.nh a (List.mem_of_getElem? hk2),fun m=>?_⟩,z2x ih ds ps vs e1 h3⟩
     obtain ⟨j,hj,ej⟩:=List.mem_iff_getElem.mp m
     have q1:(μ ++ ν)[j]?=some a:=by rw [List.getElem?_append_left hj,List.getElem?_eq_getElem hj,ej]
     obtain ⟨w1,z1⟩:=List.getElem?_eq_some_iff.mp q1
     obtain ⟨w2,z2⟩:=List.getElem?_eq_some_iff.mp hk2
     have:=(List.getElem_inj c.nd).mp (z1.trans z2.symm)
     omega
  | lst ds=>
   unfold frz at e;dsimp only at e
   unfold Dat at h
   obtain ⟨a,vs,rfl,l,q⟩:=h
   cases e1:z0W (frz O n f) ds with
   | none=>rw [e1] at e;cases e
   | some ps=>
    rw [e1] at e;cases e
    unfold Dat
    exact ⟨a,vs,rfl,l.imp (fun z=>⟨z.1,z.2.1,sub z.2.2⟩) id,z2x ih ds ps vs e1 q⟩
  | tup ds=>
   unfold frz at e;dsimp only at e
   unfold Dat at h
   obtain ⟨a,vs,rfl,l,q⟩:=h
   cases e1:z0W (frz O n f) ds with
   | none=>rw [e1] at e;cases e
   | some ps=>
    rw [e1] at e;cases e
    unfold Dat
    exact ⟨a,vs,rfl,l.imp (fun z=>⟨z.1,z.2.1,sub z.2.2⟩) id,z2x ih ds ps vs e1 q⟩
  | dct=>cases e;exact dc h
  | map ks ds=>cases e
  | exn C=>cases e;exact xc h
  | tab P=>cases e;unfold Dat at h ⊢;exact h
  | non=>cases e;unfold Dat at h ⊢;exact h
  | bl b=>cases e;unfold Dat at h ⊢;exact h
  | int i=>cases e;unfold Dat at h ⊢;exact h
  | str i=>cases e;unfold Dat at h ⊢;exact h
theorem z6b {α β:Type} {f:α->Option β}:∀ {l:List α} {r:List β},z0W f l=some r->r.length=l.length
 | [],r,e=>by cases e;rfl
 | x :: l,r,e=>by
  unfold z0W at e
  split at e
  ·rename_i p ps e1 e2;cases e;simp [z6b e2]
  ·cases e
theorem z9q {α β:Type} {f:α->Option β}:∀ {l:List α} {r:List β} {k:Nat} {y:β},z0W f l=some r->r[k]?=some y->∃ x,l[k]?=some x/\f x=some y
 | [],r,k,y,e,h=>by cases e;simp at h
 | x :: l,r,k,y,e,h=>by
  unfold z0W at e
  split at e
  ·rename_i p ps e1 e2
   cases e
   cases k with
   | zero=>simp at h;subst h;exact ⟨x,by simp,e1⟩
   | succ k=>obtain ⟨z,h1,h2⟩:=z9q (k:=k) e2 (by simpa using h);exact ⟨z,by simpa using h1,h2⟩
  ·cases e
theorem zcN {Ex:Nat->Hp->Prop} {r:R D} {Q:VK} (hn:μ.length=n) (q:z1G Ex K H hid μ (z8x n r) Q):z1G Ex K H hid μ r Q:=by
 cases r with
 | bad=>exact q
 | exc c O'=>exact q
 | ok d O'=>
  intro v H' μ' x c h
  obtain ⟨ν,rfl⟩:=x.pre
  have q1:z1G Ex K H hid μ (match frz O' n 8 d,z0W (z0W (frz O' n 8)) (O'.take n) with|some d',some O2=>.ok d' O2|_,_=>.bad) Q:=q
  cases e1:frz O' n 8 d with
  | none=>rw [e1] at q1;exact False.elim q1
  | some d'=>
   cases e2:z0W (z0W (frz O' n 8)) (O'.take n) with
   | none=>rw [e1,e2] at q1;exact False.elim q1
   | some O2=>
    rw [e1,e2] at q1
    have xe:Ext H μ H' μ:=⟨⟨[],by simp⟩,x.kept,fun _ m=>.inl m,x.there,x.tab⟩
    have hl:O'.length=(μ ++ ν).length:=c.len.symm
    have c2:Cells K H' hid μ O2:=by
     refine ⟨?_,(List.nodup_append.mp c.nd).1,fun a m=>c.nh a (List.mem_append_left _ m),c.ht,fun k a e=>?_⟩
     ·rw [z6b e2,List.length_take,hl,List.length_append,hn];omega
     ·have hk:k < μ.length:=(List.getElem?_eq_some_iff.mp e).1
      obtain ⟨ds,vs,h1,h2,h3⟩:=c.at_ k a (by rw [List.getElem?_append_left hk];exact e)
      have hk2:k < O2.length:=by rw [z6b e2,List.length_take,hl,List.length_append,hn];omega
      obtain ⟨ds',g1,g2⟩:=z9q e2 (List.getElem?_eq_getElem hk2)
      have:ds'=ds:=by
       rw [List.getElem?_take,if_pos (by omega),h1] at g1
       cases g1;rfl
      subst this
      exact ⟨_,vs,List.getElem?_eq_getElem hk2,h2,z2x (zew c hn 8) _ _ vs g2 h3⟩
    exact q1 v H' μ xe c2 (zew c hn 8 d d' v e1 h)
end
def zfB (F:List D->Ow->R D):List D->Ow->R D:=fun ds O=>z8x O.length (F ds O)
theorem Callee.frz {P:Program} {w:World} {K:PySem.W.Frag} {mg:Str->Option Value} {base:Heap} {k n:Nat} {x:Str} {F:List D->Ow->R D} (c:Callee P w K mg base x k n F):Callee P w K mg base x k n (zfB F):=
 c.imp fun ds O H hid μ Q cl q=>zcN cl.len q
def zk8 (sc scope:Scope) (N':List Str) (sl:List Nat):Bool:=
 (match scope.kind with|.function=>true|_=>false) && decide ((scope.names.map (·.1)).Nodup) && (scope.names.all fun y=>!(y.2 == .free) || sc.names.lookup y.1 == some .cell || sc.names.lookup y.1 == some .free) &&
 (N'.zipIdx.all fun p=>!((scope.names.any fun y=>y.1 == p.1 && y.2 == .local) || (scope.names.any fun y=>y.1 == p.1 && y.2 == .cell)) || sl.contains p.2)
theorem z2t {sc scope:Scope} {N':List Str} {sl:List Nat} (h:zk8 sc scope N' sl=true):BOk sc scope N' sl:=by
 unfold zk8 at h
 simp only [Bool.and_eq_true,decide_eq_true_eq,List.all_eq_true] at h
 obtain ⟨⟨⟨h1,h2⟩,h3⟩,h4⟩:=h
 refine ⟨?_,h2,fun y hy hf=>?_,fun i x hx hm=>?_⟩
 ·cases e:scope.kind <;> rw [e] at h1 <;> first|rfl|cases h1
 ·have:=h3 y hy
  rw [hf] at this
  simpa using this
 ·have hp:(x,i) ∈ N'.zipIdx:=by
   rw [List.mem_zipIdx_iff_getElem?];exact hx
  have h:=h4 _ hp
  have hany:((scope.names.any fun y=>y.1 == x && y.2 == .local) || (scope.names.any fun y=>y.1 == x && y.2 == .cell))=true:=by
   rw [Bool.or_eq_true]
   exact hm.imp (fun m=>List.any_eq_true.mpr ⟨_,m,by simp⟩) fun m=>List.any_eq_true.mpr ⟨_,m,by simp⟩
  have h:(!((scope.names.any fun y=>y.1 == x && y.2 == .local) || (scope.names.any fun y=>y.1 == x && y.2 == .cell)) || sl.contains i)=true:=h
  rw [hany] at h
  simpa using h
structure zjR (mg:Str->Option Value) (x:Str) (cs:List Nat):Prop where
 ex:∃ t,mg x=some (.str ⟨cs.toArray⟩ t)
section
variable {X:Cx} {Ex:Nat->Hp->Prop} {pos:Pos} {a b c e:Expr} {ta:DE} {pins:List (Addr × Obj)} {σv:St} {H:Hp} {s:Shared} {hid μ:List Addr} {O:Ow}
theorem zeY {x:Str} {cs:List Nat} (h:zjR X.mg x cs) (hg:Gl X x:=by rfl) (hd:(x == ("__debug__":Str))=false:=by decide):PD X Ex (.Name x pos) (dC (.str cs)):=by
 obtain ⟨t,h⟩:=h.ex
 exact zdO cs hg h rfl hd
def zan (C C':String) (t:DE):DE:=fun σ O=>(t σ O).bnd fun d O1=>.ok (.bl (z86 (z2S d) C || z86 (z2S d) C')) O1
theorem zbO:CallR X (.builtin "isinstance") (fun xs H Q=>∃ x p C C' hid μ O d,xs=[x,.ref p]/\SqT X.K H p [.ty C,.ty C']/\C ∈ kOk/\C' ∈ kOk/\Cells X.K H hid μ O/\Dat X.K H hid μ d x/\Q (.bl (z86 (z2S d) C || z86 (z2S d) C')) H):=by
 intro pins s σ H xs us Q I r h
 obtain ⟨x,tp,C,C',hid,μ,O,d,rfl,sq,hC,hC',cl,dx,q⟩:=h
 obtain ⟨u,w',rfl,rx,rc⟩:=zaf r
 cases rc
 obtain ⟨T,Hh,Z,p,hx,hk⟩:=z55 I cl dx rx
 obtain ⟨its,rv,⟨⟨c1,d1,t1,s1⟩,h1,h2,n,h3⟩,hz⟩:=I.tuple sq
 simp only at h2 h3
 subst h2 h3
 obtain ⟨v1,v2,rfl,r1,r2⟩:=zaf rv
 cases r1;cases r2
 refine wT I (PySem.W.kia_tup (b:=z86 (z2S d) C || z86 (z2S d) C') Z I.kIn p h1 ?_ hx fun tk htk=>⟨.bl _,H,I.tok tk,rfl,q⟩)
 unfold PySem.W.kitAny
 rw [hk _ hC]
 cases z86 (z2S d) C with
 | true=>rfl
 | false=>
  dsimp only
  unfold PySem.W.kitAny
  rw [hk _ hC']
  cases z86 (z2S d) C' <;> rfl
theorem zgt {C C':Str} {n n':String} {p p' p'' pt:Pos} {kt} (ha:PD X Ex a ta) (hn:n ∈ kOk) (hn':n' ∈ kOk) (hg:Gl X "isinstance") (hm:X.mg "isinstance" = none) (hv:bootBuiltins "isinstance" = some (.builtin "isinstance")) (hgC:Gl X C) (hmC:X.mg C=none) (hvC:bootBuiltins C=some (.type n))
  (hgC':Gl X C') (hmC':X.mg C'=none) (hvC':bootBuiltins C'=some (.type n')) (hCn:C ≠ "__name__":=by decide) (hCd:(C == ("__debug__":Str))=false:=by decide) (hCn':C' ≠ "__name__":=by decide) (hCd':(C' == ("__debug__":Str))=false:=by decide)
  (he:starEach [a,.Tuple [.Name C p',.Name C' p''] kt pt] X.env=(false,eval a X.env) :: starEach [.Tuple [.Name C p',.Name C' p''] kt pt] X.env:=by rfl) (he2:starEach [.Tuple [.Name C p',.Name C' p''] kt pt] X.env=[(false,eval (.Tuple [.Name C p',.Name C' p''] kt pt) X.env)]:=by rfl)
  (hpl:(backTo pos (starEach [.Tuple [.Name C p',.Name C' p''] kt pt] X.env)).any (·.1)=false:=by rfl) (h3:starEach [.Name C p',.Name C' p''] X.env=(false,eval (.Name C p') X.env) :: starEach [.Name C' p''] X.env:=by rfl) (h4:starEach [.Name C' p''] X.env=[(false,eval (.Name C' p'') X.env)]:=by rfl):
  PD X Ex (.Call (.Name "isinstance" p) [a,.Tuple [.Name C p',.Name C' p''] kt pt] [] pos) (zan n n' ta):=
 z1m (z4r (zbO (X:=X)) hg hm hv (z2z ha.out (z2z (zen (z2z (z93 (v:=.ty n) hgC hmC hvC rfl hCn hCd) (z2z (z93 (v:=.ty n') hgC' hmC' hvC' rfl hCn' hCd') z78 h4) h3)) z78 he2) he) (by decide) (by decide) he hpl) fun hid μ σ O σv H Q e1 c1 q=>rd.go e1 c1 q fun d O1 v H1 μ1 e2 x cl r p2=>
  ⟨by show 2 <= sizeLine;decide,fun l hl=>⟨v,l,n,n',hid,μ1,O1,d,rfl,.of z0u,hn,hn',cl.laid hl,r.ext (.laid hl),post.ok p2 (.laid hl) (cl.laid hl) z1i⟩⟩
def fIn:Ow->D->D->R D:=fun O x y=>match y with
 | .str _=>zj5 O x y
 | _=>fPy inF O x y
def z3W:Ow->D->D->R D:=fun O x y=>match y with
 | .str _=>match zj5 O x y with
  | .ok (.bl b) O1=>.ok (.bl (!b)) O1
  | _=>.bad
 | _=>fPy zgN O x y
theorem zeq (hu:X.A.units + 64 < cLine):OpR X (compareOp .In) (fun x y H Q=>rPy X.K inF x y H Q \/ ∃ i j,x=.str i/\y=.str j/\Q (.bl (!(Builtin.Str.occurrences j i 0 j.length 1).isEmpty)) H):=OpR.or (zg5 hu) zbR
theorem zee:OpD X Ex (fun x y H Q=>rPy X.K inF x y H Q \/ ∃ i j,x=.str i/\y=.str j/\Q (.bl (!(Builtin.Str.occurrences j i 0 j.length 1).isEmpty)) H) fIn:=by
 intro H hid μ O x y v w Q c dx dy q
 unfold fIn at q
 split at q
 ·exact .inr (zfv H hid μ O _ _ v w Q c dx dy q)
 ·exact .inl (z5Z H hid μ O x y v w Q c dx dy q)
theorem zba (hu:X.A.units + 64 < cLine):OpR X (compareOp .NotIn) (fun x y H Q=>rPy X.K zgN x y H Q \/ ∃ i j,x=.str i/\y=.str j/\Q (.bl (!(!(Builtin.Str.occurrences j i 0 j.length 1).isEmpty))) H):=OpR.or (zdX hu) z7Y
theorem zcb:OpD X Ex (fun x y H Q=>rPy X.K zgN x y H Q \/ ∃ i j,x=.str i/\y=.str j/\Q (.bl (!(!(Builtin.Str.occurrences j i 0 j.length 1).isEmpty))) H) z3W:=by
 intro H hid μ O x y v w Q c dx dy q
 unfold z3W at q
 split at q
 ·rename_i cs
  cases x with
  | str i=>
   unfold Dat at dx dy;subst dx;subst dy
   refine .inr ⟨_,_,rfl,rfl,post.here (d:=D.bl (!(!(PySem.Builtin.Str.occurrences ⟨cs.toArray⟩ ⟨i.toArray⟩ 0 cs.length 1).isEmpty))) q c ?_⟩
   have e:(⟨cs.toArray⟩:Str).length=cs.length:=by show cs.toArray.size=_;simp
   rw [e];exact z1i
  | _=>exact False.elim q
 ·exact .inl (z5Z H hid μ O x y v w Q c dx dy q)
end
section
variable {X:Cx} {pins:List (Addr × Obj)} {σv:St} {H:Hp} {s:Shared}
theorem Inv.turns {h':Heap} {t':Nat} (ch:List Addr) (I:L2.Inv X pins σv H s) (k:∀ b o,b ∉ ch->s.heap.get? b=some o->h'.get? b=some o) (hf:∀ b ∈ ch,z88 X pins H b) (ht:0 < t':=by first|assumption|exact Inv.tk ‹_›):L2.Inv X pins σv H { s with heap:=h',toks:=t' }:=by
 have nit:∀ b u,H b=some u->b ∉ ch:=fun b u e z=>by rw [(hf b z).1] at e;cases e
 have un:Un (frs X.stack) ch H H s.heap h':=⟨fun b o e _ _ n=>k b o n e,fun b o e _ _ n=>⟨o.slots,k b o n e⟩,fun _ _ _ n _=>n,fun b o e n=>⟨o,k b o n e⟩,fun _ _ e=>e,fun _ _ _ e=>e,fun b ps e=>⟨#[],by rw [e];simp⟩⟩
 have hok:HOk X.prog X.w H h':=fun b u e=>(I.hok b u e).stay (fun c v hc q=>k c v (by
  rcases hc with z|z
  ·rw [z];exact nit b u e
  ·exact nit c _ z) q) (fun _ q=>q) fun _ _ q=>q
 exact I.call (t':=t') (d':=s.drawn) un hok I.bare fun b hb=>let ⟨_,f1,_,f3,f4,f5⟩:=hf b hb;⟨f3,f1,f4,f5⟩
end
def LsAt (K:PySem.W.Frag) (src:Src) (a:Addr) (H:Hp) (hid μ:List Addr):Prop:=∀ hid' H' μ' O',Mv H hid μ H' hid' μ'->Cells K H' hid' μ' O'->∃ ds vs,SqL K H' a vs/\Dats K H' hid' μ' ds vs/\∀ i,src.get O' i=ds[i]?
section
variable {K:PySem.W.Frag} {H:Hp} {hid μ:List Addr}
theorem LsAt.val {ds:List D} {vs:List V} {a:Addr} (l:LstAt K H hid μ a vs) (q:Dats K H hid μ ds vs):LsAt K (.val ds) a H hid μ:=fun hid' H' μ' O' m c=>⟨ds,vs,(l.mv m).sq,q.mv m,fun _=>rfl⟩
theorem LsAt.own {k:Nat} {a:Addr} (hk:μ[k]?=some a):LsAt K (.own k) a H hid μ:=by
 intro hid' H' μ' O' m c
 obtain ⟨ν,rfl⟩:=m.pre
 have hk':(μ ++ ν)[k]?=some a:=by rw [List.getElem?_append_left (List.getElem?_eq_some_iff.mp hk).1];exact hk
 obtain ⟨ds,vs,h1,h2,h3⟩:=c.at_ k a hk'
 exact ⟨ds,vs,.of h2,h3,fun i=>by show (match O'[k]? with|some ds=>ds[i]?|none=>none)=_;rw [h1]⟩
theorem LsAt.mv {src:Src} {a:Addr} {H1:Hp} {hid1 μ1:List Addr} (h:LsAt K src a H hid μ) (e:Mv H hid μ H1 hid1 μ1):LsAt K src a H1 hid1 μ1:=fun hid' H' μ' O' m c=>h hid' H' μ' O' (e.trans m) c
end
def zgQ:D->Option Src
 | .lst ds=>some (.val ds)
 | .own k=>some (.own k)
 | _=>none
def zkT (t:DA):DI:=fun σ O=>(t σ O).bnd fun xs O1=>match xs with
 | [x,y]=>match zgQ x,zgQ y with
  | some p,some q=>.ok (.zip p q) O1
  | _,_=>.bad
 | _=>.bad
section
variable {X:Cx} {Ex:Nat->Hp->Prop} {c e:Expr} {pins:List (Addr × Obj)} {H:Hp} {s:Shared} {hid μ:List Addr} {O:Ow}
theorem zdY:bootBuiltins "zip" = some (.type "zip"):=by boot_by_name
theorem zif {i j:Nat} {x y:Str} {px py pt:Pos} {kt:Nat} (hc:X.calm=true) (hN:X.N.Nodup) (hi:X.N[i]?=some x) (hj:X.N[j]?=some y) (hx:Loc X.env.scope x) (hy:Loc X.env.scope y)
  (hf:X.fn x=true \/ X.env.scope.names.lookup x=some .local) (hf2:X.fn y=true \/ X.env.scope.names.lookup y=some .local):PG X (.Tuple [.Name x px,.Name y py] kt pt) ((Tg.two i j).rd X.K):=
 zes hc (z3v (z3I hN hi hx hf) (z3v (z3I hN hj hy hf2) zcv))
def zcr:List D->Option (List Int)
 | []=>some []
 | .int i :: r=>(zcr r).map (i :: ·)
 | _=>none
theorem zax {K:PySem.W.Frag}:∀ {ds:List D} {vs:List V} {ns:List Int},Dats K H hid μ ds vs->zcr ds=some ns->vs=ns.map V.int
 | [],vs,ys,h,e=>by unfold Dats at h;subst h;cases e;rfl
 | d :: ds,vs,ys,h,e=>by
  unfold Dats at h
  obtain ⟨v,r,rfl,h1,h2⟩:=h
  cases d with
  | int i=>
   unfold zcr at e
   cases q:zcr ds with
   | none=>rw [q] at e;cases e
   | some zs=>
    rw [q] at e;cases e
    unfold Dat at h1;subst h1
    rw [zax h2 q];rfl
  | _=>cases e
def z8O:Ow->List D->R D:=fun O xs=>match xs with
 | [.str cs]=>match PySem.intText? ⟨cs.toArray⟩ with
  | some n=>if cs.length <= 640 then .ok (.int n) O else .bad
  | none=>.bad
 | xs=>zjv O xs
theorem zbh:CallR X (.type "int") (fun xs H Q=>∃ x n,xs=[.str x]/\PySem.intText? x=some n/\x.length <= 640/\Q (.int n) H):=by
 intro pins s σ H xs us Q I r h
 obtain ⟨x,n,rfl,hn,hl,q⟩:=h
 obtain ⟨u,rfl,t,rfl⟩:=z2Z r
 exact PySem.W.KIN.call_text hn hl ⟨.int _,H,I.tok _,⟨_,rfl⟩,q⟩
def zhF:List V->Hp->VK->Prop:=fun xs H Q=>((∃ i,xs=[.int i]/\Q (.int i) H) \/ ∃ k,xs=[.bl k]/\Q (.int (if k then 1 else 0)) H) \/ ∃ x n,xs=[.str x]/\PySem.intText? x=some n/\x.length <= 640/\Q (.int n) H
theorem zbd:CallR X (.type "int") zhF:=CallR.or zcg zbh
theorem zfl:z35 X Ex zhF z8O:=by
 intro H hid μ O xs vs Q c d q
 unfold z8O at q
 split at q
 ·rename_i cs
  obtain ⟨v,rfl,dx⟩:=z2D d
  unfold Dat at dx;subst dx
  split at q
  ·rename_i n hn
   obtain ⟨hl,q⟩:=post.ite q
   refine .inr ⟨_,n,rfl,hn,?_,post.here q c z0I⟩
   show cs.toArray.size <= 640
   simpa using hl
  ·exact False.elim q
 ·exact .inl (zhn H hid μ O _ vs Q c d q)
end
theorem Callee.self {P:Program} {w:World} {K:PySem.W.Frag} {mg:Str->Option Value} {base:Heap} {k n:Nat} {x:Str} {F:List D->Ow->R D} (c:Callee P w K mg base x k n F):Callee P w K mg base x k n F:=c
section
variable {X:Cx} {Ex:Nat->Hp->Prop} {pos dpos:Pos} {e o i:Expr} {ti:DE} {pins:List (Addr × Obj)} {σv:St} {H:Hp} {s:Shared} {hid μ:List Addr} {O:Ow}
theorem zdz:PDS X Ex (.Pass pos) z1z:=z2W zgg fun hid μ σ O E σv H e1 c1 q=>q σv H μ .refl e1 c1
def zfa (tab:List (Int × Int)):List (Key × V):=tab.map fun kv=>(Sum.inl kv.1,V.int kv.2)
def z2q (tab:List (Int × Int)) (i:Int):Option Int:=(tab.find? fun kv=>kv.1 == i).map (·.2)
def zik (tab:List (Int × Int)) (i:Int):Option Int:=match z6Y (z3t [] (zfa tab)) (Sum.inl i) with
 | some (.int v)=>some v
 | _=>none
def zhP (at_:List (Int × Int)->Int->Option Int) (tab:List (Int × Int)) (t:DE):DE:=fun σ O=>(t σ O).bnd fun x O1=>match x with
 | .int i=>match at_ tab i with
  | some v=>.ok (.int v) O1
  | none=>.bad
 | _=>.bad
def zhC:List (Int × Int)->DE->DE:=zhP zik
def zi7:List (Int × Int)->DE->DE:=zhP z2q
theorem z44 {σ:St} {H:Hp} {Q:List (V × V)->Hp->Prop}:∀ {tab:List (Int × Int)},Q (tab.map fun kv=>(V.int kv.1,V.int kv.2)) H->z7c (tab.map fun kv=>(tC (.int kv.1),tC (.int kv.2))) σ H Q
 | [],h=>h
 | kv :: r,h=>by
  show z7c (r.map fun kv=>(tC (.int kv.1),tC (.int kv.2))) σ H fun ps H3=>Q ((V.int kv.1,V.int kv.2) :: ps) H3
  exact z44 (tab:=r) h
theorem zhX {keys:List (Option Expr)} {values:List Expr} {trs:List (TE × TE)} (tab:List (Int × Int)) (h:PPs X dpos keys values trs) (htr:trs=tab.map fun kv=>(tC (.int kv.1),tC (.int kv.2))) (hall:keys.all (·.isSome)=true) (hl:keys.length=values.length) (h0:keys ≠ []) (h15:keys.length <= 15) (h15':tab.length <= 15)
  (hu:X.A.units + 1 < cLine) (hi:PD X Ex i ti) (hs:zgJ i):PD X Ex (.Subscript (.Dict keys values dpos) i pos) (zhC tab ti):=
 z1m (zeZ hu (zfK h hall hl h0 h15) hi.out hs) fun hid μ σ O σv H Q e1 c1 q=>fun p hp=>by
  subst htr
  refine z44 ⟨z0u,zfa tab,by simp [zfa,kV],by simpa [zfa] using h15',?_⟩
  rw [zfg]
  have x0:Ext H μ (upd H p (.dK (z3t [] (zfa tab)))) μ:=.laid hp
  refine rd.go (e1.ext x0) (c1.laid hp) (post.ext q x0) fun d O1 v H1 μ1 e2 x1 c2 r p2=>?_
  cases d with
  | int j=>
   unfold Dat at r;subst r
   have p2:z1G Ex X.K H1 hid μ1 (match zik tab j with|some v=>.ok (.int v) O1|none=>.bad) Q:=p2
   cases et:zik tab j with
   | none=>rw [et] at p2;exact False.elim p2
   | some v=>
    rw [et] at p2
    have hv:z6Y (z3t [] (zfa tab)) (Sum.inl j)=some (.int v):=by
     unfold zik at et
     split at et
     ·rename_i w hw;cases et;exact hw
     ·cases et
    refine ⟨p,.int v,rfl,.inl ⟨z3t [] (zfa tab),Sum.inl j,.inl (x1.keep p _ z0u (c1.not_in hp).2),rfl,hv.symm⟩,post.here p2 c2 z0I⟩
  | _=>exact False.elim p2
def zj3:List DictEntry->List (Int × Int)->Bool
 | [],[]=>true
 | e :: es,(k,v) :: r=>(match e.key with|.int i _=>i == k|_=>false) && (e.hash == hashInt k) && (match e.val with|.int i _=>i == v|_=>false) && zj3 es r
 | _,_=>false
def zj6 (o:Obj) (tab:List (Int × Int)):Bool:=(match o.cls with|.type n=>n == "dict"|_=>false) && o.dict.isNone && o.slots.isEmpty && decide ((tab.map (·.1)).Nodup) && (match o.data with|.dict es _=>zj3 es.toList tab|_=>false)
structure zgk (K:PySem.W.Frag) (mg:Str->Option Value) (x:Str) (tab:List (Int × Int)):Prop where
 ex:∃ e o,mg x=some (.ref e)/\K.lookup e=some o/\zj6 o tab=true/\(e == sysModules)=false
theorem z5K {P:Program} {w:World}:∀ {es:List DictEntry} {tab:List (Int × Int)},zj3 es tab=true->∃ kvs:List (Int × Value),Pairs (intKind P w) es kvs/\(∀ e ∈ es,∃ k,(intKind P w).is k e.key=true/\e.hash=(intKind P w).hash k)/\kvs.map (·.1)=tab.map (·.1)/\
  ∀ i,(valueAt kvs i).isSome=(z2q tab i).isSome/\∀ v,z2q tab i=some v->∃ t,valueAt kvs i=some (.int v t)
 | [],[],_=>⟨[],.nil,by simp,rfl,fun i=>⟨rfl,fun v h=>by cases h⟩⟩
 | [],_ :: _,h=>by cases h
 | _ :: _,[],h=>by cases h
 | e :: es,(k,v) :: r,h=>by
  obtain ⟨hash,key,val⟩:=e
  unfold zj3 at h
  simp only [Bool.and_eq_true] at h
  obtain ⟨⟨⟨h1,h2⟩,h3⟩,h4⟩:=h
  split at h1
  ·rename_i i t
   split at h3
   ·rename_i j u
    have h1:i=k:=by simpa using h1
    have h2:hash=hashInt k:=by simpa using h2
    have h3:j=v:=by simpa using h3
    subst h1 h3
    obtain ⟨kvs,p,ks,em,at_⟩:=z5K (P:=P) (w:=w) h4
    have isk:(intKind P w).is i (.int i t)=true:=by show Value.isInt i (.int i t)=true;simp [Value.isInt]
    refine ⟨(i,.int j u) :: kvs,.cons isk rfl p,fun e he=>?_,by simp [em],fun q=>?_⟩
    ·rcases List.mem_cons.mp he with rfl|he
     ·exact ⟨i,isk,h2⟩
     ·exact ks e he
    ·unfold valueAt z2q
     by_cases hq:i=q
     ·subst hq
      simp
     ·have f1:(decide ((i,Value.int j u).1=q))=false:=by simpa using hq
      have f2:((i,j).1 == q)=false:=by simpa using hq
      rw [List.find?_cons,List.find?_cons,f1,f2]
      exact at_ q
   ·cases h3
  ·cases h1
theorem zd2 {P:Program} {w:World} {o:Obj} {tab:List (Int × Int)} (h:zj6 o tab=true):∃ f:Int->Option Value,(∀ (hp:Heap) (e:Addr),hp.get? e=some o->hp.MapOf (intKind P w) e f)/\∀ i,(f i).isSome=(z2q tab i).isSome/\∀ v,z2q tab i=some v->∃ t,f i=some (.int v t):=by
 obtain ⟨cls,dict,data,slots⟩:=o
 unfold zj6 at h
 simp only [Bool.and_eq_true,decide_eq_true_eq] at h
 obtain ⟨⟨⟨⟨h1,h2⟩,h3⟩,h4⟩,h5⟩:=h
 split at h1
 ·rename_i n
  have h1:n = "dict":=by simpa using h1
  split at h5
  ·rename_i es ep
   obtain ⟨kvs,p,ks,em,at_⟩:=z5K (P:=P) (w:=w) h5
   refine ⟨valueAt kvs,fun hp e he=>?_,at_⟩
   refine Heap.DictOf.mapOf (knd:=intKind P w) ⟨_,es,ep,he,⟨?_,?_,?_⟩,rfl,?_,p,by rw [em];exact h4⟩
   ·show Value.type n=_;rw [h1]
   ·simpa using h2
   ·simpa using h3
   ·intro e he
    exact ks e (by simpa using he)
  ·cases h5
 ·cases h1
theorem zbc {x:Str} {tab:List (Int × Int)} (h:zgk X.K X.mg x tab):∃ e,X.mg x=some (.ref e)/\(e == sysModules)=false/\∃ f:Int->Option Value,(∀ (pins:List (Addr × Obj)) (σv:St) (H:Hp) (s:Shared),L2.Inv X pins σv H s->s.heap.MapOf (intKind X.prog X.w) e f)/\
  ∀ i,(f i).isSome=(z2q tab i).isSome/\∀ v,z2q tab i=some v->∃ t,f i=some (.int v t):=by
 obtain ⟨e,o,h1,h2,h3,h4⟩:=h.ex
 obtain ⟨f,m,at_⟩:=zd2 (P:=X.prog) (w:=X.w) h3
 exact ⟨e,h1,h4,f,fun pins σv H s I=>m _ e (I.kIn e o h2),at_⟩
theorem z3Y (i:Int) (t:Tok) {P:Program} {w:World}:(intKind P w).is i (.int i t)=true:=by show Value.isInt i (.int i t)=true;simp [Value.isInt]
theorem zgz {x:Str} {tab:List (Int × Int)} {p:Pos} (h:zgk X.K X.mg x tab) (hg:Gl X x) (hi:PD X Ex i ti) (hs:zgJ i) (hd:(x == ("__debug__":Str))=false:=by decide):PD X Ex (.Subscript (.Name x p) i pos) (zi7 tab ti):=by
 obtain ⟨e,h1,h4,f,mp,at_⟩:=zbc h
 refine ⟨?_⟩
 rintro pins s σv H Q I ⟨hid,μ,σ,O,e1,c1,q⟩
 refine z8v (T := "dict") PySem.F.slot_dict_getitem.lookup hs (z8c (v:=.ref e) hg h1 rfl hd pins s σv H (fun v H1=>v=.ref e/\H1=H) I ⟨rfl,rfl⟩ |> fun z=>thn z fun u s1 ⟨v,H1,I1,ru,ev,eh⟩=>?_)
 subst ev eh
 cases ru
 refine thn (hi.out pins s1 σv H1 _ I1 (rd.go e1 c1 q (Q1:=fun y H2=>∃ hid μ2 O2 d,Cells X.K H2 hid μ2 O2/\Dat X.K H2 hid μ2 d y/\z1G Ex X.K H2 hid μ2 (match d with|.int i=>(match z2q tab i with|some v=>.ok (.int v) O2|none=>.bad)|_=>.bad) Q)
  fun d O2 y H2 μ2 e2 x2 c2 r p2=>⟨hid,μ2,O2,d,c2,r,p2⟩)) fun u s2 ⟨y,H2,I2,ru,hid,μ2,O2,d,c2,r,p2⟩=>?_
 have M:=mp pins σv H2 s2 I2
 cases d with
 | int j=>
  unfold Dat at r;subst r
  obtain ⟨t,rfl⟩:=ru
  have p2:z1G Ex X.K H2 hid μ2 (match z2q tab j with|some v=>.ok (.int v) O2|none=>.bad) Q:=p2
  cases et:z2q tab j with
  | none=>rw [et] at p2;exact False.elim p2
  | some v=>
   rw [et] at p2
   obtain ⟨t',ht⟩:=(at_ j).2 v et
   exact ⟨M.typeIs,wpAny_getItem_of (z3Y j t) M ht ⟨.int v,H2,I2.tok _,⟨_,rfl⟩,post.here p2 c2 z0I⟩⟩
 | _=>exact False.elim p2
def z3b (neg:Bool) (tab:List (Int × Int)) (t:DE):DE:=fun σ O=>(t σ O).bnd fun x O1=>match x with
 | .int i=>.ok (.bl (if neg=true then !(z2q tab i).isSome else (z2q tab i).isSome)) O1
 | _=>.bad
theorem z9J {x:Str} {tab:List (Int × Int)} {p:Pos} (neg:Bool) (h:zgk X.K X.mg x tab) (hg:Gl X x) (hi:PD X Ex i ti) (hd:(x == ("__debug__":Str))=false:=by decide):PC X (if neg=true then .NotIn else .In) i (.Name x p) (rd Ex X.K (z3b neg tab ti)):=by
 obtain ⟨e,h1,h4,f,mp,at_⟩:=zbc h
 rintro pins s σv H Q I ⟨hid,μ,σ,O,e1,c1,q⟩
 refine thn (hi.out pins s σv H _ I (rd.go e1 c1 q (Q1:=fun y H2=>∃ hid μ2 O2 d,Cells X.K H2 hid μ2 O2/\Dat X.K H2 hid μ2 d y/\z1G Ex X.K H2 hid μ2 (match d with|.int i=>.ok (.bl (if neg=true then !(z2q tab i).isSome else (z2q tab i).isSome)) O2|_=>.bad) Q)
  fun d O2 y H2 μ2 e2 x2 c2 r p2=>⟨hid,μ2,O2,d,c2,r,p2⟩)) fun u s2 ⟨y,H2,I2,ru,hid,μ2,O2,d,c2,r,p2⟩=>?_
 refine thn (z8c (v:=.ref e) hg h1 rfl hd pins s2 σv H2 (fun v H1=>v=.ref e/\H1=H2) I2 ⟨rfl,rfl⟩) fun w s3 ⟨v,H3,I3,rw',ev,eh⟩=>?_
 subst ev eh
 cases rw'
 have M:=mp pins σv H3 s3 I3
 cases d with
 | int j=>
  unfold Dat at r;subst r
  obtain ⟨t,rfl⟩:=ru
  have p2:z1G Ex X.K H3 hid μ2 (.ok (.bl (if neg=true then !(z2q tab j).isSome else (z2q tab j).isSome)) O2) Q:=p2
  rw [<- (at_ j).1] at p2
  cases neg with
  | false=>exact wpAny_in_of (z3Y j t) h4 M ⟨.bl _,H3,I3.tok _,rfl,post.here p2 c2 z1i⟩
  | true=>exact wpAny_notIn_of (z3Y j t) h4 M ⟨.bl _,H3,I3.tok _,rfl,post.here p2 c2 z1i⟩
 | _=>exact False.elim p2
theorem zc4 {x:Str} {tab:List (Int × Int)} {p:Pos} (h:zgk X.K X.mg x tab) (hg:Gl X x) (hi:PD X Ex i ti) (hd:(x == ("__debug__":Str))=false:=by decide) (hm:behindInMarks .NotIn (.Name x p)=false:=by rfl):PD X Ex (.Compare i [.NotIn] [.Name x p] pos) (z3b true tab ti):=⟨ziP (z9J true h hg hi hd) hm⟩
theorem zjU {td:DE} {hid μ:List Addr} {σ:Sg} {O:Ow} {σv:St} {H:Hp} {Q:Bool->Hp->Prop} (e1:EnvOk X.K H hid μ σ σv) (c1:Cells X.K H hid μ O) (q:z4b Ex X.K H hid μ (z0k td σ O) Q):tB (rd Ex X.K td) σv H Q:=
 z98 (X:=X) (t:=rd Ex X.K td) (td:=td) (fun hid μ σ O σv H Q e1 c1 q=>⟨hid,μ,σ,O,e1,c1,q⟩) hid μ σ O σv H Q e1 c1 q
theorem zah {x:Str} {tab:List (Int × Int)} {p:Pos} (h:zgk X.K X.mg x tab) (hg:Gl X x) (hi:PD X Ex i ti) (hd:(x == ("__debug__":Str))=false:=by decide) (hm:behindInMarks .NotIn (.Name x p)=false:=by rfl):PDT X Ex (.Compare i [.NotIn] [.Name x p] pos) (z0k (z3b true tab ti)):=
 z9z (zhN (z9J true h hg hi hd) hm) fun hid μ σ O σv H Q e1 c1 q=>zjU e1 c1 q
end
end DL
namespace DL
open PySem L2 PyProof.Rows
section
variable {prog:Program} {w:World} {A:Around} {E:Value->Shared->Prop} {s:Shared} {a₀:Array Keyed} {κ:PyProof.Rows.KeyKind}
theorem z7p:∀ (f n r:Nat),r <= 1->minRun' f n r <= n + r
 | 0,n,r,_=>Nat.le_refl _
 | f + 1,n,r,h=>by
  rw [minRun'_succ]
  split
  ·exact Nat.le_refl _
  ·have:=z7p f (n / 2) (max r (n % 2)) (by omega)
   omega
theorem zft {st:SortSt} {Q:Option Nat->SortSt->Prop} (hO:κ.OneLt) (h0:PyProof.Rows.KeysOf κ a₀) (hB:SBase a₀ st) (h1:1 <= a₀.size) (hs:SortedToK κ (arrOf st) a₀.size) (h:Q (some a₀.size) st):wpS (model prog w) A E s (countRun' 0 a₀.size) Q st:=by
 rw [countRun0_eq]
 refine wpS_bind (wpS_ascLoopK hO h0 (Nat.le_refl _) (Nat.le_refl 1) h1 hB (fun i j hij hj=>hs i j hij (Nat.lt_of_lt_of_le hj h1)) fun n n1 n2 _ hor=>?_)
 have e:n=a₀.size:=by
  rcases hor with z|z
  ·exact z
  ·by_cases hn:n=a₀.size
   ·exact hn
   ·exact absurd z (KeyOrd.not_klt_of_kle (hs (n - 1) n (Nat.sub_le _ _) (by omega)))
 subst e
 dsimp only
 rw [if_pos (beq_self_eq_true _)]
 exact wpS_pure h
theorem zd7 {st:SortSt} {Q:Unit->SortSt->Prop} (hO:κ.OneLt) (h0:PyProof.Rows.KeysOf κ a₀) (hB:SBase a₀ st) (h2:2 <= a₀.size) (hs:SortedToK κ (arrOf st) a₀.size)
  (h:∀ st',arrOf st'=arrOf st->failedOf st'=none->Q () st'):wpS (model prog w) A E s sortRuns' Q st:=by
 rw [sortRuns'_eq]
 refine wpS_bind (wpS_get ?_)
 dsimp only
 simp only [hB.size]
 refine wpS_bind (wpS_mono (wpS_forRange
  (I:=fun x c st'=>(x=0/\c=(none,0)/\st'=st) \/ (1 <= x/\c=(none,a₀.size)/\arrOf st'=arrOf st/\failedOf st'=none/\pendingOf st' = #[(0,a₀.size,0)]))
  (Q:=fun c st'=>c=(none,a₀.size)/\arrOf st'=arrOf st/\failedOf st'=none/\pendingOf st' = #[(0,a₀.size,0)]) ?turn ?out (.inl ⟨rfl,rfl,rfl⟩)) ?rest)
 case out=>
  rintro c st' (⟨q,_⟩|⟨_,q⟩)
  ·omega
  ·exact q
 case turn=>
  rintro x c st' _ hx (⟨rfl,rfl,rfl⟩|⟨x1,rfl,q⟩)
  ·dsimp only
   rw [if_neg (show ¬ (0 ≥ a₀.size) by omega),Nat.sub_zero]
   refine wpS_bind (zft hO h0 hB (by omega) hs ?_)
   dsimp only
   rw [if_neg (show ¬ a₀.size < minRun' a₀.size a₀.size 0 from Nat.not_lt.mpr (z7p _ _ 0 (by omega)))]
   refine wpS_bind (wpS_get ?_)
   have nb:(pendingOf st').back?=none:=by rw [hB.pend];rfl
   rw [nb]
   dsimp only
   refine wpS_bind (wpS_modify (wpS_pure (.inr ⟨by omega,by rw [Nat.zero_add],rfl,hB.failed,?_⟩)))
   show (pendingOf st').push _=_
   rw [hB.pend];rfl
  ·dsimp only
   rw [if_pos (Nat.le_refl a₀.size)]
   exact wpS_pure ⟨rfl,q⟩
 case rest=>
  rintro c st' ⟨rfl,q1,q2,q3⟩
  dsimp only
  refine wpS_bind (wpS_mono (wpS_forRange (I:=fun _ c z=>z=st'/\c=(none,())) (Q:=fun c z=>z=st'/\c=(none,())) ?_ (fun _ _ z=>z) ⟨rfl,rfl⟩) ?_)
  ·rintro x c z _ _ ⟨rfl,rfl⟩
   refine wpS_bind (wpS_get ?_)
   rw [if_pos (show (pendingOf z).size <= 1 by rw [q3];exact Nat.le_refl 1)]
   exact wpS_pure ⟨rfl,rfl⟩
  ·rintro c z ⟨rfl,rfl⟩
   exact wpS_pure (h _ q1 q2)
theorem zdv (hO:κ.OneLt) {a:Addr} {vs:List Value} {n:Nat} {P:Fin->Shared->Prop} (ho:s.heap.get? a=some (seqObj "list" vs.toArray n)) (h0:PyProof.Rows.KeysOf κ (pairsOf vs)) (hk:∀ x y r,vs=x :: y :: r->keyKind' (x :: y :: r).toArray=pure oneType')
  (hs:SortedToK κ (pairsOf vs) (pairsOf vs).size) (hz:vs.length <= sizeLine) (h:P (.done (.ret .none)) { s with heap:=sortedHeap s.heap a vs vs.toArray }):wpAny (model prog w) A (Builtin.«list.sort» ⟨[.ref a],[]⟩) P E s:=by
 have back:((vs.toArray.zip vs.toArray).map (·.2))=vs.toArray:=by
  rw [<- Array.toList_inj];simp [List.map_snd_zip]
 rw [list_sort_plain]
 have la:a < s.heap.objs.size:=Heap.lt_size ho
 refine wpAny_bind (listItems_at ho rfl (wpAny_bind (listUpdate_at ho rfl ?_ (by simpa using hz) (by simp))))
 have ⟨e1,o1⟩:∃ e1,(s.heap.update a (Obj.mapSeq fun _=>#[])).get? a=some (seqObj "list" #[] e1):=⟨_,get?_update_seq ho (fun _=>#[])⟩
 refine wpAny_bind (seqEpoch_at o1 rfl (wpAny_bind (wpAny_newTuple ?_)))
 refine wpAny_bind (wpAny_newList (wpAny_holding ?_))
 have o6:(((s.heap.update a (Obj.mapSeq fun _=>#[])).push (seqObj "tuple" vs.toArray 0)).push (seqObj "list" #[] 0)).get? a=some (seqObj "list" #[] e1):=
  Heap.get?_push_of_some _ (Heap.get?_push_of_some _ o1)
 show wpAny (model prog w) A _ P E { s with heap:=((s.heap.update a (Obj.mapSeq fun _=>#[])).push (seqObj "tuple" vs.toArray 0)).push (seqObj "list" #[] 0) }
 dsimp only
 by_cases h2:vs.toArray.size < 2
 ·rw [if_pos h2,if_pos h2]
  refine wpAny_bind (wpAny_pure ?_)
  rw [StateT.run_pure]
  refine wpAny_bind (wpAny_pure ?_)
  dsimp only
  refine wpAny_bind (seqEpoch_at o6 rfl (wpAny_bind (listUpdate_at o6 rfl ?_ (by simp) (by
   show ((vs.toArray.zip vs.toArray).map (·.2)).size <= _
   rw [back];simp;omega))))
  simp only [bne_self_eq_false,Bool.false_eq_true,if_false]
  refine wpAny_pure ?_
  have h':P (.done (.ret .none)) { s with heap:=sortedHeap s.heap a vs ((vs.toArray.zip vs.toArray).map (·.2)) }:=by rw [back];exact h
  exact h'
 ·rw [if_neg h2,if_neg h2]
  obtain ⟨x,y,r,rfl⟩:∃ x y r,vs=x :: y :: r:=by
   match vs,h2 with
   | [],h2=>simp at h2
   | [_],h2=>simp at h2
   | x :: y :: r,_=>exact ⟨x,y,r,rfl⟩
  rw [hk x y r rfl]
  refine wpAny_bind (wpAny_pure ?_)
  refine wpAny_bind (wpAny_mono (zd7 (κ:=κ) hO (a₀:=pairsOf (x :: y :: r)) (st:=SortSt.mk' oneType' ((x :: y :: r).toArray.zip (x :: y :: r).toArray) #[] 7 none)
   (Q:=fun _ st'=>arrOf st'=((x :: y :: r).toArray.zip (x :: y :: r).toArray)/\failedOf st'=none) h0 ⟨Array.Perm.refl _,rfl,rfl,rfl⟩ (by rw [pairsOf_size];simp) hs fun st' b1 b2=>⟨b1,b2⟩) ?_ fun _ _ z=>z)
  rintro ⟨⟨⟩,st'⟩ s' ⟨rfl,hp,hf⟩
  dsimp only
  rw [hp,back]
  refine wpAny_bind (seqEpoch_at o6 rfl (wpAny_bind (listUpdate_at o6 rfl ?_ (by simp) (by
   show (x :: y :: r).toArray.size <= _
   simp at hz ⊢;omega))))
  rw [hf]
  simp only [bne_self_eq_false,Bool.false_eq_true,if_false]
  exact wpAny_pure h
theorem zcV (hO:κ.OneLt) {l:Addr} {vs:List Value} {Q:Value->Shared->Prop} (hl:s.heap.IsList l vs.toArray) (h0:PyProof.Rows.KeysOf κ (pairsOf vs)) (hk:∀ x y r,vs=x :: y :: r->keyKind' (x :: y :: r).toArray=pure oneType') (hs:SortedToK κ (pairsOf vs) (pairsOf vs).size) (hz:vs.length <= sizeLine)
  (h:Q (.ref (s.heap.objs.size + 1)) { s with heap:=sortedAll s.heap vs vs.toArray }):wpAny (model prog w) A (call (.builtin "sorted") [.ref l]) Q E s:=by
 refine Calls.call_function_entry kind_sorted plain_sorted entry_sorted (args_sorted1 _) ?_
 unfold Builtin.«sorted»
 refine wpAny_bind (m:=checkCount "sorted" 1 1 _) (wpAny_pure (wpAny_bind (collect_list hl ?_ hz)))
 refine wpAny_bind (wpAny_newList ?_ (hz))
 have z1:((s.heap.push (seqObj "list" #[] 0)).update s.heap.objs.size (Obj.mapSeq (· ++ vs.toArray))).objs.size=s.heap.objs.size + 1:=(Heap.size_update ..).trans (size_push' ..)
 have oL:(((s.heap.push (seqObj "list" #[] 0)).update s.heap.objs.size (Obj.mapSeq (· ++ vs.toArray))).push (seqObj "list" vs.toArray 0)).get? (s.heap.objs.size + 1)=some (seqObj "list" vs.toArray 0):=z1 ▸ Heap.get?_push_size _ rfl
 show wpAny _ _ _ _ _ { s with heap:=((s.heap.push (seqObj "list" #[] 0)).update s.heap.objs.size (Obj.mapSeq (· ++ vs.toArray))).push (seqObj "list" vs.toArray 0) }
 rw [z1]
 exact wpAny_bind (wpAny_holding (wpAny_call_entry slot_list_sort ⟨_,oL,rfl⟩ entry_list_sort (zdv hO oL h0 hk hs hz ⟨_,rfl,wpAny_pure ⟨_,rfl,h⟩⟩) (args_list_sort _)))
end
def zdl:List (List Nat)->Bool
 | []=>true
 | [_]=>true
 | x :: y :: r=>!decide (y < x) && zdl (y :: r)
theorem zdi:∀ {l:List (List Nat)},zdl l=true->l.Pairwise fun a b=>¬ b < a:=by
 intro l
 induction l with
 | nil=>intro _;exact .nil
 | cons x l ih=>
  intro h
  cases l with
  | nil=>exact .cons (by simp) .nil
  | cons y r=>
   have h:(!decide (y < x) && zdl (y :: r))=true:=h
   rw [Bool.and_eq_true] at h
   have hp:=ih h.2
   have h1:¬ y < x:=by simpa using h.1
   refine List.pairwise_cons.mpr ⟨fun b hb=>?_,hp⟩
   rcases List.mem_cons.mp hb with rfl|hb
   ·exact h1
   ·have h2:=(List.pairwise_cons.mp hp).1 b hb
    exact List.not_lt.mpr (List.le_trans (List.not_lt.mp h1) (List.not_lt.mp h2))
def z9y:List D->Option (List (List Nat))
 | []=>some []
 | .str cs :: r=>(z9y r).map (cs :: ·)
 | _=>none
def zey:Ow->List D->R D:=fun O xs=>match xs with
 | [x]=>match lsV O x with
  | some ds=>match z9y ds with
   | some ss=>if zdl ss=true/\ds.length <= 100000 then .ok (.lst ds) O else .bad
   | none=>.bad
  | none=>.bad
 | _=>.bad
section
variable {X:Cx} {Ex:Nat->Hp->Prop} {H:Hp} {hid μ:List Addr}
theorem z8B {K:PySem.W.Frag}:∀ {ds:List D} {vs:List V} {ss:List (List Nat)},Dats K H hid μ ds vs->z9y ds=some ss->vs=ss.map fun cs=>V.str ⟨cs.toArray⟩
 | [],vs,ys,h,e=>by unfold Dats at h;subst h;cases e;rfl
 | d :: ds,vs,ys,h,e=>by
  unfold Dats at h
  obtain ⟨v,r,rfl,h1,h2⟩:=h
  cases d with
  | str cs=>
   unfold z9y at e
   cases q:z9y ds with
   | none=>rw [q] at e;cases e
   | some zs=>
    rw [q] at e;cases e
    unfold Dat at h1;subst h1
    rw [z8B h2 q];rfl
  | _=>cases e
theorem zea:CallR X (.builtin "sorted") (fun xs H Q=>∃ p ss,xs=[.ref p]/\SqL X.K H p (ss.map fun cs=>V.str ⟨cs.toArray⟩)/\zdl ss=true/\ss.length <= sizeLine/\∀ l,H l=none->Q (.ref l) (upd H l (.lst (ss.map fun cs=>V.str ⟨cs.toArray⟩)))):=by
 intro pins s σ H xs us Q I r h
 obtain ⟨p,ss,rfl,sq,ho,hl,q⟩:=h
 obtain ⟨u,rfl,ru⟩:=z2Z r
 cases ru
 obtain ⟨its,rv,pl,hz⟩:=I.list sq
 have hm:(ss.map fun cs=>V.str ⟨cs.toArray⟩)=(ss.map fun cs=>(⟨cs.toArray⟩:Str)).map V.str:=by rw [List.map_map];rfl
 have hS:StrsAre its (ss.map fun cs=>(⟨cs.toArray⟩:Str)):=z2O (by rw [<- hm];exact rv)
 have hlen:its.length=ss.length:=by have:=rv.length;simpa using this.symm
 have at_:∀ i,i < ss.length->KK strKind (pairsOf its) i=ss.getD i []:=fun i hi=>by
  have hi2:i < (pairsOf its).size:=by rw [pairsOf_size,hlen];exact hi
  obtain ⟨u,g1,t,g2⟩:=rv.get (i:=i) (x:=.str ⟨ss[i].toArray⟩) (by rw [List.getElem?_map,List.getElem?_eq_getElem hi];rfl)
  have e:(pairsOf its)[i]=(.str ⟨ss[i].toArray⟩ t,.str ⟨ss[i].toArray⟩ t):=by
   have h3:its[i]?=some (.str ⟨ss[i].toArray⟩ t):=by rw [g1,g2]
   have h4:(pairsOf its)[i]?=some (.str ⟨ss[i].toArray⟩ t,.str ⟨ss[i].toArray⟩ t):=by
    rw [<- Array.getElem?_toList,pairsOf_toList]
    rw [List.getElem?_zip_eq_some]
    exact ⟨h3,h3⟩
   exact (Array.getElem?_eq_some_iff.mp h4).2
  rw [KK_str hi2 e,List.getD_eq_getElem?_getD,List.getElem?_eq_getElem hi]
  rfl
 have hsort:SortedToK strKind (pairsOf its) (pairsOf its).size:=by
  intro i j hij hj
  rw [pairsOf_size,hlen] at hj
  rw [at_ i (by omega),at_ j hj]
  show decide (ss.getD j [] < ss.getD i [])=false
  rcases Nat.lt_or_eq_of_le hij with hlt|rfl
  ·have:=(List.pairwise_iff_getElem.mp (zdi ho)) i j (by omega) hj hlt
   rw [List.getD_eq_getElem?_getD,List.getD_eq_getElem?_getD,List.getElem?_eq_getElem hj,List.getElem?_eq_getElem (show i < ss.length by omega)]
   simpa using this
  ·simp
 refine zcV strKind_oneLt pl.isList hS.keysOf (fun x y r e=>keyKind_strs (by rw [<- e];exact hS)) hsort (by rw [hlen];exact hl) ?_
 obtain ⟨e,he⟩:=sortedAll_at s.heap its its.toArray
 have hn:H (s.heap.objs.size + 1)=none:=I.hok.fresh (Nat.le_succ _)
 refine ⟨.ref _,_,I.laid (t':=s.toks) (o:=.lst (ss.map fun cs=>V.str ⟨cs.toArray⟩)) (fun _ _ z=>sortedAll_old z) (Nat.le_succ _) ?_,rfl,q _ hn⟩
 exact ⟨by simpa using hl,its,e,rv,he⟩
theorem zi6:z35 X Ex (fun xs H Q=>∃ p ss,xs=[.ref p]/\SqL X.K H p (ss.map fun cs=>V.str ⟨cs.toArray⟩)/\zdl ss=true/\ss.length <= sizeLine/\∀ l,H l=none->Q (.ref l) (upd H l (.lst (ss.map fun cs=>V.str ⟨cs.toArray⟩)))) zey:=by
 intro H hid μ O xs vs Q c d q
 unfold zey at q
 split at q
 ·rename_i x
  obtain ⟨v,rfl,dx⟩:=z2D d
  split at q
  ·rename_i ds e
   obtain ⟨p,ws,rfl,sq,dd⟩:=z2d c dx e
   split at q
   ·rename_i ss es
    obtain ⟨⟨h1,h2⟩,q⟩:=post.ite q
    have ev:=z8B dd es
    subst ev
    have hl:ss.length=ds.length:=by have:=dd.length;simpa using this.symm
    refine ⟨p,ss,rfl,sq,h1,by rw [hl];exact z0O h2,fun l hl=>post.ok q (.laid hl) (c.laid hl) (Dat.newL c hl dd)⟩
   ·exact False.elim q
  ·exact False.elim q
 ·exact False.elim q
theorem zi0:bootBuiltins "len" = some (.builtin "len"):=by boot_by_name
theorem zid:bootBuiltins "all" = some (.builtin "all"):=by boot_by_name
theorem zio:bootBuiltins "any" = some (.builtin "any"):=by boot_by_name
theorem zel:bootBuiltins "int" = some (.type "int"):=by boot_by_name
theorem zib:bootBuiltins "str" = some (.type "str"):=by boot_by_name
theorem z6D:bootBuiltins "tuple" = some (.type "tuple"):=by boot_by_name
theorem zbv:bootBuiltins "list" = some (.type "list"):=by boot_by_name
theorem ziI:bootBuiltins "max" = some (.builtin "max"):=by boot_by_name
theorem zhH:bootBuiltins "min" = some (.builtin "min"):=by boot_by_name
theorem z2C:bootBuiltins "sorted" = some (.builtin "sorted"):=by boot_by_name
theorem z1j:bootBuiltins "isinstance" = some (.builtin "isinstance"):=by boot_by_name
theorem zfe:bootBuiltins "bool" = some (.type "bool"):=by boot_by_name
end
theorem fnD {P:Program} {w:World} {K:PySem.W.Frag} {mg:Str->Option Value} {base:Heap} {k:Nat} {x:Str} {st:Stmt} {N ps:List Str} {t:DS} {f:Addr} {fd:FuncData} (F:L2.Fun K x x st f fd) (S:z0a N ps (z05 st))
  (hbody:∀ (cdv:Value) (A:Around) (outer:List Env) (s:Shared) (H:Hp) (E:XK),Room k (A.deeper (PyProof.Rows.envOfC x (z05 st) s.heap.objs.size f cdv))->z89 (cx0 P w K mg base N x (z05 st) f cdv A outer s H E) Ex0 (z2b st) t):
  FnOk P w K mg base CX0 (k + 1) f fd ps (DSp K Ec0 ps.length (z1H N.length t)):=by
 obtain ⟨oc,od,kV,doc,pm,an,cdv,ct,osl,rfl,lk,hcd⟩:=F.ex
 exact zgU lk hcd S fun A outer s H E hr=>hbody cdv A outer s H E hr
theorem zjB {K:PySem.W.Frag} {F:List D->Ow->R D} {H:Hp} {a:Addr} {ns:List Int} (h:∃ O,F [.lst (ns.map .int)] []=.ok (.bl true) O) (sq:SqL K H a (ns.map V.int)):DSp K Ec0 1 F [.ref a] H (fun v _=>v=.bl true) fun _ _ _=>False:=by
 obtain ⟨O,h⟩:=h
 have dn:∀ (l:List Int),Dats K H [] [] (l.map D.int) (l.map V.int):=fun l=>by
  induction l with
  | nil=>exact .nil
  | cons x r ih=>exact .cons z0I ih
 refine ⟨rfl,[],[],[.lst (ns.map .int)],[],.cons ?_ .nil,⟨rfl,by simp,by simp,by simp,fun k a e=>by simp at e⟩,?_⟩
 ·unfold Dat
  exact ⟨a,_,rfl,sq.imp (fun z=>⟨z,by simp,by simp⟩) id,dn ns⟩
 ·rw [h]
  intro v H' μ' _ _ r
  unfold Dat at r
  exact r
theorem walkD' {l:PySem.W.OpenLaw} {q:Program} {loose:List Str} {XP:(Str->Option Value)->Heap->Prop} {YP:World->Heap->Prop} {d:DefRec} {K:Params->PySem.W.Frag} {k:Nat} {x:Str} {F:List D->Ow->R D} {α:Type} {Yf:Shared->α} {Ya:World->α} (hn:l.most=some 63) (hdf:d.params.defaults=[]) (hr:Room k callerA)
  (hYf:∀ w s,Yf s=Ya w->YP w s.heap) (hYk:∀ w h h',YP w h->(∀ b o,h.get? b=some o->h'.get? b=some o)->YP w h')
  (hY:∀ (w:World) (h:Heap),YP w h->(K w.params).In h)
  (hF:∀ (w:World) (mg:Str->Option Value) (fa:Addr) (h:Heap),(K w.params).In h->h.Ns mainGlobals mg->mg d.name=some (.ref fa)->
   ∃ fd:FuncData,(∀ (s:Shared) (u:Value),BindsTo s fd ⟨[u],[]⟩ [(x,u)])/\∀ base:Heap,(K w.params).In base->base.Ns mainGlobals mg->FnOk l.prog w (K w.params) mg base CX0 k fa fd [x] (DSp (K w.params) Ec0 1 F))
  (pure_:∀ ns:List Int,ns.length <= 63->∃ O,F [.lst (ns.map .int)] []=.ok (.bl true) O):
  PySem.W.WalkX q loose XP (fun s=>(Yf s,decide (0 < s.toks))) (fun w=>(Ya w,true)) l.row.toRowW d [] (fun f vs=>PySem.call f vs):=
 L2.walk_of (n:=63) (k:=k) (x:=x) (CX:=fun _=>CX0) (sp:=fun w=>DSp (K w.params) Ec0 1 F) hn (by decide) hdf hr hYf hYk hY hF (fun w H a ns hl _ hS=>zjB (pure_ ns hl) hS) fun _ _ _ _ _ z=>z
end DL
namespace DL
theorem zfd {α:Type} (pre ds:List α) (d:α):(pre ++ d :: ds)[pre.length]?=some d:=by simp
theorem z7e {step:D->Ow->List D->R (List D)} {O:Ow} {g:D->List D}:∀ (ds pre acc:List D) (f:Nat),ds.length <= f->(∀ d ∈ ds,∀ acc:List D,acc.length < 100000->step d O acc=.ok (acc ++ g d) O)->acc.length + (ds.flatMap g).length + ds.length < 100000->
  z0s (.val (pre ++ ds)) step f pre.length O acc=.ok (acc ++ ds.flatMap g) O
 | [],pre,acc,f,_,_,_=>by
  cases f <;> (unfold z0s;simp [Src.get])
 | d :: ds,pre,acc,0,h,_,_=>by simp at h
 | d :: ds,pre,acc,f + 1,h,hs,hl=>by
  unfold z0s
  have e:Src.get (.val (pre ++ d :: ds)) O pre.length=some d:=zfd pre ds d
  rw [e]
  simp only [List.flatMap_cons,List.length_append,List.length_cons] at hl
  show ((step d O acc).bnd fun acc' O'=>z0s (.val (pre ++ d :: ds)) step f (pre.length + 1) O' acc')=_
  rw [hs d List.mem_cons_self acc (by omega)]
  show z0s (.val (pre ++ d :: ds)) step f (pre.length + 1) O (acc ++ g d)=_
  have:=z7e ds (pre ++ [d]) (acc ++ g d) f (by simpa using h) (fun d' h'=>hs d' (List.mem_cons_of_mem _ h')) (by rw [List.length_append];omega)
  rw [List.append_assoc,List.singleton_append,List.length_append,List.length_singleton] at this
  rw [this];simp
theorem z2e {ext:Nat} {it0:DI} {i:Nat} {ts:List DT} {te:DE} {σ:Sg} {O:Ow} {ds:List D} {p:D->Bool} {e:D->D} (hi:it0 σ O=.ok (.val ds) O) (hl:ds.length < 50000)
  (hp:∀ d ∈ ds,z5x ts ((clr (clr (σ ++ List.replicate ext none) [i]) [i]).set i (some d)) O=.ok (p d) O) (he:∀ d ∈ ds,p d=true->te ((clr (clr (σ ++ List.replicate ext none) [i]) [i]).set i (some d)) O=.ok (e d) O) (o:Bool):
  z0i o ext it0 (.one i) ts [] te σ O=z9V o (.ok ((ds.filter p).map e) O):=by
 unfold z0i z2F
 rw [hi]
 show z9V o (noX (z0s (.val ds) _ ds.length 0 O []))=_
 have step:∀ d ∈ ds,∀ acc:List D,acc.length < 100000->z5v ⟨it0,.one i,ts⟩ [] te (clr (σ ++ List.replicate ext none) (z0b [⟨it0,.one i,ts⟩])) d O acc=.ok (acc ++ (if p d=true then [e d] else [])) O:=by
  intro d hd acc ha
  show (match Tg.put (.one i) d (clr (clr (σ ++ List.replicate ext none) [i]) [i]) with|some σ1=>(z5x ts σ1 O).bnd fun b O3=>if b=true then z2Q [] te σ1 O3 acc else .ok acc O3|none=>.bad)=_
  show (z5x ts ((clr (clr (σ ++ List.replicate ext none) [i]) [i]).set i (some d)) O).bnd _=_
  rw [hp d hd]
  show (if p d=true then z2Q [] te _ O acc else .ok acc O)=_
  by_cases hpd:p d=true
  ·rw [if_pos hpd,if_pos hpd]
   unfold z2Q
   rw [he d hd hpd]
   show (if acc.length < 100000 then _ else _)=_
   rw [if_pos ha]
  ·rw [if_neg hpd,if_neg hpd];simp
 have hb:∀ l:List D,(l.flatMap fun d=>if p d=true then [e d] else [])=(l.filter p).map e:=by
  intro l
  induction l with
  | nil=>rfl
  | cons x l ih=>
   rw [List.flatMap_cons,ih,List.filter_cons]
   by_cases hx:p x=true
   ·rw [if_pos hx,if_pos hx];rfl
   ·rw [if_neg hx,if_neg hx];rfl
 have hlen:((ds.filter p).map e).length <= ds.length:=by rw [List.length_map];exact List.length_filter_le _ _
 have w:=z7e (O:=O) (g:=fun d=>if p d=true then [e d] else []) ds [] [] ds.length (Nat.le_refl _) step (by rw [hb];simp at hlen ⊢;omega)
 rw [List.nil_append,hb,List.nil_append] at w
 have w':z0s (.val ds) (z5v ⟨it0,.one i,ts⟩ [] te (clr (σ ++ List.replicate ext none) (z0b [⟨it0,.one i,ts⟩]))) ds.length 0 O []=.ok ((ds.filter p).map e) O:=w
 rw [w'];rfl
theorem z3s {ds:List D} {step:D->Sg->Ow->RS} (I:Nat->Sg->Ow->Prop) (h:∀ i σ O d,I i σ O->ds[i]?=some d->∃ σ' O',step d σ O=.nx σ' O'/\I (i + 1) σ' O'):
  ∀ (f i:Nat) (σ:Sg) (O:Ow),I i σ O->ds.length <= i + f->i <= ds.length->∃ σ' O',z2k (.val ds) step f i σ O=.nx σ' O'/\I ds.length σ' O'
 | 0,i,σ,O,hI,h1,h2=>by
  have:i=ds.length:=by omega
  subst this
  refine ⟨σ,O,?_,hI⟩
  unfold z2k
  have e:Src.get (.val ds) O ds.length=none:=by simp [Src.get]
  rw [e]
 | f + 1,i,σ,O,hI,h1,h2=>by
  unfold z2k
  have eg:Src.get (.val ds) O i=ds[i]?:=rfl
  rw [eg]
  cases e:ds[i]? with
  | none=>
   have:i=ds.length:=by have:=List.getElem?_eq_none_iff.mp e;omega
   subst this
   exact ⟨σ,O,rfl,hI⟩
  | some d=>
   obtain ⟨σ',O',e1,e2⟩:=h i σ O d hI e
   dsimp only
   rw [e1]
   exact z3s I h f (i + 1) σ' O' e2 (by omega) (by have:=(List.getElem?_eq_some_iff.mp e).1;omega)
theorem z7k {ds:List D} {step:D->Ow->List D->R (List D)} (I:Nat->Ow->List D->Prop) (h:∀ i O acc d,I i O acc->ds[i]?=some d->∃ acc' O',step d O acc=.ok acc' O'/\I (i + 1) O' acc'):
  ∀ (f i:Nat) (O:Ow) (acc:List D),I i O acc->ds.length <= i + f->i <= ds.length->∃ acc' O',z0s (.val ds) step f i O acc=.ok acc' O'/\I ds.length O' acc'
 | 0,i,O,acc,hI,h1,h2=>by
  have:i=ds.length:=by omega
  subst this
  refine ⟨acc,O,?_,hI⟩
  unfold z0s
  have e:Src.get (.val ds) O ds.length=none:=by simp [Src.get]
  rw [e]
 | f + 1,i,O,acc,hI,h1,h2=>by
  unfold z0s
  have eg:Src.get (.val ds) O i=ds[i]?:=rfl
  rw [eg]
  cases e:ds[i]? with
  | none=>
   have:i=ds.length:=by have:=List.getElem?_eq_none_iff.mp e;omega
   subst this
   exact ⟨acc,O,rfl,hI⟩
  | some d=>
   obtain ⟨acc',O',e1,e2⟩:=h i O acc d hI e
   dsimp only
   rw [e1]
   exact z7k I h f (i + 1) O' acc' e2 (by omega) (by have:=(List.getElem?_eq_some_iff.mp e).1;omega)
def z5k (n:Nat):D->Bool
 | .own k=>decide (k < n)
 | .lst _=>false
 | .tup _=>false
 | .map _ _=>false
 | _=>true
def z4p (O:Ow):Prop:=∀ c ∈ O,∀ d ∈ c,z5k O.length d=true
theorem z3l {O:Ow} {n f:Nat} {d:D} (h:z5k n d=true):frz O n f d=some d:=by
 cases d with
 | own k=>
  have h:k < n:=by simpa [z5k] using h
  cases f <;> (unfold frz;dsimp only;rw [if_pos h])
 | lst ds=>cases h
 | tup ds=>cases h
 | map _ _=>cases h
 | _=>cases f <;> rfl
theorem z27 {α:Type} {f:α->Option α}:∀ {l:List α},(∀ x ∈ l,f x=some x)->z0W f l=some l
 | [],_=>rfl
 | x :: l,h=>by
  unfold z0W
  rw [h x List.mem_cons_self,z27 fun y hy=>h y (List.mem_cons_of_mem _ hy)]
theorem z7J {O':Ow} {d:D} {cs:List D} (hO:∀ c ∈ O',∀ d ∈ c,z5k O'.length d=true) (X:Ow) (h:frz (O' ++ X) O'.length 8 d=some (.lst cs)):z8x O'.length (.ok d (O' ++ X))=.ok (.lst cs) O':=by
 unfold z8x
 dsimp only
 rw [h]
 have:(O' ++ X).take O'.length=O':=by simp
 rw [this,z27 fun c hc=>z27 fun d hd=>z3l (hO c hc d hd)]
section
variable {σ σ':Sg} {O O1 O2:Ow} {t u ta tb:DE} {tA:DA} {x y:D} {b:Bool} {ds:List D}
theorem z0d (h:t σ O=.ok x O1):z01 t z03 σ O=.ok [x] O1:=by show ((t σ O).bnd _)=_;rw [h];rfl
theorem z0m (h1:t σ O=.ok x O1) (h2:u σ O1=.ok y O2):z01 t (z01 u z03) σ O=.ok [x,y] O2:=by
 show ((t σ O).bnd _)=_
 rw [h1]
 show ((z01 u z03 σ O1).bnd _)=_
 rw [z0d h2];rfl
theorem z1v (h1:t σ O=.ok x O1) (h2:tA σ O1=.ok ds O2):z01 t tA σ O=.ok (x :: ds) O2:=by
 show ((t σ O).bnd _)=_
 rw [h1]
 show ((tA σ O1).bnd _)=_
 rw [h2];rfl
theorem z0G {n:Nat} {F:List D->Ow->R D} (h:tA σ O=.ok ds O1) (hn:ds.length=n):dFn n F tA σ O=F ds O1:=by show ((tA σ O).bnd _)=_;rw [h];show (if ds.length=n then _ else _)=_;rw [if_pos hn]
theorem z0x {f:Ow->List D->R D} (h:tA σ O=.ok ds O1):z06 f tA σ O=f O1 ds:=by show ((tA σ O).bnd _)=_;rw [h];rfl
theorem z0e {f:Ow->D->D->R D} (h1:ta σ O=.ok x O1) (h2:tb σ O1=.ok y O2):dOp f ta tb σ O=f O2 x y:=by
 show ((ta σ O).bnd _)=_
 rw [h1]
 show ((tb σ O1).bnd _)=_
 rw [h2];rfl
theorem z0f (h:t σ O=.ok (.bl b) O1):z0k t σ O=.ok b O1:=by show ((t σ O).bnd _)=_;rw [h];rfl
theorem z1c (h:t σ O=.ok (.bl b) O1):z1g t σ O=.ok b O1:=by show ((t σ O).bnd _)=_;rw [h];rfl
theorem z1Q {c:DT} (h:c σ O=.ok b O1):z1B c σ O=.ok (!b) O1:=by show ((c σ O).bnd _)=_;rw [h];rfl
theorem z1J (h:t σ O=.ok (.lst ds) O1):dIt t σ O=.ok (.val ds) O1:=by show ((t σ O).bnd _)=_;rw [h];rfl
theorem z1n {i:Nat} (h:t σ O=.ok x O1):z0A i t σ O=.nx (σ.set i (some x)) O1:=by show ((t σ O).bnS _)=_;rw [h];rfl
theorem z0t (h:t σ O=.ok x O1):z0F t σ O=.rt x O1:=by show ((t σ O).bnS _)=_;rw [h];rfl
theorem z6y (h:t σ O=.ok x O1):z20 t σ O=.nx σ O1:=by show ((t σ O).bnS _)=_;rw [h];rfl
theorem z0K {c:DT} {a d:DS} (h:c σ O=.ok b O1):sIf c a d σ O=if b=true then a σ O1 else d σ O1:=by show ((c σ O).bnS _)=_;rw [h];rfl
theorem z0o {a d:DS} (h:a σ O=.nx σ' O1):z0n a d σ O=d σ' O1:=by show (match a σ O with|.nx σ' O'=>_|r=>r)=_;rw [h]
theorem z32 {a d:DS} (h:a σ O=.rt x O1):z0n a d σ O=.rt x O1:=by show (match a σ O with|.nx σ' O'=>_|r=>r)=_;rw [h]
theorem z6W {it:DI} {g:Tg} {body:DS} {src:Src} (h:it σ O=.ok src O1):z63 it g body σ O=z2k src (fun d σ O=>match g.put d σ with|some σ'=>body σ' O|none=>.bad) (src.size O1) 0 σ O1:=by show ((it σ O).bnS _)=_;rw [h];rfl
theorem z1w {n:Nat} (h:tA σ O=.ok [.int (n:Nat)] O1) (hn:n < 100000):z14 tA σ O=.ok (.val ((List.range n).map fun (i:Nat)=>D.int (i:Int))) O1:=by
 have hc:-1000000 <= ((n:Nat):Int)/\((n:Nat):Int) <= 1000000:=by constructor <;> omega
 unfold z14
 rw [h]
 dsimp only [R.bnd]
 rw [if_pos hc]
 unfold zeG
 have e2:(((n:Nat):Int) - 0).toNat=n:=by omega
 rw [e2]
 congr 2
 refine List.map_congr_left fun i _=>?_
 rw [Int.zero_add]
theorem z3c {cs:List Nat} (h:cs.length <= 100000):z1r O [.str cs]=.ok (.int cs.length) O:=by
 show (if cs.length <= 100000 then R.ok (D.int cs.length) O else R.bad)=_
 rw [if_pos h]
theorem z3V {cs:List Nat} {i:Nat} (h:cs.length <= 100000) (hi:i < cs.length):fIx O (.str cs) (.int (i:Int))=.ok (.str [cs[i]]) O:=by
 show (if cs.length <= 100000 then (match L2.atI cs (i:Int) with|some ch=>R.ok (D.str [ch]) O|none=>R.bad) else R.bad)=_
 rw [if_pos h,L2.atI_nat (List.getElem?_eq_getElem hi)]
theorem z4F {i:Nat} (hi:i < ds.length):fIx O (.tup ds) (.int (i:Int))=.ok ds[i] O:=by
 show (match L2.atI ds (i:Int) with|some d=>R.ok d O|none=>R.bad)=_
 rw [L2.atI_nat (List.getElem?_eq_getElem hi)]
theorem z8y {i:Nat} (hi:i < ds.length):fIx O (.lst ds) (.int (i:Int))=.ok ds[i] O:=by
 show (match L2.atI ds (i:Int) with|some d=>R.ok d O|none=>R.bad)=_
 rw [L2.atI_nat (List.getElem?_eq_getElem hi)]
end
theorem z4z (O:Ow) (n:Nat):∀ l:List Int,z0W (z1f O n) (l.map D.int)=some (l.map PySem.PyData.int)
 | []=>rfl
 | x :: l=>by
  have e:z1f O n (.int x)=some (.int x):=by cases n <;> rfl
  show z0W (z1f O n) (D.int x :: l.map D.int)=_
  unfold z0W
  rw [e,z4z O n l];rfl
theorem zet (O:Ow) (l:List Int):fPy eqF O (.lst (l.map D.int)) (.lst [])=.ok (.bl l.isEmpty) O:=by
 unfold fPy py
 have e:z1f O 8 (.lst (l.map D.int))=some (.list (l.map PySem.PyData.int)):=by
  show (z0W (z1f O 7) (l.map D.int)).map PySem.PyData.list=_
  rw [z4z];rfl
 rw [e]
 cases l <;> rfl
theorem z9x {α:Type} {src:Src} {step:D->Ow->List D->R (List D)} {O:Ow} {inj:α->D} {g:α->List D} {all:List α} (hg:∀ i,src.get O i=(all.map inj)[i]?):∀ (ds pre:List α) (acc:List D) (f:Nat),all=pre ++ ds->ds.length <= f->
  (∀ a ∈ ds,∀ acc:List D,acc.length < 100000->step (inj a) O acc=.ok (acc ++ g a) O)->acc.length + (ds.flatMap g).length + ds.length < 100000->z0s src step f pre.length O acc=.ok (acc ++ ds.flatMap g) O
 | [],pre,acc,f,ha,_,_,_=>by
  have e:src.get O pre.length=none:=by rw [hg,ha];simp
  cases f <;> (unfold z0s;rw [e];simp)
 | d :: ds,pre,acc,0,_,h,_,_=>by simp at h
 | d :: ds,pre,acc,f + 1,ha,h,hs,hl=>by
  unfold z0s
  have e:src.get O pre.length=some (inj d):=by rw [hg,ha];simp
  rw [e]
  simp only [List.flatMap_cons,List.length_append,List.length_cons] at hl
  show ((step (inj d) O acc).bnd fun acc' O'=>z0s src step f (pre.length + 1) O' acc')=_
  rw [hs d List.mem_cons_self acc (by omega)]
  show z0s src step f (pre.length + 1) O (acc ++ g d)=_
  have:=z9x hg ds (pre ++ [d]) (acc ++ g d) f (by rw [ha];simp) (by simpa using h) (fun d' h'=>hs d' (List.mem_cons_of_mem _ h')) (by rw [List.length_append];omega)
  rw [List.length_append,List.length_singleton] at this
  rw [this];simp
theorem z31 {α β:Type} (p:α->Bool) (e:α->β):∀ l:List α,(l.flatMap fun d=>if p d=true then [e d] else [])=(l.filter p).map e
 | []=>rfl
 | x :: l=>by
  rw [List.flatMap_cons,z31 p e l,List.filter_cons]
  by_cases hx:p x=true
  ·rw [if_pos hx,if_pos hx];rfl
  ·rw [if_neg hx,if_neg hx];rfl
theorem z3E {α:Type} {ext:Nat} {it0:DI} {g:Tg} {ts:List DT} {te:DE} {σ:Sg} {O O0:Ow} {src:Src} {l:List α} {inj:α->D} {p:α->Bool} {e:α->D} {τ:α->Sg} {o:Bool} (hi:it0 σ O0=.ok src O) (hg:∀ i,src.get O i=(l.map inj)[i]?) (hsz:src.size O=l.length) (hl:l.length < 50000)
  (hτ:∀ a ∈ l,g.put (inj a) (clr (clr (σ ++ List.replicate ext none) (g.slots ++ [])) (g.slots ++ []))=some (τ a)) (hp:∀ a ∈ l,z5x ts (τ a) O=.ok (p a) O) (he:∀ a ∈ l,p a=true->te (τ a) O=.ok (e a) O):
  z0i o ext it0 g ts [] te σ O0=z9V o (.ok ((l.filter p).map e) O):=by
 unfold z0i z2F
 rw [hi]
 show z9V o (noX (z0s src _ (src.size O) 0 O []))=_
 have step:∀ a ∈ l,∀ acc:List D,acc.length < 100000->z5v ⟨it0,g,ts⟩ [] te (clr (σ ++ List.replicate ext none) (z0b [⟨it0,g,ts⟩])) (inj a) O acc=.ok (acc ++ (if p a=true then [e a] else [])) O:=by
  intro a ha acc hacc
  show (match g.put (inj a) (clr (clr (σ ++ List.replicate ext none) (g.slots ++ [])) (g.slots ++ [])) with|some σ1=>(z5x ts σ1 O).bnd fun b O3=>if b=true then z2Q [] te σ1 O3 acc else .ok acc O3|none=>.bad)=_
  rw [hτ a ha]
  show (z5x ts (τ a) O).bnd _=_
  rw [hp a ha]
  show (if p a=true then z2Q [] te _ O acc else .ok acc O)=_
  by_cases hpd:p a=true
  ·rw [if_pos hpd,if_pos hpd]
   unfold z2Q
   rw [he a ha hpd]
   show (if acc.length < 100000 then _ else _)=_
   rw [if_pos hacc]
  ·rw [if_neg hpd,if_neg hpd];simp
 have hlen:((l.filter p).map e).length <= l.length:=by rw [List.length_map];exact List.length_filter_le _ _
 have w:=z9x (O:=O) (inj:=inj) (g:=fun d=>if p d=true then [e d] else []) hg l [] [] l.length rfl (Nat.le_refl _) step (by rw [z31];simp at hlen ⊢;omega)
 rw [z31,List.nil_append] at w
 have w':z0s src (z5v ⟨it0,g,ts⟩ [] te (clr (σ ++ List.replicate ext none) (z0b [⟨it0,g,ts⟩]))) (src.size O) 0 O []=.ok ((l.filter p).map e) O:=by rw [hsz];exact w
 rw [w'];rfl
section
variable {α:Type} {ext:Nat} {it0:DI} {i:Nat} {t:DT} {te:DE} {σ:Sg} {O O0:Ow} {l:List α} {inj:α->D} {p:α->Bool} {e:α->D} {τ:α->Sg} {o:Bool}
theorem z4v {σ:Sg} {O:Ow} {b:Bool} (h:t σ O=.ok b O):z5x [t] σ O=.ok b O:=by
 show ((t σ O).bnd _)=_
 rw [h];cases b <;> rfl
theorem z2o (hi:it0 σ O0=.ok (.val (l.map inj)) O) (hl:l.length < 50000) (hτ:∀ a,(clr (clr (σ ++ List.replicate ext none) [i]) [i]).set i (some (inj a))=τ a) (hp:∀ a ∈ l,t (τ a) O=.ok (p a) O) (he:∀ a ∈ l,p a=true->te (τ a) O=.ok (e a) O):
  z0i o ext it0 (.one i) [t] [] te σ O0=z9V o (.ok ((l.filter p).map e) O):=
 z3E (g:=.one i) hi (fun _=>rfl) (by show (l.map inj).length=_;simp) hl (fun a _=>congrArg some (hτ a)) (fun a ha=>z4v (hp a ha)) he
theorem z8a (hi:it0 σ O0=.ok (.val (l.map inj)) O) (hl:l.length < 50000) (hτ:∀ a,(clr (clr (σ ++ List.replicate ext none) [i]) [i]).set i (some (inj a))=τ a) (he:∀ a ∈ l,te (τ a) O=.ok (e a) O):
  z0i o ext it0 (.one i) [] [] te σ O0=z9V o (.ok (l.map e) O):=by
 have:=z3E (o:=o) (g:=.one i) (ts:=[]) (p:=fun _=>true) (te:=te) hi (fun _=>rfl) (by show (l.map inj).length=_;simp) hl (fun a _=>congrArg some (hτ a)) (fun a ha=>rfl) fun a ha _=>he a ha
 rw [this,List.filter_eq_self.mpr (fun _ _=>rfl)]
end
theorem zc6 {α:Type} {it:DI} {i:Nat} {body:DS} {σ:Sg} {O0 O:Ow} {l:List α} {inj:α->D} (hi:it σ O0=.ok (.val (l.map inj)) O) (I:Nat->Sg->Ow->Prop) (h:∀ (k:Nat) a σ O,l[k]?=some a->I k σ O->∃ σ' O',body (σ.set i (some (inj a))) O=.nx σ' O'/\I (k + 1) σ' O') (h0:I 0 σ O):
  ∃ σ' O',z63 it (.one i) body σ O0=.nx σ' O'/\I l.length σ' O':=by
 obtain ⟨σ',O',l1,l2⟩:=z3s (ds:=l.map inj) (step:=fun d σ O=>match Tg.put (.one i) d σ with|some σ'=>body σ' O|none=>.bad) I (fun j σ O d hI hd=>by
  rw [List.getElem?_map] at hd
  cases e:l[j]? with
  | none=>rw [e] at hd;cases hd
  | some a=>
   rw [e] at hd;cases hd
   exact h j a σ O e hI) (l.map inj).length 0 σ O h0 (by simp) (Nat.zero_le _)
 rw [List.length_map] at l2
 exact ⟨σ',O',(z6W hi).trans l1,l2⟩
theorem z6h:∀ l:List Bool,bls (l.map D.bl)=some l
 | []=>rfl
 | x :: l=>by
  show (bls (l.map D.bl)).map (x :: ·)=_
  rw [z6h l];rfl
theorem z4q {α:Type} (O:Ow) (l:List α) (p:α->Bool):zao O [.lst (l.map fun a=>D.bl (p a))]=.ok (.bl (l.any p)) O:=by
 show (match bls (l.map fun a=>D.bl (p a)) with|some bs=>R.ok (D.bl (bs.any id)) O|none=>R.bad)=_
 have:(l.map fun a=>D.bl (p a))=(l.map p).map D.bl:=by rw [List.map_map];rfl
 rw [this,z6h]
 show R.ok (D.bl _) O=_
 rw [List.any_map];rfl
theorem z7a {α:Type} (O:Ow) (l:List α) (p:α->Bool):zcC O [.lst (l.map fun a=>D.bl (p a))]=.ok (.bl (l.all p)) O:=by
 show (match bls (l.map fun a=>D.bl (p a)) with|some bs=>R.ok (D.bl (bs.all id)) O|none=>R.bad)=_
 have:(l.map fun a=>D.bl (p a))=(l.map p).map D.bl:=by rw [List.map_map];rfl
 rw [this,z6h]
 show R.ok (D.bl _) O=_
 rw [List.all_map];rfl
end DL
namespace DL
open PySem L2
structure XAt (h0:Heap) (H:Hp) (h:Heap) (a:Addr) (C:Value):Prop where
 ex:∃ oe vs,h.get? a=some oe/\(oe.cls=C/\oe.dict=none)/\oe.data=.fields vs/\1 < vs.size/\(vs[1]?=some .none \/ ∃ T oT ts,vs[1]?=some (.ref T)/\T ≠ a/\h0.get? T=none/\H T=none/\h.get? T=some oT/\oT.data=.fields ts/\ts[3]?=some .none)
 new:h0.get? a=none
 free:H a=none
structure Kp (h0:Heap) (H:Hp) (fs:List Addr) (h h':Heap):Prop where
 keep:∀ b o,h.get? b=some o->b ∉ fs->(H b ≠ none \/ h0.get? b ≠ none)->h'.get? b=some o
 slot:∀ b o,h.get? b=some o->b ∈ fs->∃ sl,h'.get? b=some { o with slots:=sl }
 there:∀ b o,h.get? b=some o->∃ o',h'.get? b=some o'
 size:h.objs.size <= h'.objs.size
open PyProof.Rows (AllBare)
def CXr (P:Program) (w:World) (Cl:Nat->Value):CXT:=fun outer H s E e s'=>∃ a c H',e=.ref a/\s'.os=s.os/\0 < s'.toks/\AllBare s'.gens/\Un (frs outer) [] H H' s.heap s'.heap/\HOk P w H' s'.heap/\XAt s.heap H' s'.heap a (Cl c)/\E (Cl c) none H'
abbrev Xk (Cl:Nat->Value) (E:XK):Nat->Hp->Prop:=fun c H=>E (Cl c) none H
section
end
structure zjq (Cl:Nat->Value) (P:Program) (w:World) (K:PySem.W.Frag) (mg:Str->Option Value) (base:Heap) (x:Str) (k n:Nat) (F:List D->Ow->R D):Prop where
 ex:∃ f fd ps,mg x=some (.ref f)/\PySem.W.keepIn K (.ref f)=true/\Binds K fd ps []/\FnOk P w K mg base (CXr P w Cl) k f fd ps (DSp K (Xk Cl) n F)
open PyProof.Rows (AllBare IntsAre)
structure zkN (mg:Str->Option Value) (base:Heap) (c Pt:Addr):Prop where
 hd:PySem.W.CodeHd base c Pt
 bl:base.BuiltinsAt mg Pt
section
end
section
end
section
variable {h0:Heap} {H:Hp}
theorem Kp.refl {h:Heap} {fs:List Addr}:Kp h0 H fs h h:=⟨fun _ _ e _ _=>e,fun b o e _=>⟨o.slots,e⟩,fun _ o e=>⟨o,e⟩,Nat.le_refl _⟩
theorem Kp.trans {h h1 h2:Heap} {fs:List Addr} (x:Kp h0 H fs h h1) (y:Kp h0 H fs h1 h2):Kp h0 H fs h h2:=
 ⟨fun b o e n k=>y.keep b o (x.keep b o e n k) n k,fun b o e n=>by
  obtain ⟨sl,e1⟩:=x.slot b o e n
  obtain ⟨sl',e2⟩:=y.slot b _ e1 n
  exact ⟨sl',e2⟩,fun b o e=>by
  obtain ⟨o1,e1⟩:=x.there b o e
  exact y.there b o1 e1,Nat.le_trans x.size y.size⟩
end
section
end
section
end
section
end
section
end
structure zkQ (nf n y xT:Str) (p0 p1 p2 p3 p5 p6 p7 pq pc:Pos) (kc):Prop where
 hfd:(nf == ("__debug__":Str))=false:=by decide
 hfcd:(nf == ("__classdict__":Str))=false:=by decide
 hnd:(n == ("__debug__":Str))=false:=by decide
 hncd:(n == ("__classdict__":Str))=false:=by decide
 hTd:(xT == ("__debug__":Str))=false:=by decide
 hs0:∀ env:Env,swapsWith (.Call (.Name nf p1) [] [] p2) none p3.line env=pure false:=by intro _;rfl
 hsA:∀ env:Env,swapsWith (.Constant .none kc pc) (some (.Name y pq)) p0.line env=pure false:=by intro _;rfl
 hs:∀ env:Env,swapsWithSole [.Name y p5] (.Name n p6) p7.line env=pure false:=by intro _;rfl
 hw:∀ env:Env,swappedStores [.Name y p5] (.Name n p6) env=pure none:=by intro _;rfl
section
end
section
end
section
end
section
end
structure ziX (out sc:Scope):Prop where
 kind:sc.kind=.function
 co:sc.isCoroutine=false
 gen:sc.isGenerator=false
 nd:(sc.names.map (·.1)).Nodup
 cell:∀ x ∈ sc.names,x.2 ≠ .cell
 loc:∀ x ∈ sc.names,x.2 ≠ .local
 frees:∀ y ∈ sc.names,y.2=.free->out.names.lookup y.1=some .cell \/ out.names.lookup y.1=some .free
section
end
structure Inner (P:Program) (w:World) (ia:Addr) (fp:List Addr) (n:Nat) (Pv:Nat->Value->Prop) (Sx:Nat->Heap->Prop):Prop where
 stab:∀ i h h',Sx i h->(∀ b ∈ ia :: fp,∀ o,h.get? b=some o->h'.get? b=some o)->Sx i h'
 item:∀ (A:Around) (i:Nat) (s:Shared) (Q:Value->Shared->Prop) (E:Value->Shared->Prop),i < n->Sx i s.heap->(∀ v h' tk,Pv i v->Sx (i + 1) h'->Heap.SameBut ia s.heap h'->Q v { s with heap:=h',toks:=tk })->wpAny (model P w) A (Builtin.SmallTypes.nextOf (.ref ia)) Q E s
 done:∀ (A:Around) (i:Nat) (s:Shared) (Q:Value->Shared->Prop) (E:Value->Shared->Prop),A.handled=none->n <= i->Sx i s.heap->(∀ h' e,Heap.ExtBut ia s.heap h'->(∃ o,h'.get? e=some o/\o.cls=.type "StopIteration")->E (.ref e) { s with heap:=h' })->wpAny (model P w) A (Builtin.SmallTypes.nextOf (.ref ia)) Q E s
section
variable {P:Program} {w:World} {A:Around} {E:Value->Shared->Prop} {s:Shared}
theorem z9Q {α:Type} {Q:α->Shared->Prop} (hh:A.handled=none) (h:∀ h' e,(∀ b o,s.heap.get? b=some o->h'.get? b=some o)->(∃ o,h'.get? e=some o/\o.cls=.type "StopIteration")->E (.ref e) { s with heap:=h' }):
  wpAny (model P w) A (newExc (.type "StopIteration") [] >>= fun e=>(raiseNew e:Sem α)) Q E s:=by
 refine wpAny_bind ?_
 simp only [newExc,newTuple]
 refine wpAny_bind (wpAny_newObj_type (?_) (by size_fits))
 refine wpAny_bind (m:=firstArgMember _ _) (wpAny_of_eq (a:=.none) (by first|rfl|(simp only [firstArgMember];rfl)) (wpAny_newObj_type ?_ (by size_fits)))
 simp only [raiseNew]
 refine wpAny_bind (wpAny_handled ?_);rw [hh]
 refine wpAny_bind (wpAny_pure (wpAny_throw (h _ _ (fun b o e=>Heap.get?_push_of_some _ (Heap.get?_push_of_some _ e)) ⟨_,Heap.get?_push_size _ rfl,rfl⟩)))
theorem zbF (ia tt:Addr) (items:Array Value) (hne:tt ≠ ia):Inner P w ia [tt] items.size (fun i v=>items[i]?=some v) (fun i h=>h.IsTupleIter ia tt i/\h.IsTuple tt items) where
 stab:=by
  rintro i h h' ⟨⟨o,e,c,d⟩,⟨o2,e2,r⟩⟩ k
  exact ⟨⟨o,k ia (by simp) o e,c,d⟩,⟨o2,k tt (by simp) o2 e2,r⟩⟩
 item:=by
  rintro A i s Q E hi ⟨hit,htt⟩ hq
  obtain ⟨ob,hob,hcl,hda⟩:=id hit
  obtain ⟨ol,hol,k1,nl,hdl⟩:=id htt
  have hxx:items[i]?=some items[i]:=Array.getElem?_eq_getElem hi
  unfold Builtin.SmallTypes.nextOf
  refine wpAny_bind (wpAny_callSpecial?_slot (name := "__next__") hit.typeIs F.slot_tuple_iterator_next (wpAny_call_entry F.slot_tuple_iterator_next hit.typeIs F.entry_tuple_iterator_next ?_ (F.args_tuple_iterator_next_1 _)))
  show wpAny _ _ (field (.ref ia) 0 >>= _) _ _ s
  refine wpAny_bind (wpAny_field hob hda (x:=.ref tt) rfl ?_)
  show wpAny _ _ (if (Value.ref tt == Value.none)=true then _ else _) _ _ s
  rw [if_neg (by exact Bool.false_ne_true)]
  show wpAny _ _ (field (.ref ia) 1 >>= _) _ _ s
  refine wpAny_bind (wpAny_field hob hda (x:=.int i 0) rfl ?_)
  show wpAny _ _ (seqItems? (.ref tt) >>= _) _ _ s
  refine wpAny_bind (wpAny_seqItems hol hdl ?_)
  simp only [Int.toNat_natCast,hxx]
  refine wpAny_bind (wpAny_setField hob hda (by simp) (wpAny_pure ⟨_,rfl,wpAny_pure (hq _ _ s.toks hxx ⟨?_,?_⟩ (Heap.SameBut.update ..))⟩))
  ·exact ⟨_,Heap.get?_update_self _ hob (Obj.isFreed_of_fields (Obj.data_mapFields hda _)),(Obj.cls_mapFields ..).trans hcl,by rw [Obj.data_mapFields hda];simp [rawInt]⟩
  ·exact ⟨ol,(Heap.SameBut.update ..).extBut _ _ hne hol,k1,nl,hdl⟩
 done:=by
  rintro A i s Q E hh hi ⟨hit,htt⟩ hq
  obtain ⟨ob,hob,hcl,hda⟩:=id hit
  obtain ⟨ol,hol,k1,nl,hdl⟩:=id htt
  have hxx:items[i]?=none:=by simp [hi]
  unfold Builtin.SmallTypes.nextOf
  refine wpAny_bind (wpAny_callSpecial?_slot (name := "__next__") hit.typeIs F.slot_tuple_iterator_next (wpAny_call_entry F.slot_tuple_iterator_next hit.typeIs F.entry_tuple_iterator_next ?_ (F.args_tuple_iterator_next_1 _)))
  show wpAny _ _ (field (.ref ia) 0 >>= _) _ _ s
  refine wpAny_bind (wpAny_field hob hda (x:=.ref tt) rfl ?_)
  show wpAny _ _ (if (Value.ref tt == Value.none)=true then _ else _) _ _ s
  rw [if_neg (by exact Bool.false_ne_true)]
  show wpAny _ _ (field (.ref ia) 1 >>= _) _ _ s
  refine wpAny_bind (wpAny_field hob hda (x:=.int i 0) rfl ?_)
  show wpAny _ _ (seqItems? (.ref tt) >>= _) _ _ s
  refine wpAny_bind (wpAny_seqItems hol hdl ?_)
  simp only [Int.toNat_natCast,hxx]
  refine wpAny_bind (wpAny_rule (wpAny_bind (wpAny_setField hob hda (by simp) ?_)))
  refine z9Q (by first|exact hh|(show A.in1.handled=none;exact hh)) fun h' e k he=>hq h' e (fun b o hb z=>k b o ((Heap.SameBut.update ..).extBut _ _ hb z)) he
theorem zbT (ia:Addr) (x:Str) (t:Tok):Inner P w ia [] x.cps.size (fun i v=>∃ c tk,x.cps[i]?=some c/\v=.str ⟨#[c]⟩ tk) (fun i h=>h.IsStrIter ia "str_ascii_iterator" x t i) where
 stab:=by
  rintro i h h' ⟨o,e,c,d⟩ k
  exact ⟨o,k ia (by simp) o e,c,d⟩
 item:=by
  rintro A i s Q E hi hit hq
  obtain ⟨ob,hob,hcl,hda⟩:=id hit
  have hxx:x.cps[i]?=some x.cps[i]:=Array.getElem?_eq_getElem hi
  unfold Builtin.SmallTypes.nextOf
  refine wpAny_bind (wpAny_callSpecial?_slot (name := "__next__") hit.typeIs F.slot_str_ascii_iterator_next (wpAny_call_entry F.slot_str_ascii_iterator_next hit.typeIs F.entry_str_ascii_iterator_next ?_ (F.args_str_ascii_iterator_next_1 _)))
  show wpAny _ _ (field (.ref ia) 0 >>= _) _ _ s
  refine wpAny_bind (wpAny_field hob hda (x:=.str x t) rfl ?_)
  show wpAny _ _ (field (.ref ia) 1 >>= _) _ _ s
  refine wpAny_bind (wpAny_field hob hda (x:=.int i 0) rfl ?_)
  simp only [Int.toNat_natCast,hxx]
  refine wpAny_bind (wpAny_setField hob hda (by simp) (wpAny_bind (wpAny_mkStr (wpAny_pure ⟨_,rfl,wpAny_pure (hq _ _ _ ⟨_,_,hxx,rfl⟩ ?_ (Heap.SameBut.update ..))⟩) (by show 1 <= sizeLine;decide))))
  exact ⟨_,Heap.get?_update_self _ hob (Obj.isFreed_of_fields (Obj.data_mapFields hda _)),(Obj.cls_mapFields ..).trans hcl,by rw [Obj.data_mapFields hda];simp [rawInt]⟩
 done:=by
  rintro A i s Q E hh hi hit hq
  obtain ⟨ob,hob,hcl,hda⟩:=id hit
  have hxx:x.cps[i]?=none:=by simp [hi]
  unfold Builtin.SmallTypes.nextOf
  refine wpAny_bind (wpAny_callSpecial?_slot (name := "__next__") hit.typeIs F.slot_str_ascii_iterator_next (wpAny_call_entry F.slot_str_ascii_iterator_next hit.typeIs F.entry_str_ascii_iterator_next ?_ (F.args_str_ascii_iterator_next_1 _)))
  show wpAny _ _ (field (.ref ia) 0 >>= _) _ _ s
  refine wpAny_bind (wpAny_field hob hda (x:=.str x t) rfl ?_)
  show wpAny _ _ (field (.ref ia) 1 >>= _) _ _ s
  refine wpAny_bind (wpAny_field hob hda (x:=.int i 0) rfl ?_)
  simp only [Int.toNat_natCast,hxx]
  refine wpAny_bind (wpAny_rule (wpAny_bind (wpAny_setField hob hda (by simp) (wpAny_bind (wpAny_letGo ?_)))))
  refine z9Q (by first|exact hh|(show A.in1.handled=none;exact hh)) fun h' e k he=>hq h' e (fun b o hb z=>k b o ((Heap.SameBut.update ..).extBut _ _ hb z)) he
theorem zbI (ia l:Addr) (items:Array Value) (hne:l ≠ ia):Inner P w ia [l] items.size (fun i v=>items[i]?=some v) (fun i h=>h.IsListIter ia l i/\h.IsList l items) where
 stab:=by
  rintro i h h' ⟨⟨o,e,c,d⟩,⟨o2,e2,r⟩⟩ k
  exact ⟨⟨o,k ia (by simp) o e,c,d⟩,⟨o2,k l (by simp) o2 e2,r⟩⟩
 item:=by
  rintro A i s Q E hi ⟨hit,hl⟩ hq
  obtain ⟨ol,hol,r⟩:=id hl
  exact wpAny_nextOf_list_item hit hl (Array.getElem?_eq_getElem hi) fun h' st sb=>hq _ h' s.toks (Array.getElem?_eq_getElem hi) ⟨st,⟨ol,sb.extBut _ _ hne hol,r⟩⟩ sb
 done:=by
  rintro A i s Q E hh hi ⟨hit,hl⟩ hq
  exact wpAny_nextOf_list_end hh hit hl (by simp [hi]) fun h' e eb he=>hq h' e eb he
end
structure ZAp (z ti to:Addr) (i1 i2:Addr) (fp1 fp2:List Addr):Prop where
 a1:ti ≠ z
 a2:to ≠ z
 a3:ti ≠ to
 b1:∀ b ∈ i1 :: fp1,b ≠ z/\b ≠ to
 b2:∀ b ∈ i2 :: fp2,b ≠ z/\b ≠ to
 c1:i1 ∉ i2 :: fp2
 c2:i2 ∉ i1 :: fp1
 d1:ti ≠ i1
 d2:ti ≠ i2
section
variable {P:Program} {w:World} {A:Around} {E:Value->Shared->Prop} {s:Shared} {z ti to i1 i2:Addr} {fp1 fp2:List Addr} {n1 n2 k:Nat} {P1 P2:Nat->Value->Prop} {S1 S2:Nat->Heap->Prop} {a b:Value}
theorem Inner.but {ia c:Addr} {fp:List Addr} {n i:Nat} {Pv:Nat->Value->Prop} {Sx:Nat->Heap->Prop} {h h':Heap} (J:Inner P w ia fp n Pv Sx) (x:Sx i h) (e:Heap.ExtBut c h h') (hc:∀ b ∈ ia :: fp,b ≠ c):Sx i h':=J.stab i h h' x fun b hb o z=>e b o (hc b hb) z
theorem zgf {Q:Value->Shared->Prop} (J1:Inner P w i1 fp1 n1 P1 S1) (J2:Inner P w i2 fp2 n2 P2 S2) (D:ZAp z ti to i1 i2 fp1 fp2) (hz:IsZip s.heap z ti to .none) (hti:IsPair s.heap ti (.ref i1) (.ref i2)) (hto:IsPair s.heap to a b) (h1:S1 k s.heap) (h2:S2 k s.heap) (l1:k < n1) (l2:k < n2)
  (hq:∀ x y h' tk,P1 k x->P2 k y->IsZip h' z ti to (rawInt s.heap.objs.size)->IsPair h' to x y->S1 (k + 1) h'->S2 (k + 1) h'->IsPair h' s.heap.objs.size x y->
   (∀ c o,c ≠ z->c ≠ to->c ≠ i1->c ≠ i2->s.heap.get? c=some o->h'.get? c=some o)->Q (.ref s.heap.objs.size) { s with heap:=h',toks:=tk }):
  wpAny (model P w) A (Builtin.«zip.__next__» ⟨[.ref z],[]⟩) (fun f s'=>∃ v,f=.done (.ret v)/\Q v s') E s:=by
 have ne1:∀ b ∈ i1 :: fp1,b ≠ z:=fun b hb=>(D.b1 b hb).1
 have ne2:∀ b ∈ i2 :: fp2,b ≠ z:=fun b hb=>(D.b2 b hb).1
 have no1:∀ b ∈ i1 :: fp1,b ≠ to:=fun b hb=>(D.b1 b hb).2
 have no2:∀ b ∈ i2 :: fp2,b ≠ to:=fun b hb=>(D.b2 b hb).2
 have n21:∀ b ∈ i2 :: fp2,b ≠ i1:=fun b hb e=>D.c1 (e ▸ hb)
 have n12:∀ b ∈ i1 :: fp1,b ≠ i2:=fun b hb e=>D.c2 (e ▸ hb)
 have m1:i1 ∈ i1 :: fp1:=List.mem_cons_self
 have m2:i2 ∈ i2 :: fp2:=List.mem_cons_self
 show wpAny _ _ (field (.ref z) 2 >>= _) _ _ s
 refine wpAny_bind (wpAny_field hz rfl (x:=(.bool false)) rfl ?_)
 show wpAny _ _ (field (.ref z) 3 >>= _) _ _ s
 refine wpAny_bind (wpAny_field hz rfl (x:=(.ref ti)) rfl (wpAny_bind (wpAny_seqItems hti rfl ?_)))
 show wpAny _ _ (Builtin.SmallTypes.ownedTupleIsFree (.ref z) >>= _) _ _ s
 refine wpAny_bind ?_;unfold Builtin.SmallTypes.ownedTupleIsFree
 refine wpAny_bind (wpAny_field hz rfl (x:=(.none)) rfl (wpAny_pure ?_))
 simp only [if_true];refine wpAny_bind (wpAny_rule (wpAny_bind (wpAny_field hz rfl (x:=(.ref to)) rfl ?_)))
 refine wpAny_bind (wpAny_setField_rec hz (by simp) fun ha za sa=>?_)
 have za:IsZip ha z ti to .ellipsis:=za
 refine wpAny_bind ?_;simp only [List.zipIdx_cons,List.zipIdx_nil,List.forIn_cons,List.forIn_nil]
 refine wpAny_bind (wpAny_bind (wpAny_onRaise ?_));show wpAny _ _ (Builtin.SmallTypes.nextOf (.ref i1) >>= _) _ _ _
 refine wpAny_bind (J1.item _ k _ _ _ l1 (J1.but h1 sa.extBut ne1) fun x hb tk1 px sb1 sb=>wpAny_pure ?_)
 have tob:IsPair hb to a b:=sb.extBut _ _ (Ne.symm (no1 _ m1)) (sa.extBut _ _ D.a2 hto)
 refine wpAny_bind (wpAny_seqItems tob rfl (wpAny_bind (wpAny_updateSeq_pair tob fun hc toc sc=>?_)))
 have toc:IsPair hc to x b:=toc
 refine wpAny_bind (wpAny_letGo (wpAny_pure (wpAny_bind (wpAny_bind (wpAny_onRaise ?_)))));show wpAny _ _ (Builtin.SmallTypes.nextOf (.ref i2) >>= _) _ _ _
 refine wpAny_bind (J2.item _ k _ _ _ l2 (J2.but (J2.but (J2.but h2 sa.extBut ne2) sb.extBut n21) sc.extBut no2) fun y hd tk2 py sd2 sd=>wpAny_pure ?_)
 have tod:IsPair hd to x b:=sd.extBut _ _ (Ne.symm (no2 _ m2)) toc
 refine wpAny_bind (wpAny_seqItems tod rfl (wpAny_bind (wpAny_updateSeq_pair tod fun he toe se=>?_)))
 have toe:IsPair he to x y:=toe
 refine wpAny_bind (wpAny_letGo (wpAny_pure (wpAny_pure (wpAny_bind (wpAny_seqItems toe rfl (wpAny_bind (wpAny_newTuple ?_)))))))
 have hsz:he.objs.size=s.heap.objs.size:=by rw [se.1,sd.1,sc.1,sb.1,sa.1]
 have ze:IsZip he z ti to .ellipsis:=se.extBut _ _ (Ne.symm D.a2) (sd.extBut _ _ (Ne.symm (ne2 _ m2)) (sc.extBut _ _ (Ne.symm D.a2) (sb.extBut _ _ (Ne.symm (ne1 _ m1)) za)))
 have ke:∀ c o,c ≠ z->c ≠ to->c ≠ i1->c ≠ i2->s.heap.get? c=some o->he.get? c=some o:=fun c o q1 q2 q3 q4 e=>se.extBut _ _ q2 (sd.extBut _ _ q4 (sc.extBut _ _ q2 (sb.extBut _ _ q3 (sa.extBut _ _ q1 e))))
 have s1e:S1 (k + 1) he:=J1.but (J1.but (J1.but sb1 sc.extBut no1) sd.extBut n12) se.extBut no1
 have s2e:S2 (k + 1) he:=J2.but sd2 se.extBut no2
 have zlt:z < he.objs.size:=Heap.lt_size ze
 show wpAny _ _ (Builtin.SmallTypes.ownedTupleHandOut (.ref z) (.ref he.objs.size) >>= _) _ _ _
 refine wpAny_bind ?_;unfold Builtin.SmallTypes.ownedTupleHandOut
 have zf:IsZip (he.push { cls:=.type "tuple",data:=.seq #[x,y] }) z ti to .ellipsis:=Heap.get?_push_of_some _ ze
 refine wpAny_bind (wpAny_setField_rec zf (by simp) fun hg zg sg=>?_)
 have zg:IsZip hg z ti to (rawInt he.objs.size):=zg
 refine wpAny_setField_rec zg (by simp) fun hi zi si=>?_
 have zi:IsZip hi z ti to (rawInt he.objs.size):=zi
 have up:∀ c o,c ≠ z->he.get? c=some o->hi.get? c=some o:=fun c o q e=>si.extBut _ _ q (sg.extBut _ _ q (Heap.get?_push_of_some _ e))
 have pi:IsPair hi he.objs.size x y:=si.extBut _ _ (Nat.ne_of_gt zlt) (sg.extBut _ _ (Nat.ne_of_gt zlt) (Heap.get?_push_size _ rfl))
 rw [hsz] at zi pi
 refine wpAny_pure ⟨_,rfl,?_⟩
 show Q (.ref he.objs.size) _
 rw [hsz]
 exact hq x y hi _ px py zi (up _ _ D.a2 toe) (J1.stab _ _ _ s1e fun b hb o e=>up b o (ne1 b hb) e) (J2.stab _ _ _ s2e fun b hb o e=>up b o (ne2 b hb) e) pi fun c o q1 q2 q3 q4 e=>up c o q1 (ke c o q1 q2 q3 q4 e)
theorem zfA {Q:Fin->Shared->Prop} (hh:A.handled=none) (J1:Inner P w i1 fp1 n1 P1 S1) (J2:Inner P w i2 fp2 n2 P2 S2) (D:ZAp z ti to i1 i2 fp1 fp2) (hz:IsZip s.heap z ti to .none) (hti:IsPair s.heap ti (.ref i1) (.ref i2)) (hto:IsPair s.heap to a b) (h1:S1 k s.heap) (h2:S2 k s.heap) (hend:n1 <= k \/ (k < n1/\n2 <= k))
  (hE:∀ h' tk e,(∀ c o,c ≠ z->c ≠ to->c ≠ i1->c ≠ i2->s.heap.get? c=some o->h'.get? c=some o)->(∃ o,h'.get? e=some o/\o.cls=.type "StopIteration")->E (.ref e) { s with heap:=h',toks:=tk }):
  wpAny (model P w) A (Builtin.«zip.__next__» ⟨[.ref z],[]⟩) Q E s:=by
 have ne1:∀ b ∈ i1 :: fp1,b ≠ z:=fun b hb=>(D.b1 b hb).1
 have ne2:∀ b ∈ i2 :: fp2,b ≠ z:=fun b hb=>(D.b2 b hb).1
 have no1:∀ b ∈ i1 :: fp1,b ≠ to:=fun b hb=>(D.b1 b hb).2
 have no2:∀ b ∈ i2 :: fp2,b ≠ to:=fun b hb=>(D.b2 b hb).2
 have n21:∀ b ∈ i2 :: fp2,b ≠ i1:=fun b hb e=>D.c1 (e ▸ hb)
 have m1:i1 ∈ i1 :: fp1:=List.mem_cons_self
 have m2:i2 ∈ i2 :: fp2:=List.mem_cons_self
 show wpAny _ _ (field (.ref z) 2 >>= _) _ _ s
 refine wpAny_bind (wpAny_field hz rfl (x:=(.bool false)) rfl ?_)
 show wpAny _ _ (field (.ref z) 3 >>= _) _ _ s
 refine wpAny_bind (wpAny_field hz rfl (x:=(.ref ti)) rfl (wpAny_bind (wpAny_seqItems hti rfl ?_)))
 show wpAny _ _ (Builtin.SmallTypes.ownedTupleIsFree (.ref z) >>= _) _ _ s
 refine wpAny_bind ?_;unfold Builtin.SmallTypes.ownedTupleIsFree
 refine wpAny_bind (wpAny_field hz rfl (x:=(.none)) rfl (wpAny_pure ?_))
 simp only [if_true];refine wpAny_bind (wpAny_rule (wpAny_bind (wpAny_field hz rfl (x:=(.ref to)) rfl ?_)))
 refine wpAny_bind (wpAny_setField_rec hz (by simp) fun ha za sa=>?_)
 have za:IsZip ha z ti to .ellipsis:=za
 refine wpAny_bind ?_;simp only [List.zipIdx_cons,List.zipIdx_nil,List.forIn_cons,List.forIn_nil]
 refine wpAny_bind (wpAny_bind (wpAny_onRaise ?_));show wpAny _ _ (Builtin.SmallTypes.nextOf (.ref i1) >>= _) _ _ _
 have far:∀ {h:Heap} {e:Addr},IsZip h z ti to .ellipsis->(∃ o,h.get? e=some o/\o.cls=.type "StopIteration")->e ≠ z:=fun {h e} hz ⟨o,ho,hc⟩ q=>by subst q;rw [hz] at ho;cases ho;simp at hc
 rcases hend with hend|⟨l1,hend⟩
 ·refine wpAny_bind (J1.done _ k _ _ _ hh hend (J1.but h1 sa.extBut ne1) fun hb e eb he=>?_)
  have zb:IsZip hb z ti to .ellipsis:=eb _ _ (Ne.symm (ne1 _ m1)) za
  have nz:=far zb he
  obtain ⟨oe,hoe,hce⟩:=he
  exact wpAny_setField_rec zb (by simp) fun hc _ sc=>hE hc _ e (fun c o q1 _ q3 _ x=>sc.extBut _ _ q1 (eb _ _ q3 (sa.extBut _ _ q1 x))) ⟨oe,sc.extBut _ _ nz hoe,hce⟩
 ·refine wpAny_bind (J1.item _ k _ _ _ l1 (J1.but h1 sa.extBut ne1) fun x hb tk1 px sb1 sb=>wpAny_pure ?_)
  have tob:IsPair hb to a b:=sb.extBut _ _ (Ne.symm (no1 _ m1)) (sa.extBut _ _ D.a2 hto)
  refine wpAny_bind (wpAny_seqItems tob rfl (wpAny_bind (wpAny_updateSeq_pair tob fun hc toc sc=>?_)))
  refine wpAny_bind (wpAny_letGo (wpAny_pure (wpAny_bind (wpAny_bind (wpAny_onRaise ?_)))));show wpAny _ _ (Builtin.SmallTypes.nextOf (.ref i2) >>= _) _ _ _
  refine wpAny_bind (J2.done _ k _ _ _ hh hend (J2.but (J2.but (J2.but h2 sa.extBut ne2) sb.extBut n21) sc.extBut no2) fun hd e eb he=>?_)
  have zd:IsZip hd z ti to .ellipsis:=eb _ _ (Ne.symm (ne2 _ m2)) (sc.extBut _ _ (Ne.symm D.a2) (sb.extBut _ _ (Ne.symm (ne1 _ m1)) za))
  have nz:=far zd he
  obtain ⟨oe,hoe,hce⟩:=he
  exact wpAny_setField_rec zd (by simp) fun hf _ sf=>hE hf _ e (fun c o q1 q2 q3 q4 x=>sf.extBut _ _ q1 (eb _ _ q4 (sc.extBut _ _ q2 (sb.extBut _ _ q3 (sa.extBut _ _ q1 x))))) ⟨oe,sf.extBut _ _ nz hoe,hce⟩
theorem zfD {Q:Option Value->Shared->Prop} (J1:Inner P w i1 fp1 n1 P1 S1) (J2:Inner P w i2 fp2 n2 P2 S2) (D:ZAp z ti to i1 i2 fp1 fp2) (hz:IsZip s.heap z ti to .none) (hti:IsPair s.heap ti (.ref i1) (.ref i2)) (hto:IsPair s.heap to a b) (h1:S1 k s.heap) (h2:S2 k s.heap) (l1:k < n1) (l2:k < n2)
  (hq:∀ x y h' tk,P1 k x->P2 k y->IsZip h' z ti to (rawInt s.heap.objs.size)->IsPair h' to x y->S1 (k + 1) h'->S2 (k + 1) h'->IsPair h' s.heap.objs.size x y->
   (∀ c o,c ≠ z->c ≠ to->c ≠ i1->c ≠ i2->s.heap.get? c=some o->h'.get? c=some o)->Q (some (.ref s.heap.objs.size)) { s with heap:=h',toks:=tk }):wpAny (model P w) A (pyNext (.ref z)) Q E s:=by
 have ht:s.TypeIs (.ref z) "zip":=⟨_,hz,rfl⟩
 unfold pyNext
 exact wpAny_bind (wpAny_attempt (wpAny_callSpecial?_slot (name := "__next__") ht F.slot_zip_next (wpAny_call_entry F.slot_zip_next ht F.entry_zip_next (zgf J1 J2 D hz hti hto h1 h2 l1 l2 fun x y h' tk q1 q2 q3 q4 q5 q6 q7 q8=>wpAny_pure (hq x y h' tk q1 q2 q3 q4 q5 q6 q7 q8)) (F.args_zip_next_1 _))))
theorem ziD {Q:Option Value->Shared->Prop} (hh:A.handled=none) (J1:Inner P w i1 fp1 n1 P1 S1) (J2:Inner P w i2 fp2 n2 P2 S2) (D:ZAp z ti to i1 i2 fp1 fp2) (hz:IsZip s.heap z ti to .none) (hti:IsPair s.heap ti (.ref i1) (.ref i2)) (hto:IsPair s.heap to a b) (h1:S1 k s.heap) (h2:S2 k s.heap) (hend:n1 <= k \/ (k < n1/\n2 <= k))
  (hq:∀ h' tk,(∀ c o,c ≠ z->c ≠ to->c ≠ i1->c ≠ i2->s.heap.get? c=some o->h'.get? c=some o)->Q none { s with heap:=h',toks:=tk }):wpAny (model P w) A (pyNext (.ref z)) Q E s:=by
 have ht:s.TypeIs (.ref z) "zip":=⟨_,hz,rfl⟩
 unfold pyNext
 refine wpAny_bind (wpAny_attempt (wpAny_callSpecial?_slot (name := "__next__") ht F.slot_zip_next (wpAny_call_entry F.slot_zip_next ht F.entry_zip_next (zfA hh J1 J2 D hz hti hto h1 h2 hend fun h' tk e hk he=>?_) (F.args_zip_next_1 _))))
 obtain ⟨oe,ho,hc⟩:=he
 exact wpAny_bind (wpAny_isInstance (T := "StopIteration") (b:=true) ⟨oe,ho,hc⟩ isSubtype_stop (wpAny_pure (hq _ tk hk)))
end
inductive ZK where
 | tup (t:Addr) (items:Array Value)
 | str (x:Str) (t:Tok)
 | lst (l:Addr) (items:Array Value)
def ZK.val:ZK->Value
 | .tup t _=>.ref t
 | .str x t=>.str x t
 | .lst l _=>.ref l
def ZK.obj:ZK->Obj
 | .tup t _=>{ cls:=.type "tuple_iterator",data:=.fields #[.ref t,.int 0 0] }
 | .str x t=>{ cls:=.type "str_ascii_iterator",data:=.fields #[.str x t,.int 0 0] }
 | .lst l _=>{ cls:=.type "list_iterator",data:=.fields #[.ref l,.int 0 0] }
def ZK.pre (h:Heap):ZK->Prop
 | .tup t items=>h.IsTuple t items
 | .str x _=>x.cps.all (· < 128)=true
 | .lst l items=>h.IsList l items
theorem ZK.keep {h h':Heap} (k:∀ b o,h.get? b=some o->h'.get? b=some o):∀ (q:ZK),q.pre h->q.pre h'
 | .tup t items,⟨o,e,r⟩=>⟨o,k _ _ e,r⟩
 | .str x t,e=>e
 | .lst l items,⟨o,e,r⟩=>⟨o,k _ _ e,r⟩
theorem ZK.iter {P:Program} {w:World} {A:Around} {E:Value->Shared->Prop} {s:Shared} {Q:Value->Shared->Prop} (q:ZK) (h:q.pre s.heap) (hq:Q (.ref s.heap.objs.size) { s with heap:=s.heap.push q.obj }):wpAny (model P w) A (pyIter q.val) Q E s:=by
 cases q with
 | tup t items=>exact wpAny_pyIter_tuple h hq
 | str x t=>exact wpAny_pyIter_ascii h hq
 | lst l items=>exact wpAny_pyIter_list h hq
abbrev zH (h:Heap) (a b:ZK):Heap:=(((((h.push a.obj).push b.obj).push { cls:=.type "tuple",data:=.seq #[.ref h.objs.size,.ref (h.push a.obj).objs.size] }).push { cls:=.type "tuple",data:=.seq #[.none,.none] }).push
 { cls:=.type "zip",data:=.fields #[.none,.bool false,.bool false,.ref ((h.push a.obj).push b.obj).objs.size,.ref (((h.push a.obj).push b.obj).push { cls:=.type "tuple",data:=.seq #[.ref h.objs.size,.ref (h.push a.obj).objs.size] }).objs.size] })
abbrev zA (h:Heap) (a b:ZK):Addr:=((((h.push a.obj).push b.obj).push { cls:=.type "tuple",data:=.seq #[.ref h.objs.size,.ref (h.push a.obj).objs.size] }).push { cls:=.type "tuple",data:=.seq #[.none,.none] }).objs.size
theorem zge (a b:ZK) (va vb:Value) (ea:a.val=va) (eb:b.val=vb):Meets (Builtin.«zip.__new__» ⟨[.type "zip",va,vb],[]⟩) (fun _ R s=>a.pre s.heap/\b.pre s.heap/\R (.ok (.ret (.ref (zA s.heap a b)))) { s with heap:=zH s.heap a b }):=
 .of_wp fun P w A R s h=>by
  obtain ⟨hp,g,d,tk,os⟩:=s;obtain ⟨h1,h2,h⟩:=h
  have hsub:=sub_zip
  have i1:∀ {E:Value->Shared->Prop} {Q:Value->Shared->Prop},Q (.ref hp.objs.size) ⟨hp.push a.obj,g,d,tk,os⟩->wpAny (model P w) A.in1 (pyIter va) Q E ⟨hp,g,d,tk,os⟩:=fun {E Q} hq=>by rw [<- ea];exact a.iter (s:=⟨hp,g,d,tk,os⟩) h1 hq
  have h2':b.pre (hp.push a.obj):=b.keep (fun c o e=>Heap.get?_push_of_some _ e) h2
  have i2:∀ {E:Value->Shared->Prop} {Q:Value->Shared->Prop},Q (.ref (hp.push a.obj).objs.size) ⟨(hp.push a.obj).push b.obj,g,d,tk,os⟩->wpAny (model P w) A.in1 (pyIter vb) Q E ⟨hp.push a.obj,g,d,tk,os⟩:=fun {E Q} hq=>by rw [<- eb];exact b.iter (s:=⟨hp.push a.obj,g,d,tk,os⟩) h2' hq
  wp_walk using i1,i2
  exact ⟨_,rfl,h⟩
section
variable {P:Program} {w:World} {A:Around} {E:Value->Shared->Prop} {s:Shared}
theorem zc9 (a b:ZK) {Q:Value->Shared->Prop} (ha:a.pre s.heap) (hb:b.pre s.heap)
  (h:∀ h',IsZip h' (s.heap.objs.size + 4) (s.heap.objs.size + 2) (s.heap.objs.size + 3) .none->IsPair h' (s.heap.objs.size + 2) (.ref s.heap.objs.size) (.ref (s.heap.objs.size + 1))->IsPair h' (s.heap.objs.size + 3) .none .none->
   h'.get? s.heap.objs.size=some a.obj->h'.get? (s.heap.objs.size + 1)=some b.obj->(∀ c o,s.heap.get? c=some o->h'.get? c=some o)->Q (.ref (s.heap.objs.size + 4)) { s with heap:=h' }):
  wpAny (model P w) A (call (.type "zip") [a.val,b.val]) Q E s:=by
 refine callType_new F.called_zip (by decide) (F.typeCall_zip_2 _ _) (F.newCall_zip_2 _ _) (fun obj=>F.args_object_init_3 obj _ _) F.entry_zip_new (zge a b _ _ rfl rfl) ⟨ha,hb,?_⟩
 have fa:a.obj.isFreed=false:=by cases a <;> rfl
 have fb:b.obj.isFreed=false:=by cases b <;> rfl
 have e1:(s.heap.push a.obj).objs.size=s.heap.objs.size + 1:=Heap.size_push ..
 have e2:((s.heap.push a.obj).push b.obj).objs.size=s.heap.objs.size + 2:=by rw [Heap.size_push,e1]
 have e3:(((s.heap.push a.obj).push b.obj).push { cls:=.type "tuple",data:=.seq #[.ref s.heap.objs.size,.ref (s.heap.push a.obj).objs.size] }).objs.size=s.heap.objs.size + 3:=by rw [Heap.size_push,e2]
 have e4:zA s.heap a b=s.heap.objs.size + 4:=by show Array.size _=_;rw [Heap.size_push,e3]
 have g5:(zH s.heap a b).get? (zA s.heap a b)=some _:=Heap.get?_push_size _ rfl
 have g4:(zH s.heap a b).get? (((s.heap.push a.obj).push b.obj).push { cls:=.type "tuple",data:=.seq #[.ref s.heap.objs.size,.ref (s.heap.push a.obj).objs.size] }).objs.size=some _:=Heap.get?_push_of_some _ (Heap.get?_push_size _ rfl)
 have g3:(zH s.heap a b).get? ((s.heap.push a.obj).push b.obj).objs.size=some _:=Heap.get?_push_of_some _ (Heap.get?_push_of_some _ (Heap.get?_push_size _ rfl))
 have g2:(zH s.heap a b).get? (s.heap.push a.obj).objs.size=some _:=Heap.get?_push_of_some _ (Heap.get?_push_of_some _ (Heap.get?_push_of_some _ (Heap.get?_push_size _ fb)))
 have g1:(zH s.heap a b).get? s.heap.objs.size=some _:=Heap.get?_push_of_some _ (Heap.get?_push_of_some _ (Heap.get?_push_of_some _ (Heap.get?_push_of_some _ (Heap.get?_push_size _ fa))))
 show _/\_
 rw [e2,e3,e4] at g5
 rw [e3] at g4
 rw [e1,e2] at g3
 rw [e1] at g2
 rw [e4]
 exact ⟨⟨_,g5,rfl⟩,h _ g5 g3 g4 g1 g2 fun c o x=>Heap.get?_push_of_some _ (Heap.get?_push_of_some _ (Heap.get?_push_of_some _ (Heap.get?_push_of_some _ (Heap.get?_push_of_some _ x))))⟩
end
def Held (X:Cx) (H:Hp) (h:Heap) (b:Addr):Prop:=H b ≠ none \/ ∃ o,X.base.get? b=some o
theorem Held.far {X:Cx} {pins:List (Addr × Obj)} {σ:St} {H:Hp} {s:Shared} {b q:Addr} (I:L2.Inv X pins σ H s) (x:Held X H s.heap b) (f:z88 X pins H q):b ≠ q:=by
 rintro rfl
 rcases x with x|⟨o,e⟩
 ·exact x f.1
 ·rcases f.2.2.2.1 with z|z
  ·exact I.ok.noex b o e z
  ·exact absurd (Nat.lt_of_lt_of_le (Heap.lt_size e) I.ok.bsz) (Nat.not_lt.mpr z)
structure zf5 (P:Program) (w:World) (K:PySem.W.Frag) (J:It) (ia:Addr) (S:Nat->Heap->Prop):Prop where
 obj:∀ i h,S i h->∃ o,h.get? ia=some o/\∀ v,o.data ≠ .cell v
 keep:∀ i h h',S i h->(∀ o,h.get? ia=some o->h'.get? ia=some o)->S i h'
 got:∀ (X:Cx),X.prog=P->X.w=w->X.K=K->∀ (i:Nat) (pins:List (Addr × Obj)) (s:Shared) (σ:St) (H:Hp),L2.Inv X pins σ H s->z88 X pins H ia->S i s.heap->(J.go i H \/ J.stop i H)->
  ∃ fp n Pv Sx,Inner P w ia fp n Pv Sx/\Sx i s.heap/\(∀ j h,Sx j h->S j h)/\(J.go i H->i < n)/\(J.stop i H->n <= i)/\(∀ v,Pv i v->∃ x,RelV x v/\J.yld i H x H)/\∀ b ∈ fp,Held X H s.heap b
section
variable {P:Program} {w:World} {K:PySem.W.Frag}
theorem zef {X:Cx} {pins:List (Addr × Obj)} {σ:St} {H:Hp} {s:Shared} {a:Addr} {xs:List V} (I:L2.Inv X pins σ H s) (h:SqT X.K H a xs):Held X H s.heap a:=by
 rcases h with h|⟨o,its,n,hk,_⟩
 ·exact .inl (by rcases h with h|⟨_,h⟩ <;> (rw [h];simp))
 ·exact .inr ⟨o,I.ok.mod.kin a o hk⟩
theorem zeJ {X:Cx} {pins:List (Addr × Obj)} {σ:St} {H:Hp} {s:Shared} {a:Addr} {xs:List V} (I:L2.Inv X pins σ H s) (h:SqL X.K H a xs):Held X H s.heap a:=by
 rcases h with h|⟨o,its,n,hk,_⟩
 ·exact .inl (by rcases h with h|⟨_,h⟩ <;> (rw [h];simp))
 ·exact .inr ⟨o,I.ok.mod.kin a o hk⟩
theorem z7t {xs:List V} {its:List Value} {i:Nat} {v:Value} (r:Vals xs its) (e:its[i]?=some v):∃ x,xs[i]?=some x/\RelV x v:=by
 have hl:=r.length
 have hi:i < xs.length:=by have:=(List.getElem?_eq_some_iff.mp e).1;omega
 obtain ⟨u,g1,g2⟩:=r.get (List.getElem?_eq_getElem hi)
 rw [e] at g1;cases g1
 exact ⟨_,List.getElem?_eq_getElem hi,g2⟩
theorem zeh (a ia:Addr):zf5 P w K (Itt K a) ia (fun i h=>h.IsTupleIter ia a i) where
 obj:=fun i h ⟨o,e,c,d⟩=>⟨o,e,fun v z=>by rw [d] at z;cases z⟩
 keep:=fun i h h' ⟨o,e,c,d⟩ k=>⟨o,k o e,c,d⟩
 got:=by
  intro X hP hw hK i pins s σ H I hf st hg
  subst hP hw hK
  have hs:∃ xs,SqT X.K H a xs:=by
   rcases hg with ⟨xs,x,h,_⟩|⟨xs,h,_⟩ <;> exact ⟨xs,h⟩
  obtain ⟨xs,hq⟩:=hs
  obtain ⟨its,rv,p,hz⟩:=I.tuple hq
  have hl:=rv.length
  refine ⟨[a],_,_,_,zbF ia a its.toArray ((zef I hq).far I hf),⟨st,p⟩,fun j h z=>z.1,fun ⟨ys,y,h1,h2⟩=>?_,fun ⟨ys,h1,h2⟩=>?_,fun v hv=>?_,fun b hb=>?_⟩
  ·have e:=I.tuple_inj h1 hq;subst e
   have:=(List.getElem?_eq_some_iff.mp h2).1
   simp;omega
  ·have e:=I.tuple_inj h1 hq;subst e
   simp;omega
  ·have hv':its[i]?=some v:=by simpa using hv
   obtain ⟨x,e1,r1⟩:=z7t rv hv'
   exact ⟨x,r1,rfl,fun ys hy=>by rw [I.tuple_inj hy hq];exact e1⟩
  ·have:b=a:=by simpa using hb
   subst this;exact zef I hq
theorem zeP (a ia:Addr):zf5 P w K (Itl K a) ia (fun i h=>h.IsListIter ia a i) where
 obj:=fun i h ⟨o,e,c,d⟩=>⟨o,e,fun v z=>by rw [d] at z;cases z⟩
 keep:=fun i h h' ⟨o,e,c,d⟩ k=>⟨o,k o e,c,d⟩
 got:=by
  intro X hP hw hK i pins s σ H I hf st hg
  subst hP hw hK
  have hs:∃ xs,SqL X.K H a xs:=by
   rcases hg with ⟨xs,x,h,_⟩|⟨xs,h,_⟩ <;> exact ⟨xs,h⟩
  obtain ⟨xs,hq⟩:=hs
  obtain ⟨its,rv,p,hz⟩:=I.list hq
  have hl:=rv.length
  refine ⟨[a],_,_,_,zbI ia a its.toArray ((zeJ I hq).far I hf),⟨st,p.isList⟩,fun j h z=>z.1,fun ⟨ys,y,h1,h2⟩=>?_,fun ⟨ys,h1,h2⟩=>?_,fun v hv=>?_,fun b hb=>?_⟩
  ·have e:=I.list_inj h1 hq;subst e
   have:=(List.getElem?_eq_some_iff.mp h2).1
   simp;omega
  ·have e:=I.list_inj h1 hq;subst e
   simp;omega
  ·have hv':its[i]?=some v:=by simpa using hv
   obtain ⟨x,e1,r1⟩:=z7t rv hv'
   exact ⟨x,r1,rfl,fun ys hy=>by rw [I.list_inj hy hq];exact e1⟩
  ·have:b=a:=by simpa using hb
   subst this;exact zeJ I hq
theorem in_str (x:Str) (t:Tok) (ia:Addr):zf5 P w K (Its x) ia (fun i h=>h.IsStrIter ia "str_ascii_iterator" x t i) where
 obj:=fun i h ⟨o,e,c,d⟩=>⟨o,e,fun v z=>by rw [d] at z;cases z⟩
 keep:=fun i h h' ⟨o,e,c,d⟩ k=>⟨o,k o e,c,d⟩
 got:=by
  intro X hP hw hK i pins s σ H I hf st hg
  subst hP hw hK
  refine ⟨[],_,_,_,zbT ia x t,st,fun j h z=>z,fun z=>z,fun z=>z,fun v ⟨c,tk,e,hv⟩=>?_,fun b hb=>by cases hb⟩
  subst hv
  exact ⟨.str ⟨#[c]⟩,⟨_,rfl⟩,rfl,c,e,rfl⟩
end
def Itw (J1 J2:It):It:=
 ⟨fun i H=>J1.go i H/\J2.go i H,fun i H v H'=>∃ p x y,H p=none/\v=.ref p/\J1.yld i H x H/\J2.yld i H y H/\H'=upd H p (.tup [x,y]),fun i H=>J1.stop i H/\(J2.go i H \/ J2.stop i H) \/ J1.go i H/\J2.stop i H⟩
def zkF (z t o i j:Addr) (S1 S2:Nat->Heap->Prop) (n:Nat) (h:Heap):Prop:=IsZip h z t o .none/\IsPair h t (.ref i) (.ref j)/\(∃ a b,IsPair h o a b)/\S1 n h/\S2 n h
theorem zb1 {P:Program} {w:World} {K:PySem.W.Frag} {J1 J2:It} {S1 S2:Nat->Heap->Prop} {es:List Expr} {kt} {pt:Pos} (z t o i j:Addr) (ap:[z,t,o,i,j].Nodup) (N1:zf5 P w K J1 i S1) (N2:zf5 P w K J2 j S2):zb9 P w K (.Tuple es kt pt) (Itw J1 J2) [z,t,o,i,j] z (zkF z t o i j S1 S2):=by
 simp only [List.nodup_cons,List.mem_cons,List.not_mem_nil,or_false,not_or,List.nodup_nil,and_true] at ap
 obtain ⟨⟨a1,a2,a3,a4⟩,⟨b1,b2,b3⟩,⟨c1,c2⟩,d1,_⟩:=ap
 have zap:∀ {X:Cx} {pins:List (Addr × Obj)} {s:Shared} {σ:St} {H:Hp} {fp1 fp2:List Addr},L2.Inv X pins σ H s->(∀ b ∈ [z,t,o,i,j],z88 X pins H b)->(∀ b ∈ fp1,Held X H s.heap b)->(∀ b ∈ fp2,Held X H s.heap b)->ZAp z t o i j fp1 fp2:=fun {X pins s σ H fp1 fp2} I hf h1 h2=>
  ⟨Ne.symm a1,Ne.symm a2,b1,fun b hb=>(List.mem_cons.mp hb).elim (fun e=>by rw [e];exact ⟨Ne.symm a3,Ne.symm c1⟩) fun hb=>⟨(h1 b hb).far I (hf z (by simp)),(h1 b hb).far I (hf o (by simp))⟩,
   fun b hb=>(List.mem_cons.mp hb).elim (fun e=>by rw [e];exact ⟨Ne.symm a4,Ne.symm c2⟩) fun hb=>⟨(h2 b hb).far I (hf z (by simp)),(h2 b hb).far I (hf o (by simp))⟩,
   fun hb=>(List.mem_cons.mp hb).elim d1 fun hb=>(h2 i hb).far I (hf i (by simp)) rfl,fun hb=>(List.mem_cons.mp hb).elim (Ne.symm d1) fun hb=>(h1 j hb).far I (hf j (by simp)) rfl,b2,b3⟩
 refine ⟨by simp,fun n h st b hb=>?_,fun n h h' st k=>?_,?_,?_,fun A n s Q E st q=>wpAny_pyIter_zip st.1 q⟩
 ·obtain ⟨hz,ht,⟨a,b',ho⟩,hi,hj⟩:=st
  simp only [List.mem_cons,List.not_mem_nil,or_false] at hb
  rcases hb with rfl|rfl|rfl|rfl|rfl
  ·exact ⟨_,hz,fun v e=>by cases e⟩
  ·exact ⟨_,ht,fun v e=>by cases e⟩
  ·exact ⟨_,ho,fun v e=>by cases e⟩
  ·exact N1.obj n h hi
  ·exact N2.obj n h hj
 ·obtain ⟨hz,ht,⟨a,b',ho⟩,hi,hj⟩:=st
  exact ⟨k z (by simp) _ hz,k t (by simp) _ ht,⟨a,b',k o (by simp) _ ho⟩,N1.keep n h h' hi (k i (by simp)),N2.keep n h h' hj (k j (by simp))⟩
 ·intro X hP hw hK hc n pins s σ H E I hf st hg
  obtain ⟨g1,g2⟩:=hg
  obtain ⟨hz,ht,⟨a,b,ho⟩,hi,hj⟩:=st
  obtain ⟨fp1,n1,P1,T1,Z1,s1,u1,go1,st1,y1,f1⟩:=N1.got X hP hw hK n pins s σ H I (hf i (by simp)) hi (.inl g1)
  obtain ⟨fp2,n2,P2,T2,Z2,s2,u2,go2,st2,y2,f2⟩:=N2.got X hP hw hK n pins s σ H I (hf j (by simp)) hj (.inl g2)
  have D:=zap I hf f1 f2
  subst hP hw hK
  refine wT I (zfD Z1 Z2 D hz ht ho s1 s2 (go1 g1) (go2 g2) fun x y h' tk px py q1 q2 q3 q4 q5 hk htk=>⟨_,rfl,?_⟩)
  obtain ⟨vx,rx,yx⟩:=y1 x px
  obtain ⟨vy,ry,yy⟩:=y2 y py
  refine wpAny_letOwnedTupleGo_zip q1 fun h'' e1 e2=>?_
  have nb:∀ q ∈ [z,t,o,i,j],s.heap.objs.size ≠ q:=fun q hq e=>by
   have:∃ ob,s.heap.get? q=some ob:=by
    simp only [List.mem_cons,List.not_mem_nil,or_false] at hq
    rcases hq with rfl|rfl|rfl|rfl|rfl
    ·exact ⟨_,hz⟩
    ·exact ⟨_,ht⟩
    ·exact ⟨_,ho⟩
    ·obtain ⟨ob,g,_⟩:=N1.obj n _ hi;exact ⟨_,g⟩
    ·obtain ⟨ob,g,_⟩:=N2.obj n _ hj;exact ⟨_,g⟩
   obtain ⟨ob,g⟩:=this
   exact absurd (Heap.lt_size g) (by rw [e];exact Nat.lt_irrefl _)
  have keep:∀ c ob,c ∉ [z,t,o,i,j]->s.heap.get? c=some ob->h''.get? c=some ob:=fun c ob hc e=>by
   simp only [List.mem_cons,List.not_mem_nil,or_false,not_or] at hc
   exact e2.extBut _ _ hc.1 (hk c ob hc.1 hc.2.2.1 hc.2.2.2.1 hc.2.2.2.2 e)
  have I1:L2.Inv X pins σ H { s with heap:=h'',toks:=tk }:=Inv.turns [z,t,o,i,j] I keep hf
  have hnew:h''.get? s.heap.objs.size=some { cls:=.type "tuple",data:=.seq #[x,y] }:=e2.extBut _ _ (nb z (by simp)) q5
  have fr:H s.heap.objs.size=none:=I.hok.fresh (Nat.le_refl _)
  have I2:L2.Inv X pins σ (upd H s.heap.objs.size (.tup [vx,vy])) { s with heap:=h'',toks:=tk }:=by
   have un:Un (frs X.stack) [z,t,o,i,j] H (upd H s.heap.objs.size (.tup [vx,vy])) s.heap h'':=by
    refine ⟨fun c ob e _ _ hc=>keep c ob hc e,fun c ob e _ _ hc=>⟨ob.slots,keep c ob hc e⟩,fun c ob e hn _=>?_,fun c ob e hc=>⟨ob,keep c ob hc e⟩,fun c zs e=>?_,fun c ob u e=>?_,fun c ps e=>⟨#[],?_⟩⟩
    ·rw [z0g (Nat.ne_of_lt (Heap.lt_size e))];exact hn
    ·rw [z0g (z0p e fr)];exact e
    ·rw [z0g (z0p e fr)];exact e
    ·rw [z0g (z0p e fr),e];simp
   have hok:HOk X.prog X.w (upd H s.heap.objs.size (.tup [vx,vy])) h'':=by
    intro c u' e
    by_cases hc:c=s.heap.objs.size
    ·subst hc
     rw [z0u] at e;cases e
     exact ⟨by show 2 <= sizeLine;decide,[x,y],.cons rx (.cons ry .nil),⟨_,hnew,rfl,_,rfl⟩⟩
    ·rw [z0g hc] at e
     refine (I1.hok c u' e).stay (fun _ _ _ q=>q) (fun p q=>?_) fun p zs q=>?_
     ·by_cases hp:p=s.heap.objs.size
      ·subst hp;rw [fr] at q;cases q
      ·rw [z0g hp];exact q
     ·by_cases hp:p=s.heap.objs.size
      ·subst hp;rw [fr] at q;cases q
      ·rw [z0g hp];exact q
   exact I.call (t':=tk) (d':=s.drawn) un hok I.bare fun b hb=>let ⟨_,f1,_,f3,f4,f5⟩:=hf b hb;⟨f3,f1,f4,f5⟩
  refine ⟨.ref s.heap.objs.size,_,I2,rfl,⟨_,vx,vy,fr,rfl,yx,yy,rfl⟩,⟨e1,?_,⟨_,_,e2.extBut _ _ D.a2 q2⟩,?_,?_⟩,fun b hb=>?_⟩
  ·exact e2.extBut _ _ D.a1 (hk _ _ D.a1 D.a3 D.d1 D.d2 ht)
  ·exact u1 _ _ (Z1.but q3 e2.extBut fun b hb=>(D.b1 b hb).1)
  ·exact u2 _ _ (Z2.but q4 e2.extBut fun b hb=>(D.b2 b hb).1)
  ·rw [z0g (Ne.symm (nb b hb))];exact (hf b hb).1
 ·intro X hP hw hK hc n pins s σ H E I hf st hg
  obtain ⟨hz,ht,⟨a,b,ho⟩,hi,hj⟩:=st
  have k1:J1.go n H \/ J1.stop n H:=hg.elim (fun z=>.inr z.1) fun z=>.inl z.1
  have k2:J2.go n H \/ J2.stop n H:=hg.elim (fun z=>z.2) fun z=>.inr z.2
  obtain ⟨fp1,n1,P1,T1,Z1,s1,u1,go1,st1,y1,f1⟩:=N1.got X hP hw hK n pins s σ H I (hf i (by simp)) hi k1
  obtain ⟨fp2,n2,P2,T2,Z2,s2,u2,go2,st2,y2,f2⟩:=N2.got X hP hw hK n pins s σ H I (hf j (by simp)) hj k2
  have D:=zap I hf f1 f2
  subst hP hw hK
  refine wT I (ziD (I.ok.hd hc) Z1 Z2 D hz ht ho s1 s2 (hg.elim (fun q=>.inl (st1 q.1)) fun q=>.inr ⟨go1 q.1,st2 q.2⟩) fun h' tk hk htk=>⟨rfl,?_⟩)
  refine Inv.turns (t':=tk) [z,t,o,i,j] I (fun c ob hc e=>?_) hf
  simp only [List.mem_cons,List.not_mem_nil,or_false,not_or] at hc
  exact hk c ob hc.1 hc.2.2.1 hc.2.2.2.1 hc.2.2.2.2 e
def zkD:D->Option Src
 | .lst ds=>some (.val ds)
 | .own k=>some (.own k)
 | .tup ds=>some (.val ds)
 | .str cs=>if cs.all (· < 128)=true then some (.val (cs.map fun c=>.str [c])) else none
 | _=>none
def zdZ (t:DA):DI:=fun σ O=>(t σ O).bnd fun xs O1=>match xs with
 | [x,y]=>match zkD x,zkD y with
  | some p,some q=>.ok (.zip p q) O1
  | _,_=>.bad
 | _=>.bad
theorem SrcAt.zipW {K:PySem.W.Frag} {J1 J2:It} {s1 s2:Src} {H:Hp} {hid μ:List Addr} (h1:SrcAt K J1 s1 H hid μ) (h2:SrcAt K J2 s2 H hid μ):SrcAt K (Itw J1 J2) (.zip s1 s2) H hid μ:=by
 intro hid' H' μ' O' m c i
 have q1:=h1 hid' H' μ' O' m c i
 have q2:=h2 hid' H' μ' O' m c i
 show match (match s1.get O' i,s2.get O' i with|some x,some y=>some (D.tup [x,y])|_,_=>none) with|some d=>_|none=>_
 cases e1:s1.get O' i with
 | none=>
  rw [e1] at q1
  refine .inl ⟨q1,?_⟩
  cases e2:s2.get O' i with
  | none=>rw [e2] at q2;exact .inr q2
  | some d=>rw [e2] at q2;exact .inl q2.1
 | some d1=>
  rw [e1] at q1
  cases e2:s2.get O' i with
  | none=>rw [e2] at q2;exact .inr ⟨q1.1,q2⟩
  | some d2=>
   rw [e2] at q2
   refine ⟨⟨q1.1,q2.1⟩,fun v H'' yl=>?_⟩
   obtain ⟨p,x,y,hp,rfl,y1,y2,rfl⟩:=yl
   exact ⟨.laid hp,c.laid hp,Dat.newT c hp (.cons (q1.2 x H' y1).2.2 (.cons (q2.2 y H' y2).2.2 .nil))⟩
section
variable {X:Cx} {Ex:Nat->Hp->Prop} {pos:Pos} {a b c e:Expr} {pins:List (Addr × Obj)} {σv:St} {H:Hp} {s:Shared} {hid μ:List Addr} {O:Ow}
theorem ziO {d:D} {v:V} {u:Value} {src:Src} (I:L2.Inv X pins σv H s) (c:Cells X.K H hid μ O) (h:Dat X.K H hid μ d v) (r:RelV v u) (e:zkD d=some src):
  ∃ (k:ZK) (J:It),k.val=u/\k.pre s.heap/\SrcAt X.K J src H hid μ/\∀ ia,∃ S,zf5 X.prog X.w X.K J ia S/\∀ h:Heap,h.get? ia=some k.obj->S 0 h:=by
 cases d with
 | lst ds=>
  unfold Dat at h
  obtain ⟨q,vs,rfl,l,dd⟩:=h
  cases e;cases r
  obtain ⟨its,_,p,_⟩:=I.list l.sq
  exact ⟨.lst q its.toArray,_,rfl,p.isList,.val l dd,fun ia=>⟨_,zeP q ia,fun h z=>⟨_,z,rfl,rfl⟩⟩⟩
 | own k=>
  unfold Dat at h
  obtain ⟨q,rfl,hk⟩:=h
  cases e;cases r
  obtain ⟨ds,vs,h1,h2,h3⟩:=c.at_ k q hk
  obtain ⟨its,_,p,_⟩:=I.list (a:=q) (xs:=vs) (.of h2)
  exact ⟨.lst q its.toArray,_,rfl,p.isList,.own hk,fun ia=>⟨_,zeP q ia,fun h z=>⟨_,z,rfl,rfl⟩⟩⟩
 | tup ds=>
  unfold Dat at h
  obtain ⟨q,vs,rfl,l,dd⟩:=h
  cases e;cases r
  obtain ⟨its,_,p,_⟩:=I.tuple l.sq
  exact ⟨.tup q its.toArray,_,rfl,p,.tup l dd,fun ia=>⟨_,zeh q ia,fun h z=>⟨_,z,rfl,rfl⟩⟩⟩
 | str cs=>
  unfold Dat at h
  subst h
  obtain ⟨t,rfl⟩:=r
  have e':(if cs.all (· < 128)=true then some (Src.val (cs.map fun c=>D.str [c])) else none)=some src:=e
  by_cases ha:cs.all (· < 128)=true
  ·rw [if_pos ha] at e'
   cases e'
   refine ⟨.str ⟨cs.toArray⟩ t,_,rfl,?_,.str,fun ia=>⟨_,in_str _ t ia,fun h z=>⟨_,z,rfl,rfl⟩⟩⟩
   show cs.toArray.all (· < 128)=true
   simpa using ha
  ·rw [if_neg ha] at e';cases e'
 | _=>cases e
theorem zcU {es':List Expr} {kt} {pt:Pos} {t:DA} {p:Pos} (hg:Gl X "zip") (hm:X.mg "zip" = none) (ha:PDA X Ex [a,b] t) (hs:starEach [a,b] X.env=[(false,eval a X.env),(false,eval b X.env)]:=by rfl) (hs2:starEach [b] X.env=[(false,eval b X.env)]:=by rfl):
  PDI X Ex (.Tuple es' kt pt) (.Call (.Name "zip" p) [a,b] [] pos) (zdZ t):=by
 refine ⟨?_⟩
 rintro pins s σv H Rr I ⟨hid,μ,σ,O,e1,c1,q⟩
 refine PyProof.Rows.Call_ (z5N I hg hm zdY (PyProof.Rows.callWith_type1 (thn (ha.out pos pins s σv H _ I (rdA.go e1 c1 q (Q1:=fun vs H1=>∃ hid μ1 O1 ds,Cells X.K H1 hid μ1 O1/\Dats X.K H1 hid μ1 ds vs/\
   post Ex X.K (fun H' μ' s J=>SrcAt X.K J s H' hid μ') H1 hid μ1 (match ds with|[x,y]=>(match zkD x,zkD y with|some p,some q=>.ok (.zip p q) O1|_,_=>.bad)|_=>.bad) Rr)
  fun ds O1 vs H1 μ1 e2 x cl d p=>⟨hid,μ1,O1,ds,cl,d,p⟩)) fun us s1 ⟨vs,H1,I1,r1,hid,μ1,O1,ds,cl,d,p⟩=>?_) (by rw [hs,hs2]) (by rw [hs2];rfl)))
 split at p
 ·rename_i x y
  split at p
  ·rename_i sp sq e1 e2
   obtain ⟨v,w,rfl,dx,dy⟩:=z8s d
   obtain ⟨u1,u2,rfl,ru1,ru2⟩:=zaf r1
   obtain ⟨k1,J1,v1,p1,t1,i1⟩:=ziO I1 cl dx ru1 e1
   obtain ⟨k2,J2,v2,p2,t2,i2⟩:=ziO I1 cl dy ru2 e2
   rw [<- v1,<- v2]
   refine zc9 k1 k2 p1 p2 fun h' g5 g3 g4 g1 g2 hk=>?_
   refine wpAny_pyIter_zip g5 ?_
   have I2:L2.Inv X pins σv H1 { s1 with heap:=h',toks:=s1.toks }:=I1.kept hk
   obtain ⟨S1,N1,z1⟩:=i1 s1.heap.objs.size
   obtain ⟨S2,N2,z2⟩:=i2 (s1.heap.objs.size + 1)
   refine ⟨s1.heap.objs.size + 4,[s1.heap.objs.size + 4,s1.heap.objs.size + 2,s1.heap.objs.size + 3,s1.heap.objs.size,s1.heap.objs.size + 1],_,_,H1,rfl,I2,zb1 _ _ _ _ _ ?_ N1 N2,⟨g5,g3,⟨_,_,g4⟩,z1 _ g1,z2 _ g2⟩,fun b hb=>?_,post.here p cl (.zipW t1 t2)⟩
   ·have nn:∀ (n:Addr),[n + 4,n + 2,n + 3,n,n + 1].Nodup:=fun n=>by
     simp only [List.nodup_cons,List.mem_cons,List.not_mem_nil,or_false,not_or,List.nodup_nil,and_true]
     refine ⟨⟨?_,?_,?_,?_⟩,⟨?_,?_,?_⟩,⟨?_,?_⟩,?_,not_false⟩ <;> simp [Addr] at * <;> omega
    exact nn _
   ·have hb':s1.heap.objs.size <= b:=by
     simp only [List.mem_cons,List.not_mem_nil,or_false] at hb
     rcases hb with rfl|rfl|rfl|rfl|rfl <;> omega
    exact I1.fpOk (H':=H1) hb' (I1.hok.fresh hb')
  ·exact False.elim p
 ·exact False.elim p
end
end DL
namespace DL
open PySem L2
open AutoSeq1 (wpAny_loadPart')
set_option maxHeartbeats 1000000 in
theorem zb0 (tt:Addr) (items:Array Value) (nn:Nat) (dct:Option Addr) (sl:Array (Option Value)):
  Meets (Builtin.«enumerate.__new__» ⟨[.type "enumerate",.ref tt],[]⟩) (fun _ R s=>s.heap.get? tt=some { cls:=.type "tuple",dict:=dct,data:=.seq items nn,slots:=sl }/\
   R (.ok (.ret (.ref (s.heap.push (ZK.tup tt items).obj).objs.size))) { s with heap:=(s.heap.push (ZK.tup tt items).obj).push { cls:=.type "enumerate",data:=.fields #[.none,.bool false,.ref s.heap.objs.size,rawInt 0,.none,.none] } }):=
 .of_wp fun P w A R s h=>by
  obtain ⟨hp,g,d,tk,os⟩:=s;obtain ⟨hl,h⟩:=h
  have hsub:=sub_enumerate
  have hT:Heap.IsTuple (Shared.heap ⟨hp,g,d,tk,os⟩) tt items:=⟨_,hl,rfl,nn,rfl⟩
  wp_walk using wpAny_loadPart' hl
  refine wpAny_stack_any fun st=>wpAny_pure (?_)
  split
  ·rename_i cc _ _ _ _ _
   cases (cc == Value.type "enumerate")
   ·wp_walk using wpAny_loadPart' hl,wpAny_pyIter_tuple hT
    exact ⟨_,rfl,h⟩
   ·wp_walk using wpAny_loadPart' hl,wpAny_pyIter_tuple hT
    exact ⟨_,rfl,h⟩
  ·wp_walk using wpAny_loadPart' hl,wpAny_pyIter_tuple hT
   exact ⟨_,rfl,h⟩
section
variable {P:Program} {w:World} {A:Around} {E:Value->Shared->Prop} {s:Shared}
theorem za1 {tt:Addr} {items:Array Value} {Q:Value->Shared->Prop} (hT:s.heap.IsTuple tt items)
  (h:∀ h',IsEnum h' (s.heap.objs.size + 1) s.heap.objs.size 0 .none->h'.get? s.heap.objs.size=some (ZK.tup tt items).obj->(∀ b o,s.heap.get? b=some o->h'.get? b=some o)->Q (.ref (s.heap.objs.size + 1)) { s with heap:=h' }):
  wpAny (model P w) A (call (.type "enumerate") [.ref tt]) Q E s:=by
 obtain ⟨⟨cc,dct,dt,sl⟩,hl,hc,nn,hd⟩:=hT
 have hc:cc=.type "tuple":=hc
 have hd:dt=.seq items nn:=hd
 subst hc;subst hd
 refine callType_new F.called_enumerate (by decide) (F.typeCall_enumerate_1 _) (F.newCall_enumerate_1 _) (fun obj=>F.args_object_init_2 obj _) F.entry_enumerate_new (zb0 tt items nn dct sl) ⟨hl,?_⟩
 have hz:(s.heap.push (ZK.tup tt items).obj).objs.size=s.heap.objs.size + 1:=Heap.size_push ..
 show _/\_
 rw [hz]
 have he:IsEnum ((s.heap.push (ZK.tup tt items).obj).push { cls:=.type "enumerate",data:=.fields #[.none,.bool false,.ref s.heap.objs.size,rawInt 0,.none,.none] }) (s.heap.objs.size + 1) s.heap.objs.size 0 .none:=by
  have q:=Heap.get?_push_size (s.heap.push (ZK.tup tt items).obj) (o:={ cls:=.type "enumerate",data:=.fields #[.none,.bool false,.ref s.heap.objs.size,rawInt 0,.none,.none] }) rfl
  rw [hz] at q;exact q
 exact ⟨⟨_,he,rfl⟩,h _ he (Heap.get?_push_of_some _ (Heap.get?_push_size _ rfl)) fun b o x=>Heap.get?_push_of_some _ (Heap.get?_push_of_some _ x)⟩
variable {ea ia:Addr} {fp:List Addr} {n k:Nat} {Pv:Nat->Value->Prop} {Sx:Nat->Heap->Prop} {old:Value}
theorem zcE {Q:Option Value->Shared->Prop} (J:Inner P w ia fp n Pv Sx) (he:IsEnum s.heap ea ia (k:Nat) old) (hx:Sx k s.heap) (hk:k < n) (ne:∀ b ∈ ia :: fp,b ≠ ea)
  (hq:∀ x h' tk ti,Pv k x->IsEnumOut h' ea ia ((k:Int) + 1) x s.heap.objs.size->Sx (k + 1) h'->h'.get? s.heap.objs.size=some { cls:=.type "tuple",data:=.seq #[.int (k:Nat) ti,x] }->(∀ b o,b ≠ ea->b ≠ ia->s.heap.get? b=some o->h'.get? b=some o)->Q (some (.ref s.heap.objs.size)) { s with heap:=h',toks:=tk }):
  wpAny (model P w) A (pyNext (.ref ea)) Q E s:=by
 have ht:s.TypeIs (.ref ea) "enumerate":=⟨_,he,rfl⟩
 have nia:ea ≠ ia:=Ne.symm (ne ia List.mem_cons_self)
 unfold pyNext
 refine wpAny_bind (wpAny_attempt (wpAny_callSpecial?_slot (name := "__next__") ht F.slot_enumerate_next (wpAny_call_entry F.slot_enumerate_next ht F.entry_enumerate_next ?_ (F.args_enumerate_next_1 _))))
 obtain ⟨hp,g,d,tk,os⟩:=s
 show wpAny _ _ (field (.ref ea) 2 >>= _) _ _ _
 refine wpAny_bind (wpAny_field he rfl (x:=.ref ia) rfl (wpAny_bind (J.item _ k _ _ _ hk hx fun x h1 tk1 px sx1 s1=>?_)))
 have s1:Heap.SameBut ia hp h1:=s1
 have e1:IsEnum h1 ea ia (k:Nat) old:=(s1.2 ea nia).trans he
 show wpAny _ _ (field (.ref ea) 3 >>= _) _ _ ⟨h1,g,d,tk1,os⟩
 refine wpAny_bind (wpAny_field e1 rfl (x:=rawInt (k:Nat)) rfl ?_)
 show wpAny _ _ (field (.ref ea) 4 >>= _) _ _ ⟨h1,g,d,tk1,os⟩
 refine wpAny_bind (wpAny_field e1 rfl (x:=(.none)) rfl ?_)
 show wpAny _ _ (mkInt (k:Nat) >>= _) _ _ ⟨h1,g,d,tk1,os⟩
 refine wpAny_bind (wpAny_mkInt ?_)
 show wpAny _ _ (setField (.ref ea) 3 (rawInt ((k:Int) + 1)) >>= _) _ _ ⟨h1,g,d,tk1 + 1,os⟩
 refine wpAny_bind (wpAny_setField_rec e1 (by simp) fun h2 e2 s2=>?_)
 have s2:Heap.SameBut ea h1 h2:=s2
 have e2:IsEnum h2 ea ia ((k:Int) + 1) old:=e2
 show wpAny _ _ (setField (.ref ea) 4 .none >>= _) _ _ ⟨h2,g,d,tk1 + 1,os⟩
 refine wpAny_bind (wpAny_setField_rec e2 (by simp) fun h3 e3 s3=>?_)
 have s3:Heap.SameBut ea h2 h3:=s3
 have e3:IsEnum h3 ea ia ((k:Int) + 1) old:=e3
 show wpAny _ _ (newTuple [.int (k:Nat) tk1,x] >>= _) _ _ ⟨h3,g,d,tk1 + 1,os⟩
 refine wpAny_bind (wpAny_newTuple ?_)
 have e4:IsEnum (h3.push { cls:=.type "tuple",data:=.seq #[.int (k:Nat) tk1,x] }) ea ia ((k:Int) + 1) old:=Heap.get?_push_of_some _ e3
 have hsz:h3.objs.size=hp.objs.size:=by rw [s3.1,s2.1,s1.1]
 have hel:ea < hp.objs.size:=Heap.lt_size he
 have t4:(h3.push { cls:=.type "tuple",data:=.seq #[.int (k:Nat) tk1,x] }).get? hp.objs.size=some { cls:=.type "tuple",data:=.seq #[.int (k:Nat) tk1,x] }:=by rw [<- hsz];exact Heap.get?_push_size _ rfl
 have k4:∀ b o,b ≠ ea->b ≠ ia->hp.get? b=some o->(h3.push { cls:=.type "tuple",data:=.seq #[.int (k:Nat) tk1,x] }).get? b=some o:=fun b o q1 q2 z=>Heap.get?_push_of_some _ (s3.extBut b o q1 (s2.extBut b o q1 (s1.extBut b o q2 z)))
 have x4:Sx (k + 1) (h3.push { cls:=.type "tuple",data:=.seq #[.int (k:Nat) tk1,x] }):=J.stab _ _ _ (J.but (J.but sx1 s2.extBut ne) s3.extBut ne) fun b _ o z=>Heap.get?_push_of_some _ z
 generalize h3.push { cls:=.type "tuple",data:=.seq #[.int (k:Nat) tk1,x] } = h4 at e4 t4 k4 x4
 show wpAny _ _ (Builtin.SmallTypes.ownedTupleIsFree (.ref ea) >>= _) _ _ ⟨h4,g,d,tk1 + 1,os⟩
 rw [hsz]
 refine wpAny_bind ?_;unfold Builtin.SmallTypes.ownedTupleIsFree
 refine wpAny_bind (wpAny_field e4 rfl (x:=(.none)) rfl (wpAny_pure ?_))
 simp only [if_true];refine wpAny_bind (wpAny_rule (wpAny_bind (wpAny_field e4 rfl (x:=old) rfl (wpAny_bind (wpAny_setField_rec e4 (by simp) fun h5 e5 s5=>?_)))))
 have s5:Heap.SameBut ea h4 h5:=s5
 have e5:IsEnum h5 ea ia ((k:Int) + 1) x:=e5
 show wpAny _ _ (Builtin.SmallTypes.ownedTupleHandOut (.ref ea) (.ref hp.objs.size) >>= _) _ _ ⟨h5,g,d,tk1 + 1,os⟩
 refine wpAny_bind ?_;unfold Builtin.SmallTypes.ownedTupleHandOut
 refine wpAny_bind (wpAny_setField_rec e5 (by simp) fun h6 e6 s6=>?_)
 have s6:Heap.SameBut ea h5 h6:=s6
 have e6:IsEnumOut h6 ea ia ((k:Int) + 1) x hp.objs.size:=e6
 refine wpAny_setField_rec e6 (by simp) fun h7 e7 s7=>?_
 have s7:Heap.SameBut ea h6 h7:=s7
 have e7:IsEnumOut h7 ea ia ((k:Int) + 1) x hp.objs.size:=e7
 refine wpAny_bind (wpAny_letGo (wpAny_pure ⟨_,rfl,wpAny_pure (hq x h7 _ tk1 px e7 (J.but (J.but (J.but x4 s5.extBut ne) s6.extBut ne) s7.extBut ne) ?_ fun b o q1 q2 z=>s7.extBut b o q1 (s6.extBut b o q1 (s5.extBut b o q1 (k4 b o q1 q2 z))))⟩))
 exact s7.extBut _ _ (Nat.ne_of_gt hel) (s6.extBut _ _ (Nat.ne_of_gt hel) (s5.extBut _ _ (Nat.ne_of_gt hel) t4))
theorem zg3 {Q:Option Value->Shared->Prop} (hh:A.handled=none) (J:Inner P w ia fp n Pv Sx) (he:IsEnum s.heap ea ia (k:Nat) old) (hx:Sx k s.heap) (hk:n <= k) (hq:∀ h',Heap.ExtBut ia s.heap h'->Q none { s with heap:=h' }):wpAny (model P w) A (pyNext (.ref ea)) Q E s:=by
 have ht:s.TypeIs (.ref ea) "enumerate":=⟨_,he,rfl⟩
 unfold pyNext
 refine wpAny_bind (wpAny_attempt (wpAny_callSpecial?_slot (name := "__next__") ht F.slot_enumerate_next (wpAny_call_entry F.slot_enumerate_next ht F.entry_enumerate_next ?_ (F.args_enumerate_next_1 _))))
 show wpAny _ _ (field (.ref ea) 2 >>= _) _ _ _
 refine wpAny_bind (wpAny_field he rfl (x:=.ref ia) rfl (wpAny_bind (J.done _ k _ _ _ hh hk hx fun h' e eb hs=>?_)))
 obtain ⟨oe,ho,hc⟩:=hs
 exact wpAny_bind (wpAny_isInstance (T := "StopIteration") (b:=true) ⟨oe,ho,hc⟩ isSubtype_stop (wpAny_pure (hq _ eb)))
end
end DL
namespace DL
open PySem L2
def Ite (J:It):It:=⟨J.go,fun i H v H'=>∃ p x,H p=none/\v=.ref p/\J.yld i H x H/\H'=upd H p (.tup [.int (i:Nat),x]),J.stop⟩
def zkC (ea ia:Addr) (S:Nat->Heap->Prop) (n:Nat) (h:Heap):Prop:=(∃ old,IsEnum h ea ia (n:Nat) old)/\S n h
theorem zbU {P:Program} {w:World} {K:PySem.W.Frag} {J:It} {S:Nat->Heap->Prop} {es:List Expr} {kt} {pt:Pos} (ea ia:Addr) (ap:ea ≠ ia) (N:zf5 P w K J ia S) (hself:∀ (A:Around) (n:Nat) (s:Shared) (Q E:Value->Shared->Prop),(∃ old,IsEnum s.heap ea ia (n:Nat) old)->Q (.ref ea) s->wpAny (model P w) A (pyIter (.ref ea)) Q E s):zb9 P w K (.Tuple es kt pt) (Ite J) [ea,ia] ea (zkC ea ia S):=by
 refine ⟨by simp,fun n h st b hb=>?_,fun n h h' st k=>?_,?_,?_,fun A n s Q E st q=>hself A n s Q E st.1 q⟩
 ·obtain ⟨⟨old,he⟩,hi⟩:=st
  simp only [List.mem_cons,List.not_mem_nil,or_false] at hb
  rcases hb with rfl|rfl
  ·exact ⟨_,he,fun v e=>by cases e⟩
  ·exact N.obj n h hi
 ·obtain ⟨⟨old,he⟩,hi⟩:=st
  exact ⟨⟨old,k ea (by simp) _ he⟩,N.keep n h h' hi (k ia (by simp))⟩
 ·intro X hP hw hK hc n pins s σ H E I hf st hg
  have hg:J.go n H:=hg
  obtain ⟨⟨old,he⟩,hi⟩:=st
  obtain ⟨fp,m,Pv,T,Z,s1,u1,go1,st1,y1,f1⟩:=N.got X hP hw hK n pins s σ H I (hf ia (by simp)) hi (.inl hg)
  subst hP hw hK
  have ne:∀ b ∈ ia :: fp,b ≠ ea:=fun b hb=>(List.mem_cons.mp hb).elim (fun e=>by rw [e];exact Ne.symm ap) fun hb=>(f1 b hb).far I (hf ea (by simp))
  refine wT I (zcE Z he s1 (go1 hg) ne fun x h' tk tki px q1 q2 q3 hk htk=>⟨_,rfl,?_⟩)
  obtain ⟨vx,rx,yx⟩:=y1 x px
  refine wpAny_letOwnedTupleGo_enum q1 fun h'' e1 e2=>?_
  have nb:∀ q ∈ [ea,ia],s.heap.objs.size ≠ q:=fun q hq e=>by
   have:∃ ob,s.heap.get? q=some ob:=by
    simp only [List.mem_cons,List.not_mem_nil,or_false] at hq
    rcases hq with rfl|rfl
    ·exact ⟨_,he⟩
    ·obtain ⟨ob,g,_⟩:=N.obj n _ hi;exact ⟨_,g⟩
   obtain ⟨ob,g⟩:=this
   exact absurd (Heap.lt_size g) (by rw [e];exact Nat.lt_irrefl _)
  have keep:∀ c ob,c ∉ [ea,ia]->s.heap.get? c=some ob->h''.get? c=some ob:=fun c ob hc e=>by
   simp only [List.mem_cons,List.not_mem_nil,or_false,not_or] at hc
   exact e2.extBut _ _ hc.1 (hk c ob hc.1 hc.2 e)
  have I1:L2.Inv X pins σ H { s with heap:=h'',toks:=tk }:=Inv.turns [ea,ia] I keep hf
  have hnew:h''.get? s.heap.objs.size=some { cls:=.type "tuple",data:=.seq #[.int (n:Nat) tki,x] }:=e2.extBut _ _ (nb ea (by simp)) q3
  have fr:H s.heap.objs.size=none:=I.hok.fresh (Nat.le_refl _)
  have I2:L2.Inv X pins σ (upd H s.heap.objs.size (.tup [.int (n:Nat),vx])) { s with heap:=h'',toks:=tk }:=by
   have un:Un (frs X.stack) [ea,ia] H (upd H s.heap.objs.size (.tup [.int (n:Nat),vx])) s.heap h'':=by
    refine ⟨fun c ob e _ _ hc=>keep c ob hc e,fun c ob e _ _ hc=>⟨ob.slots,keep c ob hc e⟩,fun c ob e hn _=>?_,fun c ob e hc=>⟨ob,keep c ob hc e⟩,fun c zs e=>?_,fun c ob u e=>?_,fun c ps e=>⟨#[],?_⟩⟩
    ·rw [z0g (Nat.ne_of_lt (Heap.lt_size e))];exact hn
    ·rw [z0g (z0p e fr)];exact e
    ·rw [z0g (z0p e fr)];exact e
    ·rw [z0g (z0p e fr),e];simp
   have hok:HOk X.prog X.w (upd H s.heap.objs.size (.tup [.int (n:Nat),vx])) h'':=by
    intro c u' e
    by_cases hc:c=s.heap.objs.size
    ·subst hc
     rw [z0u] at e;cases e
     exact ⟨by show 2 <= sizeLine;decide,[.int (n:Nat) tki,x],.cons ⟨_,rfl⟩ (.cons rx .nil),⟨_,hnew,rfl,_,rfl⟩⟩
    ·rw [z0g hc] at e
     refine (I1.hok c u' e).stay (fun _ _ _ q=>q) (fun p q=>?_) fun p zs q=>?_
     ·by_cases hp:p=s.heap.objs.size
      ·subst hp;rw [fr] at q;cases q
      ·rw [z0g hp];exact q
     ·by_cases hp:p=s.heap.objs.size
      ·subst hp;rw [fr] at q;cases q
      ·rw [z0g hp];exact q
   exact I.call (t':=tk) (d':=s.drawn) un hok I.bare fun b hb=>let ⟨_,f1,_,f3,f4,f5⟩:=hf b hb;⟨f3,f1,f4,f5⟩
  refine ⟨.ref s.heap.objs.size,_,I2,rfl,⟨_,vx,fr,rfl,yx,rfl⟩,⟨⟨_,by exact_mod_cast e1⟩,?_⟩,fun b hb=>?_⟩
  ·exact u1 _ _ (Z.but q2 e2.extBut ne)
  ·rw [z0g (Ne.symm (nb b hb))];exact (hf b hb).1
 ·intro X hP hw hK hc n pins s σ H E I hf st hg
  have hg:J.stop n H:=hg
  obtain ⟨⟨old,he⟩,hi⟩:=st
  obtain ⟨fp,m,Pv,T,Z,s1,u1,go1,st1,y1,f1⟩:=N.got X hP hw hK n pins s σ H I (hf ia (by simp)) hi (.inr hg)
  subst hP hw hK
  refine zg3 (I.ok.hd hc) Z he s1 (st1 hg) fun h' eb=>⟨rfl,?_⟩
  refine Inv.turns (t':=s.toks) [ea,ia] I (fun c ob hc e=>?_) hf
  simp only [List.mem_cons,List.not_mem_nil,or_false,not_or] at hc
  exact eb c ob hc.2 e
def z5C (ds:List D):List D:=ds.zipIdx.map fun q=>.tup [.int (q.2:Nat),q.1]
theorem z74 (ds:List D) (i:Nat):(z5C ds)[i]?=(ds[i]?).map fun d=>D.tup [.int (i:Nat),d]:=by
 unfold z5C
 rw [List.getElem?_map,List.getElem?_zipIdx]
 cases ds[i]? <;> simp
theorem SrcAt.enum {K:PySem.W.Frag} {J:It} {ds:List D} {H:Hp} {hid μ:List Addr} (h1:SrcAt K J (.val ds) H hid μ):SrcAt K (Ite J) (.val (z5C ds)) H hid μ:=by
 intro hid' H' μ' O' m c i
 have q1:match ds[i]? with|some d=>J.go i H'/\∀ x H'',J.yld i H' x H''->Ext H' μ' H'' μ'/\Cells K H'' hid' μ' O'/\Dat K H'' hid' μ' d x|none=>J.stop i H':=h1 hid' H' μ' O' m c i
 show match (z5C ds)[i]? with|some d=>_|none=>_
 rw [z74]
 cases e1:ds[i]? with
 | none=>rw [e1] at q1;exact q1
 | some d1=>
  rw [e1] at q1
  refine ⟨q1.1,fun v H'' yl=>?_⟩
  obtain ⟨p,x,hp,rfl,y1,rfl⟩:=yl
  exact ⟨.laid hp,c.laid hp,Dat.newT c hp (.cons z0I (.cons (q1.2 x H' y1).2.2 .nil))⟩
def z9m (t:DA):DI:=fun σ O=>(t σ O).bnd fun xs O1=>match xs with
 | [.tup ds]=>.ok (.val (z5C ds)) O1
 | _=>.bad
section
variable {X:Cx} {Ex:Nat->Hp->Prop} {pos:Pos} {a b:Expr} {pins:List (Addr × Obj)} {σv:St} {H:Hp} {s:Shared} {hid μ:List Addr} {O:Ow}
theorem zb7:bootBuiltins "enumerate" = some (.type "enumerate"):=by boot_by_name
theorem z7Q {P:Program} {w:World} (ea ia:Addr) (A:Around) (n:Nat) (s:Shared) (Q E:Value->Shared->Prop) (h:∃ old,IsEnum s.heap ea ia (n:Nat) old) (q:Q (.ref ea) s):wpAny (model P w) A (pyIter (.ref ea)) Q E s:=by
 obtain ⟨old,h⟩:=h
 have ht:s.TypeIs (.ref ea) "enumerate":=⟨_,h,rfl⟩
 refine wpAny_pyIter_slot ht F.slot_enumerate_iter (wpAny_call_entry F.slot_enumerate_iter ht F.entry_enumerate_iter ?_ (F.args_enumerate_iter_1 _))
 show wpAny _ _ (ret (.ref ea)) _ _ s
 exact wpAny_pure ⟨_,rfl, "enumerate",_,ht,F.slot_enumerate_next.lookup,q⟩
theorem zbD {es':List Expr} {kt} {pt:Pos} {t:DA} {p:Pos} (hg:Gl X "enumerate") (hm:X.mg "enumerate" = none) (ha:PDA X Ex [a] t) (hs:starEach [a] X.env=[(false,eval a X.env)]:=by rfl):
  PDI X Ex (.Tuple es' kt pt) (.Call (.Name "enumerate" p) [a] [] pos) (z9m t):=by
 refine ⟨?_⟩
 rintro pins s σv H Rr I ⟨hid,μ,σ,O,e1,c1,q⟩
 refine PyProof.Rows.Call_ (z5N I hg hm zb7 (PyProof.Rows.callWith_type1 (thn (ha.out pos pins s σv H _ I (rdA.go e1 c1 q (Q1:=fun vs H1=>∃ hid μ1 O1 ds,Cells X.K H1 hid μ1 O1/\Dats X.K H1 hid μ1 ds vs/\
   post Ex X.K (fun H' μ' s J=>SrcAt X.K J s H' hid μ') H1 hid μ1 (match ds with|[.tup ds]=>.ok (.val (z5C ds)) O1|_=>.bad) Rr)
  fun ds O1 vs H1 μ1 e2 x cl d p=>⟨hid,μ1,O1,ds,cl,d,p⟩)) fun us s1 ⟨vs,H1,I1,r1,hid,μ1,O1,ds,cl,d,p⟩=>?_) (by rw [hs];rfl) (by rfl)))
 split at p
 ·rename_i ts
  unfold Dats at d
  obtain ⟨v,r,rfl,dx,dn⟩:=d
  unfold Dats at dn
  subst dn
  unfold Dat at dx
  obtain ⟨tt,vs1,rfl,l,dd⟩:=dx
  obtain ⟨u1,rfl,ru1⟩:=z2Z r1
  cases ru1
  obtain ⟨its,_,pT,_⟩:=I1.tuple l.sq
  refine za1 pT fun h' g1 g2 hk=>?_
  refine z7Q (s1.heap.objs.size + 1) s1.heap.objs.size _ 0 _ _ _ ⟨_,g1⟩ ?_
  have I2:L2.Inv X pins σv H1 { s1 with heap:=h',toks:=s1.toks }:=I1.kept hk
  refine ⟨s1.heap.objs.size + 1,[s1.heap.objs.size + 1,s1.heap.objs.size],_,_,H1,rfl,I2,zbU _ _ (Nat.succ_ne_self _) (zeh tt _) (z7Q _ _),⟨⟨_,g1⟩,⟨_,g2,rfl,rfl⟩⟩,fun b hb=>?_,post.here p cl (.enum (.tup l dd))⟩
  have hb':s1.heap.objs.size <= b:=by
   simp only [List.mem_cons,List.not_mem_nil,or_false] at hb
   rcases hb with rfl|rfl <;> omega
  exact I1.fpOk (H':=H1) hb' (I1.hok.fresh hb')
 ·exact False.elim p
end
end DL
namespace DL
open PySem L2
open PyProof.Rows hiding St
section
end
end DL
namespace DL
open PySem L2
section
variable {X:Cx} {Ex:Nat->Hp->Prop}
def z9X:Ow->D->D->R D:=fun O x y=>match x,y with
 | .int i,.int j=>.ok (.bl (decide (i < j))) O
 | .str p,.str q=>.ok (.bl (decide (p < q))) O
 | _,_=>.bad
theorem zeQ:OpR X (compareOp .Lt) (fun x y H Q=>(∃ i j,x=.str i/\y=.str j/\Q (.bl (decide (i.cps.toList < j.cps.toList))) H) \/ rI0 (fun i j=>.bl (decide (i < j))) x y H Q):=OpR.or zbx zfp
theorem zcm:OpD X Ex (fun x y H Q=>(∃ i j,x=.str i/\y=.str j/\Q (.bl (decide (i.cps.toList < j.cps.toList))) H) \/ rI0 (fun i j=>.bl (decide (i < j))) x y H Q) z9X:=by
 intro H hid μ O x y v w Q c dx dy q
 unfold z9X at q
 split at q
 ·rename_i i j
  exact .inr (zcw H hid μ O (.int i) (.int j) v w Q c dx dy q)
 ·unfold Dat at dx dy;subst dx;subst dy
  exact .inl ⟨_,_,rfl,rfl,post.here q c z1i⟩
 ·exact False.elim q
end
section
structure zkS (mg:Str->Option Value) (x:Str) (i:Int):Prop where
 ex:∃ t,mg x=some (.int i t)
end
end DL
namespace DL
open PySem L2 PySem.Spec PyProof.Rows
section
variable {X:Cx} {Ex:Nat->Hp->Prop} {pos:Pos} {tg e:Expr} {te:DE}
def z9Z (i j k:Nat) (te:DE):DS:=fun σ O=>(te σ O).bnS fun d O1=>match d with
 | .tup [x,y,z]=>.nx (((σ.set i (some x)).set j (some y)).set k (some z)) O1
 | _=>.bad
theorem zjP {K:PySem.W.Frag} {H:Hp} {hid μ:List Addr} {a b c:D} {vs:List V} (h:Dats K H hid μ [a,b,c] vs):∃ u v w,vs=[u,v,w]/\Dat K H hid μ a u/\Dat K H hid μ b v/\Dat K H hid μ c w:=by
 unfold Dats at h
 obtain ⟨u,r,rfl,h1,h2⟩:=h
 obtain ⟨v,w,rfl,h3,h4⟩:=z8s h2
 exact ⟨u,v,w,rfl,h1,h3,h4⟩
theorem zdN {i j k:Nat} {x y z:Str} {px py pz pt:Pos} {kt:Nat} (hc:X.calm=true) (hN:X.N.Nodup) (hi:X.N[i]?=some x) (hj:X.N[j]?=some y) (hk:X.N[k]?=some z) (hx:Loc X.env.scope x) (hy:Loc X.env.scope y) (hz:Loc X.env.scope z)
  (hf:X.fn x=true \/ X.env.scope.names.lookup x=some .local) (hf2:X.fn y=true \/ X.env.scope.names.lookup y=some .local) (hf3:X.fn z=true \/ X.env.scope.names.lookup z=some .local):
  PG X (.Tuple [.Name x px,.Name y py,.Name z pz] kt pt) (zie X.K 3 (z6d (z4V i) (z6d (z4V j) (z6d (z4V k) ziV)))):=
 zes hc (z3v (z3I hN hi hx hf) (z3v (z3I hN hj hy hf2) (z3v (z3I hN hk hz hf3) zcv)))
theorem ze6 {i j k:Nat} (he:PD X Ex e te) (hg:PG X tg (zie X.K 3 (z6d (z4V i) (z6d (z4V j) (z6d (z4V k) ziV))))) (hs:swapsWithSole [tg] e pos.line X.env=pure false:=by rfl) (hw:swappedStores [tg] e X.env=pure none:=by rfl) (h1:(assignEach [tg] X.env).map (·.2)=[assign tg X.env]:=by rfl):PDS X Ex (.Assign [tg] e pos) (z9Z i j k te):=
 z2W (zep he.out hg hs hw h1) fun hid μ σ O E σv H e1 c1 q=>rd.goS e1 c1 q fun d O1 v H1 μ1 e2 x c r p=>by
  split at p
  ·rename_i x y z
   unfold Dat at r
   obtain ⟨a,vs,rfl,l,r⟩:=r
   obtain ⟨u,w,t,rfl,q1,q2,q3⟩:=zjP r
   exact ⟨a,[u,w,t],rfl,l.sq,rfl,u,[w,t],rfl,w,[t],rfl,t,[],rfl,rfl,p _ H1 μ1 .refl (((e2.set q1 i).set q2 j).set q3 k) c⟩
  ·exact False.elim p
end
end DL
namespace DL
open PySem L2 PySem.Spec PyProof.Rows
open Sem (wp)
end DL
namespace DL
open PySem L2 PySem.Spec PyProof.Rows
end DL
namespace DL
open PySem L2
open AutoSeq1 (wpAny_loadPart')
section
variable {X:Cx} {Ex:Nat->Hp->Prop} {b e o:Expr} {to:DE}
theorem zaN (l:Addr) (xs:Array Value) (n:Nat) (b:Addr) (ys:Array Value) (m:Nat) (sl:Array (Option Value)) (hc0:¬(!xs.isEmpty && Builtin.List.listTooLong (xs.size + ys.size))=true) (hc1:xs.size <= sizeLine) (hs2:xs.size + ys.size <= sizeLine + 1):
  Meets (Builtin.«list.extend» ⟨[.ref l,.ref b],[]⟩) (fun _ R s=>s.heap.get? l=some { cls:=.type "list",data:=.seq xs n }/\s.heap.get? b=some { cls:=.type "list",data:=.seq ys m,slots:=sl }/\R (.ok (.ret .none)) { s with heap:=s.heap.update l (Obj.mapSeq fun x=>x ++ ys) }):=
 .of_wp fun prog w A R s h=>by
  obtain ⟨hp,g,d,tk,os⟩:=s
  obtain ⟨gl,gb,h⟩:=h
  have f1:=AutoSeq1.sub_tuple_tuple
  have f2:=AutoSeq1.sub_list_list
  have f3:=AutoSeq1.sub_tuple_list
  have f4:=AutoSeq1.sub_list_tuple
  have hz:(xs ++ ys).size <= sizeLine + 1:=by rw [Array.size_append];exact hs2
  wp_walk using (wpAny_updateSeq gl rfl (hz:=hc1) (_hz':=hz)),wpAny_loadPart' gl,wpAny_loadPart' gb
  exact ⟨_,rfl,h⟩
def zkI (K:PySem.W.Frag):V->List V->Hp->VK->Prop:=fun x vs H Q=>∃ l b xs zs,x=.ref l/\vs=[.ref b]/\H l=some (.lst xs)/\SqL K H b zs/\xs.length + zs.length <= sizeLine/\Q .non (upd H l (.lst (xs ++ zs)))
theorem zgR:MtM X "list.extend" (zkI X.K):=by
 intro pins s σ H x vs v us Q I rx rv h
 obtain ⟨l,b,xs,zs,rfl,rfl,hH,hB,hz,q⟩:=h
 cases rx
 obtain ⟨u,rfl,ru⟩:=rv.one
 cases ru
 obtain ⟨z,its,n,r,hl,e⟩:=I.lstM hH
 obtain ⟨its2,r2,⟨ob,n2,e2,hc2,hd2,hs2⟩,_⟩:=I.list hB
 obtain ⟨cc,dct,dt,sl⟩:=ob
 have hc2:cc=.type "list":=hc2
 have hd2:dct=none:=hd2
 have hs2:dt=.seq its2.toArray n2:=hs2
 subst hc2;subst hd2;subst hs2
 have hl2:=r2.length
 have hsz:its.toArray.size + its2.toArray.size <= sizeLine:=by rw [List.size_toArray,List.size_toArray];omega
 have hlong:¬ (!its.toArray.isEmpty && Builtin.List.listTooLong (its.toArray.size + its2.toArray.size))=true:=by
  rw [zdh hsz,Bool.and_false]
  exact Bool.false_ne_true
 refine call_meets F.slot_list_extend ⟨_,e,rfl⟩ F.entry_list_extend (F.args_list_extend_2 _ _)
  (zaN l its.toArray n b its2.toArray n2 sl hlong (by rw [List.size_toArray];omega) (by omega)) ⟨e,e2,?_⟩
 refine ⟨.non,_,I.lset (its':=its ++ its2) hH e (by simp) (r.append r2) ?_,rfl,q⟩
 rw [List.length_append]
 omega
def zh1 (to:DE) (t:DA):DE:=fun σ O=>(to σ O).bnd fun x O1=>match x with
 | .own k=>(t σ O1).bnd fun ys O2=>match ys,O2[k]? with
  | [y],some ds=>match lsV O2 y with
   | some es=>if ds.length + es.length <= 100000 then .ok .non (O2.set k (ds ++ es)) else .bad
   | none=>.bad
  | _,_=>.bad
 | _=>.bad
theorem zaM {o:Expr} {to:DE} {t:DA} {es:List Expr} {apos cpos:Pos} (ho:PD X Ex o to) (ha:PDA X Ex (e :: es) t) (hbase:attributeBase o "extend" X.env (eval o X.env)=eval o X.env:=by rfl)
  (hfew:((backTo cpos (starEach (e :: es) X.env)).all (fun x=>!x.1) && (backToKw cpos (keywordEach [] X.env)).all (fun x=>x.1.isSome) && decide ((e :: es).length + ([]:List Keyword).length + (if ([]:List Keyword).isEmpty then 0 else 1) < 30))=true:=by rfl)
  (hline:(apos.endLine == cpos.line)=true:=by rfl) (hs:starEach (e :: es) X.env=(false,eval e X.env) :: starEach es X.env:=by rfl) (hplain:(backTo cpos (starEach es X.env)).any (·.1)=false:=by rfl):
  PD X Ex (.Call (.Attribute o "extend" apos) (e :: es) [] cpos) (zh1 to t):=
 z1m (zdE PySem.F.plainAttrs_list PySem.F.slot_list_extend PySem.F.type_list_extend zgR ho.out ha.out hbase hfew hline hs hplain) fun hid μ σ O σv H Q e1 c1 q=>rd.go e1 c1 q fun d O1 v H1 μ1 e2 x cl r p=>by
  cases d with
  | own k=>
   have hr:=r
   unfold Dat at r
   obtain ⟨A,rfl,hk⟩:=r
   obtain ⟨ds,vs,h1,h2,h3⟩:=cl.at_ k A hk
   refine ⟨.inl ⟨rfl,vs,.of h2⟩,rdA.go e2 cl p fun ys O2 ws H2 μ2 e3 x3 c3 d3 p3=>?_⟩
   split at p3
   ·rename_i y es' hds
    split at p3
    ·rename_i zs hz
     obtain ⟨hl,p3⟩:=post.ite p3
     obtain ⟨w,rfl,dw⟩:=z2D d3
     have hk2:μ2[k]?=some A:=by
      have:=hr.ext x3
      unfold Dat at this
      obtain ⟨A',e',hk'⟩:=this
      cases e';exact hk'
     obtain ⟨ds2,vs2,g1,g2,g3⟩:=c3.at_ k A hk2
     rw [hds] at g1;cases g1
     obtain ⟨pb,vz,rfl,sq,dz⟩:=z2d c3 dw hz
     refine ⟨A,pb,vs2,vz,rfl,rfl,g2,sq,Nat.le_trans (by rw [<- g3.length,<- dz.length];exact hl) (by decide),?_⟩
     exact post.ok p3 (.put (List.mem_of_getElem? hk2) ⟨_,g2⟩) (c3.put hk2 (g3.append dz)) z8A
    ·exact False.elim p3
   ·exact False.elim p3
  | _=>exact False.elim p
end
end DL
namespace DL
open PySem
theorem zf0 (t:SetTable) (es:Array (Int × Value)) (h:Int) (x:Value):(layNew t es h x).2.1.led=t.led:=by
 unfold layNew
 split
 ·rename_i slot wd _
  show ((t.put slot).1.orStandIn _).led=_
  unfold SetTable.orStandIn
  split <;> rfl
 ·rfl
theorem zch (t:SetTable) (es:Array (Int × Value)) (n:Nat):(relayAll t es n).2.1.led=t.led/\(t.plain=false->(relayAll t es n).2.1.plain=false):=by
 unfold relayAll
 cases h:t.relaid (es.map (·.1)) n with
 | none=>exact ⟨rfl,fun _=>rfl⟩
 | some p=>
  obtain ⟨t',order⟩:=p
  have hl:t'.led=t.led/\t'.plain=t.plain:=by
   unfold SetTable.relaid SetTable.laid at h
   cases hc:SetTable.layClean (SetTable.sizeAbove n - 1) (es.map (·.1)) with
   | none=>rw [hc] at h;cases h
   | some ow=>rw [hc] at h;cases h;exact ⟨rfl,rfl⟩
  dsimp only
  split
  ·exact ⟨hl.1,fun e=>hl.2.trans e⟩
  ·exact ⟨rfl,fun _=>rfl⟩
def byT (w:World):Bool:=w.params.followText "set-order"
def z4E (e:Int × Value):Str:=match e.2 with
 | .str x _=>x
 | _=>⟨#[]⟩
def SetX (P:Program) (w:World) (a:Addr) (ks:List Str) (h:Heap):Prop:=
 ∃ o es ep t,h.get? a=some o/\o.ExactSet/\o.data=.set es ep t/\ElemsOf (strKind P w) es.toList/\(es.toList.map z4E).Perm ks/\ks.Nodup/\es.size < scanBound/\t.fits es.size=true/\(byT w=false->t.led=true)/\(es.size ≠ 0->t.plain=false)
section
variable {P:Program} {w:World} {A:Around} {E:Value->Shared->Prop} {s:Shared} {a:Addr} {ks:List Str}
theorem SetX.keep {h h':Heap} (k:∀ o,h.get? a=some o->h'.get? a=some o):SetX P w a ks h->SetX P w a ks h':=fun ⟨o,es,ep,t,ho,r⟩=>⟨o,es,ep,t,k o ho,r⟩
theorem SetX.size {h:Heap} (x:SetX P w a ks h):∃ o es ep t,h.get? a=some o/\o.data=.set es ep t/\es.size=ks.length:=by
 obtain ⟨o,es,ep,t,ho,hx,hd,hel,hp,_⟩:=x
 exact ⟨o,es,ep,t,ho,hd,by rw [<- hp.length_eq];simp⟩
theorem z6I {l:List (Int × Value)} (h:ElemsOf (strKind P w) l) {e:Int × Value} (he:e ∈ l):∃ t,e.2=.str (z4E e) t:=by
 obtain ⟨⟨k,hk,_⟩,_⟩:=h e he
 obtain ⟨t,ht⟩:=Value.isStrOf_shape (x:=k) (v:=e.2) hk
 exact ⟨t,by unfold z4E;rw [ht]⟩
theorem zeb {e:Int × Value} {t:Tok} (h:e.2=.str (z4E e) t) (x:Str):(strKind P w).is x e.2=true ↔ z4E e=x:=by
 rw [h]
 constructor
 ·intro q
  obtain ⟨t',e'⟩:=Value.isStrOf_shape (x:=x) (v:=.str (z4E e) t) q
  injection e'
 ·intro q
  rw [q]
  show Value.isStrOf x (.str x t)=true
  simp [Value.isStrOf]
def z9i (ks:List Str) (x:Str):List Str:=if ks.contains x=true then ks else ks ++ [x]
theorem zeT {h:Heap} {o:Obj} {es es':Array (Int × Value)} {ep:Nat} {t t':SetTable} {ks':List Str} (ho:h.get? a=some o) (hx:o.ExactSet) (hd:o.data=.set es ep t) (hel:ElemsOf (strKind P w) es'.toList) (hp:(es'.toList.map z4E).Perm ks') (hn:ks'.Nodup)
  (hb:es'.size < scanBound) (hf:t'.fits es'.size=true) (hl:byT w=false->t'.led=true) (hpl:es'.size ≠ 0->t'.plain=false):SetX P w a ks' (h.update a (Obj.putSet es' t'))/\(h.update a (Obj.putSet es' t')).get? a=some { o with data:=.set es' (ep + 1) t' }:=by
 have g:=Heap.get?_update_self (Obj.putSet es' t') ho (by rw [putSet_of es' t' hd];rfl)
 rw [putSet_of es' t' hd] at g
 exact ⟨⟨_,es',ep + 1,t',g,hx,rfl,hel,hp,hn,hb,hf,hl,hpl⟩,g⟩
theorem zkx {x:Str} {tk:Tok} {Q:Bool->Shared->Prop} (hS:SetX P w a ks s.heap) (hroom:ks.length + 1 < scanBound)
  (h:∀ b h',Heap.SameBut a s.heap h'->SetX P w a (z9i ks x) h'->Q b { s with heap:=h' }):
  wpAny (model P w) A (setAddHashed a (.str x tk) ((strKind P w).hash x)) Q E s:=by
 obtain ⟨o,es,ep,t,ho,hx,hd,hel,hp,hn,hb,hf,hl,hpl⟩:=hS
 have hkey:(strKind P w).is x (.str x tk)=true:=by show Value.isStrOf x (.str x tk)=true;simp [Value.isStrOf]
 have hsz:es.size=ks.length:=by rw [<- hp.length_eq];simp
 unfold setAddHashed setAddHashedIn
 refine wpAny_holding (wpAny_bind (wpAny_setState_of ho hd hf ?_))
 dsimp only
 rw [byScan_of (x:=.str x tk) rfl hb hel,if_pos rfl]
 unfold setAddByScan
 refine wpAny_bind (wpAny_bind (wpAny_rule (wpAny_bind (wpAny_setScan_of hkey ho hd hf hel ?_))))
 cases hr:List.findIdx? (fun e=>(strKind P w).is x e.2) es.toList with
 | some j=>
  dsimp only
  obtain ⟨hj,hpj,_⟩:=List.findIdx?_eq_some_iff_getElem.mp hr
  have hin:x ∈ ks:=by
   obtain ⟨t',ht'⟩:=z6I hel (List.getElem_mem hj)
   have:=(zeb ht' x).mp hpj
   exact hp.mem_iff.mp (List.mem_map.mpr ⟨_,List.getElem_mem hj,this⟩)
  refine wpAny_pure (wpAny_pure ?_)
  have:=h false s.heap (Heap.SameBut.refl a s.heap) (by
   unfold z9i
   rw [if_pos (List.contains_iff_mem.mpr hin)]
   exact ⟨o,es,ep,t,ho,hx,hd,hel,hp,hn,hb,hf,hl,hpl⟩)
  cases s;exact this
 | none=>
  dsimp only
  have hnin:x ∉ ks:=fun hm=>by
   obtain ⟨e,he,ek⟩:=List.mem_map.mp (hp.mem_iff.mpr hm)
   obtain ⟨t',ht'⟩:=z6I hel he
   have:=List.findIdx?_eq_none_iff.mp hr e he
   rw [(zeb ht' x).mpr ek] at this
   cases this
  have ea:z9i ks x=ks ++ [x]:=by unfold z9i;rw [if_neg (fun z=>hnin (List.contains_iff_mem.mp z))]
  have hpm:=layNew_perm t es ((strKind P w).hash x) (.str x tk)
  have hft:=layNew_fits t es ((strKind P w).hash x) (.str x tk)
  have hld:=zf0 t es ((strKind P w).hash x) (.str x tk)
  generalize layNew t es ((strKind P w).hash x) (.str x tk)=L at hpm hft hld ⊢
  obtain ⟨es1,t1,wd,gv⟩:=L
  dsimp only at hpm hft hld ⊢
  rw [Array.toList_push] at hpm
  have hel1:ElemsOf (strKind P w) es1.toList:=(hel.push hkey rfl).perm hpm
  have hp1:(es1.toList.map z4E).Perm (ks ++ [x]):=by
   refine (hpm.map z4E).trans ?_
   rw [List.map_append]
   exact hp.append_right _
  have hn1:(ks ++ [x]).Nodup:=by
   rw [List.nodup_append]
   exact ⟨hn,by simp,fun p hp q hq=>by
    have:q=x:=by simpa using hq
    subst this;rintro rfl;exact hnin hp⟩
  have hs1:es1.size=ks.length + 1:=by rw [<- Array.length_toList,<- List.length_map (f:=z4E),hp1.length_eq];simp
  have hb1:es1.size < scanBound:=by rw [hs1];exact hroom
  have gw:∀ (b:Bool) {s1:Shared} {Q':Unit->Shared->Prop},Q' () s1->wpAny (model P w) A (match b with|true=>rule "set.scan.the-table-gave-way"|false=>pure ()) Q' E s1:=fun b s1 Q' hq=>by
   cases b
   ·exact wpAny_pure hq
   ·exact wpAny_rule hq
  refine wpAny_bind (gw _ ?_)
  have tail:∀ t2:SetTable,t2.led=t.led->t2.plain=false->t2.fits es1.size=true->wpAny (model P w) A (do
    storeSet a es1 t2
    if (!wd && t2.tooFull)=true then do
      (match (relayAll t2 es1 (SetTable.grown es1.size)).2.2 with|true=>rule "set.scan.the-table-gave-way"|false=>pure ())
      storeSet a (relayAll t2 es1 (SetTable.grown es1.size)).1 (relayAll t2 es1 (SetTable.grown es1.size)).2.1
      pure (some true)
     else pure (some true)) (fun r s'=>wpAny (model P w) A (match r with|some added=>(pure added:Sem Bool)|none=>setAddHashedIn a (.str x tk) ((strKind P w).hash x) 99999) Q E s') E s:=by
   intro t2 h1 h2 h3
   obtain ⟨S1,g1⟩:=zeT (P:=P) (w:=w) (ks':=ks ++ [x]) (es':=es1) (t':=t2) ho hx hd hel1 hp1 hn1 hb1 h3 (fun e=>h1.trans (hl e)) (fun _=>h2)
   have sb:=Heap.SameBut.update s.heap a (Obj.putSet es1 t2)
   refine wpAny_bind (wpAny_storeSet_of ho hd ?_ (fits_of_scanBound hb1))
   split
   ·have rp:=relayAll_perm t2 es1 (SetTable.grown es1.size)
    have rf:=relayAll_fits t2 es1 (SetTable.grown es1.size)
    have rl:=zch t2 es1 (SetTable.grown es1.size)
    generalize relayAll t2 es1 (SetTable.grown es1.size)=R at rp rf rl ⊢
    obtain ⟨es2,t3,gv2⟩:=R
    dsimp only at rp rf rl ⊢
    have s2:es2.size=es1.size:=by rw [<- Array.length_toList,rp.length_eq,Array.length_toList]
    have b2:es2.size < scanBound:=by rw [s2];exact hb1
    refine wpAny_bind (gw _ (wpAny_bind (wpAny_storeSet_of g1 rfl ?_ (fits_of_scanBound b2))))
    obtain ⟨S2,_⟩:=zeT (P:=P) (w:=w) (ks':=ks ++ [x]) (es':=es2) (t':=t3) g1 hx rfl (hel1.perm rp) ((rp.map z4E).trans hp1) hn1 b2 rf (fun e=>rl.1.trans (h1.trans (hl e))) (fun _=>rl.2 h2)
    exact wpAny_pure (wpAny_pure (h true _ (sb.trans (Heap.SameBut.update _ a _)) (by rw [ea];exact S2)))
   ·exact wpAny_pure (wpAny_pure (h true _ sb (by rw [ea];exact S1)))
  split
  ·rename_i hpt
   refine wpAny_bind ?_
   rw [hashByValue_scannable 8 (x:=.str x tk) rfl]
   refine wpAny_pure ?_
   exact tail { t1 with plain:=false } hld rfl (SetTable.fits_plain_off hft)
  ·rename_i hpt
   refine wpAny_bind (wpAny_pure ?_)
   rw [if_pos rfl]
   exact tail t1 hld (by simpa using hpt) hft
end
def ded (l:List Str):List Str:=l.foldl z9i []
theorem zdt (l:List Str) (x:Str):ded (l ++ [x])=z9i (ded l) x:=by unfold ded;rw [List.foldl_append];rfl
theorem zd5 (ks:List Str) (x:Str):(z9i ks x).length <= ks.length + 1:=by unfold z9i;split <;> simp
theorem zbm:∀ (l:List Str),(ded l).length <= l.length:=fun l=>by
 have:∀ (l ks:List Str),(l.foldl z9i ks).length <= ks.length + l.length:=by
  intro l
  induction l with
  | nil=>intro ks;exact Nat.le_refl _
  | cons x l ih=>intro ks;refine Nat.le_trans (ih (z9i ks x)) ?_;have:=zd5 ks x;rw [List.length_cons];omega
 have h:=this l []
 simpa [ded] using h
theorem zdD {ks:List Str} {x y:Str}:y ∈ z9i ks x ↔ y ∈ ks \/ y=x:=by
 unfold z9i
 split
 ·rename_i h
  exact ⟨.inl,fun q=>q.elim id fun e=>by rw [e];exact List.contains_iff_mem.mp h⟩
 ·rw [List.mem_append,List.mem_singleton]
theorem zc7 {y:Str}:∀ (l:List Str),y ∈ ded l ↔ y ∈ l:=fun l=>by
 have:∀ (l ks:List Str),y ∈ l.foldl z9i ks ↔ y ∈ ks \/ y ∈ l:=by
  intro l
  induction l with
  | nil=>intro ks;simp
  | cons x l ih=>intro ks;rw [List.foldl_cons,ih,zdD,List.mem_cons];exact ⟨fun h=>by rcases h with (h|h)|h <;> simp [h],fun h=>by rcases h with h|h|h <;> simp [h]⟩
 rw [ded,this];simp
section
variable {P:Program} {w:World} {A:Around} {E:Value->Shared->Prop} {s:Shared} {a:Addr} {ks:List Str}
theorem zfo {x:Str} {tk:Tok} {Q:Value->Shared->Prop} (hS:SetX P w a ks s.heap) (hroom:ks.length + 1 < scanBound)
  (h:∀ h',Heap.SameBut a s.heap h'->SetX P w a (z9i ks x) h'->Q .none { s with heap:=h',toks:=s.toks + 1 }):
  wpAny (model P w) A (call (.builtin "set.add") [.ref a,.str x tk]) Q E s:=by
 obtain ⟨o,es,ep,t,ho,hx,r⟩:=id hS
 refine wpAny_call_entry F.slot_set_add ⟨o,ho,hx.1⟩ F.entry_set_add ?_ (F.args_set_add_2 _ _)
 unfold Builtin.«set.add» Builtin.Frozenset.oneOther
 simp only [List.isEmpty_nil,bind_assoc]
 unfold Builtin.Frozenset.addrOf setAdd
 refine wpAny_bind (wpAny_pure (wpAny_bind (wpAny_pure (wpAny_bind (wpAny_holding (wpAny_bind ((strKind P w).pyHash (k:=x) (by show Value.isStrOf x (.str x tk)=true;simp [Value.isStrOf]) ?_)))))))
 refine zkx (s:={ s with toks:=s.toks + 1 }) hS hroom fun b h' sb S'=>?_
 exact wpAny_pure ⟨_,rfl,h h' sb S'⟩
end
section
variable {w:World}
abbrev zhz (w:World):Obj:={ cls:=.type "set",dict:=none,data:=.set #[] 0 (.fresh 0 0 (!byT w)) }
end
theorem zeL:Manifest.owners.lookup (String.ofList ['r','o','t','a','r','e','t','i','_','t','e','s'].reverse)=some Manifest.sig_set_iterator:=by kernel_rfl
theorem slot_sn:Slot "set_iterator" "__next__" "set_iterator.__next__":=Slot.of (owner := "set_iterator") (n := "__next__") (by rw [typeLookup_type,builtinLookup_eq_fast];kernel_rfl) (by decide +kernel) (by decide +kernel) (by decide +kernel) (by first|exact .inl (by decide +kernel)|exact .inr (by decide +kernel)) (by rw [isSubtype_type];kernel_rfl)
theorem zcd:Slot "set_iterator" "__iter__" "set_iterator.__iter__":=Slot.of (owner := "set_iterator") (n := "__iter__") (by rw [typeLookup_type,builtinLookup_eq_fast];kernel_rfl) (by decide +kernel) (by decide +kernel) (by decide +kernel) (by first|exact .inl (by decide +kernel)|exact .inr (by decide +kernel)) (by rw [isSubtype_type];kernel_rfl)
theorem zdc:entryFor table "set_iterator.__next__" = some Builtin.«set_iterator.__next__»:=entryFor_of_tree (by kernel_rfl)
theorem zfE (a:Value):argsOk "set_iterator.__next__" ⟨[a],[]⟩:=by
 unfold argsOk
 rw [signature?_of (id := "set_iterator.__next__") (n:=['_','_','t','x','e','n','_','_']) (o:=['r','o','t','a','r','e','t','i','_','t','e','s']) (by kernel_rfl) zeL]
 kernel_rfl
theorem zgG (a:Value):argsOk "set_iterator.__iter__" ⟨[a],[]⟩:=by
 unfold argsOk
 rw [signature?_of (id := "set_iterator.__iter__") (n:=['_','_','r','e','t','i','_','_']) (o:=['r','o','t','a','r','e','t','i','_','t','e','s']) (by kernel_rfl) zeL]
 kernel_rfl
theorem zdT:entryFor table "set.__iter__" = some Builtin.«frozenset.__iter__»:=entryFor_alias (id' := "frozenset.__iter__") (by kernel_rfl) rfl (by decide +kernel) (by kernel_rfl)
theorem zdG:entryFor table "set_iterator.__iter__" = some Builtin.«dict_keyiterator.__iter__»:=entryFor_alias (id' := "dict_keyiterator.__iter__") (by kernel_rfl) rfl (by decide +kernel) (by kernel_rfl)
theorem z5V {α:Type} {l:List α} {i:Nat} {x:α} (h:l[i]?=some x):(x :: l.eraseIdx i).Perm l:=by
 obtain ⟨hi,e⟩:=List.getElem?_eq_some_iff.mp h
 have q:l.take i ++ x :: l.drop (i + 1)=l:=by rw [<- e,List.getElem_cons_drop hi,List.take_append_drop]
 rw [List.eraseIdx_eq_take_drop_succ]
 exact List.perm_middle.symm.trans (by rw [q])
theorem z7y {α:Type} (next:Nat->Nat):∀ (fuel k:Nat) (left:List α) (out:Array α),left.length=fuel->(pickOrder.go next fuel k left out).toList.Perm (out.toList ++ left)
 | 0,k,left,out,h=>by
  have:left=[]:=List.length_eq_zero_iff.mp h
  subst this
  unfold pickOrder.go
  simp
 | fuel + 1,k,left,out,h=>by
  unfold pickOrder.go
  have hl:next k % left.length < left.length:=Nat.mod_lt _ (by omega)
  rw [List.getElem?_eq_getElem hl]
  dsimp only
  have e:=List.length_eraseIdx_of_lt hl
  refine (z7y next fuel (k + 1) _ _ (by rw [e];omega)).trans ?_
  rw [Array.toList_push,List.append_assoc]
  exact List.Perm.append_left _ (z5V (List.getElem?_eq_getElem hl))
theorem z1x {α:Type} (next:Nat->Nat) (xs:Array α):(pickOrder next xs).toList.Perm xs.toList:=by
 unfold pickOrder
 have:=z7y next xs.size 0 xs.toList #[] (by simp)
 simpa using this
section
variable {P:Program} {w:World} {A:Around} {E:Value->Shared->Prop} {s:Shared} {a:Addr}
theorem zfC {src:Source} {n:Nat} {Q:Nat->Shared->Prop} (hn:n ≠ 0) (h:∀ i d,i < n->Q i { s with drawn:=d }):wpAny (model P w) A (choose src n) Q E s:=
 fun Γ p _=>⟨hn,h _ _ (Nat.mod_lt _ (Nat.pos_of_ne_zero hn))⟩
theorem ziK {α:Type}:∀ (n:Nat) (xs:List α) (s:Shared) (Q:List α->Shared->Prop),xs.length=n->(∀ ys d,ys.Perm xs->Q ys { s with drawn:=d })->wpAny (model P w) A (drawOrder n xs) Q E s
 | 0,xs,s,Q,h,hq=>by
  have:xs=[]:=List.length_eq_zero_iff.mp h
  subst this
  unfold drawOrder
  exact wpAny_pure (by have:=hq [] s.drawn (List.Perm.refl _);cases s;exact this)
 | n + 1,[],s,Q,h,hq=>by simp at h
 | n + 1,x :: xs,s,Q,h,hq=>by
  unfold drawOrder
  refine wpAny_bind (zfC (by simp) fun i d hi=>?_)
  rw [List.getElem?_eq_getElem hi]
  refine wpAny_bind (ziK n _ _ _ (by rw [List.length_eraseIdx_of_lt hi];simpa using h) fun ys d' hp=>wpAny_pure ?_)
  exact hq _ d' ((List.Perm.cons _ hp).trans (z5V (List.getElem?_eq_getElem hi)))
abbrev itO (first:Value) (i:Nat) (a:Addr) (n ep:Nat):Obj:={ cls:=.type "set_iterator",data:=.fields #[first,rawInt i,.ref a,rawInt n,rawInt ep] }
theorem zhq {I:Addr} {Q:Option Value->Shared->Prop} (hT:s.TypeIs (.ref I) "set_iterator") (h:wpAny (model P w) A.in1 (Builtin.«set_iterator.__next__» ⟨[.ref I],[]⟩) (fun f s'=>∃ v,f=.done (.ret v)/\Q (some v) s') (fun e s'=>∃ o,e=.ref o/\(∃ ob,s'.heap.get? o=some ob/\ob.cls=.type "StopIteration")/\Q none s') s):
  wpAny (model P w) A (pyNext (.ref I)) Q E s:=by
 unfold pyNext
 refine wpAny_bind (wpAny_attempt (wpAny_callSpecial?_slot (name := "__next__") hT slot_sn (wpAny_call_entry slot_sn hT zdc ?_ (zfE _))))
 refine wpAny_mono h (fun f s' hf=>?_) fun e s' he=>?_
 ·obtain ⟨v,rfl,q⟩:=hf
  exact ⟨v,rfl,wpAny_pure q⟩
 ·obtain ⟨o,rfl,⟨ob,ho,hc⟩,q⟩:=he
  exact wpAny_bind (wpAny_isInstance (T := "StopIteration") (b:=true) ⟨ob,ho,hc⟩ isSubtype_stop (wpAny_pure q))
end
section
variable {P:Program} {w:World} {A:Around} {E:Value->Shared->Prop} {s:Shared} {a:Addr} {o:Obj} {es:Array (Int × Value)} {ep:Nat} {t:SetTable}
theorem z7r {α:Type} {Q:α->Shared->Prop} (hh:A.handled=none) (h:∀ h' e,(∀ b o,s.heap.get? b=some o->h'.get? b=some o)->(∃ o,h'.get? e=some o/\o.cls=.type "StopIteration")->E (.ref e) { s with heap:=h' }):
  wpAny (model P w) A (newExc (.type "StopIteration") [] >>= fun e=>(raiseNew e:Sem α)) Q E s:=by
 refine wpAny_bind ?_
 simp only [newExc,newTuple]
 refine wpAny_bind (wpAny_newObj_type (?_) (by size_fits))
 refine wpAny_bind (m:=firstArgMember _ _) (wpAny_of_eq (a:=.none) (by first|rfl|(simp only [firstArgMember];rfl)) (wpAny_newObj_type ?_ (by size_fits)))
 simp only [raiseNew]
 refine wpAny_bind (wpAny_handled ?_);rw [hh]
 refine wpAny_bind (wpAny_pure (wpAny_throw (h _ _ (fun b o e=>Heap.get?_push_of_some _ (Heap.get?_push_of_some _ e)) ⟨_,Heap.get?_push_size _ rfl,rfl⟩)))
theorem zek {sl i:Nat} {Q:Option (Value × Nat)->Shared->Prop} (ho:s.heap.get? a=some o) (hd:o.data=.set es ep t) (hf:t.fits es.size=true) (hb:byT w=true) (h:Q (((pickOrder (w.params.setOrder a ep) es)[i]?).map fun e=>(e.2,sl)) s):
  wpAny (model P w) A (setNext a sl i ep) Q E s:=by
 have hb':(model P w).w.params.followText "set-order" = true:=hb
 unfold setNext setsByText
 refine wpAny_bind (wpAny_setState_of ho hd hf ?_)
 dsimp only
 refine wpAny_bind (wpAny_bind (wpAny_askSetting (wpAny_pure ?_)))
 rw [hb',if_pos rfl,if_neg (by simp)]
 refine wpAny_bind ?_
 unfold setWalk setsByText
 refine wpAny_bind (wpAny_setState_of ho hd hf ?_)
 dsimp only
 refine wpAny_bind (wpAny_bind (wpAny_askSetting (wpAny_pure ?_)))
 rw [hb',if_pos rfl]
 exact wpAny_bind (wpAny_askSetting (wpAny_pure (wpAny_pure h)))
theorem zc1 {sl i:Nat} {Q:Option (Value × Nat)->Shared->Prop} (ho:s.heap.get? a=some o) (hd:o.data=.set es ep t) (hf:t.fits es.size=true) (hb:byT w=false) (hs:es.size <= 1) (hl:t.led=true)
  (h:Q (match es[SetTable.below t.place sl]?,t.place[SetTable.below t.place sl]? with|some (_,x),some j=>some (x,j + 1)|_,_=>none) s):
  wpAny (model P w) A (setNext a sl i ep) Q E s:=by
 have hb':(model P w).w.params.followText "set-order" = false:=hb
 unfold setNext setsByText
 refine wpAny_bind (wpAny_setState_of ho hd hf ?_)
 dsimp only
 refine wpAny_bind (wpAny_bind (wpAny_askSetting (wpAny_pure ?_)))
 rw [hb',if_neg (by simp)]
 show wpAny _ _ (if (!t.plain && decide (es.size > 1))=true then _ else _) _ _ _
 have h1:(!t.plain && decide (es.size > 1))=false:=by
  rw [decide_eq_false (by omega)];simp
 rw [h1,if_neg (by simp)]
 refine wpAny_bind ?_
 show wpAny _ _ (if (!t.led && !es.isEmpty)=true then _ else _) _ _ _
 rw [hl,if_neg (by simp)]
 exact wpAny_pure (wpAny_pure h)
theorem zcs {pl:Nat} {x:Int × Value} {Q:Value->Shared->Prop} (ho:s.heap.get? a=some o) (hd:o.data=.set es ep t) (hf:t.fits es.size=true) (hx:es[pl]?=some x) (h:Q x.2 s):
  wpAny (model P w) A (setNextDrawn a pl ep) Q E s:=by
 unfold setNextDrawn
 refine wpAny_bind (wpAny_setState_of ho hd hf ?_)
 dsimp only
 rw [if_neg (by simp),hx]
 exact wpAny_pure h
theorem zf7 {Q:Bool->Shared->Prop} (ho:s.heap.get? a=some o) (hd:o.data=.set es ep t) (hf:t.fits es.size=true) (hpl:es.size ≠ 0->t.plain=false) (h:Q (!byT w && decide (es.size > 1)) s):wpAny (model P w) A (setDrawn a) Q E s:=by
 unfold setDrawn setsByText
 refine wpAny_bind (wpAny_setState_of ho hd hf ?_)
 dsimp only
 refine wpAny_bind (wpAny_bind (wpAny_askSetting (wpAny_pure (wpAny_pure ?_))))
 have e:(!t.plain && decide (es.size > 1))=decide (es.size > 1):=by
  by_cases q:es.size > 1
  ·rw [hpl (by omega),decide_eq_true q];rfl
  ·rw [decide_eq_false q];simp
 show Q (!byT w && (!t.plain && decide (es.size > 1))) s
 rw [e];exact h
theorem zcS {I:Addr} {sl i:Nat} {R:Option (Value × Nat)} {Q:Option Value->Shared->Prop} (ho:s.heap.get? a=some o) (hd:o.data=.set es ep t) (hf:t.fits es.size=true) (hI:s.heap.get? I=some (itO (rawInt sl) i a es.size ep)) (hne:a ≠ I) (hh:A.handled=none)
  (hn:∀ (B:Around) (Q':Option (Value × Nat)->Shared->Prop) (E':Value->Shared->Prop),Q' R s->wpAny (model P w) B (setNext a sl i ep) Q' E' s)
  (hq:∀ v j,R=some (v,j)->∀ h',Heap.SameBut I s.heap h'->h'.get? I=some (itO (rawInt j) (i + 1) a es.size ep)->Q (some v) { s with heap:=h' })
  (hz:R=none->∀ h',Heap.ExtBut I s.heap h'->Q none { s with heap:=h' }):wpAny (model P w) A (pyNext (.ref I)) Q E s:=by
 refine zhq ⟨_,hI,rfl⟩ ?_
 unfold Builtin.«set_iterator.__next__» slotArgs
 dsimp only
 rw [if_neg (by simp),if_neg (by simp)]
 refine wpAny_bind (wpAny_pure (wpAny_bind (wpAny_fieldsOf hI rfl ?_)))
 show wpAny _ _ (setEntries a >>= _) _ _ _
 refine wpAny_bind (wpAny_setEntries_of ho hd hf ?_)
 rw [if_neg (by simp)]
 show wpAny _ _ (setNext a sl i ep >>= _) _ _ _
 refine wpAny_bind (hn _ _ _ ?_)
 obtain ⟨hp,g,d,tk,os⟩:=s
 cases hR:R with
 | some p=>
  obtain ⟨v,j⟩:=p
  dsimp only
  refine wpAny_bind (wpAny_setField_rec hI (by simp) fun h1 e1 s1=>?_)
  refine wpAny_bind (wpAny_setField_rec e1 (by simp) fun h2 e2 s2=>?_)
  exact wpAny_pure ⟨v,rfl,hq v j hR h2 (s1.trans s2) e2⟩
 | none=>
  dsimp only
  refine wpAny_bind (wpAny_setField_rec hI (by simp) fun h1 e1 s1=>?_)
  refine z7r (by simpa using hh) fun h' e he hc=>⟨e,rfl,hc,hz hR h' fun b ob hb z=>he b ob (s1.extBut b ob hb z)⟩
theorem zig {I tt:Addr} {i:Nat} {first:Value} {ps:List Nat} {Q:Option Value->Shared->Prop} (ho:s.heap.get? a=some o) (hd:o.data=.set es ep t) (hf:t.fits es.size=true) (hI:s.heap.get? I=some (itO (.ref tt) i a es.size ep)) (ht:s.heap.get? tt=some { cls:=.type "tuple",data:=.seq (ps.map fun (j:Nat)=>rawInt (j:Int)).toArray }) (hh:A.handled=none)
  (hq:∀ j x,ps[i]?=some j->es[j]?=some x->∀ h',Heap.SameBut I s.heap h'->h'.get? I=some (itO (.ref tt) (i + 1) a es.size ep)->Q (some x.2) { s with heap:=h' }) (hin:∀ j,ps[i]?=some j->j < es.size)
  (hz:ps[i]?=none->∀ h',Heap.ExtBut I s.heap h'->Q none { s with heap:=h' }):wpAny (model P w) A (pyNext (.ref I)) Q E s:=by
 refine zhq ⟨_,hI,rfl⟩ ?_
 unfold Builtin.«set_iterator.__next__» slotArgs
 dsimp only
 rw [if_neg (by simp),if_neg (by simp)]
 refine wpAny_bind (wpAny_pure (wpAny_bind (wpAny_fieldsOf hI rfl ?_)))
 show wpAny _ _ (setEntries a >>= _) _ _ _
 refine wpAny_bind (wpAny_setEntries_of ho hd hf ?_)
 rw [if_neg (by simp)]
 show wpAny _ _ (seqItems? (.ref tt) >>= _) _ _ _
 refine wpAny_bind (wpAny_seqItems ht rfl ?_)
 obtain ⟨hp,g,d,tk,os⟩:=s
 have e0:((ps.map fun (j:Nat)=>rawInt (j:Int)).toArray)[((i:Int)).toNat]?=(ps[i]?).map fun (j:Nat)=>rawInt (j:Int):=by
  rw [Int.toNat_natCast,List.getElem?_toArray,List.getElem?_map]
 dsimp only
 rw [e0]
 cases hR:ps[i]? with
 | some j=>
  have hj:=hin j hR
  dsimp only [Option.map_some,rawInt]
  refine wpAny_bind (zcs (pl:=j) (x:=es[j]) ho hd hf (Array.getElem?_eq_getElem hj) ?_)
  refine wpAny_bind (wpAny_setField_rec hI (by simp) fun h1 e1 s1=>?_)
  exact wpAny_pure ⟨_,rfl,hq j _ hR (Array.getElem?_eq_getElem hj) h1 s1 e1⟩
 | none=>
  dsimp only [Option.map_none]
  refine wpAny_bind (wpAny_setField_rec hI (by simp) fun h1 e1 s1=>?_)
  refine wpAny_bind (wpAny_setField_rec e1 (by simp) fun h2 e2 s2=>?_)
  refine z7r (by simpa using hh) fun h' e he hc=>⟨e,rfl,hc,hz hR h' fun b ob hb z=>he b ob (s2.extBut b ob hb (s1.extBut b ob hb z))⟩
end
section
variable {P:Program} {w:World} {A:Around} {E:Value->Shared->Prop} {s:Shared} {a:Addr} {o:Obj} {es:Array (Int × Value)} {ep:Nat} {t:SetTable} {I tt:Addr}
abbrev PvS (os:List Str):Nat->Value->Prop:=fun i v=>∃ tk:Tok,v=.str (os.getD i ⟨#[]⟩) tk
theorem zgw {Q:Value->Shared->Prop} (h:∃ ob,s.heap.get? I=some ob/\ob.cls=.type "set_iterator") (q:Q (.ref I) s):wpAny (model P w) A (pyIter (.ref I)) Q E s:=by
 have ht:s.TypeIs (.ref I) "set_iterator":=h
 refine wpAny_pyIter_slot ht zcd (wpAny_call_entry zcd ht zdG ?_ (zgG _))
 unfold Builtin.«dict_keyiterator.__iter__»
 obtain ⟨hp,g,d,tk,os⟩:=s
 wp_walk
 exact ⟨_,rfl, "set_iterator",_,ht,slot_sn.lookup,q⟩
theorem zbE {l:List (Int × Value)} (hel:ElemsOf (strKind P w) l) {i:Nat} {e:Int × Value} (h:l[i]?=some e):PvS (l.map z4E) i e.2:=by
 obtain ⟨tk,ht⟩:=z6I hel (List.mem_of_getElem? h)
 refine ⟨tk,?_⟩
 rw [List.getD_eq_getElem?_getD,List.getElem?_map,h]
 exact ht
theorem zfR (hd:o.data=.set es ep t) (hf:t.fits es.size=true) (hel:ElemsOf (strKind P w) es.toList) (hb:byT w=true) (hh:A.handled=none) (hne:a ≠ I):
  Walks P w A I [I,a] [I] es.size (PvS ((pickOrder (w.params.setOrder a ep) es).toList.map z4E)) (fun i h=>(∃ sl:Nat,h.get? I=some (itO (rawInt sl) i a es.size ep))/\h.get? a=some o) where
 sub:=fun b hb=>by simp at hb;simp [hb]
 frame:=fun i h h' st hk=>⟨let ⟨sl,e⟩:=st.1;⟨sl,hk I (by simp) _ e⟩,hk a (by simp) _ st.2⟩
 item:=fun i s Q E hi st hq=>by
  obtain ⟨⟨sl,hI⟩,ho⟩:=st
  have hpm:=z1x (w.params.setOrder a ep) es
  have hsz:(pickOrder (w.params.setOrder a ep) es).size=es.size:=by rw [<- Array.length_toList,hpm.length_eq,Array.length_toList]
  have hi':i < (pickOrder (w.params.setOrder a ep) es).size:=by omega
  refine zcS (R:=some ((pickOrder (w.params.setOrder a ep) es)[i].2,sl)) ho hd hf hI hne hh (fun B Q' E' h=>zek ho hd hf hb (by rw [Array.getElem?_eq_getElem hi'];exact h)) (fun v j e h' sb e'=>?_) fun e=>by cases e
  cases e
  refine hq _ h' s.toks (zbE (hel.perm hpm) (by rw [Array.getElem?_toList];exact Array.getElem?_eq_getElem hi')) ⟨⟨_,e'⟩,?_⟩ fun b ob hb z=>?_
  ·rw [sb.2 a hne];exact ho
  ·rw [sb.2 b (by simpa using hb)];exact z
 done:=fun s Q E st hq=>by
  obtain ⟨⟨sl,hI⟩,ho⟩:=st
  have hpm:=z1x (w.params.setOrder a ep) es
  have hsz:(pickOrder (w.params.setOrder a ep) es).size=es.size:=by rw [<- Array.length_toList,hpm.length_eq,Array.length_toList]
  refine zcS (R:=none) ho hd hf hI hne hh (fun B Q' E' h=>zek ho hd hf hb (by rw [Array.getElem?_eq_none (by omega)];exact h)) (fun v j e=>by cases e) fun _ h' eb=>hq h' s.toks fun b ob hb z=>eb b ob (by simpa using hb) z
 self:=fun i s Q E st hq=>zgw (let ⟨⟨sl,e⟩,_⟩:=st;⟨_,e,rfl⟩) hq
theorem zfh (hd:o.data=.set es ep t) (hf:t.fits es.size=true) (hel:ElemsOf (strKind P w) es.toList) (hh:A.handled=none) (hne:a ≠ I) (hnt:tt ≠ I) {ps:List Nat} (hps:ps.Perm (List.range es.size)):
  Walks P w A I [I,a,tt] [I] es.size (PvS ((ps.filterMap fun j=>es[j]?).map z4E)) (fun i h=>h.get? I=some (itO (.ref tt) i a es.size ep)/\h.get? a=some o/\h.get? tt=some { cls:=.type "tuple",data:=.seq (ps.map fun (j:Nat)=>rawInt (j:Int)).toArray }) where
 sub:=fun b hb=>by simp at hb;simp [hb]
 frame:=fun i h h' st hk=>⟨hk I (by simp) _ st.1,hk a (by simp) _ st.2.1,hk tt (by simp) _ st.2.2⟩
 item:=fun i s Q E hi st hq=>by
  obtain ⟨hI,ho,ht⟩:=st
  have hlen:ps.length=es.size:=by rw [hps.length_eq];simp
  have hin:∀ j ∈ ps,j < es.size:=fun j hj=>List.mem_range.mp (hps.mem_iff.mp hj)
  refine zig (first:=.ref tt) ho hd hf hI ht hh (fun j x e1 e2 h' sb e'=>?_) (fun j e=>hin j (List.mem_of_getElem? e)) fun e=>absurd (List.getElem?_eq_none_iff.mp e) (by omega)
  have hfm:∀ (l:List Nat),(∀ j ∈ l,j < es.size)->(l.filterMap fun j=>es[j]?)=l.map fun j=>es.getD j default:=by
   intro l
   induction l with
   | nil=>intro _;rfl
   | cons q l ih=>
    intro h
    have hq':=h q List.mem_cons_self
    rw [List.filterMap_cons,Array.getElem?_eq_getElem hq',ih fun j hj=>h j (List.mem_cons_of_mem _ hj),List.map_cons]
    simp [Array.getD,hq']
  have hx:(ps.filterMap fun j=>es[j]?)[i]?=some x:=by
   rw [hfm ps hin,List.getElem?_map,e1]
   have hj:=hin j (List.mem_of_getElem? e1)
   rw [Array.getElem?_eq_getElem hj] at e2
   have:es[j]=x:=Option.some.inj e2
   simp [Array.getD,hj,this]
  have hel':ElemsOf (strKind P w) (ps.filterMap fun j=>es[j]?):=fun e he=>by
   obtain ⟨j,_,hj⟩:=List.mem_filterMap.mp he
   exact hel e (by rw [<- Array.getElem?_toList] at hj;exact List.mem_of_getElem? hj)
  refine hq _ h' s.toks (zbE hel' hx) ⟨e',?_,?_⟩ fun b ob hb z=>?_
  ·rw [sb.2 a hne];exact ho
  ·rw [sb.2 tt hnt];exact ht
  ·rw [sb.2 b (by simpa using hb)];exact z
 done:=fun s Q E st hq=>by
  obtain ⟨hI,ho,ht⟩:=st
  have hlen:ps.length=es.size:=by rw [hps.length_eq];simp
  have hn:ps[es.size]?=none:=List.getElem?_eq_none_iff.mpr (by omega)
  exact zig (first:=.ref tt) ho hd hf hI ht hh (fun j x e1=>by rw [hn] at e1;cases e1) (fun j e=>by rw [hn] at e;cases e) fun _ h' eb=>hq h' s.toks fun b ob hb z=>eb b ob (by simpa using hb) z
 self:=fun i s Q E st hq=>zgw ⟨_,st.1,rfl⟩ hq
theorem zgo (xs:Array Nat) (h:xs.size <= 1):SetTable.below xs 0=0:=by
 unfold SetTable.below
 have:xs.size=0 \/ xs.size=1:=by omega
 rcases this with e|e
 ·rw [e];rfl
 ·rw [e]
  unfold SetTable.below.go
  rw [if_pos (by omega)]
  dsimp only
  rw [if_neg (by simp)]
  unfold SetTable.below.go
  rfl
theorem zfk (xs:Array Nat) (p:Nat) (h:xs.size=1) (hp:xs[0]?=some p):SetTable.below xs (p + 1)=1:=by
 unfold SetTable.below
 rw [h]
 unfold SetTable.below.go
 rw [if_pos (by omega)]
 dsimp only
 have e:xs.getD ((0 + 1) / 2) (p + 1)=p:=by
  show xs.getD 0 (p + 1)=p
  rw [Array.getD_eq_getD_getElem?,hp];rfl
 rw [e,if_pos (by omega)]
 unfold SetTable.below.go
 rfl
theorem zdK (hd:o.data=.set es ep t) (hf:t.fits es.size=true) (hel:ElemsOf (strKind P w) es.toList) (hb:byT w=false) (hs:es.size <= 1) (hl:t.led=true) (hh:A.handled=none) (hne:a ≠ I):
  Walks P w A I [I,a] [I] es.size (PvS (es.toList.map z4E)) (fun i h=>(∃ sl:Nat,h.get? I=some (itO (rawInt sl) i a es.size ep)/\SetTable.below t.place sl=i)/\h.get? a=some o) where
 sub:=fun b hb=>by simp at hb;simp [hb]
 frame:=fun i h h' st hk=>⟨let ⟨sl,e,q⟩:=st.1;⟨sl,hk I (by simp) _ e,q⟩,hk a (by simp) _ st.2⟩
 item:=fun i s Q E hi st hq=>by
  obtain ⟨⟨sl,hI,hbl⟩,ho⟩:=st
  have hpz:t.place.size=es.size:=by simp only [SetTable.fits,Bool.and_eq_true,beq_iff_eq] at hf;exact hf.1
  have h1:es.size=1:=by omega
  have h0:i=0:=by omega
  subst h0
  have hp1:t.place.size=1:=by omega
  refine zcS (R:=some (es[0].2,t.place[0] + 1)) ho hd hf hI hne hh (fun B Q' E' h=>zc1 ho hd hf hb hs hl (by rw [hbl,Array.getElem?_eq_getElem hi,Array.getElem?_eq_getElem (by omega)];exact h)) (fun v j e h' sb e'=>?_) fun e=>by cases e
  cases e
  refine hq _ h' s.toks (zbE hel (by rw [Array.getElem?_toList];exact Array.getElem?_eq_getElem hi)) ⟨⟨_,e',zfk _ _ hp1 (Array.getElem?_eq_getElem _)⟩,?_⟩ fun b ob hb z=>?_
  ·rw [sb.2 a hne];exact ho
  ·rw [sb.2 b (by simpa using hb)];exact z
 done:=fun s Q E st hq=>by
  obtain ⟨⟨sl,hI,hbl⟩,ho⟩:=st
  refine zcS (R:=none) ho hd hf hI hne hh (fun B Q' E' h=>zc1 ho hd hf hb hs hl (by rw [hbl,Array.getElem?_eq_none (Nat.le_refl _)];exact h)) (fun v j e=>by cases e) fun _ h' eb=>hq h' s.toks fun b ob hb z=>eb b ob (by simpa using hb) z
 self:=fun i s Q E st hq=>zgw (let ⟨⟨sl,e,_⟩,_⟩:=st;⟨_,e,rfl⟩) hq
end
section
variable {P:Program} {w:World} {A:Around} {E:Value->Shared->Prop} {s:Shared} {a:Addr} {ks:List Str}
theorem zed (es:Array (Int × Value)):∀ (l:List Nat),(∀ j ∈ l,j < es.size)->(l.filterMap fun j=>es[j]?).length=l.length
 | [],_=>rfl
 | q :: l,h=>by
  rw [List.filterMap_cons,Array.getElem?_eq_getElem (h q List.mem_cons_self)]
  show (_ :: _).length=_
  rw [List.length_cons,List.length_cons,zed es l fun j hj=>h j (List.mem_cons_of_mem _ hj)]
structure ItX (P:Program) (w:World) (a:Addr) (ks:List Str) (s:Shared) (I:Addr) (s1:Shared):Prop where
 ex:∃ (os:List Str) (fp:List Addr) (St:Nat->Heap->Prop),os.Perm ks/\I ∈ fp/\(∀ b ∈ fp,b < s1.heap.objs.size)/\(∀ b ∈ fp,b=a \/ s.heap.objs.size <= b)/\(∀ B:Around,B.handled=none->Walks P w B I fp [I] os.length (PvS os) St)/\St 0 s1.heap
 keep:∀ b o,s.heap.get? b=some o->s1.heap.get? b=some o
 ty:∃ ob,s1.heap.get? I=some ob/\ob.cls=.type "set_iterator"
 new:s.heap.objs.size <= I
 gens:s1.gens=s.gens
 os:s1.os=s.os
theorem zj9 {Q:Value->Shared->Prop} (hS:SetX P w a ks s.heap) (h:∀ I s1,ItX P w a ks s I s1->Q (.ref I) s1):wpAny (model P w) A (pyIter (.ref a)) Q E s:=by
 obtain ⟨o,es,ep,t,ho,hx,hd,hel,hp,hn,hb,hf,hl,hpl⟩:=hS
 have hT:s.TypeIs (.ref a) "set":=⟨o,ho,hx.1⟩
 have hsz:es.size=ks.length:=by rw [<- hp.length_eq];simp
 have halt:a < s.heap.objs.size:=Heap.lt_size ho
 refine wpAny_pyIter_slot hT F.slot_set_iter (wpAny_call_entry F.slot_set_iter hT zdT ?_ (F.args_set_iter_1 _))
 unfold Builtin.«frozenset.__iter__» Builtin.Frozenset.slot0 slotArgs
 simp only [List.isEmpty_nil,Bool.not_true,Bool.false_eq_true,↓reduceIte,bind_assoc,List.length_nil,bne_self_eq_false]
 unfold Builtin.Frozenset.addrOf Builtin.Frozenset.sizeOf
 refine wpAny_bind (wpAny_pure (wpAny_bind (wpAny_pure (wpAny_bind (wpAny_bind (wpAny_setEntries_of ho hd hf (wpAny_pure ?_)))))))
 refine wpAny_bind (zf7 ho hd hf hpl ?_)
 have fin:∀ (first:Value) (h1:Heap) (d:Drawn),(∀ b ob,s.heap.get? b=some ob->h1.get? b=some ob)->s.heap.objs.size <= h1.objs.size->
   (∃ (os:List Str) (fp:List Addr) (St:Nat->Heap->Prop),os.Perm ks/\h1.objs.size ∈ fp/\(∀ b ∈ fp,b < h1.objs.size + 1)/\(∀ b ∈ fp,b=a \/ s.heap.objs.size <= b)/\(∀ B:Around,B.handled=none->Walks P w B h1.objs.size fp [h1.objs.size] os.length (PvS os) St)/\St 0 (h1.push (itO first 0 a es.size ep)))->
   wpAny (model P w) A.in1 (setEpoch a >>= fun e=>newFields "set_iterator" [first,rawInt 0,.ref a,rawInt es.size,rawInt e] >>= fun v=>ret v) (fun f s'=>∃ r,f=.done (.ret r)/\∃ T' r',s'.TypeIs r T'/\typeLookup (.type T') "__next__" = pure (some r')/\Q r s') E { s with heap:=h1,drawn:=d }:=by
  intro first h1 d hk hz ⟨os,fp,St,p1,p2,p3,p6,p4,p5⟩
  refine wpAny_bind (wpAny_setEpoch_of (hk a o ho) hd hf ?_)
  unfold newFields
  refine wpAny_bind (wpAny_newObj_type ?_ (by size_fits))
  have g:(h1.push (itO first 0 a es.size ep)).get? h1.objs.size=some (itO first 0 a es.size ep):=Heap.get?_push_size _ rfl
  refine wpAny_pure ⟨_,rfl, "set_iterator",_,⟨_,g,rfl⟩,slot_sn.lookup,h _ _ ⟨⟨os,fp,St,p1,p2,fun b hb=>?_,p6,p4,p5⟩,fun b ob e=>Heap.get?_push_of_some _ (hk b ob e),⟨_,g,rfl⟩,hz,rfl,rfl⟩⟩
  rw [Heap.size_push];exact p3 b hb
 cases hdr:(!byT w && decide (es.size > 1)) with
 | true=>
  rw [if_pos rfl]
  refine wpAny_bind (ziK es.size (List.range es.size) _ _ (by simp) fun ps d hps=>wpAny_bind (wpAny_newTuple ?_ ?_))
  ·have hsz1:(s.heap.push { cls:=.type "tuple",data:=.seq (ps.map fun (j:Nat)=>rawInt (j:Int)).toArray }).objs.size=s.heap.objs.size + 1:=Heap.size_push ..
   refine fin (.ref s.heap.objs.size) _ d (fun b ob e=>Heap.get?_push_of_some _ e) (by rw [hsz1];exact Nat.le_succ _) ?_
   refine ⟨(ps.filterMap fun j=>es[j]?).map z4E,[(s.heap.push { cls:=.type "tuple",data:=.seq (ps.map fun (j:Nat)=>rawInt (j:Int)).toArray }).objs.size,a,s.heap.objs.size],(fun i h=>h.get? (s.heap.push { cls:=.type "tuple",data:=.seq (ps.map fun (j:Nat)=>rawInt (j:Int)).toArray }).objs.size=some (itO (.ref s.heap.objs.size) i a es.size ep)/\h.get? a=some o/\h.get? s.heap.objs.size=some { cls:=.type "tuple",data:=.seq (ps.map fun (j:Nat)=>rawInt (j:Int)).toArray }),?_,by simp,?_,?_,fun B hB=>?_,Heap.get?_push_size _ rfl,Heap.get?_push_of_some _ (Heap.get?_push_of_some _ ho),Heap.get?_push_of_some _ (Heap.get?_push_size _ rfl)⟩
   ·refine (List.Perm.map z4E ?_).trans hp
    have e1:(List.range es.size).filterMap (fun j=>es[j]?)=es.toList:=by
     apply List.ext_getElem?
     intro i
     have hfm:∀ n,n <= es.size->(List.range n).filterMap (fun j=>es[j]?)=es.toList.take n:=by
      intro n
      induction n with
      | zero=>intro _;simp
      | succ n ih=>
       intro hn'
       rw [List.range_succ,List.filterMap_append,ih (by omega),List.filterMap_cons,List.filterMap_nil,Array.getElem?_eq_getElem (by omega),List.take_succ,Array.getElem?_toList,Array.getElem?_eq_getElem (by omega)]
       rfl
     rw [hfm es.size (Nat.le_refl _),List.take_of_length_le (by simp)]
    rw [<- e1]
    exact hps.filterMap _
   ·intro b hb
    rw [hsz1] at hb ⊢
    simp only [List.mem_cons,List.not_mem_nil,or_false] at hb
    rcases hb with rfl|rfl|rfl
    ·exact Nat.lt_succ_self _
    ·exact Nat.lt_succ_of_lt (Nat.lt_succ_of_lt halt)
    ·exact Nat.lt_succ_of_lt (Nat.lt_succ_self _)
   ·intro b hb
    rw [hsz1] at hb
    simp only [List.mem_cons,List.not_mem_nil,or_false] at hb
    rcases hb with rfl|rfl|rfl
    ·exact .inr (Nat.le_succ _)
    ·exact .inl rfl
    ·exact .inr (Nat.le_refl _)
   ·have hlen:((ps.filterMap fun j=>es[j]?).map z4E).length=es.size:=by
     have e0:=zed es ps fun j hj=>List.mem_range.mp (hps.mem_iff.mp hj)
     rw [List.length_map,e0,hps.length_eq];simp
    rw [hlen]
    exact zfh hd hf hel hB (by rw [hsz1];exact Nat.ne_of_lt (Nat.lt_succ_of_lt halt)) (by rw [hsz1];exact Nat.ne_of_lt (Nat.lt_succ_self _)) hps
  ·rw [List.length_map,hps.length_eq,List.length_range];exact fits_of_scanBound hb
 | false=>
  rw [if_neg (by simp)]
  have this:=fin (rawInt 0) s.heap s.drawn (fun b ob e=>e) (Nat.le_refl _)
  have e0:({ s with heap:=s.heap,drawn:=s.drawn }:Shared)=s:=by cases s;rfl
  rw [e0] at this
  refine this ?_
  by_cases hbt:byT w=true
  ·refine ⟨(pickOrder (w.params.setOrder a ep) es).toList.map z4E,[s.heap.objs.size,a],(fun i h=>(∃ sl:Nat,h.get? s.heap.objs.size=some (itO (rawInt sl) i a es.size ep))/\h.get? a=some o),((z1x _ es).map z4E).trans hp,by simp,?_,?_,fun B hB=>?_,⟨0,Heap.get?_push_size _ rfl⟩,Heap.get?_push_of_some _ ho⟩
   ·intro b hb
    simp only [List.mem_cons,List.not_mem_nil,or_false] at hb
    rcases hb with rfl|rfl
    ·exact Nat.lt_succ_self _
    ·exact Nat.lt_succ_of_lt halt
   ·intro b hb
    simp only [List.mem_cons,List.not_mem_nil,or_false] at hb
    rcases hb with rfl|rfl
    ·exact .inr (Nat.le_refl _)
    ·exact .inl rfl
   ·have hlen:((pickOrder (w.params.setOrder a ep) es).toList.map z4E).length=es.size:=by rw [List.length_map,(z1x _ es).length_eq];simp
    rw [hlen]
    exact zfR hd hf hel hbt hB (Nat.ne_of_lt halt)
  ·have hbt:byT w=false:=by simpa using hbt
   have h1:es.size <= 1:=by
    rw [hbt] at hdr
    simp at hdr;exact hdr
   have hpz:t.place.size=es.size:=by simp only [SetTable.fits,Bool.and_eq_true,beq_iff_eq] at hf;exact hf.1
   refine ⟨es.toList.map z4E,[s.heap.objs.size,a],(fun i h=>(∃ sl:Nat,h.get? s.heap.objs.size=some (itO (rawInt sl) i a es.size ep)/\SetTable.below t.place sl=i)/\h.get? a=some o),hp,by simp,?_,?_,fun B hB=>?_,⟨0,Heap.get?_push_size _ rfl,zgo _ (by omega)⟩,Heap.get?_push_of_some _ ho⟩
   ·intro b hb
    simp only [List.mem_cons,List.not_mem_nil,or_false] at hb
    rcases hb with rfl|rfl
    ·exact Nat.lt_succ_self _
    ·exact Nat.lt_succ_of_lt halt
   ·intro b hb
    simp only [List.mem_cons,List.not_mem_nil,or_false] at hb
    rcases hb with rfl|rfl
    ·exact .inr (Nat.le_refl _)
    ·exact .inl rfl
   ·have hlen:(es.toList.map z4E).length=es.size:=by simp
    rw [hlen]
    exact zdK hd hf hel hbt h1 (hl hbt) hB (Nat.ne_of_lt halt)
end
section
variable {P:Program} {w:World} {A:Around} {E:Value->Shared->Prop} {s:Shared} {a:Addr} {ks:List Str}
theorem zjw {Q:Bool->Shared->Prop} (hT:s.TypeIs (.ref a) "set") (h:Q false s):wpAny (model P w) A (Builtin.List.listLengthHint (.ref a)) Q E s:=by
 unfold Builtin.List.listLengthHint
 refine wpAny_bind (wpAny_specialOf hT F.slot_set_len.lookup ?_)
 have hsp:splitId "set.__len__" = some ("set", "__len__"):=by kernel_rfl
 have hss:=sub_set_self
 obtain ⟨hp,g,d,tk,os⟩:=s
 dsimp only
 rw [hsp]
 dsimp only
 refine wpAny_bind (wpAny_isInstance hT hss ?_)
 rw [if_neg (by simp),if_pos (by kernel_rfl)]
 exact wpAny_bind (wpAny_typeOf hT (wpAny_pure h))
theorem z3r:∀ (os:List Str) (vs:List Value),vs.length=os.length->(∀ j v,vs[j]?=some v->PvS os j v)->PyProof.Rows.StrsAre vs os
 | [],[],_,_=>.nil
 | [],_ :: _,h,_=>by simp at h
 | _ :: _,[],h,_=>by simp at h
 | x :: os,v :: vs,h,q=>by
  obtain ⟨tk,e⟩:=q 0 v rfl
  have e:v=.str x tk:=e
  subst e
  exact .cons x tk (z3r os vs (by simpa using h) fun j u z=>by
   obtain ⟨t',e'⟩:=q (j + 1) u (by simpa using z)
   exact ⟨t',by simpa [List.getD] using e'⟩)
theorem ze9 {Q:List Value->Shared->Prop} (hh:A.handled=none) (hS:SetX P w a ks s.heap) (hn:ks.length <= 1000)
  (h:∀ (vs:List Value) (os:List Str) s1,os.Perm ks->PyProof.Rows.StrsAre vs os->s.heap.objs.size <= s1.heap.objs.size->(∀ b o,s.heap.get? b=some o->s1.heap.get? b=some o)->s1.gens=s.gens->s1.os=s.os->Q vs s1):
  wpAny (model P w) A (collect (.ref a)) Q E s:=by
 obtain ⟨o,es,ep,t,ho,hx,r⟩:=id hS
 have hT:s.TypeIs (.ref a) "set":=⟨o,ho,hx.1⟩
 have halt:a < s.heap.objs.size:=Heap.lt_size ho
 unfold collect
 refine wpAny_bind (wpAny_runValue (codeAny_builtin F.entry_proto_collect ?_))
 rw [Around.under_plainId F.plain_proto_collect _]
 show wpAny _ A.in1 (newList [] >>= fun l=>again (.builtin "list.__iadd__" ⟨[l,.ref a],[]⟩)) _ _ s
 refine wpAny_bind (wpAny_newObj_type (wpAny_pure ⟨plainId_quiet F.plain_list_iadd _,codeAny_builtin F.entry_list_iadd ?_⟩))
 rw [Around.under_plainId F.plain_list_iadd _]
 have g0:(s.heap.push { cls:=.type "list",data:=.seq ([]:List Value).toArray }).get? s.heap.objs.size=some { cls:=.type "list",data:=.seq ([]:List Value).toArray }:=Heap.get?_push_size _ rfl
 have S0:SetX P w a ks (s.heap.push { cls:=.type "list",data:=.seq ([]:List Value).toArray }):=hS.keep fun o e=>Heap.get?_push_of_some _ e
 have T0:Shared.TypeIs { s with heap:=s.heap.push { cls:=.type "list",data:=.seq ([]:List Value).toArray } } (.ref a) "set":=⟨o,Heap.get?_push_of_some _ ho,hx.1⟩
 show wpAny _ A.in1 (Builtin.List.listExtendWith (.ref s.heap.objs.size) (.ref a) (.ref s.heap.objs.size)) _ _ _
 unfold Builtin.List.listExtendWith
 refine wpAny_bind (wpAny_typeOf T0 ?_)
 have h1:Builtin.List.listSameRef (.ref s.heap.objs.size) (.ref a)=false:=by simp [Builtin.List.listSameRef,Nat.ne_of_gt halt]
 rw [if_neg (by rw [h1];decide)]
 refine wpAny_bind (zj9 (s:={ s with heap:=s.heap.push { cls:=.type "list",data:=.seq ([]:List Value).toArray } }) S0 fun I s1 X=>?_)
 obtain ⟨⟨os,fp,St,p1,p2,p3,p6,p4,p5⟩,kp,ty,nw,gn,oo⟩:=X
 refine wpAny_bind (wpAny_holding (zjw ⟨o,kp a o (Heap.get?_push_of_some _ ho),hx.1⟩ ?_))
 rw [if_pos (by kernel_rfl)]
 refine wpAny_bind (wpAny_rule ?_)
 refine wpAny_bind ?_
 obtain ⟨hp,g,d,tk,oss⟩:=s1
 have gS:hp.get? s.heap.objs.size=some { cls:=.type "list",data:=.seq ([]:List Value).toArray }:=kp _ _ g0
 show wpAny _ A.in1 (updateSeq s.heap.objs.size (·.push .none) >>= fun _=>updateSeq s.heap.objs.size (·.pop)) _ _ _
 refine wpAny_bind (wpAny_updateSeq gS rfl ?_)
 have g2:=Heap.get?_update_self (Obj.mapSeq (·.push Value.none)) gS rfl
 refine wpAny_updateSeq g2 rfl ?_
 have g3:=Heap.get?_update_self (Obj.mapSeq (·.pop)) g2 rfl
 have hz1:(Shared.heap { s with heap:=s.heap.push { cls:=.type "list",data:=.seq ([]:List Value).toArray } }).objs.size=s.heap.objs.size + 1:=Heap.size_push ..
 have hSf:s.heap.objs.size ∉ fp:=fun m=>by
  rcases p6 _ m with e|e
  ·exact Nat.lt_irrefl _ (e ▸ halt)
  ·rw [hz1] at e;exact Nat.not_succ_le_self _ e
 have W:=(p4 A.in1 (by simpa using hh)).toS
 have oth:∀ b ob,b ≠ s.heap.objs.size->hp.get? b=some ob->((hp.update s.heap.objs.size (Obj.mapSeq (·.push Value.none))).update s.heap.objs.size (Obj.mapSeq (·.pop))).get? b=some ob:=
  fun b ob hb e=>(Heap.get?_update_other _ _ (Ne.symm hb)).trans ((Heap.get?_update_other _ _ (Ne.symm hb)).trans e)
 refine wpAny_pure ⟨plainId_quiet F.plain_extend_loop _,codeAny_extend_loopS W (Nat.le_trans (by rw [p1.length_eq];exact hn) (by decide)) _ hSf _ os.length 0 _ _ _ rfl (Nat.zero_le _) ((p4 A.in1 (by simpa using hh)).frame 0 hp _ p5 fun b hb ob e=>oth b ob (fun q=>hSf (q ▸ hb)) e) g3 (ItemsOf.nil _) fun s' acc c' hm hS' hacc=>?_⟩
 show wpAny _ A (load s.heap.objs.size >>= _) _ _ s'
 refine wpAny_bind (wpAny_load hS' (wpAny_pure ?_))
 have hst:PyProof.Rows.StrsAre acc.toList os:=z3r os acc.toList (by simpa using hacc.1) fun j v e=>hacc.2 j v (by rw [<- Array.getElem?_toList];exact e)
 refine h acc.toList os s' p1 hst (Nat.le_of_lt (Heap.lt_size hS')) (fun b ob e=>hm.heap b ob ?_ (oth b ob ?_ (kp b ob (Heap.get?_push_of_some _ e)))) (hm.gens.trans gn) (hm.os.trans oo)
 ·simp only [List.mem_cons,List.not_mem_nil,or_false,not_or]
  refine ⟨fun q=>absurd (Heap.lt_size e) (by rw [q];exact Nat.lt_irrefl _),fun q=>?_⟩
  have hb:=Heap.lt_size e
  rw [hz1] at nw
  exact absurd (Nat.lt_of_lt_of_le hb (Nat.le_of_succ_le nw)) (by rw [q];exact Nat.lt_irrefl _)
 ·exact fun q=>absurd (Heap.lt_size e) (by rw [q];exact Nat.lt_irrefl _)
end
end DL
namespace DL
open PySem PyProof.Rows
section
variable {P:Program} {w:World} {A:Around} {E:Value->Shared->Prop} {s:Shared} {a:Addr} {ks:List Str}
theorem zfu {Q:Value->Shared->Prop} (hh:A.handled=none) (hS:SetX P w a ks s.heap) (hn:ks.length < 64)
  (h:∀ (out:Array Value) (os:List Str) l s1 c,os.Perm ks->sortedS os=true->StrsAre out.toList os->s.heap.objs.size <= l->s1.heap.get? l=some { cls:=.type "list",data:=.seq out c }->(∀ b o,s.heap.get? b=some o->s1.heap.get? b=some o)->s1.gens=s.gens->s1.os=s.os->Q (.ref l) s1):
  wpAny (model P w) A (call (.builtin "sorted") [.ref a]) Q E s:=by
 refine Calls.call_function_entry kind_sorted plain_sorted entry_sorted (args_sorted1 _) ?_
 unfold Builtin.«sorted»
 refine wpAny_bind (m:=checkCount "sorted" 1 1 _) (wpAny_pure ?_)
 refine wpAny_bind (ze9 (by simpa using hh) hS (by omega) fun vs os s1 hp hst hsz kp gn oo=>?_)
 have hlen:vs.length=os.length:=hst.length
 have h64:vs.length < 64:=by rw [hlen,hp.length_eq];exact hn
 refine wpAny_bind (wpAny_newList ?_)
 have gl:(s1.heap.push (seqObj "list" vs.toArray 0)).get? s1.heap.objs.size=some (seqObj "list" vs.toArray 0):=Heap.get?_push_size _ rfl
 refine wpAny_bind (wpAny_holding (wpAny_call_entry slot_list_sort ⟨_,gl,rfl⟩ entry_list_sort (list_sort_treeK strKind_oneLt gl hst.keysOf (fun v1 v2 rest e=>keyKind_strs (by rw [<- e];exact hst)) h64 fun st' a1 a2=>⟨_,rfl,?_⟩) (args_list_sort _)))
 obtain ⟨os',q1,q2,q3⟩:=sorted_out_str hst a1 a2
 refine wpAny_pure ⟨_,rfl,?_⟩
 have g1:=Heap.get?_update_self (Obj.mapSeq fun _=>#[]) gl rfl
 have g2:=Heap.get?_push_of_some (seqObj "list" #[] 0) (Heap.get?_push_of_some (seqObj "tuple" vs.toArray 0) g1)
 have g3:=Heap.get?_update_self (Obj.mapSeq fun _=>(arrOf st').map (·.2)) g2 rfl
 refine h _ os' _ _ _ (q2.trans hp) q3 q1 ?_ g3 (fun b o e=>?_) gn oo
 ·exact hsz
 ·have e1:=kp b o e
  have ne:s1.heap.objs.size ≠ b:=fun q=>absurd (Heap.lt_size e1) (by rw [<- q];exact Nat.lt_irrefl _)
  exact (Heap.get?_update_other _ _ ne).trans (Heap.get?_push_of_some _ (Heap.get?_push_of_some _ ((Heap.get?_update_other _ _ ne).trans (Heap.get?_push_of_some _ e1))))
end
end DL
namespace DL
open PySem L2 PyProof.Rows
def z8f (x:List Nat):List (List Nat)->List (List Nat)
 | []=>[x]
 | y :: r=>if x < y then x :: y :: r else if x=y then y :: r else y :: z8f x r
def z26 (ss:List (List Nat)):List (List Nat):=ss.foldl (fun l x=>z8f x l) []
theorem mem_insD {x y:List Nat}:∀ {l:List (List Nat)},y ∈ z8f x l ↔ y=x \/ y ∈ l
 | []=>by simp [z8f]
 | z :: r=>by
  unfold z8f
  split
  ·simp
  ·split
   ·rename_i h;subst h;simp
   ·rw [List.mem_cons,mem_insD,List.mem_cons];exact ⟨fun h=>by rcases h with h|h|h <;> simp [h],fun h=>by rcases h with h|h|h <;> simp [h]⟩
theorem z9b {x:List Nat}:∀ {l:List (List Nat)},l.Pairwise (· < ·)->(z8f x l).Pairwise (· < ·)
 | [],_=>by simp [z8f]
 | z :: r,h=>by
  obtain ⟨h1,h2⟩:=List.pairwise_cons.mp h
  unfold z8f
  split
  ·rename_i hxz
   exact List.pairwise_cons.mpr ⟨fun y hy=>by
    rcases List.mem_cons.mp hy with rfl|hy
    ·exact hxz
    ·exact List.lt_trans hxz (h1 y hy),h⟩
  ·rename_i hxz
   split
   ·exact h
   ·rename_i hne
    refine List.pairwise_cons.mpr ⟨fun y hy=>?_,z9b h2⟩
    rcases mem_insD.mp hy with rfl|hy
    ·exact Classical.byContradiction fun q=>hne (List.le_antisymm (List.not_lt.mp q) (List.not_lt.mp hxz))
    ·exact h1 y hy
theorem z1p {y:List Nat} (ss:List (List Nat)):y ∈ z26 ss ↔ y ∈ ss:=by
 have:∀ (ss l:List (List Nat)),y ∈ ss.foldl (fun l x=>z8f x l) l ↔ y ∈ l \/ y ∈ ss:=by
  intro ss
  induction ss with
  | nil=>intro l;simp
  | cons x ss ih=>intro l;rw [List.foldl_cons,ih,mem_insD,List.mem_cons];exact ⟨fun h=>by rcases h with (h|h)|h <;> simp [h],fun h=>by rcases h with h|h|h <;> simp [h]⟩
 rw [z26,this];simp
theorem z3F (ss:List (List Nat)):(z26 ss).Pairwise (· < ·):=by
 have:∀ (ss l:List (List Nat)),l.Pairwise (· < ·)->(ss.foldl (fun l x=>z8f x l) l).Pairwise (· < ·):=by
  intro ss
  induction ss with
  | nil=>intro l h;exact h
  | cons x ss ih=>intro l h;exact ih _ (z9b h)
 exact this ss [] List.Pairwise.nil
theorem z6q:∀ {l m:List (List Nat)},l.Pairwise (· < ·)->m.Pairwise (· < ·)->(∀ x,x ∈ l ↔ x ∈ m)->l=m
 | [],[],_,_,_=>rfl
 | [],y :: m,_,_,h=>absurd ((h y).mpr List.mem_cons_self) (by simp)
 | x :: l,[],_,_,h=>absurd ((h x).mp List.mem_cons_self) (by simp)
 | x :: l,y :: m,hl,hm,h=>by
  obtain ⟨l1,l2⟩:=List.pairwise_cons.mp hl
  obtain ⟨m1,m2⟩:=List.pairwise_cons.mp hm
  have exy:x=y:=by
   rcases List.mem_cons.mp ((h x).mp List.mem_cons_self) with e|e
   ·exact e
   ·rcases List.mem_cons.mp ((h y).mpr List.mem_cons_self) with e'|e'
    ·exact e'.symm
    ·exact absurd (List.lt_trans (m1 x e) (l1 y e')) (List.lt_irrefl _)
  subst exy
  rw [z6q l2 m2 fun z=>⟨fun hz=>by
    rcases List.mem_cons.mp ((h z).mp (List.mem_cons_of_mem _ hz)) with e|e
    ·subst e;exact absurd (l1 z hz) (List.lt_irrefl _)
    ·exact e,fun hz=>by
    rcases List.mem_cons.mp ((h z).mpr (List.mem_cons_of_mem _ hz)) with e|e
    ·subst e;exact absurd (m1 z hz) (List.lt_irrefl _)
    ·exact e⟩]
abbrev toS (cs:List Nat):Str:=⟨cs.toArray⟩
theorem z4G:∀ (p:Str) (l:List Str),risingS p l=true->(p :: l).Nodup->((p :: l).map (·.cps.toList)).Pairwise (· < ·)
 | p,[],_,_=>by simp
 | p,x :: r,h,nd=>by
  unfold risingS at h
  rw [Bool.and_eq_true,Bool.not_eq_true',ltCps_eq,decide_eq_false_iff_not] at h
  obtain ⟨n1,n2⟩:=List.nodup_cons.mp nd
  have ih:=z4G x r h.2 n2
  have hpx:p.cps.toList < x.cps.toList:=Classical.byContradiction fun q=>n1 (by
   have:=List.le_antisymm (List.not_lt.mp h.1) (List.not_lt.mp q)
   have e:p=x:=by
    obtain ⟨pc⟩:=p;obtain ⟨xc⟩:=x
    have this:pc.toList=xc.toList:=this
    rw [show pc=xc from Array.toList_inj.mp this]
   rw [e];exact List.mem_cons_self)
  rw [List.map_cons]
  refine List.pairwise_cons.mpr ⟨fun y hy=>?_,ih⟩
  rw [List.map_cons] at hy ih
  rcases List.mem_cons.mp hy with rfl|hy
  ·exact hpx
  ·exact List.lt_trans hpx ((List.pairwise_cons.mp ih).1 y hy)
theorem zhW {ss:List (List Nat)} {os:List Str} (hp:os.Perm (ded (ss.map toS))) (hn:(ded (ss.map toS)).Nodup) (hs:sortedS os=true):os=(z26 ss).map toS:=by
 have h1:(os.map (·.cps.toList)).Pairwise (· < ·):=by
  cases os with
  | nil=>exact List.Pairwise.nil
  | cons p l=>exact z4G p l hs (hp.nodup_iff.mpr hn)
 have h2:os.map (·.cps.toList)=z26 ss:=z6q h1 (z3F ss) fun x=>by
  rw [z1p,List.mem_map]
  constructor
  ·rintro ⟨o,ho,rfl⟩
   have:=(zc7 _).mp (hp.mem_iff.mp ho)
   obtain ⟨cs,hcs,rfl⟩:=List.mem_map.mp this
   exact hcs
  ·intro hx
   exact ⟨toS x,hp.mem_iff.mpr ((zc7 _).mpr (List.mem_map.mpr ⟨x,hx,rfl⟩)),rfl⟩
 rw [<- h2,List.map_map]
 refine (List.map_id os).symm.trans (List.map_congr_left fun o _=>?_)
 obtain ⟨c⟩:=o
 rfl
theorem SetX.nd {P:Program} {w:World} {a:Addr} {ks:List Str} {h:Heap} (x:SetX P w a ks h):ks.Nodup:=by
 obtain ⟨_,_,_,_,_,_,_,_,_,hn,_⟩:=x
 exact hn
section
variable {X:Cx} {t:DA}
theorem z4I:∀ {vs:List Value} {os:List Str},StrsAre vs os->Vals (os.map V.str) vs
 | _,_,.nil=>.nil
 | _,_,.cons y t h=>.cons ⟨t,rfl⟩ (z4I h)
theorem zaQ (hc:X.calm=true):CallR X (.builtin "sorted") (fun xs H Q=>∃ a ks,xs=[.ref a]/\H a=some (.ext (SetX X.prog X.w a ks))/\ks.length < 64/\∀ l os,os.Perm ks->ks.Nodup->sortedS os=true->H l=none->Q (.ref l) (upd H l (.lst (os.map V.str)))):=by
 intro pins s σ H xs us Q I r h
 obtain ⟨a,ks,rfl,hH,hn,q⟩:=h
 obtain ⟨u,rfl,ru⟩:=z2Z r
 cases ru
 have hS:SetX X.prog X.w a ks s.heap:=(I.hok a _ hH).1
 refine wT I (zfu (I.ok.hd hc) hS hn fun out os l s1 c hp hs hst hl gl kp gn oo htk=>?_)
 have fr:H l=none:=I.hok.fresh hl
 have hlen:os.length <= sizeLine:=Nat.le_trans (Nat.le_of_lt (by rw [hp.length_eq];exact hn)) (by decide)
 have new:ObjOk X.prog X.w (upd H l (.lst (os.map V.str))) s1.heap l (.lst (os.map V.str)):=⟨by rw [List.length_map];exact hlen,out.toList,c,z4I hst,by rw [gl]⟩
 have hok:=I.hok.laid kp hl new
 refine ⟨.ref l,_,?_,rfl,q l os hp hS.nd hs fr⟩
 exact I.call' oo (Un.laid kp hl fr) hok (by rw [gn];exact I.bare) (fun b (hb:b ∈ ([]:List Addr))=>absurd hb (List.not_mem_nil))
end
def emS (te:DE):Em:=fun σ O acc=>(te σ O).bnd fun v O1=>match v with
 | .str cs=>if acc.length < 1000 then .ok (acc ++ [.str cs]) O1 else .bad
 | _=>.bad
def zaS (elt:Expr):z8i where
 ex:=fun gens scope pos=>.SetComp elt gens scope pos
 emit:=fun acc env=>do let v <- eval elt env;standAt elt.pos;let _ <- call (.builtin "set.add") [acc,v]
 new:=newSet (.type "set")
 ho:=fun P w a=>.ext (SetX P w a [])
 G:=fun _ P w A _ H _ acc=>∃ ss:List (List Nat),acc=ss.map D.str/\H A=some (.ext (SetX P w A (ded (ss.map toS))))
theorem zkb {P:Program} {w:World} {H:Hp} {h:Heap} {a:Addr} {ks:List Str} (S:SetX P w a ks h):ObjOk P w H h a (.ext (SetX P w a ks)):=
 ⟨S,let ⟨o,_,_,_,ho,_⟩:=S;⟨o,ho⟩,fun h1 h2 x k=>x.keep k⟩
theorem zdj (elt:Expr):z47 (zaS elt) where
 cl:=fun _ _ _=>rfl
 turn:=fun gens scope pos k it acc env tg iter ifs hk hn=>by
  show compTurn (.SetComp elt gens scope pos) k it acc env=_
  unfold compTurn z6N
  rcases hn with hn|⟨tg',iter',ifs',hn⟩
  ·simp only [hk,hn]
   rfl
  ·simp only [hk,hn,bne_self_eq_false,Bool.false_eq_true,if_false,bind_assoc,pure_bind]
   first|rfl|congr 1
 keep:=fun ⟨ss,e,hA⟩ nA x=>⟨ss,e,x.keep _ _ hA nA⟩
 new:=fun {P w A E Q s} h=>by
  unfold zaS newSet setsByText
  refine wpAny_bind (wpAny_bind (wpAny_askSetting (wpAny_pure ?_)))
  dsimp only
  simp only [newObj]
  refine wpAny_bind (wpAny_alloc (wpAny_pure (h (zhz w) rfl fun H h a _ e=>zkb ?_)))
  exact ⟨_,#[],0,_,e,⟨rfl,rfl,rfl⟩,rfl,fun e he=>by simp at he,by simp,by simp,by decide,by rfl,fun e=>by show (!byT w)=true;rw [e];rfl,fun e=>absurd rfl e⟩
 g0:=⟨[],rfl,z0u⟩
 q1:=fun _ _ _ _ _ _ _=>rfl
 u1:=fun _ _ _ _ _ _ _ _=>rfl
 d1:=fun _ _ _ _ _ _ _ _ _=>rfl
 u2:=fun _ _ _ _ _ _ _ _=>rfl
 d2:=fun _ _ _ _ _ _ _ _ _=>rfl
theorem ziz {P:Program} {w:World} {H:Hp} {A:Addr} {ks:List Str} {h:Heap} {o:HO} (hA:H A=some (.ext (SetX P w A ks))) (S:SetX P w A ks h):∀ P2,Tidy H P2->Tidy (upd H A o) P2:=by
 rintro P2 ⟨ps,h1,h2,h3⟩
 have n1:P2 ≠ A:=by rintro rfl;rw [hA] at h1;cases h1
 refine ⟨ps,by rw [z0g n1];exact h1,h2,fun pos cv e=>?_⟩
 obtain ⟨c,φ,rfl,hc,hf⟩:=h3 pos cv e
 have n2:c ≠ A:=by
  rintro rfl
  rw [hA] at hc
  cases hc
  obtain ⟨q,c',o',vs,t,e1,e2,e3,_⟩:=hf h S
  cases e1
  obtain ⟨o2,es,ep,t',ho,_,hd,_⟩:=S
  rw [ho] at e2;cases e2
  rw [hd] at e3;cases e3
 exact ⟨c,φ,rfl,by rw [z0g n2];exact hc,hf⟩
section
variable {X:Cx} {A:Addr} {hid:List Addr} {elt:Expr} {gens:List Comprehension} {te:DE}
theorem zav {k:Nat} {e:Expr} (hx:X.xe=fun _ _=>False) (he:PD X Ex0 elt te) (hk:gens[k]?=none):z2Y X (zaS elt) A hid e gens (emS te) k []:=by
 intro pins s σv H μ σ O acc Q E B q
 unfold z6N
 rw [hk]
 show wpAny _ _ (do let v <- eval elt X.env;standAt elt.pos;let _ <- call (.builtin "set.add") [.ref A,v]) _ _ s
 obtain ⟨ss,rfl,hA⟩:=B.grown
 cases hte:te σ O with
 | ok d O1=>
  have q1:=q
  unfold z2a emS at q1
  rw [hte] at q1
  cases d with
  | str cs=>
   have q2:z2B X (zaS elt) A hid pins σv H μ (z0b []) (if (ss.map D.str).length < 1000 then .ok (ss.map D.str ++ [.str cs]) O1 else .bad) Q:=q1
   by_cases hl:(ss.map D.str).length < 1000
   ·rw [if_pos hl] at q2
    refine wpAny_bind (z11 hx (he.out pins s σv H (fun v H1=>∃ μ1,Ext H μ H1 μ1/\Cells X.K H1 (A :: hid) μ1 O1/\Dat X.K H1 (A :: hid) μ1 (.str cs) v) B.inv ⟨A :: hid,μ,σ,O,B.env,B.cells,by rw [hte];exact fun v H' μ' x c r=>⟨μ',x,c,r⟩⟩)
     fun u s1 ⟨v,H1,I1,ru,μ1,x,c,r⟩=>?_)
    have nA:A ∉ μ:=fun m=>B.cells.nh A m (by simp)
    have hA1:=x.keep A _ hA nA
    unfold Dat at r
    subst r
    obtain ⟨t,rfl⟩:=ru
    have S:SetX X.prog X.w A (ded (ss.map toS)) s1.heap:=(I1.hok A _ hA1).1
    have hr:(ded (ss.map toS)).length + 1 < scanBound:=by
     have h1:=zbm (ss.map toS)
     rw [List.length_map] at h1 hl
     unfold scanBound
     omega
    refine wpAny_bind (wpAny_standAt (wpAny_bind (zfo S hr fun h' sb S'=>wpAny_pure ?_)))
    rw [<- zdt] at S'
    have S':SetX X.prog X.w A (ded ((ss ++ [cs]).map toS)) h':=by rw [List.map_append];exact S'
    have heo:∃ u,h'.get? A=some u:=let ⟨o,_,_,_,ho,_⟩:=S';⟨o,ho⟩
    exact q2 _ σv _ μ1 (I1.write (x:=A) (e:=A) (by rw [hA1];exact trivial) (.inl rfl) (fun b u hb hu=>(sb.2 b hb).trans hu) heo (zkb S')) (x.ea.trans (.putX (ziz hA1 S))) (c.putX (ziz hA1 S)) ⟨ss ++ [cs],by simp,z0u⟩ rfl fun _ _=>rfl
   ·rw [if_neg hl] at q2;exact q2.elim
  | _=>exact False.elim q1
 | exc c O1=>
  unfold z2a emS at q;rw [hte] at q;exact q.elim
 | bad=>
  unfold z2a emS at q;rw [hte] at q;exact q.elim
end
section
variable {X:Cx} {Ex:Nat->Hp->Prop}
theorem zai {elt tg iter:Expr} {ifs:List Expr} {gs:List Comprehension} {scope:Scope} {pos:Pos} (ext:List Str) {it0:DI} {g:Tg} {ts:List DT} {cs:List Cl} {te:DE} (hcalm:X.calm=true) (hi:PDI X Ex tg iter it0) (hb:BOk X.env.scope scope (X.N ++ ext) (z0b (⟨it0,g,ts⟩ :: cs)))
  (blk:∀ cells C s H fp,PG (cxB X (X.N ++ ext) scope cells C s H fp) tg (g.rd X.K)/\PySem.Paired (fun e t=>PDT (cxB X (X.N ++ ext) scope cells C s H fp) Ex0 e t) ifs ts/\ClsOk (cxB X (X.N ++ ext) scope cells C s H fp) gs cs/\PD (cxB X (X.N ++ ext) scope cells C s H fp) Ex0 elt te)
  (hs:∀ x,foldedSetIterable iter X.env x=pure x:=by intro _;rfl):PE X (.SetComp elt (⟨tg,iter,ifs,0⟩ :: gs) scope pos) (fun σv H Q=>∃ hid μ σ O,EnvOk X.K H hid μ σ σv/\Cells X.K H hid μ O/\zcj (zaS elt) Ex X.K X.prog X.w H hid μ (z19 ext.length it0 g ts cs (emS te) σ O) fun L H'=>Q (.ref L) H'):=by
 rintro pins s σv H Q I ⟨hid,μ,σ,O,e1,c1,q⟩
 show wpAny _ _ (comprehension (.SetComp elt (⟨tg,iter,ifs,0⟩ :: gs) scope pos) scope X.env _ (newSet (.type "set")) false (eval iter X.env)) _ _ s
 refine z4t (zdj elt) (use:=none) hcalm hi hb (fun cells Cn s H fp=>let ⟨h1,h2,h3,h4⟩:=blk cells Cn s H fp;⟨h1,h2,h3,fun _ _ _ hk=>zav rfl h4 hk⟩) hs I e1 c1 ?_
 cases hr:z19 ext.length it0 g ts cs (emS te) σ O with
 | bad=>rw [hr] at q;exact q
 | exc c' O'=>rw [hr] at q;exact q
 | ok acc O'=>
  rw [hr] at q
  intro L H' μ' nL x c gv s' C I' ns nC l1 y1 ce pn
  obtain ⟨m,hn⟩:=ns
  exact ⟨m,hn,fun h' hs'=>⟨.ref L,H',Inv.bare I' hs' nC l1 y1 ce pn,rfl,q L H' μ' nL x c gv⟩⟩
theorem z3D {K:PySem.W.Frag} {H:Hp} {hid μ:List Addr}:∀ ss:List (List Nat),Dats K H hid μ (ss.map D.str) (ss.map fun cs=>V.str (toS cs))
 | []=>.nil
 | cs :: r=>.cons z8d (z3D r)
def zk5 (o:Bool) (r:R (List D)):R D:=r.bnd fun acc O1=>match z9y acc with
 | some ss=>if ss.length < 64 then (if o=true then .ok (.own O1.length) (O1 ++ [(z26 ss).map .str]) else .ok (.lst ((z26 ss).map .str)) O1) else .bad
 | none=>.bad
def z8H (o:Bool) (ext:Nat) (it0:DI) (g:Tg) (ts:List DT) (cs:List Cl) (te:DE):DE:=fun σ O=>zk5 o (z19 ext it0 g ts cs (emS te) σ O)
theorem strL_map:∀ ss:List (List Nat),z9y (ss.map D.str)=some ss
 | []=>rfl
 | cs :: r=>by show (z9y (r.map D.str)).map _=_;rw [strL_map r];rfl
theorem zgv {P:Program} {w:World} {H H':Hp} {hid μ μ':List Addr} {O':Ow} {L:Addr} {Q:VK} {o:Bool} {ss:List (List Nat)} {K:PySem.W.Frag} (x:Ext H μ H' μ') (c:Cells K H' hid μ' O') (hA:H' L=some (.ext (SetX P w L (ded (ss.map toS))))) (hl:ss.length < 64)
  (q:z1G Ex K H hid μ (if o=true then .ok (.own O'.length) (O' ++ [(z26 ss).map .str]) else .ok (.lst ((z26 ss).map .str)) O') Q):
  ∃ a ks,[V.ref L]=[V.ref a]/\H' a=some (.ext (SetX P w a ks))/\ks.length < 64/\∀ l os,os.Perm ks->ks.Nodup->sortedS os=true->H' l=none->Q (.ref l) (upd H' l (.lst (os.map V.str))):=by
 refine ⟨L,_,rfl,hA,Nat.lt_of_le_of_lt (zbm _) (by rw [List.length_map];exact hl),fun l os hp hn hs hf=>?_⟩
 have e:=zhW hp hn hs
 subst e
 rw [List.map_map]
 cases o with
 | true=>exact post.ok (show z1G Ex K H hid μ (.ok (.own O'.length) (O' ++ [(z26 ss).map .str])) Q from q) (x.trans (.cell hf)) (c.cell hf (z3D _)) (z22 c.len)
 | false=>exact post.ok (show z1G Ex K H hid μ (.ok (.lst ((z26 ss).map .str)) O') Q from q) (x.trans (.laid hf)) (c.laid hf) (Dat.newL c hf (z3D _))
theorem zg1 {elt tg iter:Expr} {ifs:List Expr} {gs:List Comprehension} {scope:Scope} {pos pos2 p:Pos} {x:Str} (o:Bool) (ext:List Str) {it0:DI} {g:Tg} {ts:List DT} {cs:List Cl} {te:DE} (hcalm:X.calm=true) (hg:Gl X x) (hm:X.mg x=none) (hv:bootBuiltins x=some (.builtin "sorted")) (hi:PDI X Ex tg iter it0) (hb:BOk X.env.scope scope (X.N ++ ext) (z0b (⟨it0,g,ts⟩ :: cs)))
  (blk:∀ cells C s H fp,PG (cxB X (X.N ++ ext) scope cells C s H fp) tg (g.rd X.K)/\PySem.Paired (fun e t=>PDT (cxB X (X.N ++ ext) scope cells C s H fp) Ex0 e t) ifs ts/\ClsOk (cxB X (X.N ++ ext) scope cells C s H fp) gs cs/\PD (cxB X (X.N ++ ext) scope cells C s H fp) Ex0 elt te)
  (hs:∀ x,foldedSetIterable iter X.env x=pure x:=by intro _;rfl) (hn:x ≠ "__name__":=by decide) (hdb:(x == ("__debug__":Str))=false:=by decide):
  PD X Ex (.Call (.Name x p) [.SetComp elt (⟨tg,iter,ifs,0⟩ :: gs) scope pos] [] pos2) (z8H o ext.length it0 g ts cs te):=
 z1m (z4r (zaQ hcalm) hg hm hv (z2z (zai ext hcalm hi hb blk hs) z78 (by rfl)) hn hdb (by rfl) (by rfl)) fun hid μ σ O σv H Q e1 c1 q=>by
  refine ⟨hid,μ,σ,O,e1,c1,?_⟩
  unfold z8H at q
  cases hr:z19 ext.length it0 g ts cs (emS te) σ O with
  | bad=>rw [hr] at q;exact q
  | exc c' O'=>rw [hr] at q;exact q
  | ok acc O'=>
   rw [hr] at q
   rintro L H' μ' nL x c ⟨ss,rfl,hA⟩
   have q:z1G Ex X.K H hid μ (match z9y (ss.map D.str) with|some ss=>if ss.length < 64 then (if o=true then .ok (.own O'.length) (O' ++ [(z26 ss).map .str]) else .ok (.lst ((z26 ss).map .str)) O') else .bad|none=>.bad) Q:=q
   rw [strL_map] at q
   obtain ⟨hl,q⟩:=post.ite q
   exact zgv x c.unhide hA hl q
end
section
end
end DL
namespace DL
open PySem L2
structure Nx (l:List Str):Prop
section
variable {X:Cx} {Ex:Nat->Hp->Prop} {elt tg iter:Expr} {ifs:List Expr} {gs:List Comprehension} {scope:Scope} {pos spos py pos2 p:Pos} {x y:Str} {i k:Nat} {ext:List Str} {it0:DI} {g:Tg} {ts:List DT} {cs:List Cl} {te:DE}
abbrev zfP (X:Cx) (ext:List Str) (scope:Scope) (tg:Expr) (g:Tg) (ifs:List Expr) (ts:List DT) (gs:List Comprehension) (cs:List Cl) (elt:Expr) (te:DE):Prop:=∀ cells C s H fp,PG (cxB X (X.N ++ ext) scope cells C s H fp) tg (g.rd X.K)/\PySem.Paired (fun e t=>PDT (cxB X (X.N ++ ext) scope cells C s H fp) Ex0 e t) ifs ts/\ClsOk (cxB X (X.N ++ ext) scope cells C s H fp) gs cs/\PD (cxB X (X.N ++ ext) scope cells C s H fp) Ex0 elt te
theorem z6u (_:Nx ext) (o:Bool) (hc:X.calm=true) (hb:BOk X.env.scope scope (X.N ++ ext) (z0b (⟨it0,g,ts⟩ :: cs))) (hi:PDI X Ex tg iter it0) (blk:zfP X ext scope tg g ifs ts gs cs elt te) (hk:ext.length=k:=by rfl) (hs:∀ x,foldedSetIterable iter X.env x=pure x:=by intro _;rfl):
  PD X Ex (.ListComp elt (⟨tg,iter,ifs,0⟩ :: gs) scope pos) (z0i o k it0 g ts cs te):=hk ▸ zfz o ext hc hi hb blk hs
theorem z2y (_:Nx ext) (o:Bool) (hc:X.calm=true) (hN:X.N.Nodup) (hiy:X.N[i]?=some y) (hy:X.env.scope.names.lookup y=some .local) (hb:BOk X.env.scope scope (X.N ++ ext) (z0b (⟨it0,g,ts⟩ :: cs))) (hi:PDI X Ex tg iter it0) (blk:zfP X ext scope tg g ifs ts gs cs elt te)
  (hsw:swapsWith (.ListComp elt (⟨tg,iter,ifs,0⟩ :: gs) scope pos) (some (.Name y py)) spos.line X.env=pure true) (hk:ext.length=k:=by rfl) (hs:∀ x,foldedSetIterable iter X.env x=pure x:=by intro _;rfl):
  PDS X Ex (.Assign [.Name y py] (.ListComp elt (⟨tg,iter,ifs,0⟩ :: gs) scope pos) spos) (z0A i (z0i o k it0 g ts cs te)):=hk ▸ z8q o ext hc hN hiy hy hi hb blk hsw hs
theorem z6s (_:Nx ext) (o:Bool) (hc:X.calm=true) (hg:Gl X x) (hm:X.mg x=none) (hv:bootBuiltins x=some (.builtin "sorted")) (hb:BOk X.env.scope scope (X.N ++ ext) (z0b (⟨it0,g,ts⟩ :: cs))) (hi:PDI X Ex tg iter it0) (blk:zfP X ext scope tg g ifs ts gs cs elt te) (hk:ext.length=k:=by rfl) (hs:∀ x,foldedSetIterable iter X.env x=pure x:=by intro _;rfl)
  (hn:x ≠ "__name__":=by decide) (hdb:(x == ("__debug__":Str))=false:=by decide):PD X Ex (.Call (.Name x p) [.SetComp elt (⟨tg,iter,ifs,0⟩ :: gs) scope pos] [] pos2) (z8H o k it0 g ts cs te):=hk ▸ zg1 o ext hc hg hm hv hi hb blk hs hn hdb
end
def z1L (c:DT) (b:DS):Nat->Sg->Ow->RS
 | 0,_,_=>.bad
 | f + 1,σ,O=>(c σ O).bnS fun k O1=>if k=true then (match b σ O1 with
   | .nx σ' O'=>z1L c b f σ' O'
   | .ct σ' O'=>z1L c b f σ' O'
   | .bk σ' O'=>.nx σ' O'
   | r=>r) else .nx σ O1
def z5T (f:Nat) (c:DT) (b:DS):DS:=z1L c b f
section
variable {X:Cx} {Ex:Nat->Hp->Prop} {pos:Pos}
theorem zc3 {c:Expr} {body:List Stmt} {tc:DT} {tb:DS} (f:Nat) (hp:PassesOwn (model X.prog X.w) X.A X.env X.xe) (hc:PDT X Ex c tc) (hb:z89 X Ex body tb):PDS X Ex (.While c body [] pos) (z5T f tc tb):=
 z2W (zdk hp hc.out hb.out) fun hid μ σ O E σv H e1 c1 q=>by
  refine ⟨fun m σv H=>∃ hid μ σ O,EnvOk X.K H hid μ σ σv/\Cells X.K H hid μ O/\postS Ex X.K H hid μ (z1L tc tb m σ O) E,⟨f,hid,μ,σ,O,e1,c1,q⟩,?_⟩
  rintro m σv H ⟨hid,μ,σ,O,e1,c1,q⟩
  cases m with
  | zero=>exact False.elim q
  | succ f=>
   refine rdT.goS e1 c1 q fun k O1 H1 μ1 e2 x2 c2 p=>?_
   cases k with
   | false=>exact p σv H1 μ1 .refl e2 c2
   | true=>
    rw [if_pos rfl]
    refine ⟨fun σv H=>∃ hid μ σ O,EnvOk X.K H hid μ σ σv/\Cells X.K H hid μ O/\postS Ex X.K H hid μ (z1L tc tb f σ O) E,fun _ _ z=>⟨f,Nat.lt_succ_self _,z⟩,hid,μ1,σ,O1,e2,c2,?_⟩
    have p:postS Ex X.K H1 hid μ1 (match tb σ O1 with|.nx σ' O'=>z1L tc tb f σ' O'|.ct σ' O'=>z1L tc tb f σ' O'|.bk σ' O'=>.nx σ' O'|r=>r) E:=p
    cases hr:tb σ O1 with
    | nx σ' O'=>rw [hr] at p;exact fun σw H' μ' x e c=>⟨hid,μ',σ',O',e,c,postS.ext p x⟩
    | ct σ' O'=>rw [hr] at p;exact fun σw H' μ' x e c=>⟨hid,μ',σ',O',e,c,postS.ext p x⟩
    | bk σ' O'=>rw [hr] at p;exact p
    | rt d O'=>rw [hr] at p;exact p
    | exc c' O'=>rw [hr] at p;exact p
    | bad=>rw [hr] at p;exact p
end
end DL
namespace DL
open PySem L2 PyProof.Rows
abbrev DK:=Sum Int (List Nat)
def zcB:D->Option DK
 | .int i=>some (.inl i)
 | .str cs=>some (.inr cs)
 | _=>none
def zgO (k:DK):D->Bool
 | .map [j] _=>decide (j=k)
 | _=>false
def mKs:List D->List DK
 | .map [k] _ :: r=>k :: mKs r
 | _=>[]
def mDs:List D->List D
 | .map _ [d] :: r=>d :: mDs r
 | _=>[]
def z1I (p:DK × D):D:=.map [p.1] [p.2]
theorem z8G:∀ ps:List (DK × D),mKs (ps.map z1I)=ps.map (·.1)
 | []=>rfl
 | p :: r=>by show p.1 :: mKs (r.map z1I)=_;rw [z8G r];rfl
theorem z8S:∀ ps:List (DK × D),mDs (ps.map z1I)=ps.map (·.2)
 | []=>rfl
 | p :: r=>by show p.2 :: mDs (r.map z1I)=_;rw [z8S r];rfl
theorem zeR:∀ {a b:DK},kD a=kD b->a=b
 | .inl i,.inl j,h=>by cases h;rfl
 | .inr x,.inr y,h=>by
  have h:(⟨x.toArray⟩:Str)=⟨y.toArray⟩:=Sum.inr.inj h
  have h:x.toArray=y.toArray:=congrArg Str.cps h
  have:x=y:=by simpa using h
  rw [this]
 | .inl _,.inr _,h=>by cases h
 | .inr _,.inl _,h=>by cases h
def emD (tk tv:DE):Em:=fun σ O acc=>(tk σ O).bnd fun x O1=>match zcB x with
 | some k=>(tv σ O1).bnd fun d O2=>if acc.length < 1000/\acc.any (zgO k)=false then .ok (acc ++ [.map [k] [d]]) O2 else .bad
 | none=>.bad
def zaa (ke ve:Expr):z8i where
 ex:=fun gens scope pos=>.DictComp ke ve gens scope pos
 emit:=fun acc env=>do
  let kv <- eval ke env
  let vv <- holding [kv] (eval ve env)
  match acc with
  | .ref d=>do
   standAt { ke.pos with endLine:=ve.pos.endLine,endCol:=ve.pos.endCol }
   holding [kv,vv] (dictSet d kv vv)
  | _=>unsupported "internal:dictcomp"
 new:=newDict
 ho:=fun _ _ _=>.dK []
 G:=fun K _ _ A hid H μ acc=>∃ (ps:List (DK × D)) (vs:List V),acc=ps.map z1I/\H A=some (.dK ((ps.map fun p=>kD p.1).zip vs))/\ps.length=vs.length/\Dats K H (A :: hid) μ (ps.map (·.2)) vs
theorem zcD (ke ve:Expr):z47 (zaa ke ve) where
 cl:=fun _ _ _=>rfl
 turn:=fun gens scope pos k it acc env tg iter ifs hk hn=>by
  show compTurn (.DictComp ke ve gens scope pos) k it acc env=_
  unfold compTurn z6N
  rcases hn with hn|⟨tg',iter',ifs',hn⟩
  ·simp only [hk,hn]
   rfl
  ·simp only [hk,hn,bne_self_eq_false,Bool.false_eq_true,if_false,bind_assoc,pure_bind]
   first|rfl|congr 1
 keep:=fun ⟨ps,vs,e,hA,hl,dA⟩ nA x=>⟨ps,vs,e,x.keep _ _ hA nA,hl,dA.ext x⟩
 new:=fun h=>wpAny_newObj_type (h _ rfl fun H h a hb e=>by
  refine ⟨Nat.zero_le _,beq_eq_false_iff_ne.mpr (Ne.symm (Nat.ne_of_lt hb)),[],.nil,?_⟩
  exact ⟨_,#[],0,e,⟨rfl,rfl,rfl⟩,rfl,fun _ he=>by simp at he,Pairs.nil,List.nodup_nil⟩)
 g0:=⟨[],[],rfl,z0u,rfl,.nil⟩
 q1:=fun _ _ _ _ _ _ _=>rfl
 u1:=fun _ _ _ _ _ _ _ _=>rfl
 d1:=fun _ _ _ _ _ _ _ _ _=>rfl
 u2:=fun _ _ _ _ _ _ _ _=>rfl
 d2:=fun _ _ _ _ _ _ _ _ _=>rfl
theorem zf4 {H:Hp} {A:Addr} {kvs:List (Key × V)} {o:HO} (hA:H A=some (.dK kvs)):∀ P2,Tidy H P2->Tidy (upd H A o) P2:=by
 rintro P2 ⟨ps,h1,h2,h3⟩
 have n1:P2 ≠ A:=by rintro rfl;rw [hA] at h1;cases h1
 refine ⟨ps,by rw [z0g n1];exact h1,h2,fun pos cv e=>?_⟩
 obtain ⟨c,φ,rfl,hc,hf⟩:=h3 pos cv e
 have n2:c ≠ A:=by rintro rfl;rw [hA] at hc;cases hc
 exact ⟨c,φ,rfl,by rw [z0g n2];exact hc,hf⟩
theorem z9w {k:DK}:∀ (ps:List (DK × D)) (vs:List V),(ps.map z1I).any (zgO k)=false->z6Y ((ps.map fun p=>kD p.1).zip vs) (kD k)=none
 | [],_,_=>rfl
 | _ :: _,[],_=>rfl
 | p :: r,v :: vs,h=>by
  rw [List.map_cons,List.any_cons,Bool.or_eq_false_iff] at h
  obtain ⟨h1,h2⟩:=h
  have n:¬ p.1=k:=fun e=>by
   have:decide (p.1=k)=false:=h1
   rw [decide_eq_true e] at this;cases this
  show z6Y ((kD p.1,v) :: (r.map fun p=>kD p.1).zip vs) (kD k)=none
  rw [z3y (p:=(kD p.1,v)) (fun e=>n (zeR e))]
  exact z9w r vs h2
theorem zhM {K:PySem.W.Frag} {H:Hp} {hid μ:List Addr} {x:D} {k:DK} {v:V} (e:zcB x=some k) (h:Dat K H hid μ x v):v=kV (kD k):=by
 cases x with
 | int i=>cases e;unfold Dat at h;exact h
 | str cs=>cases e;unfold Dat at h;exact h
 | _=>cases e
section
variable {X:Cx} {A:Addr} {hid:List Addr} {ke ve:Expr} {gens:List Comprehension} {tk tv:DE}
theorem zaT {k:Nat} {e:Expr} (hx:X.xe=fun _ _=>False) (hek:PD X Ex0 ke tk) (hev:PD X Ex0 ve tv) (hk:gens[k]?=none):z2Y X (zaa ke ve) A hid e gens (emD tk tv) k []:=by
 intro pins s σv H μ σ O acc Q E B q
 unfold z6N
 rw [hk]
 show wpAny _ _ (do
  let kv <- eval ke X.env
  let vv <- holding [kv] (eval ve X.env)
  (do
   standAt { ke.pos with endLine:=ve.pos.endLine,endCol:=ve.pos.endCol }
   holding [kv,vv] (dictSet A kv vv))) _ _ s
 obtain ⟨ps,vs,rfl,hA,hl,dA⟩:=B.grown
 unfold z2a emD at q
 cases htk:tk σ O with
 | exc c O1=>rw [htk] at q;exact q.elim
 | bad=>rw [htk] at q;exact q.elim
 | ok x O1=>
  rw [htk] at q
  have q1:z2B X (zaa ke ve) A hid pins σv H μ (z0b []) (match zcB x with
   | some k=>(tv σ O1).bnd fun d O2=>if (ps.map z1I).length < 1000/\(ps.map z1I).any (zgO k)=false then .ok (ps.map z1I ++ [.map [k] [d]]) O2 else .bad
   | none=>.bad) Q:=q
  cases hko:zcB x with
  | none=>rw [hko] at q1;exact q1.elim
  | some kk=>
   rw [hko] at q1
   dsimp only at q1
   refine wpAny_bind (z11 hx (hek.out pins s σv H (fun v H1=>∃ μ1,Ext H μ H1 μ1/\Cells X.K H1 (A :: hid) μ1 O1/\Dat X.K H1 (A :: hid) μ1 x v) B.inv ⟨A :: hid,μ,σ,O,B.env,B.cells,by rw [htk];exact fun v H' μ' x c r=>⟨μ',x,c,r⟩⟩)
    fun u s1 ⟨v,H1,I1,ru,μ1,x1,c1,r1⟩=>?_)
   cases htv:tv σ O1 with
   | exc c O2=>rw [htv] at q1;exact q1.elim
   | bad=>rw [htv] at q1;exact q1.elim
   | ok d O2=>
    rw [htv] at q1
    have q2:z2B X (zaa ke ve) A hid pins σv H μ (z0b []) (if (ps.map z1I).length < 1000/\(ps.map z1I).any (zgO kk)=false then .ok (ps.map z1I ++ [.map [kk] [d]]) O2 else .bad) Q:=q1
    by_cases hc:(ps.map z1I).length < 1000/\(ps.map z1I).any (zgO kk)=false
    ·rw [if_pos hc] at q2
     refine wpAny_bind (wpAny_holding (z11 hx (hev.out pins s1 σv H1 (fun v H2=>∃ μ2,Ext H1 μ1 H2 μ2/\Cells X.K H2 (A :: hid) μ2 O2/\Dat X.K H2 (A :: hid) μ2 d v) I1 ⟨A :: hid,μ1,σ,O1,B.env.ext x1,c1,by rw [htv];exact fun v H' μ' x c r=>⟨μ',x,c,r⟩⟩)
      fun u2 s2 ⟨v2,H2,I2,ru2,μ2,x2,c2,r2⟩=>?_))
     refine wpAny_bind (wpAny_standAt (wpAny_holding ?_))
     have nA:A ∉ μ:=fun m=>B.cells.nh A m (by simp)
     have x12:=x1.trans x2
     have hA2:=x12.keep A _ hA nA
     have dA2:=dA.ext x12
     have ek:=zhM hko r1
     subst ek
     obtain ⟨z,hd,ws,rel,dd⟩:=zhc I2.hok hA2
     have hlen:((ps.map fun p=>kD p.1).zip vs).length=ps.length:=by rw [List.length_zip,List.length_map,<- hl,Nat.min_self]
     have hlp:ps.length < 1000:=by have:=hc.1;rwa [List.length_map] at this
     have hz:ws.length <= sizeLine:=by rw [<- rel.length];exact z
     refine wpAny_dictSet_pairs (hsz:=hz) (zaY ru) dd fun h' dd' sb=>?_
     have he:∃ q,h'.get? A=some q:=let ⟨q,_,_,hq,_⟩:=dd';⟨q,hq⟩
     have hl':(zar ((ps.map fun p=>kD p.1).zip vs) (kD kk) v2).length <= sizeLine:=Nat.le_trans (z4H _ _ _) (by rw [hlen];exact Nat.le_trans hlp (by decide))
     have I3:=zbY (t':=s2.toks + 1) (ob:=.dK (zar ((ps.map fun p=>kD p.1).zip vs) (kD kk) v2)) I2 (by rw [hA2];exact True.intro) sb he (zem hl' hd (rel.put _ ru2) dd')
     rw [zcR _ (z9w ps vs hc.2)] at I3
     refine q2 _ σv _ μ2 I3 (x12.ea.trans (.putX (zf4 hA2))) (c2.putX (zf4 hA2)) ⟨ps ++ [(kk,d)],vs ++ [v2],by rw [List.map_append];rfl,?_,by simp [hl],?_⟩ rfl fun _ _=>rfl
     ·rw [z0u,List.map_append,List.zip_append (by rw [List.length_map];exact hl)];rfl
     ·rw [List.map_append]
      exact (dA2.append (.cons r2 .nil)).mv (Ea.putX (A:=A) (zf4 hA2)).mv
    ·rw [if_neg hc] at q2;exact q2.elim
end
theorem z8n {K:PySem.W.Frag} {H:Hp} {hid μ:List Addr} {O:Ow} {L:Addr} {ps:List (DK × D)} {vs:List V} (c:Cells K H (L :: hid) μ O) (n1:L ∉ hid) (h:H L=some (.dK ((ps.map fun p=>kD p.1).zip vs))) (hl:ps.length=vs.length) (q:Dats K H (L :: hid) μ (ps.map (·.2)) vs):
  Dat K H hid μ (.map (mKs (ps.map z1I)) (mDs (ps.map z1I))) (.ref L):=by
 rw [z8G,z8S]
 unfold Dat
 exact ⟨L,vs,rfl,.inl (by rw [List.map_map];exact h),n1,fun m=>c.nh L m (by simp),by rw [List.length_map];exact hl,q.mv .unhide⟩
def z46 (ext:Nat) (it0:DI) (g:Tg) (ts:List DT) (cs:List Cl) (tk tv:DE):DE:=fun σ O=>(z19 ext it0 g ts cs (emD tk tv) σ O).bnd fun acc O1=>.ok (.map (mKs acc) (mDs acc)) O1
section
variable {X:Cx} {Ex:Nat->Hp->Prop}
theorem zkK {ke ve tg iter:Expr} {ifs:List Expr} {gs:List Comprehension} {scope:Scope} {pos:Pos} {ext:List Str} {g:Tg} {ts:List DT} {cs:List Cl} {tk tv:DE}
  (blk:∀ cells C s H fp,PG (cxB X (X.N ++ ext) scope cells C s H fp) tg (g.rd X.K)/\PySem.Paired (fun e t=>PDT (cxB X (X.N ++ ext) scope cells C s H fp) Ex0 e t) ifs ts/\ClsOk (cxB X (X.N ++ ext) scope cells C s H fp) gs cs/\PD (cxB X (X.N ++ ext) scope cells C s H fp) Ex0 ke tk/\PD (cxB X (X.N ++ ext) scope cells C s H fp) Ex0 ve tv) (cells Cn s H fp):
  PG (cxB X (X.N ++ ext) scope cells Cn s H fp) tg (g.rd X.K)/\PySem.Paired (fun e t=>PDT (cxB X (X.N ++ ext) scope cells Cn s H fp) Ex0 e t) ifs ts/\ClsOk (cxB X (X.N ++ ext) scope cells Cn s H fp) gs cs/\∀ A hid k,(⟨tg,iter,ifs,0⟩ :: gs:List Comprehension)[k]?=none->z2Y (cxB X (X.N ++ ext) scope cells Cn s H fp) (zaa ke ve) A hid ((zaa ke ve).ex (⟨tg,iter,ifs,0⟩ :: gs) scope pos) (⟨tg,iter,ifs,0⟩ :: gs) (emD tk tv) k []:=
 let ⟨h1,h2,h3,h4,h5⟩:=blk cells Cn s H fp
 ⟨h1,h2,h3,fun _ _ _ hk=>zaT rfl h4 h5 hk⟩
theorem zds {ke ve tg iter:Expr} {ifs:List Expr} {gs:List Comprehension} {scope:Scope} {pos:Pos} (ext:List Str) {it0:DI} {g:Tg} {ts:List DT} {cs:List Cl} {tk tv:DE} (hcalm:X.calm=true) (hi:PDI X Ex tg iter it0) (hb:BOk X.env.scope scope (X.N ++ ext) (z0b (⟨it0,g,ts⟩ :: cs)))
  (blk:∀ cells C s H fp,PG (cxB X (X.N ++ ext) scope cells C s H fp) tg (g.rd X.K)/\PySem.Paired (fun e t=>PDT (cxB X (X.N ++ ext) scope cells C s H fp) Ex0 e t) ifs ts/\ClsOk (cxB X (X.N ++ ext) scope cells C s H fp) gs cs/\PD (cxB X (X.N ++ ext) scope cells C s H fp) Ex0 ke tk/\PD (cxB X (X.N ++ ext) scope cells C s H fp) Ex0 ve tv)
  (hs:∀ x,foldedSetIterable iter X.env x=pure x:=by intro _;rfl):PD X Ex (.DictComp ke ve (⟨tg,iter,ifs,0⟩ :: gs) scope pos) (z46 ext.length it0 g ts cs tk tv):=by
 refine ⟨?_⟩
 rintro pins s σv H Q I ⟨hid,μ,σ,O,e1,c1,q⟩
 show wpAny _ _ (comprehension (.DictComp ke ve (⟨tg,iter,ifs,0⟩ :: gs) scope pos) scope X.env _ newDict false (eval iter X.env)) _ _ s
 unfold z46 at q
 refine z4t (zcD ke ve) (use:=none) hcalm hi hb (zkK blk) hs I e1 c1 ?_
 cases hr:z19 ext.length it0 g ts cs (emD tk tv) σ O with
 | bad=>rw [hr] at q;exact q
 | exc c' O'=>rw [hr] at q;exact q
 | ok acc O'=>
  rw [hr] at q
  rintro L H' μ' nL x c ⟨ps,vs,rfl,hA,hl,dA⟩ s' C I' ns nC l1 y1 ce pn
  obtain ⟨m,hn⟩:=ns
  have n1:L ∉ hid:=fun m=>c1.ht L m nL
  exact ⟨m,hn,fun h' hs'=>⟨.ref L,H',Inv.bare I' hs' nC l1 y1 ce pn,rfl,post.ok q x c.unhide (z8n c n1 hA hl dA)⟩⟩
end
def z5t:Ow->List D->R D:=fun O xs=>match xs with
 | [x]=>match lsV O x with
  | some ds=>match z9y ds with
   | some ss=>if ss.Nodup/\ss.length < 64 then .ok (.lst ((z26 ss).map .str)) O else .bad
   | none=>.bad
  | none=>.bad
 | _=>.bad
theorem zfY {ss:List (List Nat)} {os:List Str} (hp:os.Perm (ss.map toS)) (hn:ss.Nodup) (hs:sortedS os=true):os=(z26 ss).map toS:=by
 have hn':(ss.map toS).Nodup:=by
  rw [List.nodup_iff_pairwise_ne] at hn ⊢
  rw [List.pairwise_map]
  refine hn.imp fun h e=>h ?_
  have e:(toS _).cps=(toS _).cps:=congrArg Str.cps e
  simpa using e
 have h1:(os.map (·.cps.toList)).Pairwise (· < ·):=by
  cases os with
  | nil=>exact List.Pairwise.nil
  | cons p l=>exact z4G p l hs (hp.nodup_iff.mpr hn')
 have h2:os.map (·.cps.toList)=z26 ss:=z6q h1 (z3F ss) fun x=>by
  rw [z1p,List.mem_map]
  constructor
  ·rintro ⟨o,ho,rfl⟩
   obtain ⟨cs,hcs,rfl⟩:=List.mem_map.mp (hp.mem_iff.mp ho)
   exact hcs
  ·intro hx
   exact ⟨toS x,hp.mem_iff.mpr (List.mem_map.mpr ⟨x,hx,rfl⟩),rfl⟩
 rw [<- h2,List.map_map]
 refine (List.map_id os).symm.trans (List.map_congr_left fun o _=>?_)
 obtain ⟨c⟩:=o
 rfl
section
variable {X:Cx} {Ex:Nat->Hp->Prop} {H:Hp} {hid μ:List Addr}
def zhm (K:PySem.W.Frag):List V->Hp->VK->Prop:=fun xs H Q=>∃ p ss,xs=[.ref p]/\SqL K H p (ss.map fun cs=>V.str ⟨cs.toArray⟩)/\ss.Nodup/\ss.length < 64/\∀ l,H l=none->Q (.ref l) (upd H l (.lst ((z26 ss).map fun cs=>V.str ⟨cs.toArray⟩)))
theorem zbg:CallR X (.builtin "sorted") (zhm X.K):=by
 intro pins s σ H xs us Q I r h
 obtain ⟨p,ss,rfl,sq,ho,hl,q⟩:=h
 obtain ⟨u,rfl,ru⟩:=z2Z r
 cases ru
 obtain ⟨its,rv,pl,hz⟩:=I.list sq
 have hm:(ss.map fun cs=>V.str ⟨cs.toArray⟩)=(ss.map toS).map V.str:=by rw [List.map_map];rfl
 have hS:StrsAre its (ss.map toS):=z2O (by rw [<- hm];exact rv)
 have hlen:its.length=ss.length:=by have:=rv.length;simpa using this.symm
 refine sorted_strs pl.isList hS (by rw [hlen];exact hl) fun out os a1 a2 a3=>?_
 have e:=zfY a2 ho a3
 subst e
 obtain ⟨e,he⟩:=sortedAll_at s.heap its out
 have hn:H (s.heap.objs.size + 1)=none:=I.hok.fresh (Nat.le_succ _)
 refine ⟨.ref _,_,I.laid (t':=s.toks) (o:=.lst ((z26 ss).map fun cs=>V.str ⟨cs.toArray⟩)) (fun _ _ z=>sortedAll_old z) (Nat.le_succ _) ?_,rfl,q _ hn⟩
 have hv:=z4I a1
 rw [List.map_map] at hv
 refine ⟨?_,out.toList,e,hv,by rw [he]⟩
 have h1:(z26 ss).length=ss.length:=by have:=a2.length_eq;simpa using this
 rw [List.length_map,h1]
 exact Nat.le_trans (Nat.le_of_lt hl) (by decide)
theorem zfr:z35 X Ex (zhm X.K) z5t:=by
 intro H hid μ O xs vs Q c d q
 unfold z5t at q
 split at q
 ·rename_i x
  obtain ⟨v,rfl,dx⟩:=z2D d
  split at q
  ·rename_i ds e
   obtain ⟨p,ws,rfl,sq,dd⟩:=z2d c dx e
   split at q
   ·rename_i ss es
    obtain ⟨⟨h1,h2⟩,q⟩:=post.ite q
    have ev:=z8B dd es
    subst ev
    exact ⟨p,ss,rfl,sq,h1,h2,fun l hl=>post.ok q (.laid hl) (c.laid hl) (Dat.newL c hl (z3D _))⟩
   ·exact False.elim q
  ·exact False.elim q
 ·exact False.elim q
end
def z4Q (k:DK):List DK->List D->Option D
 | j :: ks,d :: ds=>if j=k then some d else z4Q k ks ds
 | _,_=>none
theorem z9p {K:PySem.W.Frag} {H:Hp} {hid μ:List Addr} {k:DK} {d:D}:∀ {ks:List DK} {ds:List D} {vs:List V},ks.length=vs.length->Dats K H hid μ ds vs->z4Q k ks ds=some d->∃ v,z6Y ((ks.map kD).zip vs) (kD k)=some v/\Dat K H hid μ d v
 | [],_,_,_,_,h=>by unfold z4Q at h;cases h
 | _ :: _,[],_,_,_,h=>by unfold z4Q at h;cases h
 | j :: ks,d' :: ds,[],hl,_,_=>by cases hl
 | j :: ks,d' :: ds,v :: vs,hl,dd,h=>by
  obtain ⟨w0,r0,e0,d1,d2⟩:=(show ∃ w r,v :: vs=w :: r/\Dat K H hid μ d' w/\Dats K H hid μ ds r from dd)
  cases e0
  unfold z4Q at h
  show ∃ w,z6Y ((kD j,v) :: (ks.map kD).zip vs) (kD k)=some w/\_
  by_cases e:j=k
  ·rw [if_pos e] at h;cases h
   exact ⟨v,z4o (p:=(kD j,v)) (congrArg kD e),d1⟩
  ·rw [if_neg e] at h
   rw [z3y (p:=(kD j,v)) (fun z=>e (zeR z))]
   exact z9p (Nat.succ.inj hl) d2 h
def z21 (td ty:DE):DE:=fun σ O=>(td σ O).bnd fun x O1=>match x with
 | .map ks ds=>(ty σ O1).bnd fun y O2=>match zcB y with
  | some k=>match z4Q k ks ds with
   | some d=>.ok d O2
   | none=>.bad
  | none=>.bad
 | _=>.bad
section
variable {X:Cx} {Ex:Nat->Hp->Prop} {o i:Expr} {pos:Pos} {td ty:DE}
theorem zcO {o i:Expr} {pos:Pos} {td ty:TE} (ho:PE X o td) (hi:PE X i ty) (hs:zgJ i):PE X (.Subscript o i pos) (fun σ H Q=>td σ H fun x H1=>ty σ H1 fun y H2=>∃ a kvs k v,x=.ref a/\Rd H2 a (.dK kvs)/\y=kV k/\z6Y kvs k=some v/\Q v H2):=by
 intro pins s σ H Q I h
 refine z8v (T := "dict") PySem.F.slot_dict_getitem.lookup hs (thn (ho pins s σ H _ I h) fun u s1 ⟨x,H1,I1,rx,q1⟩=>thn (hi pins s1 σ H1 _ I1 q1) fun iv s2 ⟨y,H2,I2,ry,a,kvs,k,v,ex,e,ey,l,q2⟩=>?_)
 subst ex ey
 obtain rfl:u=Value.ref a:=rx
 obtain ⟨z,hd,vs,rel,dd⟩:=zdq I2.hok e
 obtain ⟨w',hw,rw'⟩:=RelO.some_of (v:=v) (o:=valueAt vs k) (by rw [<- l];exact rel.val k)
 exact ⟨dd.mapOf.typeIs,wpAny_getItem_of (zaY ry) dd.mapOf hw ⟨v,H2,I2.tok _,rw',q2⟩⟩
theorem zgy (ho:PD X Ex o td) (hi:PD X Ex i ty) (hs:zgJ i):PD X Ex (.Subscript o i pos) (z21 td ty):=
 z1m (zcO ho.out hi.out hs) fun hid μ σ O σv H Q e1 c1 q=>rd.go e1 c1 q fun d O1 v H1 μ1 e2 x cl r p=>by
  cases d with
  | map ks ds=>
   refine rd.go e2 cl p fun y O2 w H2 μ2 e3 x3 c3 r3 p3=>?_
   have r':=Dat.ext x3 r
   unfold Dat at r'
   obtain ⟨a,vs,rfl,hr,n1,n2,hl,dd⟩:=r'
   cases hk:zcB y with
   | none=>rw [hk] at p3;exact p3.elim
   | some k=>
    rw [hk] at p3
    dsimp only at p3
    cases hf:z4Q k ks ds with
    | none=>rw [hf] at p3;exact p3.elim
    | some d=>
     rw [hf] at p3
     obtain ⟨v,h1,h2⟩:=z9p hl dd hf
     exact ⟨a,_,kD k,v,rfl,hr,zhM hk r3,h1,post.here p3 c3 h2⟩
  | _=>exact False.elim p
end
def zfs (y z:List Nat) (to:DE):DE:=fun σ O=>(to σ O).bnd fun x O1=>match x with
 | .str i=>if i.length <= 1000 then .ok (.str (Txt.replace ⟨i.toArray⟩ ⟨y.toArray⟩ ⟨z.toArray⟩).cps.toList) O1 else .bad
 | _=>.bad
section
variable {X:Cx} {Ex:Nat->Hp->Prop} {o:Expr} {to:DE} {apos cpos p1 p2:Pos}
theorem zfS {ys zs:Str} {j1 j2:Nat} (y z:List Nat) (hy:ys=⟨y.toArray⟩) (hz:zs=⟨z.toArray⟩) (hyz:(ys == zs)=false) (hzl:z.length <= 14) (ho:PD X Ex o to) (hbase:attributeBase o "replace" X.env (eval o X.env)=eval o X.env:=by rfl)
  (hline:(apos.endLine == cpos.line)=true:=by rfl):PD X Ex (.Call (.Attribute o "replace" apos) [.Constant (.str ys) j1 p1,.Constant (.str zs) j2 p2] [] cpos) (zfs y z to):=by
 refine ⟨?_⟩
 rintro pins s σv H Q I ⟨hid,μ,σ,O,e1,c1,q⟩
 refine wpAny_Call_method_late hbase rfl hline rfl (thn (ho.out pins s σv H (fun v H1=>∃ i:List Nat,v=.str ⟨i.toArray⟩/\i.length <= 1000/\Q (.str (Txt.replace ⟨i.toArray⟩ ⟨y.toArray⟩ ⟨z.toArray⟩)) H1) I (rd.go e1 c1 q fun d O1 v H1 μ1 e2 x cl r p=>?_)) fun v s1 ⟨x,H1,I1,r1,i,ex,hl,q1⟩=>?_)
 ·cases d with
  | str i=>
   unfold Dat at r
   obtain ⟨h1,q⟩:=post.ite p
   exact ⟨i,r,h1,post.here q cl (by unfold Dat;rw [z6G])⟩
  | _=>exact False.elim p
 ·subst ex
  obtain ⟨t,rfl⟩:=r1
  refine ⟨"str", "str.replace",PySem.F.plainAttrs_str,PySem.F.slot_str_replace,PySem.F.type_str_replace,typeIs_str _ _ _,(fun a e=>by cases e),?_⟩
  refine Calls.callWith_builtin rfl (Calls.evalArgs_plain ?_)
  show wpAny _ _ (spliced ((false,eval (.Constant (.str ys) j1 p1) X.env) :: (false,eval (.Constant (.str zs) j2 p2) X.env) :: [])) _ _ s1
  refine Calls.spliced_cons (Calls.Constant_str (Calls.spliced_cons (Calls.Constant_str (Calls.spliced_nil ?_))))
  have hi:(⟨i.toArray⟩:Str).length <= 1048576:=Nat.le_trans (show i.toArray.size <= 1000 by simpa using hl) (by decide)
  subst hy hz
  refine wpAny_with_toks (n:=1) (Nat.le_add_left _ _) (SC.replaceW (Nat.ne_of_gt I1.tk) (Nat.succ_ne_zero _) (Nat.ne_of_lt (Nat.lt_succ_self _)) hyz hi (show z.toArray.size <= 14 by simpa using hzl) fun t' k htk=>⟨.str _,H1,I1.tok k htk,⟨_,rfl⟩,q1⟩)
theorem zhj:bootBuiltins "sum" = some (.builtin "sum"):=by boot_by_name
theorem zaR (hc:X.calm=true):CallR X (.builtin "sum") (fun xs H Q=>∃ (p:Addr) (ns:List Int),xs=[.ref p]/\SqL X.K H p (ns.map V.int)/\Q (.int ns.sum) H):=by
 intro pins s σ H xs us Q I r h
 obtain ⟨p,ns,rfl,sq,q⟩:=h
 obtain ⟨u,rfl,ru⟩:=z2Z r
 cases ru
 obtain ⟨its,rv,pl,hz⟩:=I.list sq
 have ia:=za0 rv
 obtain ⟨ks,ek⟩:=ia.allInts.items
 have en:ns=ks.toList.map (·.1):=by rw [<- ia.numsOf,<- PySem.nums_intItems,<- ek]
 have hl:=pl.isList
 rw [ek] at hl
 refine wT I (sum_intListG (I.ok.hd hc) hl fun h' tk t' hk htk=>?_)
 have e2:preSum (numAt ks) ks.size=ns.sum:=by
  rw [preSum_eq,List.take_of_length_le (by simp),en]
 rw [e2]
 exact ⟨.int _,H,I.kept (t':=tk) hk,⟨_,rfl⟩,q⟩
def ziZ:Ow->List D->R D:=fun O xs=>match xs with
 | [x]=>match lsV O x with
  | some ds=>match zcr ds with
   | some ns=>.ok (.int ns.sum) O
   | none=>.bad
  | none=>.bad
 | _=>.bad
theorem zi2:z35 X Ex (fun xs H Q=>∃ (p:Addr) (ns:List Int),xs=[.ref p]/\SqL X.K H p (ns.map V.int)/\Q (.int ns.sum) H) ziZ:=by
 intro H hid μ O xs vs Q c d q
 unfold ziZ at q
 split at q
 ·rename_i x
  obtain ⟨v,rfl,dx⟩:=z2D d
  split at q
  ·rename_i ds e
   obtain ⟨p,ws,rfl,sq,dd⟩:=z2d c dx e
   split at q
   ·rename_i ns eb
    refine ⟨p,ns,rfl,?_,post.here q c z0I⟩
    rw [<- zax dd eb];exact sq
   ·exact False.elim q
  ·exact False.elim q
 ·exact False.elim q
end
section
variable {X:Cx} {Ex:Nat->Hp->Prop}
theorem z54 {ke ve tg iter:Expr} {ifs:List Expr} {gs:List Comprehension} {scope:Scope} {pos:Pos} {k:Nat} {ext:List Str} {it0:DI} {g:Tg} {ts:List DT} {cs:List Cl} {tk tv:DE} (_:Nx ext) (hcalm:X.calm=true) (hb:BOk X.env.scope scope (X.N ++ ext) (z0b (⟨it0,g,ts⟩ :: cs))) (hi:PDI X Ex tg iter it0)
  (blk:∀ cells C s H fp,PG (cxB X (X.N ++ ext) scope cells C s H fp) tg (g.rd X.K)/\PySem.Paired (fun e t=>PDT (cxB X (X.N ++ ext) scope cells C s H fp) Ex0 e t) ifs ts/\ClsOk (cxB X (X.N ++ ext) scope cells C s H fp) gs cs/\PD (cxB X (X.N ++ ext) scope cells C s H fp) Ex0 ke tk/\PD (cxB X (X.N ++ ext) scope cells C s H fp) Ex0 ve tv)
  (hk:ext.length=k:=by rfl) (hs:∀ x,foldedSetIterable iter X.env x=pure x:=by intro _;rfl):PD X Ex (.DictComp ke ve (⟨tg,iter,ifs,0⟩ :: gs) scope pos) (z46 k it0 g ts cs tk tv):=hk ▸ zds ext hcalm hi hb blk hs
end
end DL
namespace DL
open PySem L2
def ziQ:List Str->Bool
 | []=>true
 | x :: l=>!(l.contains x) && ziQ l
theorem z1V:∀ {l:List Str},ziQ l=true->l.Nodup
 | [],_=>List.nodup_nil
 | x :: l,h=>by
  unfold ziQ at h
  rw [Bool.and_eq_true,Bool.not_eq_true'] at h
  refine List.nodup_cons.mpr ⟨fun m=>?_,z1V h.2⟩
  rw [List.contains_iff_mem.mpr m] at h
  exact Bool.noConfusion h.1
def zjM:Option NameKind->Bool
 | some .local=>true
 | some .cell=>true
 | _=>false
theorem zfL {o:Option NameKind} (h:zjM o=true):o=some .local \/ o=some .cell:=by
 unfold zjM at h
 split at h
 ·exact .inl rfl
 ·exact .inr rfl
 ·cases h
def kNf:NameKind->Bool
 | .free=>false
 | _=>true
def fnB (N P:List Str) (sc:Scope):Bool:=ziQ N && (N.take P.length == P) && P.all (fun x=>zjM (sc.names.lookup x)) && sc.names.all (fun y=>kNf y.2)
theorem fnS {N P:List Str} {sc:Scope} (h1:sc.kind=.function) (h2:sc.isCoroutine=false) (h3:sc.isGenerator=false) (h:fnB N P sc=true):z0a N P sc:=by
 unfold fnB at h
 simp only [Bool.and_eq_true] at h
 obtain ⟨⟨⟨a,b⟩,c⟩,d⟩:=h
 refine ⟨h1,h2,h3,z1V a,eq_of_beq b,fun x hx=>zfL (List.all_eq_true.mp c x hx),fun y hy e=>?_⟩
 have:=List.all_eq_true.mp d y hy
 rw [e] at this
 cases this
end DL
namespace DL
open PySem
def pl:Nat->D->Bool
 | n,.non=>true
 | n,.int _=>true
 | n,.str cs=>cs.all (· < 1114112)
 | n + 1,.lst ds=>ds.all (pl n)
 | n + 1,.tup ds=>ds.all (pl n)
 | _,_=>false
theorem z3B {α β:Type} {f:α->Option β}:∀ {l:List α},(∀ x ∈ l,∃ y,f x=some y)->∃ m,z0W f l=some m
 | [],_=>⟨[],rfl⟩
 | x :: l,h=>by
  obtain ⟨y,hy⟩:=h x List.mem_cons_self
  obtain ⟨m,hm⟩:=z3B (l:=l) fun z hz=>h z (List.mem_cons_of_mem _ hz)
  exact ⟨y :: m,by unfold z0W;rw [hy,hm]⟩
theorem z6X (O:Ow):∀ (n:Nat) (d:D),pl n d=true->∃ p,z1f O n d=some p:=by
 intro n
 induction n with
 | zero=>
  intro d h
  cases d with
  | non=>exact ⟨_,rfl⟩
  | int i=>exact ⟨_,rfl⟩
  | str cs=>
   refine ⟨.str ⟨cs.toArray⟩,?_⟩
   show zat cs=_
   unfold zat;rw [if_pos (by simpa [pl] using h)]
  | _=>simp [pl] at h
 | succ n ih=>
  intro d h
  cases d with
  | non=>exact ⟨_,rfl⟩
  | int i=>exact ⟨_,rfl⟩
  | str cs=>
   refine ⟨.str ⟨cs.toArray⟩,?_⟩
   show zat cs=_
   unfold zat;rw [if_pos (by simpa [pl] using h)]
  | lst ds=>
   have h:ds.all (pl n)=true:=h
   obtain ⟨m,hm⟩:=z3B (f:=z1f O n) (l:=ds) fun x hx=>ih x (List.all_eq_true.mp h x hx)
   exact ⟨.list m,by show (z0W (z1f O n) ds).map PyData.list=_;rw [hm];rfl⟩
  | tup ds=>
   have h:ds.all (pl n)=true:=h
   obtain ⟨m,hm⟩:=z3B (f:=z1f O n) (l:=ds) fun x hx=>ih x (List.all_eq_true.mp h x hx)
   exact ⟨.tuple m,by show (z0W (z1f O n) ds).map PyData.tuple=_;rw [hm];rfl⟩
  | _=>simp [pl] at h
theorem z5J {f:D->Option PyData} (R:∀ x y p q,f x=some p->f y=some q->pl 0 x=pl 0 x->True) {P:D->Prop} (hf:∀ x y p q,P x->P y->f x=some p->f y=some q->(PyData.eqv p q=true ↔ x=y)):
  ∀ (xs ys:List D) (ps qs:List PyData),(∀ x ∈ xs,P x)->(∀ y ∈ ys,P y)->z0W f xs=some ps->z0W f ys=some qs->(PyData.eqvAll ps qs=true ↔ xs=ys)
 | [],[],ps,qs,_,_,e1,e2=>by cases e1;cases e2;simp [PyData.eqvAll]
 | [],y :: ys,ps,qs,_,_,e1,e2=>by
  cases e1
  unfold z0W at e2
  split at e2
  ·cases e2;simp [PyData.eqvAll]
  ·cases e2
 | x :: xs,[],ps,qs,_,_,e1,e2=>by
  cases e2
  unfold z0W at e1
  split at e1
  ·cases e1;simp [PyData.eqvAll]
  ·cases e1
 | x :: xs,y :: ys,ps,qs,h1,h2,e1,e2=>by
  unfold z0W at e1 e2
  split at e1
  ·rename_i p ps' a1 a2
   cases e1
   split at e2
   ·rename_i q qs' b1 b2
    cases e2
    have r1:=hf x y p q (h1 x List.mem_cons_self) (h2 y List.mem_cons_self) a1 b1
    have r2:=z5J R hf xs ys ps' qs' (fun z hz=>h1 z (List.mem_cons_of_mem _ hz)) (fun z hz=>h2 z (List.mem_cons_of_mem _ hz)) a2 b2
    show (PyData.eqv p q && PyData.eqvAll ps' qs')=true ↔ _
    rw [Bool.and_eq_true,r1,r2,List.cons.injEq]
   ·cases e2
  ·cases e1
theorem z0U {cs:List Nat} {p:PyData} (h:zat cs=some p):p=.str ⟨cs.toArray⟩:=by
 unfold zat at h
 split at h
 ·cases h;rfl
 ·cases h
theorem zbN (a b:List Nat):PyData.eqv (.str ⟨a.toArray⟩) (.str ⟨b.toArray⟩)=true ↔ D.str a=D.str b:=by
 show ((⟨a.toArray⟩:Str) == ⟨b.toArray⟩)=true ↔ _
 rw [beq_iff_eq]
 constructor
 ·intro h
  have h:a.toArray=b.toArray:=by injection h
  rw [show a=b by simpa using congrArg Array.toList h]
 ·intro h
  injection h with h
  rw [h]
theorem zeN (O:Ow):∀ (n:Nat) (x y:D) (p q:PyData),pl n x=true->pl n y=true->z1f O n x=some p->z1f O n y=some q->(PyData.eqv p q=true ↔ x=y):=by
 intro n
 induction n with
 | zero=>
  intro x y p q hx hy e1 e2
  cases x with
  | non=>cases e1;cases y with
   | non=>cases e2;simp [PyData.eqv]
   | int j=>cases e2;simp [PyData.eqv]
   | str b=>have:=z0U e2;subst this;simp [PyData.eqv]
   | _=>simp [pl] at hy
  | int i=>cases e1;cases y with
   | non=>cases e2;simp [PyData.eqv]
   | int j=>cases e2;simp [PyData.eqv]
   | str b=>have:=z0U e2;subst this;simp [PyData.eqv]
   | _=>simp [pl] at hy
  | str a=>have:=z0U e1;subst this;cases y with
   | non=>cases e2;simp [PyData.eqv]
   | int j=>cases e2;simp [PyData.eqv]
   | str b=>have:=z0U e2;subst this;exact zbN a b
   | _=>simp [pl] at hy
  | _=>simp [pl] at hx
 | succ n ih=>
  have big:∀ xs ys ps qs,(xs.all (pl n))=true->(ys.all (pl n))=true->z0W (z1f O n) xs=some ps->z0W (z1f O n) ys=some qs->(PyData.eqvAll ps qs=true ↔ xs=ys):=fun xs ys ps qs h1 h2 e1 e2=>
   z5J (fun _ _ _ _ _ _ _=>trivial) (P:=fun d=>pl n d=true) (fun x y p q a b c d=>ih x y p q a b c d) xs ys ps qs (List.all_eq_true.mp h1) (List.all_eq_true.mp h2) e1 e2
  have shL:∀ {ds:List D} {p},z1f O (n + 1) (.lst ds)=some p->∃ ps,z0W (z1f O n) ds=some ps/\p=.list ps:=fun {ds p} e=>by
   have e:(z0W (z1f O n) ds).map PyData.list=some p:=e
   cases h:z0W (z1f O n) ds with
   | none=>rw [h] at e;cases e
   | some ps=>rw [h] at e;cases e;exact ⟨ps,rfl,rfl⟩
  have shT:∀ {ds:List D} {p},z1f O (n + 1) (.tup ds)=some p->∃ ps,z0W (z1f O n) ds=some ps/\p=.tuple ps:=fun {ds p} e=>by
   have e:(z0W (z1f O n) ds).map PyData.tuple=some p:=e
   cases h:z0W (z1f O n) ds with
   | none=>rw [h] at e;cases e
   | some ps=>rw [h] at e;cases e;exact ⟨ps,rfl,rfl⟩
  intro x y p q hx hy e1 e2
  cases x with
  | non=>cases e1;cases y with
   | non=>cases e2;simp [PyData.eqv]
   | int j=>cases e2;simp [PyData.eqv]
   | str b=>have:=z0U e2;subst this;simp [PyData.eqv]
   | lst ys=>obtain ⟨_,_,rfl⟩:=shL e2;simp [PyData.eqv]
   | tup ys=>obtain ⟨_,_,rfl⟩:=shT e2;simp [PyData.eqv]
   | _=>simp [pl] at hy
  | int i=>cases e1;cases y with
   | non=>cases e2;simp [PyData.eqv]
   | int j=>cases e2;simp [PyData.eqv]
   | str b=>have:=z0U e2;subst this;simp [PyData.eqv]
   | lst ys=>obtain ⟨_,_,rfl⟩:=shL e2;simp [PyData.eqv]
   | tup ys=>obtain ⟨_,_,rfl⟩:=shT e2;simp [PyData.eqv]
   | _=>simp [pl] at hy
  | str a=>have:=z0U e1;subst this;cases y with
   | non=>cases e2;simp [PyData.eqv]
   | int j=>cases e2;simp [PyData.eqv]
   | str b=>have:=z0U e2;subst this;exact zbN a b
   | lst ys=>obtain ⟨_,_,rfl⟩:=shL e2;simp [PyData.eqv]
   | tup ys=>obtain ⟨_,_,rfl⟩:=shT e2;simp [PyData.eqv]
   | _=>simp [pl] at hy
  | lst xs=>obtain ⟨ps,h1,rfl⟩:=shL e1;cases y with
   | non=>cases e2;simp [PyData.eqv]
   | int j=>cases e2;simp [PyData.eqv]
   | str b=>have:=z0U e2;subst this;simp [PyData.eqv]
   | lst ys=>
    obtain ⟨qs,h2,rfl⟩:=shL e2
    show PyData.eqvAll ps qs=true ↔ _
    rw [big xs ys ps qs hx hy h1 h2,D.lst.injEq]
   | tup ys=>obtain ⟨_,_,rfl⟩:=shT e2;simp [PyData.eqv]
   | _=>simp [pl] at hy
  | tup xs=>obtain ⟨ps,h1,rfl⟩:=shT e1;cases y with
   | non=>cases e2;simp [PyData.eqv]
   | int j=>cases e2;simp [PyData.eqv]
   | str b=>have:=z0U e2;subst this;simp [PyData.eqv]
   | lst ys=>obtain ⟨_,_,rfl⟩:=shL e2;simp [PyData.eqv]
   | tup ys=>
    obtain ⟨qs,h2,rfl⟩:=shT e2
    show PyData.eqvAll ps qs=true ↔ _
    rw [big xs ys ps qs hx hy h1 h2,D.tup.injEq]
   | _=>simp [pl] at hy
  | _=>simp [pl] at hx
theorem z8Q (O:Ow) {x y:D} (hx:pl 8 x=true) (hy:pl 8 y=true) {b:Bool} (hb:b=true ↔ x=y):fPy eqF O x y=.ok (.bl b) O/\fPy neF O x y=.ok (.bl !b) O:=by
 obtain ⟨p,hp⟩:=z6X O 8 x hx
 obtain ⟨q,hq⟩:=z6X O 8 y hy
 have h:=zeN O 8 x y p q hx hy hp hq
 have:PyData.eqv p q=b:=Bool.eq_iff_iff.mpr (h.trans hb.symm)
 unfold fPy py
 rw [hp,hq]
 subst this
 exact ⟨rfl,rfl⟩
theorem z9H {O:Ow} {n:Nat} {x:D} {p:PyData} (hx:pl n x=true) (hp:z1f O n x=some p):∀ (l:List D) (ps:List PyData),(l.all (pl n))=true->z0W (z1f O n) l=some ps->((ps.any fun y=>PyData.eqv y p)=true ↔ x ∈ l)
 | [],ps,_,e=>by cases e;simp
 | y :: l,ps,h,e=>by
  unfold z0W at e
  split at e
  ·rename_i q qs a1 a2
   cases e
   rw [List.all_cons,Bool.and_eq_true] at h
   rw [List.any_cons,Bool.or_eq_true,zeN O n y x q p h.1 hx a1 hp,z9H hx hp l qs h.2 a2,List.mem_cons]
   exact ⟨fun z=>z.imp Eq.symm id,fun z=>z.imp Eq.symm id⟩
  ·cases e
theorem zbZ (O:Ow):∀ (n:Nat) (d:D) (p:PyData),pl n d=true->z1f O n d=some p->z1f O (n + 1) d=some p:=by
 intro n
 induction n with
 | zero=>intro d p h e;cases d <;> first|exact e|(simp [pl] at h)
 | succ n ih=>
  have go:∀ (ds:List D) ps,(ds.all (pl n))=true->z0W (z1f O n) ds=some ps->z0W (z1f O (n + 1)) ds=some ps:=by
   intro ds
   induction ds with
   | nil=>intro ps _ e;exact e
   | cons x ds ihd=>
    intro ps h e
    rw [List.all_cons,Bool.and_eq_true] at h
    unfold z0W at e ⊢
    split at e
    ·rename_i q qs a1 a2
     rw [ih x q h.1 a1,ihd qs h.2 a2];exact e
    ·cases e
  intro d p h e
  cases d with
  | lst ds=>
   have e:(z0W (z1f O n) ds).map PyData.list=some p:=e
   show (z0W (z1f O (n + 1)) ds).map PyData.list=some p
   cases hm:z0W (z1f O n) ds with
   | none=>rw [hm] at e;cases e
   | some ps=>rw [hm] at e;rw [go ds ps h hm];exact e
  | tup ds=>
   have e:(z0W (z1f O n) ds).map PyData.tuple=some p:=e
   show (z0W (z1f O (n + 1)) ds).map PyData.tuple=some p
   cases hm:z0W (z1f O n) ds with
   | none=>rw [hm] at e;cases e
   | some ps=>rw [hm] at e;rw [go ds ps h hm];exact e
  | non=>exact e
  | int i=>exact e
  | str cs=>exact e
  | _=>simp [pl] at h
theorem zfO (O:Ow) {x y:D} {l:List D} (hx:pl 7 x=true) (hl:l.all (pl 7)=true) (hy:lsV O y=some l \/ y=.tup l) {b:Bool} (hb:b=true ↔ x ∈ l):fIn O x y=.ok (.bl b) O/\z3W O x y=.ok (.bl !b) O:=by
 obtain ⟨p,hp⟩:=z6X O 7 x hx
 obtain ⟨ps,hps⟩:=z3B (f:=z1f O 7) (l:=l) fun z hz=>z6X O 7 z (List.all_eq_true.mp hl z hz)
 have h:=z9H hx hp l ps hl hps
 have e:(ps.any fun z=>PyData.eqv z p)=b:=Bool.eq_iff_iff.mpr (h.trans hb.symm)
 have h8:py O x=some p:=zbZ O 7 x p hx hp
 rcases hy with hy|rfl
 ·have hq:py O y=some (.list ps):=by
   cases y with
   | lst ds=>cases hy;show (z0W (z1f O 7) l).map PyData.list=_;rw [hps];rfl
   | own k=>
    have hy:O[k]?=some l:=hy
    show (match O[k]? with|some ds=>(z0W (z1f O 7) ds).map PyData.list|none=>none)=_
    rw [hy];dsimp only;rw [hps];rfl
   | _=>cases hy
  have a1:fPy inF O x y=.ok (.bl b) O:=by unfold fPy;rw [h8,hq];subst e;rfl
  have a2:fPy zgN O x y=.ok (.bl !b) O:=by unfold fPy;rw [h8,hq];subst e;rfl
  cases y with
  | lst ds=>exact ⟨a1,a2⟩
  | own k=>exact ⟨a1,a2⟩
  | _=>cases hy
 ·have hq:py O (.tup l)=some (.tuple ps):=by show (z0W (z1f O 7) l).map PyData.tuple=_;rw [hps];rfl
  have a1:fPy inF O x (.tup l)=.ok (.bl b) O:=by unfold fPy;rw [h8,hq];subst e;rfl
  have a2:fPy zgN O x (.tup l)=.ok (.bl !b) O:=by unfold fPy;rw [h8,hq];subst e;rfl
  exact ⟨a1,a2⟩
theorem zbz {t u:DE} {σ:Sg} {O:Ow} {a b:Bool} (h1:t σ O=.ok (.bl a) O) (h2:a=false->u σ O=.ok (.bl b) O):dOr t u σ O=.ok (.bl (a || b)) O:=by
 show ((t σ O).bnd _)=_
 rw [h1]
 cases a with
 | false=>exact h2 rfl
 | true=>rfl
theorem z3k {t u:DT} {σ:Sg} {O:Ow} {a b:Bool} (h1:t σ O=.ok a O) (h2:a=true->u σ O=.ok b O):z1P t u σ O=.ok (a && b) O:=by
 show ((t σ O).bnd _)=_
 rw [h1]
 cases a with
 | true=>exact h2 rfl
 | false=>rfl
theorem z6T {t u:DT} {σ:Sg} {O:Ow} {a b:Bool} (h1:t σ O=.ok a O) (h2:a=false->u σ O=.ok b O):z6Z t u σ O=.ok (a || b) O:=by
 show ((t σ O).bnd _)=_
 rw [h1]
 cases a with
 | false=>exact h2 rfl
 | true=>rfl
theorem zci (O:Ow) {x y:List D} (hx:x.all (pl 7)=true) (hy:y.all (pl 7)=true) {b:Bool} (hb:b=true ↔ x=y):fPy eqF O (.lst x) (.lst y)=.ok (.bl b) O/\fPy neF O (.lst x) (.lst y)=.ok (.bl !b) O:=
 z8Q O (x:=.lst x) (y:=.lst y) hx hy (hb.trans (by rw [D.lst.injEq]))
theorem z2p (n:Nat) (l:List Nat):(l.map fun (p:Nat)=>D.int (p:Int)).all (pl n)=true:=List.all_eq_true.mpr fun d hd=>by
 obtain ⟨p,_,rfl⟩:=List.mem_map.mp hd
 cases n <;> rfl
theorem z4y:∀ {a b:List Nat},(a.map fun (p:Nat)=>D.int (p:Int))=(b.map fun (p:Nat)=>D.int (p:Int))->a=b
 | [],[],_=>rfl
 | [],_ :: _,h=>by cases h
 | _ :: _,[],h=>by cases h
 | x :: a,y :: b,h=>by
  rw [List.map_cons,List.map_cons,List.cons.injEq] at h
  have h1:x=y:=by have:=h.1;injection this with this;omega
  rw [h1,z4y h.2]
section
variable {σ:Sg} {O O1 O2:Ow} {t u:DE} {d a:DS} {x y:D} {r:RS} {i:Nat} {c:DT} {tA:DA} {ds:List D}
theorem z0y (h:t σ O=.ok x O1) (h2:d (σ.set i (some x)) O1=r):z0n (z0A i t) d σ O=r:=by rw [z0o (z1n h)];exact h2
theorem z39 {σ':Sg} (h:a σ O=.nx σ' O1) (h2:d σ' O1=r):z0n a d σ O=r:=by rw [z0o h];exact h2
theorem z9c {a':DS} (h:c σ O=.ok false O1) (h2:d σ O1=r):z0n (sIf c a' z1z) d σ O=r:=by rw [z0o (σ':=σ) (O1:=O1) (by rw [z0K h];rfl)];exact h2
theorem zb4 {a' e:DS} (h:c σ O=.ok true O1) (h2:a' σ O1=.rt x O2):z0n (sIf c a' e) d σ O=.rt x O2:=z32 (by rw [z0K h,if_pos rfl];exact h2)
theorem z15 (h:d σ O=.rt x O1):fin (d σ O)=.ok x O1:=by rw [h];rfl
theorem z7I (h:t σ O=.ok x O1):fin (z0F t σ O)=.ok x O1:=by rw [z0t h];rfl
theorem z0R {f:Ow->D->D->R D} {z:R D} (h1:t σ O=.ok x O1) (h2:u σ O1=.ok y O2) (h3:f O2 x y=z):dOp f t u σ O=z:=by rw [z0e h1 h2];exact h3
theorem z1U {f:Ow->List D->R D} {z:R D} (h1:tA σ O=.ok ds O1) (h2:f O1 ds=z):z06 f tA σ O=z:=by rw [z0x h1];exact h2
theorem z0X {n:Nat} {F:List D->Ow->R D} {z:R D} (h1:tA σ O=.ok ds O1) (h2:F ds O1=z) (h3:ds.length=n:=by rfl):dFn n F tA σ O=z:=by rw [z0G h1 h3];exact h2
end
end DL
set_option maxHeartbeats 400000
namespace K09
open PySem L2 DL
def top (i:Nat):Stmt:=PySem.Challenge.pw_leastterms_k09_tables_swept.main.body.getD i (.Pass ⟨0,0,0,0⟩)
def z09:List (Int × Int):=[(2,1),(4,2),(8,3),(16,4)]
structure Txt (K:PySem.W.Frag) (mg:Str->Option Value):Prop where
 d_is_whole:z0D K mg "is_whole" (top 4)
 d_is_whole_within:z0D K mg "is_whole_within" (top 5)
 d_is_answer:z0D K mg "is_answer" (top 8)
 d_is_function:z0D K mg "is_function" (top 9)
 d_need_function:z0D K mg "need_function" (top 10)
 d_switches_of:z0D K mg "switches_of" (top 11)
 d_points_with:z0D K mg "points_with" (top 12)
 d_all_terms:z0D K mg "all_terms" (top 15)
 d_bits_of:z0D K mg "bits_of" (top 16)
 d_points_of:z0D K mg "points_of" (top 17)
 d_with_sign:z0D K mg "with_sign" (top 18)
 d_signs_in:z0D K mg "signs_in" (top 19)
 d_terms_holding:z0D K mg "terms_holding" (top 20)
 d_holds_no_nought:z0D K mg "holds_no_nought" (top 22)
 d_holds_a_one:z0D K mg "holds_a_one" (top 23)
 d_good_terms:z0D K mg "good_terms" (top 24)
 d_can_widen_at:z0D K mg "can_widen_at" (top 25)
 d_is_widest:z0D K mg "is_widest" (top 26)
 d_greatest:z0D K mg "greatest" (top 27)
 d_sole_holders:z0D K mg "sole_holders" (top 29)
 d_terms_alone:z0D K mg "terms_alone" (top 30)
 d_makes_point_go:z0D K mg "makes_point_go" (top 31)
 d_kept_points:z0D K mg "kept_points" (top 32)
 d_makes_term_go:z0D K mg "makes_term_go" (top 33)
 d_kept_terms:z0D K mg "kept_terms" (top 34)
 d_sweep:z0D K mg "sweep" (top 35)
 d_swept:z0D K mg "swept" (top 36)
 d__law_cell_at:z0D K mg "_law_cell_at" (top 38)
 d__law_state:z0D K mg "_law_state" (top 39)
 d__law_take:z0D K mg "_law_take" (top 40)
 d__law_term:z0D K mg "_law_term" (top 41)
 d__law_bits:z0D K mg "_law_bits" (top 42)
 d__law_points:z0D K mg "_law_points" (top 43)
 d__law_function:z0D K mg "_law_function" (top 44)
 d__law_terms:z0D K mg "_law_terms" (top 45)
 d__law_good:z0D K mg "_law_good" (top 46)
 d__law_switches:z0D K mg "_law_switches" (top 47)
 d__law_greatest:z0D K mg "_law_greatest" (top 48)
 d__law_ones:z0D K mg "_law_ones" (top 49)
 d__law_holding:z0D K mg "_law_holding" (top 50)
 d__law_signs:z0D K mg "_law_signs" (top 51)
 d__law_same:z0D K mg "_law_same" (top 52)
 d__law_point_goes:z0D K mg "_law_point_goes" (top 53)
 d__law_term_goes:z0D K mg "_law_term_goes" (top 54)
 d__law_sweep:z0D K mg "_law_sweep" (top 55)
 d_law:z0D K mg "law" (top 56)
 b_all:mg "all" = none
 b_any:mg "any" = none
 b_bool:mg "bool" = none
 b_enumerate:mg "enumerate" = none
 b_int:mg "int" = none
 b_isinstance:mg "isinstance" = none
 b_len:mg "len" = none
 b_list:mg "list" = none
 b_max:mg "max" = none
 b_min:mg "min" = none
 b_range:mg "range" = none
 b_sorted:mg "sorted" = none
 b_str:mg "str" = none
 b_sum:mg "sum" = none
 b_tuple:mg "tuple" = none
 b_zip:mg "zip" = none
 c_SIGNS:zjR mg "SIGNS" [45,48,49]
 z00:zgk K mg "SWITCHES_BY_POINTS" z09
section
variable {P:Program} {w:World} {K:PySem.W.Frag} {mg:Str->Option Value} {base:Heap}
set_option hygiene false in
local macro_rules|`(tactic| walk_at "v")=>`(tactic| first|exact .inl rfl|exact .inr (.inl rfl)|exact .inr (.inr rfl))
set_option hygiene false in
local macro_rules|`(tactic| walk_at "l")=>`(tactic| first|exact .inl rfl|exact .inr rfl)
set_option hygiene false in
local macro_rules|`(tactic| walk_at "le")=>`(tactic| first|decide|exact Nat.le_refl _)
set_option hygiene false in
local macro_rules|`(tactic| walk_at "fx")=>`(tactic| first|refine zhb h hr (by walk_at "le") rfl ?_<;>walk_at "a")
set_option hygiene false in
local macro_rules|`(tactic| walk_at "f")=>`(tactic| first|((with_reducible show PD _ _ _ (dFn _ z3G _));have h:=@z8m P w K mg base T;walk_at "fx")|((with_reducible show PD _ _ _ (dFn _ z1o _));have h:=@z5H P w K mg base T;walk_at "fx")|((with_reducible show PD _ _ _ (dFn _ z1l _));have h:=@z5z P w K mg base T;walk_at "fx")|((with_reducible show PD _ _ _ (dFn _ z0Q _));have h:=@z85 P w K mg base T;walk_at "fx")|((with_reducible show PD _ _ _ (dFn _ z4D _));have h:=@zae P w K mg base T;walk_at "fx")|((with_reducible show PD _ _ _ (dFn _ z1Y _));have h:=@z82 P w K mg base T;walk_at "fx")|((with_reducible show PD _ _ _ (dFn _ z0V _));have h:=@z8Z P w K mg base T;walk_at "fx")|((with_reducible show PD _ _ _ (dFn _ z0z _));have h:=@z3Z P w K mg base T;walk_at "fx")|((with_reducible show PD _ _ _ (dFn _ z16 _));have h:=@z4P P w K mg base T;walk_at "fx")|((with_reducible show PD _ _ _ (dFn _ z0l _));have h:=@z7A P w K mg base T;walk_at "fx")|((with_reducible show PD _ _ _ (dFn _ z1b _));have h:=@z70 P w K mg base T;walk_at "fx")|((with_reducible show PD _ _ _ (dFn _ z0H _));have h:=@z6x P w K mg base T;walk_at "fx")|((with_reducible show PD _ _ _ (dFn _ z0Z _));have h:=@z4e P w K mg base T;walk_at "fx")|((with_reducible show PD _ _ _ (dFn _ z10 _));have h:=@z7T P w K mg base T;walk_at "fx")|((with_reducible show PD _ _ _ (dFn _ z0B _));have h:=@z68 P w K mg base T;walk_at "fx")|((with_reducible show PD _ _ _ (dFn _ z1s _));have h:=@z79 P w K mg base T;walk_at "fx")|((with_reducible show PD _ _ _ (dFn _ z1t _));have h:=@z3z P w K mg base T;walk_at "fx")|((with_reducible show PD _ _ _ (dFn _ z0w _));have h:=@z7X P w K mg base T;walk_at "fx")|((with_reducible show PD _ _ _ (dFn _ z0E _));have h:=@z4g P w K mg base T;walk_at "fx")|((with_reducible show PD _ _ _ (dFn _ z1D _));have h:=@z6Q P w K mg base T;walk_at "fx")|((with_reducible show PD _ _ _ (dFn _ z1S _));have h:=@z7F P w K mg base T;walk_at "fx")|((with_reducible show PD _ _ _ (dFn _ z0c _));have h:=@z5I P w K mg base T;walk_at "fx")|((with_reducible show PD _ _ _ (dFn _ z1W _));have h:=@z7q P w K mg base T;walk_at "fx")|((with_reducible show PD _ _ _ (dFn _ z0j _));have h:=@z49 P w K mg base T;walk_at "fx")|((with_reducible show PD _ _ _ (dFn _ z0q _));have h:=@z3f P w K mg base T;walk_at "fx")|((with_reducible show PD _ _ _ (dFn _ z1k _));have h:=@z5i P w K mg base T;walk_at "fx")|((with_reducible show PD _ _ _ (dFn _ z1e _));have h:=@z6c P w K mg base T;walk_at "fx")|((with_reducible show PD _ _ _ (dFn _ z0Y _));have h:=@z4k P w K mg base T;walk_at "fx")|((with_reducible show PD _ _ _ (dFn _ z0J _));have h:=@z7H P w K mg base T;walk_at "fx")|((with_reducible show PD _ _ _ (dFn _ z0h _));have h:=@z57 P w K mg base T;walk_at "fx")|((with_reducible show PD _ _ _ (dFn _ z0T _));have h:=@z3H P w K mg base T;walk_at "fx")|((with_reducible show PD _ _ _ (dFn _ z1h _));have h:=@z5l P w K mg base T;walk_at "fx")|((with_reducible show PD _ _ _ (dFn _ z18 _));have h:=@z4M P w K mg base T;walk_at "fx")|((with_reducible show PD _ _ _ (dFn _ z17 _));have h:=@z4T P w K mg base T;walk_at "fx")|((with_reducible show PD _ _ _ (dFn _ z1N _));have h:=@z5A P w K mg base T;walk_at "fx")|((with_reducible show PD _ _ _ (dFn _ z0r _));have h:=@z4c P w K mg base T;walk_at "fx")|((with_reducible show PD _ _ _ (dFn _ z0N _));have h:=@z3n P w K mg base T;walk_at "fx")|((with_reducible show PD _ _ _ (dFn _ z0M _));have h:=@z4l P w K mg base T;walk_at "fx")|((with_reducible show PD _ _ _ (dFn _ z1X _));have h:=@z75 P w K mg base T;walk_at "fx")|((with_reducible show PD _ _ _ (dFn _ z1O _));have h:=@z5F P w K mg base T;walk_at "fx")|((with_reducible show PD _ _ _ (dFn _ z1A _));have h:=@z6E P w K mg base T;walk_at "fx")|((with_reducible show PD _ _ _ (dFn _ z1C _));have h:=@z6J P w K mg base T;walk_at "fx")|((with_reducible show PD _ _ _ (dFn _ z3P _));have h:=@zdr P w K mg base T;walk_at "fx")|((with_reducible show PD _ _ _ (dFn _ z2f _));have h:=@z8l P w K mg base T;walk_at "fx")|((with_reducible show PD _ _ _ (dFn _ z3M _));have h:=@zdP P w K mg base T;walk_at "fx")|((with_reducible show PD _ _ _ (dFn _ _ _));have h:=c_self;walk_at "fx"))
set_option hygiene false in
local macro_rules|`(tactic| walk_at "k")=>`(tactic| first|exact ziH|exact zgS _ rfl|exact zhQ|exact zjs)
set_option hygiene false in
local macro_rules|`(tactic| walk_at "n")=>`(tactic| first|exact zeY T.c_SIGNS)
set_option hygiene false in
local macro_rules|`(tactic| walk_at "o")=>`(tactic| first|((with_reducible show PD _ _ _ (dOp z2G _ _));refine zhr ?_ ?_<;>walk_at "e")|((with_reducible show PD _ _ _ (dOp fIx _ _));exact zjy (by walk_at "e") (by walk_at "e") (fun _ _=>rfl))|((with_reducible show PD _ _ _ (dOp (fI zaC) _ _));refine z8b zgX zfj ?_ ?_<;>walk_at "e")|((with_reducible show PD _ _ _ (dOp (fI z7D) _ _));refine z8b zi9 zgl ?_ ?_<;>walk_at "e")|((with_reducible show PD _ _ _ (dOp (fI za9) _ _));refine z8b zf1 zf2 ?_ ?_<;>walk_at "e")|((with_reducible show PD _ _ _ (dOp (fI z5D) _ _));refine z8b zhw zgq ?_ ?_<;>walk_at "e")|((with_reducible show PD _ _ _ (dOp (fI zau) _ _));refine z8b zhL zeW ?_ ?_<;>walk_at "e")|((with_reducible show PD _ _ _ (dOp (fI z87) _ _));refine z8b zia zgj ?_ ?_<;>walk_at "e")|((with_reducible show PD _ _ _ (dOp fLt _ _));exact z3p zfp zcw (by walk_at "e") (by walk_at "e") (z2j _))|((with_reducible show PD _ _ _ (dOp fGt _ _));exact z3p zhG zeI (by walk_at "e") (by walk_at "e") (z2j _))|((with_reducible show PD _ _ _ (dOp fGe _ _));exact z3p ziE zeD (by walk_at "e") (by walk_at "e") (z2j _))|((with_reducible show PD _ _ _ (dOp (fPy eqF) _ _));exact z3p (zbq hr.units) z5Z (by walk_at "e") (by walk_at "e") (z2j _))|((with_reducible show PD _ _ _ (dOp (fPy neF) _ _));exact z3p (zbs hr.units) z5Z (by walk_at "e") (by walk_at "e") (z2j _))|((with_reducible show PD _ _ _ (dOp fIn _ _));exact z3p (zeq hr.units) zee (by walk_at "e") (by walk_at "e") rfl)|((with_reducible show PD _ _ _ (dOp z3W _ _));exact z3p (zba hr.units) zcb (by walk_at "e") (by walk_at "e") rfl)|((with_reducible show PD _ _ _ (dOp zjj _ _));exact z3p zhA zgA (by walk_at "e") (by walk_at "e") (z2j _))|((with_reducible show PD _ _ _ (dOp z9X _ _));exact z3p zeQ zcm (by walk_at "e") (by walk_at "e") (z2j _))|((with_reducible show PD _ _ _ (z3b true z09 _));refine zc4 T.z00 rfl ?_<;>walk_at "e")|((with_reducible show PD _ _ _ (zcf fLe fLe _ _ _));refine zdV zgY zeB zgY zeB ?_ ?_ ?_<;>walk_at "e"))
set_option hygiene false in
local macro_rules|`(tactic| walk_at "c")=>`(tactic| first|((with_reducible show PD _ _ _ (z06 z1r _));refine z23 zd4 zix rfl T.b_len zi0 ?_<;>walk_at "a")|((with_reducible show PD _ _ _ (z06 zcC _));refine z23 (zaO rfl) zi4 rfl T.b_all zid ?_<;>walk_at "a")|((with_reducible show PD _ _ _ (z06 zao _));refine z23 (zb6 rfl) zim rfl T.b_any zio ?_<;>walk_at "a")|((with_reducible show PD _ _ _ (z06 ziZ _));refine z23 (zaR rfl) zi2 rfl T.b_sum zhj ?_<;>walk_at "a")|((with_reducible show PD _ _ _ (z06 za8 _));refine z23 (zco rfl) zgr rfl T.b_max ziI ?_<;>walk_at "a")|((with_reducible show PD _ _ _ (z06 zab _));refine z23 (zaK rfl) zfq rfl T.b_min zhH ?_<;>walk_at "a")|((with_reducible show PD _ _ _ (z06 zey _));refine z23 zea zi6 rfl T.b_sorted z2C ?_<;>walk_at "a")|((with_reducible show PD _ _ _ (z06 z5t _));refine z23 zbg zfr rfl T.b_sorted z2C ?_<;>walk_at "a")|((with_reducible show PD _ _ _ (z06 z8O _));refine z5g zbd zfl rfl T.b_int zel ?_<;>walk_at "a")|((with_reducible show PD _ _ _ (z06 z0P _));refine z5g z6k zdw rfl T.b_tuple z6D ?_<;>walk_at "a")|((with_reducible show PD _ _ _ (z06 zcX _));refine z5g z7G zgm rfl T.b_str zib ?_<;>walk_at "a")|((with_reducible show PD _ _ _ (z2V "bool" _));exact z9a (by walk_at "e") (by decide) rfl T.b_isinstance z1j rfl T.b_bool zfe)|((with_reducible show PD _ _ _ (z2V "int" _));exact z9a (by walk_at "e") (by decide) rfl T.b_isinstance z1j rfl T.b_int zel)|((with_reducible show PD _ _ _ (z2V "list" _));exact z9a (by walk_at "e") (by decide) rfl T.b_isinstance z1j rfl T.b_list zbv)|((with_reducible show PD _ _ _ (z2V "tuple" _));exact z9a (by walk_at "e") (by decide) rfl T.b_isinstance z1j rfl T.b_tuple z6D)|((with_reducible show PD _ _ _ (zan "tuple" "list" _));exact zgt (by walk_at "e") (by decide) (by decide) rfl T.b_isinstance z1j rfl T.b_tuple z6D rfl T.b_list zbv)|((with_reducible show PD _ _ _ (z8H _ _ _ _ _ _ _));first|exact z6s x0 _ rfl rfl T.b_sorted z2C (z2t (by kernel_rfl)) (by walk_at "i") (fun _ _ _ _ _=>⟨by walk_at "g",by walk_at "fs",by walk_at "cs",by walk_at "e"⟩)|exact z6s x1 _ rfl rfl T.b_sorted z2C (z2t (by kernel_rfl)) (by walk_at "i") (fun _ _ _ _ _=>⟨by walk_at "g",by walk_at "fs",by walk_at "cs",by walk_at "e"⟩)|exact z6s x2 _ rfl rfl T.b_sorted z2C (z2t (by kernel_rfl)) (by walk_at "i") (fun _ _ _ _ _=>⟨by walk_at "g",by walk_at "fs",by walk_at "cs",by walk_at "e"⟩)))
set_option hygiene false in
local macro_rules|`(tactic| walk_at "pk")=>`(tactic| first|exact zeH|exact zeC|exact zeE)
set_option hygiene false in
local macro_rules|`(tactic| walk_at "pp")=>`(tactic| first|exact ze7 (by walk_at "pk") (by walk_at "pk") (by walk_at "pp")|exact zfw)
set_option hygiene false in
local macro_rules|`(tactic| walk_at "so")=>`(tactic| first|((with_reducible show PDO _ _ _ z7u);exact ze3)|refine zdJ ?_<;>walk_at "e")
set_option hygiene false in
local macro_rules|`(tactic| walk_at "m")=>`(tactic| first|((with_reducible show PD _ _ _ (zal _ _));exact zcy (by walk_at "e") (by walk_at "a"))|((with_reducible show PD _ _ _ (zh1 _ _));exact zaM (by walk_at "e") (by walk_at "a"))|((with_reducible show PD _ _ _ (zfs _ _ _));refine zfS _ _ rfl rfl rfl (Nat.le_of_ble_eq_true rfl) ?_<;>walk_at "e")|((with_reducible show PD _ _ _ (z21 _ _));exact zgy (by walk_at "e") (by walk_at "e") (fun _ _=>rfl))|((with_reducible show PD _ _ _ (z46 _ _ _ _ _ _ _));first|exact z54 x0 rfl (z2t (by kernel_rfl)) (by walk_at "i") (fun _ _ _ _ _=>⟨by walk_at "g",by walk_at "fs",by walk_at "cs",by walk_at "e",by walk_at "e"⟩)|exact z54 x1 rfl (z2t (by kernel_rfl)) (by walk_at "i") (fun _ _ _ _ _=>⟨by walk_at "g",by walk_at "fs",by walk_at "cs",by walk_at "e",by walk_at "e"⟩)|exact z54 x2 rfl (z2t (by kernel_rfl)) (by walk_at "i") (fun _ _ _ _ _=>⟨by walk_at "g",by walk_at "fs",by walk_at "cs",by walk_at "e",by walk_at "e"⟩))|((with_reducible show PD _ _ _ (zde _ _));exact zgH (by walk_at "e") (by walk_at "a"))|((with_reducible show PD _ _ _ (dS1 zjg _ _));exact zjd PySem.F.slot_str_count PySem.F.type_str_count zd0 zhl (by walk_at "e") (by walk_at "a"))|((with_reducible show PD _ _ _ (dSl _ _ _));exact zjm (by walk_at "e") (by walk_at "so") (by walk_at "so"))|((with_reducible show PD _ _ _ (zi7 z09 _));exact zgz T.z00 rfl (by walk_at "e") (fun _ _=>rfl))|((with_reducible show PD _ _ _ (zhC _ _));exact zhX _ (by walk_at "pp") rfl rfl rfl (List.cons_ne_nil _ _) (Nat.le_of_ble_eq_true rfl) (Nat.le_of_ble_eq_true rfl) (zjr hr) (by walk_at "e") (fun _ _=>rfl)))
set_option hygiene false in
local macro_rules|`(tactic| walk_at "e1")=>`(tactic| first|((with_reducible show PD _ _ _ (z02 _));refine ziG rfl ?_<;>walk_at "v")|((with_reducible show PD _ _ _ (dC _));first|walk_at "k"|walk_at "n")|((with_reducible show PD _ _ _ (dOp _ _ _));walk_at "o")|((with_reducible show PD _ _ _ (dFn _ _ _));walk_at "f")|((with_reducible show PD _ _ _ (z1q _));refine ziC ?_<;>walk_at "a")|((with_reducible show PD _ _ _ (z2T _));refine zh7 ?_<;>walk_at "a")|((with_reducible show PD _ _ _ (z0i _ _ _ _ _ _ _));first|exact z6u x0 _ rfl (z2t (by kernel_rfl)) (by walk_at "i") (fun _ _ _ _ _=>⟨by walk_at "g",by walk_at "fs",by walk_at "cs",by walk_at "e"⟩)|exact z6u x1 _ rfl (z2t (by kernel_rfl)) (by walk_at "i") (fun _ _ _ _ _=>⟨by walk_at "g",by walk_at "fs",by walk_at "cs",by walk_at "e"⟩)|exact z6u x2 _ rfl (z2t (by kernel_rfl)) (by walk_at "i") (fun _ _ _ _ _=>⟨by walk_at "g",by walk_at "fs",by walk_at "cs",by walk_at "e"⟩))|((with_reducible show PD _ _ _ (z06 _ _));walk_at "c")|((with_reducible show PD _ _ _ (z2R _));refine zgD ?_<;>walk_at "a")|((with_reducible show PD _ _ _ (ze2 _ _));refine zgT ?_ ?_<;>walk_at "e")|((with_reducible show PD _ _ _ (dOr _ _));refine zjQ ?_ ?_<;>walk_at "e")|((with_reducible show PD _ _ _ (zhe _));refine zil ?_<;>walk_at "e")|walk_at "c"|walk_at "m"|walk_at "o")
set_option hygiene false in
local macro_rules|`(tactic| walk_at "e")=>`(tactic| first|(show PD _ _ (.BoolOp _ [_] _) _;refine zit ?_<;>walk_at "e1")|walk_at "e1")
set_option hygiene false in
local macro_rules|`(tactic| walk_at "a")=>`(tactic| first|((with_reducible show PDA _ _ _ z03);exact zfb)|exact zcH (by walk_at "e") (by walk_at "a"))
set_option hygiene false in
local macro_rules|`(tactic| walk_at "t")=>`(tactic| first|((with_reducible show PDT _ _ _ (z0k (dOp fLt _ _)));exact z2E zfp zcw (by walk_at "e") (by walk_at "e") (z2j _))|((with_reducible show PDT _ _ _ (z0k (dOp fGt _ _)));exact z2E zhG zeI (by walk_at "e") (by walk_at "e") (z2j _))|((with_reducible show PDT _ _ _ (z0k (dOp fGe _ _)));exact z2E ziE zeD (by walk_at "e") (by walk_at "e") (z2j _))|((with_reducible show PDT _ _ _ (z0k (dOp (fPy eqF) _ _)));exact z2E (zbq hr.units) z5Z (by walk_at "e") (by walk_at "e") (z2j _))|((with_reducible show PDT _ _ _ (z0k (dOp (fPy neF) _ _)));exact z2E (zbs hr.units) z5Z (by walk_at "e") (by walk_at "e") (z2j _))|((with_reducible show PDT _ _ _ (z0k (dOp fIn _ _)));exact z2E (zeq hr.units) zee (by walk_at "e") (by walk_at "e") rfl)|((with_reducible show PDT _ _ _ (z0k (dOp z3W _ _)));exact z2E (zba hr.units) zcb (by walk_at "e") (by walk_at "e") rfl)|((with_reducible show PDT _ _ _ (z0k (dOp z9X _ _)));exact z2E zeQ zcm (by walk_at "e") (by walk_at "e") (z2j _))|((with_reducible show PDT _ _ _ (z0k (z3b true z09 _)));refine zah T.z00 rfl ?_<;>walk_at "e")|(show PDT _ _ (.BoolOp _ _ _) _;refine PDW.pt ?_<;>walk_at "w")|((with_reducible show PDT _ _ _ (z1B _));refine zfQ ?_<;>walk_at "t")|((with_reducible show PDT _ _ _ (z1g _));exact zfX (by walk_at "e") (fun _=>rfl)))
set_option hygiene false in
local macro_rules|`(tactic| walk_at "w")=>`(tactic| first|(show PDW _ _ (.BoolOp .And [_] _) _;refine zcM ?_<;>walk_at "t")|(show PDW _ _ (.BoolOp .Or [_] _) _;refine zg6 ?_<;>walk_at "t")|((with_reducible show PDW _ _ _ (z1P _ _));exact zgs (by walk_at "t") (by walk_at "w"))|((with_reducible show PDW _ _ _ (z6Z _ _));exact ziw (by walk_at "t") (by walk_at "w")))
set_option hygiene false in
local macro_rules|`(tactic| walk_at "i")=>`(tactic| first|((with_reducible show PDI _ _ _ _ (z14 _));refine z9U rfl T.b_range ?_<;>walk_at "a")|((with_reducible show PDI _ _ _ _ (zdZ _));refine zcU rfl T.b_zip ?_<;>walk_at "a")|((with_reducible show PDI _ _ _ _ (z9m _));refine zbD rfl T.b_enumerate ?_<;>walk_at "a")|refine zff ?_<;>walk_at "e")
set_option hygiene false in
local macro_rules|`(tactic| walk_at "g")=>`(tactic| first|((with_reducible show PG _ _ (zie _ 3 _));refine zdN rfl (z1V (by kernel_rfl)) rfl rfl rfl ?_ ?_ ?_ ?_ ?_ ?_<;>walk_at "l")|(show PG _ (.Name _ _) _;refine zh8 (z1V (by kernel_rfl)) rfl ?_ ?_<;>walk_at "l")|(show PG _ (.Tuple [_,_] _ _) _;refine zif rfl (z1V (by kernel_rfl)) rfl rfl ?_ ?_ ?_ ?_<;>walk_at "l"))
set_option hygiene false in
local macro_rules|`(tactic| walk_at "fs")=>`(tactic| first|exact .nil|exact .cons (by walk_at "t") (by walk_at "fs"))
set_option hygiene false in
local macro_rules|`(tactic| walk_at "cs")=>`(tactic| first|exact .nil|(refine ClsOk.cons ?_ (fun _=>rfl) ?_ ?_ ?_;(dsimp only;walk_at "i");(dsimp only;walk_at "g");(dsimp only;walk_at "fs");walk_at "cs"))
set_option hygiene false in
local macro_rules|`(tactic| walk_at "s")=>`(tactic| first|((with_reducible show PDS _ _ _ (z0F _));refine zf3 ?_<;>walk_at "e")|((with_reducible show PDS _ _ _ (sIf _ _ _));exact zh2 (by walk_at "t") (by walk_at "ss") (by walk_at "ss"))|(show PDS _ _ (.Assign [.Name _ _] (.ListComp _ _ _ _) _) _;first|exact z2y x0 _ rfl (z1V (by kernel_rfl)) rfl rfl (z2t (by kernel_rfl)) (by walk_at "i") (fun _ _ _ _ _=>⟨by walk_at "g",by walk_at "fs",by walk_at "cs",by walk_at "e"⟩) rfl|exact z2y x1 _ rfl (z1V (by kernel_rfl)) rfl rfl (z2t (by kernel_rfl)) (by walk_at "i") (fun _ _ _ _ _=>⟨by walk_at "g",by walk_at "fs",by walk_at "cs",by walk_at "e"⟩) rfl|exact z2y x2 _ rfl (z1V (by kernel_rfl)) rfl rfl (z2t (by kernel_rfl)) (by walk_at "i") (fun _ _ _ _ _=>⟨by walk_at "g",by walk_at "fs",by walk_at "cs",by walk_at "e"⟩) rfl|exact zbP (z1V (by kernel_rfl)) rfl (by walk_at "l") (by walk_at "e"))|((with_reducible show PDS _ _ _ (z0A _ _));exact zbP (z1V (by kernel_rfl)) rfl (by walk_at "l") (by walk_at "e"))|((with_reducible show PDS _ _ _ (z63 _ _ _));exact zg8 PassesOwn.never rfl (by walk_at "i") (by walk_at "g") (by walk_at "ss"))|((with_reducible show PDS _ _ _ (z20 _));refine zdQ ?_<;>walk_at "e")|((with_reducible show PDS _ _ _ (zcz _ _ _));refine zgu ?_ ?_ ?_<;>walk_at "e")|((with_reducible show PDS _ _ _ (ziY _ _ _));exact zfm rfl (z1V (by kernel_rfl)) rfl rfl (by decide) rfl rfl (by walk_at "a") rfl)|((with_reducible show PDS _ _ _ (z9Z _ _ _ _));exact ze6 (by walk_at "e") (by walk_at "g"))|((with_reducible show PDS _ _ _ (z5T _ _ _));exact zc3 _ PassesOwn.never (by walk_at "t") (by walk_at "ss"))|((with_reducible show PDS _ _ _ z1z);exact zdz))
set_option hygiene false in
local macro_rules|`(tactic| walk_at "ss")=>`(tactic| first|((with_reducible show z89 _ _ _ z1z);exact ze0)|((with_reducible show z89 _ _ _ ziU);exact z9R)|((with_reducible show z89 _ _ _ (z0n _ _));exact z04 (by walk_at "s") (by walk_at "ss"))|refine z08 ?_<;>walk_at "s")
def z61:DS:=
 (z0F (ze2 (z2V "int" (z02 0)) (zhe (z2V "bool" (z02 0)))))
def z3G:List D->Ow->R D:=(z1H 1 z61)
theorem z8X:z0a ["thing"] ["thing"] (z05 (top 4)):=fnS rfl rfl rfl (by kernel_rfl)
theorem z8m (T:Txt K mg):Callee P w K mg base "is_whole" 1 1 z3G:=
 Callee.self (fnC (k:=0) T.d_is_whole z8X (fun _ _ _ _ _ _ us hl=>match us,hl with|[_],_=>rfl) fun f cdv A outer s H E hr=>
  ((z08 (by delta z61;walk_at "s"))))
def z3a:DS:=
 (z0F (zi7 z09 (z06 z1r (z01 (z02 0) z03))))
def z1o:List D->Ow->R D:=(z1H 1 z3a)
theorem z5n:z0a ["function"] ["function"] (z05 (top 11)):=fnS rfl rfl rfl (by kernel_rfl)
theorem z5H (T:Txt K mg):Callee P w K mg base "switches_of" 1 1 z1o:=
 Callee.self (fnC (k:=0) T.d_switches_of z5n (fun _ _ _ _ _ _ us hl=>match us,hl with|[_],_=>rfl) fun f cdv A outer s H E hr=>
  ((z08 (by delta z3a;walk_at "s"))))
def z3C:DS:=
 (z0F (z0i false 2 (z9m (z01 (z02 0) z03)) (.two 2 3) [(z0k (dOp (fPy eqF) (z02 3) (z02 1)))] [] (z02 2)))
def z1l:List D->Ow->R D:=(z1H 2 z3C)
theorem z5B:z0a ["function", "answer"] ["function", "answer"] (z05 (top 12)):=fnS rfl rfl rfl (by kernel_rfl)
theorem z5z (T:Txt K mg):Callee P w K mg base "points_with" 1 2 z1l:=
 Callee.self (fnC (k:=0) T.d_points_with z5B (fun _ _ _ _ _ _ us hl=>match us,hl with|[_,_],_=>rfl) fun f cdv A outer s H E hr=>
  (have x0:Nx ["point", "told"]:=⟨⟩;(z08 (by delta z3C;walk_at "s"))))
def z8E:DS:=
 (z0n (z0A 1 (z1q (z01 (dC (.str [])) z03))) (z0n (z63 (z14 (z01 (z02 0) z03)) (.one 2) (z0A 1 (z0i false 2 (dIt (z02 1)) (.one 3) [] (⟨(dIt (dC (.str [45,48,49]))),(.one 4),[]⟩ :: []) (dOp z2G (z02 3) (z02 4))))) (z0F (z02 1))))
def z0Q:List D->Ow->R D:=(z1H 3 z8E)
theorem z7w:z0a ["n", "terms", "switch"] ["n"] (z05 (top 15)):=fnS rfl rfl rfl (by kernel_rfl)
theorem z85 (T:Txt K mg):Callee P w K mg base "all_terms" 1 1 z0Q:=
 Callee.self (fnC (k:=0) T.d_all_terms z7w (fun _ _ _ _ _ _ us hl=>match us,hl with|[_],_=>rfl) fun f cdv A outer s H E hr=>
  (have x0:Nx ["term", "sign"]:=⟨⟩;(z04 (by walk_at "s") (z04 (by walk_at "s") (z08 (by walk_at "s"))))))
def zbb:DS:=
 (z0n (sIf (z0k (dOp (fPy eqF) (z02 0) (dC (.str [45])))) (z0F (z1q (z01 (dC (.int 0)) (z01 (dC (.int 1)) z03)))) z1z) (z0F (z1q (z01 (z06 z8O (z01 (z02 0) z03)) z03))))
def z4D:List D->Ow->R D:=(z1H 1 zbb)
theorem za3:z0a ["sign"] ["sign"] (z05 (top 16)):=fnS rfl rfl rfl (by kernel_rfl)
theorem zae (T:Txt K mg):Callee P w K mg base "bits_of" 1 1 z4D:=
 Callee.self (fnC (k:=0) T.d_bits_of za3 (fun _ _ _ _ _ _ us hl=>match us,hl with|[_],_=>rfl) fun f cdv A outer s H E hr=>
  ((z04 (by walk_at "s") (z08 (by walk_at "s")))))
def z4S:DS:=
 (z0F (dOp z2G (dOp z2G (dSl (z02 0) z7u (z8p (z02 1))) (z02 2)) (dSl (z02 0) (z8p (dOp z2G (z02 1) (dC (.int 1)))) z7u)))
def z1Y:List D->Ow->R D:=(z1H 3 z4S)
theorem z7O:z0a ["term", "switch", "sign"] ["term", "switch", "sign"] (z05 (top 18)):=fnS rfl rfl rfl (by kernel_rfl)
theorem z82 (T:Txt K mg):Callee P w K mg base "with_sign" 1 3 z1Y:=
 Callee.self (fnC (k:=0) T.d_with_sign z7O (fun _ _ _ _ _ _ us hl=>match us,hl with|[_,_,_],_=>rfl) fun f cdv A outer s H E hr=>
  ((z08 (by delta z4S;walk_at "s"))))
def z5P:DS:=
 (z0F (dOp (fI zaC) (z06 z1r (z01 (z02 0) z03)) (dS1 zjg (z02 0) (z01 (dC (.str [45])) z03))))
def z0V:List D->Ow->R D:=(z1H 1 z5P)
theorem z92:z0a ["term"] ["term"] (z05 (top 19)):=fnS rfl rfl rfl (by kernel_rfl)
theorem z8Z (T:Txt K mg):Callee P w K mg base "signs_in" 1 1 z0V:=
 Callee.self (fnC (k:=0) T.d_signs_in z92 (fun _ _ _ _ _ _ us hl=>match us,hl with|[_],_=>rfl) fun f cdv A outer s H E hr=>
  ((z08 (by delta z5P;walk_at "s"))))
def z1K:DS:=
 (z0n (sIf (z1B (z1g (z06 zcC (z01 (z0i false 1 (dIt (z21 (z02 2) (z02 0))) (.one 3) [] [] (dOp fIn (z02 3) (z21 (z02 2) (z02 1)))) z03)))) (z0F (dC (.bl false))) z1z) (z0F (dOr (dOp (fPy neF) (z21 (z02 2) (z02 0)) (z21 (z02 2) (z02 1))) (dOp fLt (z02 0) (z02 1)))))
def z0z:List D->Ow->R D:=(z1H 3 z1K)
theorem z3X:z0a ["other", "point", "holders"] ["other", "point", "holders"] (z05 (top 31)):=fnS rfl rfl rfl (by kernel_rfl)
theorem z3Z (T:Txt K mg):Callee P w K mg base "makes_point_go" 1 3 z0z:=
 Callee.self (fnC (k:=0) T.d_makes_point_go z3X (fun _ _ _ _ _ _ us hl=>match us,hl with|[_,_,_],_=>rfl) fun f cdv A outer s H E hr=>
  (have x0:Nx ["term"]:=⟨⟩;(z04 (by walk_at "s") (z08 (by walk_at "s")))))
def z5m:DS:=
 (z0n (sIf (z0k (dOp fLt (z02 1) (z06 z1r (z01 (z02 0) z03)))) (z0F (dOp fIx (z02 0) (z02 1))) z1z) (z0F (dC (.int 0))))
def z16:List D->Ow->R D:=(z1H 2 z5m)
theorem z5h:z0a ["_law_script", "_law_k"] ["_law_script", "_law_k"] (z05 (top 38)):=fnS rfl rfl rfl (by kernel_rfl)
theorem z4P (T:Txt K mg):Callee P w K mg base "_law_cell_at" 1 2 z16:=
 Callee.self (fnC (k:=0) T.d__law_cell_at z5h (fun _ _ _ _ _ _ us hl=>match us,hl with|[_,_],_=>rfl) fun f cdv A outer s H E hr=>
  ((z04 (by walk_at "s") (z08 (by walk_at "s")))))
def z8t:DS:=
 (z0n (sIf (z1g (dOp fIx (z02 0) (dC (.int 1)))) (z0n (z0A 2 (dOp (fI z5D) (dOp fIx (z02 0) (dC (.int 0))) (z02 1))) (z0n (zcz (dOp (fI za9) (dOp fIx (z02 0) (dC (.int 0))) (z02 1)) (z02 0) (dC (.int 0))) (z0F (z02 2)))) z1z) (z0n (zcz (dOp (fI z5D) (dOp z2G (dOp (fI z7D) (dOp fIx (z02 0) (dC (.int 0))) (dC (.int 48271))) (dC (.int 29))) (dC (.int 2147483647))) (z02 0) (dC (.int 0))) (z0n (z0A 3 (dOp (fI z5D) (dOp z2G (dOp z2G (dOp (fI z7D) (dOp fIx (z02 0) (dC (.int 0))) (dOp fIx (z02 0) (dC (.int 0)))) (dOp (fI z7D) (dC (.int 39373)) (dOp fIx (z02 0) (dC (.int 0))))) (dC (.int 7))) (dC (.int 2147483629)))) (z0n (z0A 3 (dOp (fI z5D) (dOp z2G (dOp (fI z7D) (z02 3) (z02 3)) (dOp (fI z7D) (dC (.int 16807)) (z02 3))) (dC (.int 2147483587)))) (z0F (dOp (fI z5D) (dOp (fI za9) (z02 3) (dC (.int 8))) (z02 1)))))))
def z0l:List D->Ow->R D:=(z1H 4 z8t)
theorem z81:z0a ["_law_state_here", "_law_many", "_law_found", "_law_stirred"] ["_law_state_here", "_law_many"] (z05 (top 40)):=fnS rfl rfl rfl (by kernel_rfl)
theorem z7A (T:Txt K mg):Callee P w K mg base "_law_take" 1 2 z0l:=
 Callee.self (fnC (k:=0) T.d__law_take z81 (fun _ _ _ _ _ _ us hl=>match us,hl with|[_,_],_=>rfl) fun f cdv A outer s H E hr=>
  ((z04 (by walk_at "s") (z04 (by walk_at "s") (z04 (by walk_at "s") (z04 (by walk_at "s") (z08 (by walk_at "s"))))))))
def z8e:DS:=
 (z0n (z0A 2 (dC (.str []))) (z0n (z63 (z14 (z01 (z02 0) z03)) (.one 3) (z0n (z0A 2 (dOp z2G (z06 zcX (z01 (dOp (fI z5D) (z02 1) (dC (.int 2))) z03)) (z02 2))) (z0A 1 (dOp (fI za9) (z02 1) (dC (.int 2)))))) (z0F (z02 2))))
def z1b:List D->Ow->R D:=(z1H 4 z8e)
theorem z7K:z0a ["_law_n", "_law_point", "_law_found", "_law_k"] ["_law_n", "_law_point"] (z05 (top 42)):=fnS rfl rfl rfl (by kernel_rfl)
theorem z70 (T:Txt K mg):Callee P w K mg base "_law_bits" 1 2 z1b:=
 Callee.self (fnC (k:=0) T.d__law_bits z7K (fun _ _ _ _ _ _ us hl=>match us,hl with|[_,_],_=>rfl) fun f cdv A outer s H E hr=>
  ((z04 (by walk_at "s") (z04 (by walk_at "s") (z08 (by walk_at "s"))))))
def z7E:DS:=
 (z0n (z0A 1 (z1q (z01 (dC (.str [])) z03))) (z0n (z63 (z14 (z01 (z02 0) z03)) (.one 2) (z0n (z0A 3 (z1q z03)) (z0n (z63 (dIt (z02 1)) (.one 4) (z0A 3 (dOp z2G (z02 3) (z0i false 1 (dIt (dC (.str [45,48,49]))) (.one 5) [] [] (dOp z2G (z02 4) (z02 5)))))) (z0A 1 (z02 3))))) (z0F (z02 1))))
def z0H:List D->Ow->R D:=(z1H 5 z7E)
theorem z6i:z0a ["_law_n", "_law_found", "_law_turn", "_law_longer", "_law_text"] ["_law_n"] (z05 (top 45)):=fnS rfl rfl rfl (by kernel_rfl)
theorem z6x (T:Txt K mg):Callee P w K mg base "_law_terms" 1 1 z0H:=
 Callee.self (fnC (k:=0) T.d__law_terms z6i (fun _ _ _ _ _ _ us hl=>match us,hl with|[_],_=>rfl) fun f cdv A outer s H E hr=>
  (have x0:Nx ["_law_sign"]:=⟨⟩;(z04 (by walk_at "s") (z04 (by walk_at "s") (z08 (by walk_at "s"))))))
def z2A:DS:=
 (z0F (zhC [(2,1),(4,2),(8,3),(16,4)] (z06 z1r (z01 (z02 0) z03))))
def z0Z:List D->Ow->R D:=(z1H 1 z2A)
theorem z4d:z0a ["_law_function_here"] ["_law_function_here"] (z05 (top 47)):=fnS rfl rfl rfl (by kernel_rfl)
theorem z4e (T:Txt K mg):Callee P w K mg base "_law_switches" 1 1 z0Z:=
 Callee.self (fnC (k:=0) T.d__law_switches z4d (fun _ _ _ _ _ _ us hl=>match us,hl with|[_],_=>rfl) fun f cdv A outer s H E hr=>
  ((z08 (by delta z2A;walk_at "s"))))
def z4W:DS:=
 (z0F (z0i false 1 (z14 (z01 (z06 z1r (z01 (z02 0) z03)) z03)) (.one 1) [(z0k (dOp (fPy eqF) (dOp fIx (z02 0) (z02 1)) (dC (.int 1))))] [] (z02 1)))
def z10:List D->Ow->R D:=(z1H 1 z4W)
theorem z7P:z0a ["_law_function_here"] ["_law_function_here"] (z05 (top 49)):=fnS rfl rfl rfl (by kernel_rfl)
theorem z7T (T:Txt K mg):Callee P w K mg base "_law_ones" 1 1 z10:=
 Callee.self (fnC (k:=0) T.d__law_ones z7P (fun _ _ _ _ _ _ us hl=>match us,hl with|[_],_=>rfl) fun f cdv A outer s H E hr=>
  (have x0:Nx ["_law_point"]:=⟨⟩;(z08 (by delta z4W;walk_at "s"))))
def z42:DS:=
 (z0F (z06 ziZ (z01 (z0i false 1 (dIt (z02 0)) (.one 1) [] [] (z06 z1r (z01 (zfs [45] [] (z02 1)) z03))) z03)))
def z0B:List D->Ow->R D:=(z1H 1 z42)
theorem z6e:z0a ["_law_form"] ["_law_form"] (z05 (top 51)):=fnS rfl rfl rfl (by kernel_rfl)
theorem z68 (T:Txt K mg):Callee P w K mg base "_law_signs" 1 1 z0B:=
 Callee.self (fnC (k:=0) T.d__law_signs z6e (fun _ _ _ _ _ _ us hl=>match us,hl with|[_],_=>rfl) fun f cdv A outer s H E hr=>
  (have x0:Nx ["_law_term_here"]:=⟨⟩;(z08 (by delta z42;walk_at "s"))))
def z8j (F:List D->Ow->R D):DS:=
 (z0n (sIf (z1g (zan "tuple" "list" (z02 1))) (z0n (sIf (z6Z (z0k (dOp (fPy neF) (z2V "tuple" (z02 0)) (z2V "tuple" (z02 1)))) (z0k (dOp (fPy neF) (z2V "list" (z02 0)) (z2V "list" (z02 1))))) (z0F (dC (.bl false))) z1z) (z0n (sIf (z0k (dOp (fPy neF) (z06 z1r (z01 (z02 0) z03)) (z06 z1r (z01 (z02 1) z03)))) (z0F (dC (.bl false))) z1z) (z0F (z06 zcC (z01 (z0i false 2 (zdZ (z01 (z02 0) (z01 (z02 1) z03))) (.two 2 3) [] [] (dFn 2 F (z01 (z02 2) (z01 (z02 3) z03)))) z03))))) z1z) (z0F (ze2 (dOp (fPy eqF) (z02 0) (z02 1)) (dOp (fPy eqF) (z2V "bool" (z02 0)) (z2V "bool" (z02 1))))))
def z0C:Nat->List D->Ow->R D
 | 0=>fun _ _=>.bad
 | k + 1=>(z1H 2 (z8j (z0C k)))
theorem z41:z0a ["_law_found", "_law_due"] ["_law_found", "_law_due"] (z05 (top 52)):=fnS rfl rfl rfl (by kernel_rfl)
theorem z3e (T:Txt K mg):∀ k,Callee P w K mg base "_law_same" (1 + k) 2 (z0C k)
 | 0=>Callee.bad (F:=z1H 2 ziU) (fnC T.d__law_same z41 (fun _ _ _ _ _ _ us hl=>match us,hl with|[_,_],_=>rfl) fun f cdv A outer s H E hr=>z9R)
 | k + 1=>Callee.self (fnC (k:=1 + k) T.d__law_same z41 (fun _ _ _ _ _ _ us hl=>match us,hl with|[_,_],_=>rfl) fun f cdv A outer s H E hr=>
  have c_self:=z3e T k
  (have x0:Nx ["_law_one", "_law_other"]:=⟨⟩;(z04 (by walk_at "s") (z08 (by walk_at "s")))))
def z1s:List D->Ow->R D:=z0C 4
theorem z79 (T:Txt K mg):Callee P w K mg base "_law_same" 5 2 z1s:=z3e T 4
def z2g:DS:=
 (z0F (ze2 (dFn 1 z3G (z01 (z02 0) z03)) (zcf fLe fLe (z02 1) (z02 0) (z02 2))))
def z1t:List D->Ow->R D:=(z1H 3 z2g)
theorem z3m:z0a ["thing", "least", "most"] ["thing", "least", "most"] (z05 (top 5)):=fnS rfl rfl rfl (by kernel_rfl)
theorem z3z (T:Txt K mg):Callee P w K mg base "is_whole_within" 2 3 z1t:=
 Callee.self (fnC (k:=1) T.d_is_whole_within z3m (fun _ _ _ _ _ _ us hl=>match us,hl with|[_,_,_],_=>rfl) fun f cdv A outer s H E hr=>
  ((z08 (by delta z2g;walk_at "s"))))
def z8Y:DS:=
 (z0n (z0A 1 (z1q (z01 (dC (.int 0)) z03))) (z0n (z63 (dIt (z02 0)) (.one 2) (z0A 1 (z0i false 2 (dIt (z02 1)) (.one 3) [] (⟨(dIt (dFn 1 z4D (z01 (z02 2) z03))),(.one 4),[]⟩ :: []) (dOp z2G (dOp (fI z7D) (dC (.int 2)) (z02 3)) (z02 4))))) (z0F (z02 1))))
def z0w:List D->Ow->R D:=(z1H 3 z8Y)
theorem z7i:z0a ["term", "points", "sign"] ["term"] (z05 (top 17)):=fnS rfl rfl rfl (by kernel_rfl)
theorem z7X (T:Txt K mg):Callee P w K mg base "points_of" 2 1 z0w:=
 Callee.self (fnC (k:=1) T.d_points_of z7i (fun _ _ _ _ _ _ us hl=>match us,hl with|[_],_=>rfl) fun f cdv A outer s H E hr=>
  (have x0:Nx ["point", "bit"]:=⟨⟩;(z04 (by walk_at "s") (z04 (by walk_at "s") (z08 (by walk_at "s"))))))
def z1R:DS:=
 (z0n (sIf (z6Z (z0k (dOp fGt (dFn 1 z0V (z01 (z02 0) z03)) (dFn 1 z0V (z01 (z02 1) z03)))) (z1B (z1g (z06 zcC (z01 (z0i false 1 (dIt (z21 (z02 2) (z02 1))) (.one 3) [] [] (dOp fIn (z02 3) (z21 (z02 2) (z02 0)))) z03))))) (z0F (dC (.bl false))) z1z) (z0F (dOr (dOp (fPy neF) (z21 (z02 2) (z02 0)) (z21 (z02 2) (z02 1))) (dOr (dOp z9X (dFn 1 z0V (z01 (z02 0) z03)) (dFn 1 z0V (z01 (z02 1) z03))) (dOp z9X (z02 0) (z02 1))))))
def z0E:List D->Ow->R D:=(z1H 3 z1R)
theorem z4n:z0a ["other", "term", "held"] ["other", "term", "held"] (z05 (top 33)):=fnS rfl rfl rfl (by kernel_rfl)
theorem z4g (T:Txt K mg):Callee P w K mg base "makes_term_go" 2 3 z0E:=
 Callee.self (fnC (k:=1) T.d_makes_term_go z4n (fun _ _ _ _ _ _ us hl=>match us,hl with|[_,_,_],_=>rfl) fun f cdv A outer s H E hr=>
  (have x0:Nx ["point"]:=⟨⟩;(z04 (by walk_at "s") (z08 (by walk_at "s")))))
def z7N:DS:=
 (z0n (z0A 2 (dFn 2 z16 (z01 (z02 0) (z01 (z02 1) z03)))) (z0n (sIf (z0k (dOp fGe (z02 2) (dOp (fI zau) (dC (.int 10)) (dC (.int 18))))) (z0F (z2R (z01 (dOp (fI zaC) (z02 2) (dOp (fI zau) (dC (.int 10)) (dC (.int 18)))) (z01 (dC (.bl true)) z03)))) z1z) (z0F (z2R (z01 (dOp (fI z5D) (z02 2) (dC (.int 2147483647))) (z01 (dC (.bl false)) z03))))))
def z1D:List D->Ow->R D:=(z1H 3 z7N)
theorem z6F:z0a ["_law_script", "_law_k", "_law_cell"] ["_law_script", "_law_k"] (z05 (top 39)):=fnS rfl rfl rfl (by kernel_rfl)
theorem z6Q (T:Txt K mg):Callee P w K mg base "_law_state" 2 2 z1D:=
 Callee.self (fnC (k:=1) T.d__law_state z6F (fun _ _ _ _ _ _ us hl=>match us,hl with|[_,_],_=>rfl) fun f cdv A outer s H E hr=>
  ((z04 (by walk_at "s") (z04 (by walk_at "s") (z08 (by walk_at "s"))))))
def z4X:DS:=
 (z0F (zde (dC (.str [])) (z01 (z0i false 1 (z14 (z01 (z02 1) z03)) (.one 2) [] [] (dOp fIx (dC (.str [48,49,45,45])) (dFn 2 z0l (z01 (z02 0) (z01 (dC (.int 4)) z03))))) z03)))
def z1S:List D->Ow->R D:=(z1H 2 z4X)
theorem z7d:z0a ["_law_state_here", "_law_n"] ["_law_state_here", "_law_n"] (z05 (top 41)):=fnS rfl rfl rfl (by kernel_rfl)
theorem z7F (T:Txt K mg):Callee P w K mg base "_law_term" 2 2 z1S:=
 Callee.self (fnC (k:=1) T.d__law_term z7d (fun _ _ _ _ _ _ us hl=>match us,hl with|[_,_],_=>rfl) fun f cdv A outer s H E hr=>
  (have x0:Nx ["_law_k"]:=⟨⟩;(z08 (by delta z4X;walk_at "s"))))
def z3g:DS:=
 (z0n (z0A 1 (z2R z03)) (z0n (z63 (z14 (z01 (dOp (fI z87) (dC (.int 1)) (z06 z1r (z01 (z02 0) z03))) z03)) (.one 2) (z0n (z0A 3 (dFn 2 z1b (z01 (z06 z1r (z01 (z02 0) z03)) (z01 (z02 2) z03)))) (sIf (z0k (dOp (fPy eqF) (z0i false 1 (z14 (z01 (z06 z1r (z01 (z02 0) z03)) z03)) (.one 4) [(z0k (dOp z3W (dOp fIx (z02 0) (z02 4)) (z2T (z01 (dC (.str [45])) (z01 (dOp fIx (z02 3) (z02 4)) z03)))))] [] (z02 4)) (z1q z03))) (z20 (zal (z02 1) (z01 (z02 2) z03))) z1z))) (z0F (z02 1))))
def z0c:List D->Ow->R D:=zfB (z1H 4 z3g)
theorem z5G:z0a ["_law_term_here", "_law_found", "_law_point", "_law_bits_here"] ["_law_term_here"] (z05 (top 43)):=fnS rfl rfl rfl (by kernel_rfl)
theorem z5I (T:Txt K mg):Callee P w K mg base "_law_points" 2 1 z0c:=
 Callee.frz (fnC (k:=1) T.d__law_points z5G (fun _ _ _ _ _ _ us hl=>match us,hl with|[_],_=>rfl) fun f cdv A outer s H E hr=>
  (have x0:Nx ["_law_k"]:=⟨⟩;(z04 (by walk_at "s") (z04 (by walk_at "s") (z08 (by walk_at "s"))))))
def z58:DS:=
 (z0F (dOr (dOp zjj (z02 0) (dC .non)) (dFn 3 z1t (z01 (z02 0) (z01 (dC (.int 0)) (z01 (dC (.int 1)) z03))))))
def z1W:List D->Ow->R D:=(z1H 1 z58)
theorem z7M:z0a ["thing"] ["thing"] (z05 (top 8)):=fnS rfl rfl rfl (by kernel_rfl)
theorem z7q (T:Txt K mg):Callee P w K mg base "is_answer" 3 1 z1W:=
 Callee.self (fnC (k:=2) T.d_is_answer z7M (fun _ _ _ _ _ _ us hl=>match us,hl with|[_],_=>rfl) fun f cdv A outer s H E hr=>
  ((z08 (by delta z58;walk_at "s"))))
def z2K:DS:=
 (z0F (z0i false 1 (dIt (z02 0)) (.one 2) [(z0k (dOp fIn (z02 1) (dFn 1 z0w (z01 (z02 2) z03))))] [] (z02 2)))
def z0j:List D->Ow->R D:=(z1H 2 z2K)
theorem z4m:z0a ["terms", "point"] ["terms", "point"] (z05 (top 20)):=fnS rfl rfl rfl (by kernel_rfl)
theorem z49 (T:Txt K mg):Callee P w K mg base "terms_holding" 3 2 z0j:=
 Callee.self (fnC (k:=2) T.d_terms_holding z4m (fun _ _ _ _ _ _ us hl=>match us,hl with|[_,_],_=>rfl) fun f cdv A outer s H E hr=>
  (have x0:Nx ["term"]:=⟨⟩;(z08 (by delta z2K;walk_at "s"))))
def z2l:DS:=
 (z0F (z06 zcC (z01 (z0i false 1 (dIt (dFn 1 z0w (z01 (z02 1) z03))) (.one 2) [] [] (dOp (fPy neF) (dOp fIx (z02 0) (z02 2)) (dC (.int 0)))) z03)))
def z0q:List D->Ow->R D:=(z1H 2 z2l)
theorem z38:z0a ["function", "term"] ["function", "term"] (z05 (top 22)):=fnS rfl rfl rfl (by kernel_rfl)
theorem z3f (T:Txt K mg):Callee P w K mg base "holds_no_nought" 3 2 z0q:=
 Callee.self (fnC (k:=2) T.d_holds_no_nought z38 (fun _ _ _ _ _ _ us hl=>match us,hl with|[_,_],_=>rfl) fun f cdv A outer s H E hr=>
  (have x0:Nx ["point"]:=⟨⟩;(z08 (by delta z2l;walk_at "s"))))
def z3d:DS:=
 (z0F (z06 zao (z01 (z0i false 1 (dIt (dFn 1 z0w (z01 (z02 1) z03))) (.one 2) [] [] (dOp (fPy eqF) (dOp fIx (z02 0) (z02 2)) (dC (.int 1)))) z03)))
def z1k:List D->Ow->R D:=(z1H 2 z3d)
theorem z5u:z0a ["function", "term"] ["function", "term"] (z05 (top 23)):=fnS rfl rfl rfl (by kernel_rfl)
theorem z5i (T:Txt K mg):Callee P w K mg base "holds_a_one" 3 2 z1k:=
 Callee.self (fnC (k:=2) T.d_holds_a_one z5u (fun _ _ _ _ _ _ us hl=>match us,hl with|[_,_],_=>rfl) fun f cdv A outer s H E hr=>
  (have x0:Nx ["point"]:=⟨⟩;(z08 (by delta z3d;walk_at "s"))))
def z45:DS:=
 (z0n (z0A 2 (z46 1 (dIt (z02 1)) (.one 4) [] [] (z02 4) (z0i false 1 (dIt (dFn 1 z0w (z01 (z02 4) z03))) (.one 5) [(z0k (dOp fIn (z02 5) (z02 0)))] [] (z02 5)))) (z0n (z0A 3 (z0i false 1 (dIt (z02 1)) (.one 4) [(z1g (z21 (z02 2) (z02 4)))] [] (z02 4))) (z0F (z0i false 1 (dIt (z02 3)) (.one 4) [(z1B (z1g (z06 zao (z01 (z0i false 1 (dIt (z02 3)) (.one 5) [] [] (dFn 3 z0E (z01 (z02 5) (z01 (z02 4) (z01 (z02 2) z03))))) z03))))] [] (z02 4)))))
def z1e:List D->Ow->R D:=(z1H 4 z45)
theorem z6L:z0a ["points", "terms", "held", "useful"] ["points", "terms"] (z05 (top 34)):=fnS rfl rfl rfl (by kernel_rfl)
theorem z6c (T:Txt K mg):Callee P w K mg base "kept_terms" 3 2 z1e:=
 Callee.self (fnC (k:=2) T.d_kept_terms z6L (fun _ _ _ _ _ _ us hl=>match us,hl with|[_,_],_=>rfl) fun f cdv A outer s H E hr=>
  (have x0:Nx ["point"]:=⟨⟩;have x1:Nx ["term"]:=⟨⟩;have x2:Nx ["other"]:=⟨⟩;(z04 (by walk_at "s") (z04 (by walk_at "s") (z08 (by walk_at "s"))))))
def z5d:DS:=
 (z0n (z0A 1 (dOp fIx (z1q (z01 (dC (.int 4)) (z01 (dC (.int 3)) (z01 (dC (.int 3)) (z01 (dC (.int 2)) (z01 (dC (.int 4)) (z01 (dC (.int 3)) (z01 (dC (.int 4)) (z01 (dC (.int 1)) z03))))))))) (dFn 2 z0l (z01 (z02 0) (z01 (dC (.int 8)) z03))))) (z0n (z0A 2 (dFn 2 z0l (z01 (z02 0) (z01 (dC (.int 6)) z03)))) (z0n (sIf (z0k (dOp fLt (z02 2) (dC (.int 4)))) (z0n (z0A 3 (dOp fIx (z1q (z01 (z1q (z01 (dC (.int 0)) (z01 (dC (.int 1)) z03))) (z01 (z1q (z01 (dC (.int 0)) (z01 (dC (.int 1)) (z01 (dC .non) z03)))) (z01 (z1q (z01 (dC (.int 0)) (z01 (dC (.int 0)) (z01 (dC (.int 0)) (z01 (dC (.int 1)) (z01 (dC .non) z03)))))) (z01 (z1q (z01 (dC (.int 1)) (z01 (dC (.int 1)) (z01 (dC (.int 1)) (z01 (dC (.int 0)) (z01 (dC .non) z03)))))) z03))))) (z02 2))) (z0F (z06 z0P (z01 (z0i false 1 (z14 (z01 (dOp (fI z87) (dC (.int 1)) (z02 1)) z03)) (.one 7) [] [] (dOp fIx (z02 3) (dFn 2 z0l (z01 (z02 0) (z01 (z06 z1r (z01 (z02 3) z03)) z03))))) z03)))) z1z) (z0n (z0A 4 (z1q z03)) (z0n (z63 (z14 (z01 (dOp z2G (dC (.int 1)) (dFn 2 z0l (z01 (z02 0) (z01 (dC (.int 5)) z03)))) z03)) (.one 5) (z0A 4 (dOp z2G (z02 4) (dFn 1 z0c (z01 (dFn 2 z1S (z01 (z02 0) (z01 (z02 1) z03))) z03))))) (z0n (z0A 6 (z0i true 1 (z14 (z01 (dOp (fI z87) (dC (.int 1)) (z02 1)) z03)) (.one 7) [] [] (z06 z8O (z01 (dOp fIn (z02 7) (z02 4)) z03)))) (z0n (sIf (z0k (dOp (fPy eqF) (z02 2) (dC (.int 5)))) (zcz (dC .non) (z02 6) (dFn 2 z0l (z01 (z02 0) (z01 (dOp (fI z87) (dC (.int 1)) (z02 1)) z03)))) z1z) (z0F (z06 z0P (z01 (z02 6) z03))))))))))
def z0Y:List D->Ow->R D:=zfB (z1H 7 z5d)
theorem z4j:z0a ["_law_state_here", "_law_n", "_law_way", "_law_some", "_law_held", "_law_turn", "_law_found"] ["_law_state_here"] (z05 (top 44)):=fnS rfl rfl rfl (by kernel_rfl)
theorem z4k (T:Txt K mg):Callee P w K mg base "_law_function" 3 1 z0Y:=
 Callee.frz (fnC (k:=2) T.d__law_function z4j (fun _ _ _ _ _ _ us hl=>match us,hl with|[_],_=>rfl) fun f cdv A outer s H E hr=>
  (have x0:Nx ["_law_point"]:=⟨⟩;(z04 (by walk_at "s") (z04 (by walk_at "s") (z04 (by walk_at "s") (z04 (by walk_at "s") (z04 (by walk_at "s") (z04 (by walk_at "s") (z04 (by walk_at "s") (z08 (by walk_at "s")))))))))))
def z59:DS:=
 (z0F (dOp (fPy eqF) (z0i false 1 (dIt (dFn 1 z0c (z01 (z02 1) z03))) (.one 2) [(z0k (dOp (fPy eqF) (dOp fIx (z02 0) (z02 2)) (dC (.int 0))))] [] (z02 2)) (z1q z03)))
def z0J:List D->Ow->R D:=(z1H 2 z59)
theorem z7S:z0a ["_law_function_here", "_law_term_here"] ["_law_function_here", "_law_term_here"] (z05 (top 46)):=fnS rfl rfl rfl (by kernel_rfl)
theorem z7H (T:Txt K mg):Callee P w K mg base "_law_good" 3 2 z0J:=
 Callee.self (fnC (k:=2) T.d__law_good z7S (fun _ _ _ _ _ _ us hl=>match us,hl with|[_,_],_=>rfl) fun f cdv A outer s H E hr=>
  (have x0:Nx ["_law_point"]:=⟨⟩;(z08 (by delta z59;walk_at "s"))))
def z2X:DS:=
 (z0F (z0i false 1 (dIt (z02 0)) (.one 2) [(z0k (dOp fIn (z02 1) (dFn 1 z0c (z01 (z02 2) z03))))] [] (z02 2)))
def z0h:List D->Ow->R D:=(z1H 2 z2X)
theorem z5f:z0a ["_law_terms_here", "_law_point"] ["_law_terms_here", "_law_point"] (z05 (top 50)):=fnS rfl rfl rfl (by kernel_rfl)
theorem z57 (T:Txt K mg):Callee P w K mg base "_law_holding" 3 2 z0h:=
 Callee.self (fnC (k:=2) T.d__law_holding z5f (fun _ _ _ _ _ _ us hl=>match us,hl with|[_,_],_=>rfl) fun f cdv A outer s H E hr=>
  (have x0:Nx ["_law_term_here"]:=⟨⟩;(z08 (by delta z2X;walk_at "s"))))
def z2u:DS:=
 (z0n (z0A 3 (z0i false 1 (dIt (z02 0)) (.one 7) [(z0k (dOp fIn (z02 7) (dFn 1 z0c (z01 (z02 2) z03))))] [] (z02 7))) (z0n (sIf (z0k (dOp (fPy eqF) (z02 3) (z1q z03))) (z0F (dC (.bl true))) z1z) (z0n (z63 (dIt (z02 1)) (.one 4) (z0n (z0A 5 (z0i false 1 (dIt (z02 0)) (.one 7) [(z0k (dOp fIn (z02 7) (dFn 1 z0c (z01 (z02 4) z03))))] [] (z02 7))) (sIf (z1P (z0k (dOp (fPy neF) (z02 4) (z02 2))) (z0k (dOp (fPy eqF) (z0i false 1 (dIt (z02 3)) (.one 7) [(z0k (dOp z3W (z02 7) (z02 5)))] [] (z02 7)) (z1q z03)))) (z0n (z0A 6 (dOp (fI zaC) (dFn 1 z0B (z01 (z2T (z01 (z02 4) z03)) z03)) (dFn 1 z0B (z01 (z2T (z01 (z02 2) z03)) z03)))) (sIf (z6Z (z0k (dOp z9X (z02 6) (dC (.int 0)))) (z1P (z0k (dOp (fPy eqF) (z02 6) (dC (.int 0)))) (z6Z (z0k (dOp (fPy neF) (z02 5) (z02 3))) (z0k (dOp z9X (z02 4) (z02 2)))))) (z0F (dC (.bl true))) z1z)) z1z))) (z0F (dC (.bl false))))))
def z0T:List D->Ow->R D:=(z1H 7 z2u)
theorem z3T:z0a ["_law_points_here", "_law_terms_here", "_law_term_here", "_law_own", "_law_other", "_law_some", "_law_less"] ["_law_points_here", "_law_terms_here", "_law_term_here"] (z05 (top 54)):=fnS rfl rfl rfl (by kernel_rfl)
theorem z3H (T:Txt K mg):Callee P w K mg base "_law_term_goes" 3 3 z0T:=
 Callee.self (fnC (k:=2) T.d__law_term_goes z3T (fun _ _ _ _ _ _ us hl=>match us,hl with|[_,_,_],_=>rfl) fun f cdv A outer s H E hr=>
  (have x0:Nx ["_law_point"]:=⟨⟩;(z04 (by walk_at "s") (z04 (by walk_at "s") (z04 (by walk_at "s") (z08 (by walk_at "s")))))))
def z6A:DS:=
 (z0n (sIf (z6Z (z1B (z1g (z2V "tuple" (z02 0)))) (z0k (z3b true z09 (z06 z1r (z01 (z02 0) z03))))) (z0F (dC (.bl false))) z1z) (z0F (z06 zcC (z01 (z0i false 1 (dIt (z02 0)) (.one 1) [] [] (dFn 1 z1W (z01 (z02 1) z03))) z03))))
def z1h:List D->Ow->R D:=(z1H 1 z6A)
theorem z5p:z0a ["thing"] ["thing"] (z05 (top 9)):=fnS rfl rfl rfl (by kernel_rfl)
theorem z5l (T:Txt K mg):Callee P w K mg base "is_function" 4 1 z1h:=
 Callee.self (fnC (k:=3) T.d_is_function z5p (fun _ _ _ _ _ _ us hl=>match us,hl with|[_],_=>rfl) fun f cdv A outer s H E hr=>
  (have x0:Nx ["answer"]:=⟨⟩;(z04 (by walk_at "s") (z08 (by walk_at "s")))))
def z1u:DS:=
 (z0F (ze2 (dOp (fPy neF) (dOp fIx (z02 1) (z02 2)) (dC (.str [45]))) (dFn 2 z0q (z01 (z02 0) (z01 (dFn 3 z1Y (z01 (z02 1) (z01 (z02 2) (z01 (dC (.str [45])) z03)))) z03)))))
def z18:List D->Ow->R D:=(z1H 3 z1u)
theorem z4U:z0a ["function", "term", "switch"] ["function", "term", "switch"] (z05 (top 25)):=fnS rfl rfl rfl (by kernel_rfl)
theorem z4M (T:Txt K mg):Callee P w K mg base "can_widen_at" 4 3 z18:=
 Callee.self (fnC (k:=3) T.d_can_widen_at z4U (fun _ _ _ _ _ _ us hl=>match us,hl with|[_,_,_],_=>rfl) fun f cdv A outer s H E hr=>
  ((z08 (by delta z1u;walk_at "s"))))
def z2U:DS:=
 (z0n (z0A 2 (z0i false 1 (dIt (z02 0)) (.one 3) [] [] (z2T (z01 (z02 3) (z01 (dFn 2 z0j (z01 (z02 1) (z01 (z02 3) z03))) z03))))) (z0F (z0i false 2 (dIt (z02 2)) (.two 3 4) [(z0k (dOp (fPy eqF) (z06 z1r (z01 (z02 4) z03)) (dC (.int 1))))] [] (z2T (z01 (z02 3) (z01 (dOp fIx (z02 4) (dC (.int 0))) z03))))))
def z17:List D->Ow->R D:=(z1H 3 z2U)
theorem z4R:z0a ["points", "terms", "holders"] ["points", "terms"] (z05 (top 29)):=fnS rfl rfl rfl (by kernel_rfl)
theorem z4T (T:Txt K mg):Callee P w K mg base "sole_holders" 4 2 z17:=
 Callee.self (fnC (k:=3) T.d_sole_holders z4R (fun _ _ _ _ _ _ us hl=>match us,hl with|[_,_],_=>rfl) fun f cdv A outer s H E hr=>
  (have x0:Nx ["point"]:=⟨⟩;have x1:Nx ["point", "held_by"]:=⟨⟩;(z04 (by walk_at "s") (z08 (by walk_at "s")))))
def z3q:DS:=
 (z0n (z0A 2 (z46 1 (dIt (z02 0)) (.one 3) [] [] (z02 3) (dFn 2 z0j (z01 (z02 1) (z01 (z02 3) z03))))) (z0F (z0i false 1 (dIt (z02 0)) (.one 3) [(z1B (z1g (z06 zao (z01 (z0i false 1 (dIt (z02 0)) (.one 4) [] [] (dFn 3 z0z (z01 (z02 4) (z01 (z02 3) (z01 (z02 2) z03))))) z03))))] [] (z02 3))))
def z1N:List D->Ow->R D:=(z1H 3 z3q)
theorem z5s:z0a ["points", "terms", "holders"] ["points", "terms"] (z05 (top 32)):=fnS rfl rfl rfl (by kernel_rfl)
theorem z5A (T:Txt K mg):Callee P w K mg base "kept_points" 4 2 z1N:=
 Callee.self (fnC (k:=3) T.d_kept_points z5s (fun _ _ _ _ _ _ us hl=>match us,hl with|[_,_],_=>rfl) fun f cdv A outer s H E hr=>
  (have x0:Nx ["point"]:=⟨⟩;have x1:Nx ["other"]:=⟨⟩;(z04 (by walk_at "s") (z08 (by walk_at "s")))))
def z2I:DS:=
 (z0n (z0A 1 (z2R z03)) (z0n (z63 (dIt (dFn 1 z0H (z01 (dFn 1 z0Z (z01 (z02 0) z03)) z03))) (.one 2) (z0n (z0A 3 (z0i false 1 (dIt (dFn 1 z0c (z01 (z02 2) z03))) (.one 5) [(z0k (dOp (fPy eqF) (dOp fIx (z02 0) (z02 5)) (dC (.int 1))))] [] (z02 5))) (sIf (z1P (z0k (dOp (fPy neF) (z02 3) (z1q z03))) (z1g (dFn 2 z0J (z01 (z02 0) (z01 (z02 2) z03))))) (z0n (z0A 4 (z0i false 1 (z14 (z01 (z06 z1r (z01 (z02 2) z03)) z03)) (.one 5) [(z0k (dOp (fPy neF) (dOp fIx (z02 2) (z02 5)) (dC (.str [45]))))] [] (dOp z2G (dOp z2G (dSl (z02 2) z7u (z8p (z02 5))) (dC (.str [45]))) (dSl (z02 2) (z8p (dOp z2G (z02 5) (dC (.int 1)))) z7u)))) (sIf (z0k (dOp (fPy eqF) (z0i false 1 (dIt (z02 4)) (.one 5) [(z1g (dFn 2 z0J (z01 (z02 0) (z01 (z02 5) z03))))] [] (z02 5)) (z1q z03))) (z20 (zal (z02 1) (z01 (z02 2) z03))) z1z)) z1z))) (z0F (z02 1))))
def z0r:List D->Ow->R D:=zfB (z1H 5 z2I)
theorem z4f:z0a ["_law_function_here", "_law_found", "_law_term_here", "_law_ones_here", "_law_wider"] ["_law_function_here"] (z05 (top 48)):=fnS rfl rfl rfl (by kernel_rfl)
theorem z4c (T:Txt K mg):Callee P w K mg base "_law_greatest" 4 1 z0r:=
 Callee.frz (fnC (k:=3) T.d__law_greatest z4f (fun _ _ _ _ _ _ us hl=>match us,hl with|[_],_=>rfl) fun f cdv A outer s H E hr=>
  (have x0:Nx ["_law_point"]:=⟨⟩;have x1:Nx ["_law_k"]:=⟨⟩;have x2:Nx ["_law_other"]:=⟨⟩;(z04 (by walk_at "s") (z04 (by walk_at "s") (z08 (by walk_at "s"))))))
def z2c:DS:=
 (z0n (z0A 3 (dFn 2 z0h (z01 (z02 1) (z01 (z02 2) z03)))) (z0n (z63 (dIt (z02 0)) (.one 4) (z0n (z0A 5 (dFn 2 z0h (z01 (z02 1) (z01 (z02 4) z03)))) (sIf (z1P (z0k (dOp (fPy neF) (z02 4) (z02 2))) (z1P (z0k (dOp (fPy eqF) (z0i false 1 (dIt (z02 5)) (.one 6) [(z0k (dOp z3W (z02 6) (z02 3)))] [] (z02 6)) (z1q z03))) (z6Z (z0k (dOp (fPy neF) (z02 5) (z02 3))) (z0k (dOp fLt (z02 4) (z02 2)))))) (z0F (dC (.bl true))) z1z))) (z0F (dC (.bl false)))))
def z0N:List D->Ow->R D:=(z1H 6 z2c)
theorem z37:z0a ["_law_points_here", "_law_terms_here", "_law_point", "_law_own", "_law_other", "_law_some"] ["_law_points_here", "_law_terms_here", "_law_point"] (z05 (top 53)):=fnS rfl rfl rfl (by kernel_rfl)
theorem z3n (T:Txt K mg):Callee P w K mg base "_law_point_goes" 4 3 z0N:=
 Callee.self (fnC (k:=3) T.d__law_point_goes z37 (fun _ _ _ _ _ _ us hl=>match us,hl with|[_,_,_],_=>rfl) fun f cdv A outer s H E hr=>
  (have x0:Nx ["_law_term_here"]:=⟨⟩;(z04 (by walk_at "s") (z04 (by walk_at "s") (z08 (by walk_at "s"))))))
def z2M:DS:=
 (sIf (z1B (z1g (dFn 1 z1h (z01 (z02 0) z03)))) ziU z1z)
def z0M:List D->Ow->R D:=(z1H 1 z2M)
theorem z4h:z0a ["thing"] ["thing"] (z05 (top 10)):=fnS rfl rfl rfl (by kernel_rfl)
theorem z4l (T:Txt K mg):Callee P w K mg base "need_function" 5 1 z0M:=
 Callee.self (fnC (k:=4) T.d_need_function z4h (fun _ _ _ _ _ _ us hl=>match us,hl with|[_],_=>rfl) fun f cdv A outer s H E hr=>
  ((z08 (by delta z2M;walk_at "s"))))
def z2m:DS:=
 (z0F (zhe (z06 zao (z01 (z0i false 1 (z14 (z01 (z06 z1r (z01 (z02 1) z03)) z03)) (.one 2) [] [] (dFn 3 z18 (z01 (z02 0) (z01 (z02 1) (z01 (z02 2) z03))))) z03))))
def z1X:List D->Ow->R D:=(z1H 2 z2m)
theorem z7g:z0a ["function", "term"] ["function", "term"] (z05 (top 26)):=fnS rfl rfl rfl (by kernel_rfl)
theorem z75 (T:Txt K mg):Callee P w K mg base "is_widest" 5 2 z1X:=
 Callee.self (fnC (k:=4) T.d_is_widest z7g (fun _ _ _ _ _ _ us hl=>match us,hl with|[_,_],_=>rfl) fun f cdv A outer s H E hr=>
  (have x0:Nx ["switch"]:=⟨⟩;(z08 (by delta z2m;walk_at "s"))))
def z3j:DS:=
 (z0F (z8H false 2 (dIt (dFn 2 z17 (z01 (z02 0) (z01 (z02 1) z03)))) (.two 2 3) [] [] (z02 3)))
def z1O:List D->Ow->R D:=(z1H 2 z3j)
theorem z5E:z0a ["points", "terms"] ["points", "terms"] (z05 (top 30)):=fnS rfl rfl rfl (by kernel_rfl)
theorem z5F (T:Txt K mg):Callee P w K mg base "terms_alone" 5 2 z1O:=
 Callee.self (fnC (k:=4) T.d_terms_alone z5E (fun _ _ _ _ _ _ us hl=>match us,hl with|[_,_],_=>rfl) fun f cdv A outer s H E hr=>
  (have x0:Nx ["point", "term"]:=⟨⟩;(z08 (by delta z3j;walk_at "s"))))
def z2L:DS:=
 (z0n (z0A 3 (z2R z03)) (z0n (z63 (dIt (z02 1)) (.one 4) (z0n (z0A 5 (dFn 2 z0h (z01 (z02 2) (z01 (z02 4) z03)))) (sIf (z1P (z0k (dOp (fPy eqF) (z06 z1r (z01 (z02 5) z03)) (dC (.int 1)))) (z0k (dOp z3W (dOp fIx (z02 5) (dC (.int 0))) (z02 3)))) (z20 (zal (z02 3) (z01 (dOp fIx (z02 5) (dC (.int 0))) z03))) z1z))) (z0n (z0A 2 (z0i false 1 (dIt (z02 2)) (.one 6) [(z0k (dOp z3W (z02 6) (z02 3)))] [] (z02 6))) (z0n (z0A 1 (z0i false 0 (dIt (z02 1)) (.one 4) [(z0k (dOp (fPy eqF) (dFn 2 z0h (z01 (z02 3) (z01 (z02 4) z03))) (z1q z03)))] [] (z02 4))) (z0n (z0A 1 (z0i false 0 (dIt (z02 1)) (.one 4) [(z1B (z1g (dFn 3 z0N (z01 (z02 1) (z01 (z02 2) (z01 (z02 4) z03))))))] [] (z02 4))) (z0n (z0A 2 (z0i false 1 (dIt (z02 2)) (.one 6) [(z1B (z1g (dFn 3 z0T (z01 (z02 1) (z01 (z02 2) (z01 (z02 6) z03))))))] [] (z02 6))) (z0F (z2T (z01 (z06 z5t (z01 (dOp z2G (z02 0) (z02 3)) z03)) (z01 (z02 1) (z01 (z02 2) z03)))))))))))
def z1A:List D->Ow->R D:=zfB (z1H 6 z2L)
theorem z6C:z0a ["_law_taken", "_law_points_here", "_law_terms_here", "_law_fresh", "_law_point", "_law_some"] ["_law_taken", "_law_points_here", "_law_terms_here"] (z05 (top 55)):=fnS rfl rfl rfl (by kernel_rfl)
theorem z6E (T:Txt K mg):Callee P w K mg base "_law_sweep" 5 3 z1A:=
 Callee.frz (fnC (k:=4) T.d__law_sweep z6C (fun _ _ _ _ _ _ us hl=>match us,hl with|[_,_,_],_=>rfl) fun f cdv A outer s H E hr=>
  (have x0:Nx ["_law_term_here"]:=⟨⟩;have x1:Nx []:=⟨⟩;(z04 (by walk_at "s") (z04 (by walk_at "s") (z04 (by walk_at "s") (z04 (by walk_at "s") (z04 (by walk_at "s") (z04 (by walk_at "s") (z08 (by walk_at "s"))))))))))
def z7n:DS:=
 (z0n (z20 (dFn 1 z0M (z01 (z02 0) z03))) (z0F (z0i false 1 (dIt (dFn 1 z0Q (z01 (dFn 1 z1o (z01 (z02 0) z03)) z03))) (.one 1) [(z1g (dFn 2 z0q (z01 (z02 0) (z01 (z02 1) z03))))] [] (z02 1))))
def z1C:List D->Ow->R D:=(z1H 1 z7n)
theorem z6v:z0a ["function"] ["function"] (z05 (top 24)):=fnS rfl rfl rfl (by kernel_rfl)
theorem z6J (T:Txt K mg):Callee P w K mg base "good_terms" 6 1 z1C:=
 Callee.self (fnC (k:=5) T.d_good_terms z6v (fun _ _ _ _ _ _ us hl=>match us,hl with|[_],_=>rfl) fun f cdv A outer s H E hr=>
  (have x0:Nx ["term"]:=⟨⟩;(z04 (by walk_at "s") (z08 (by walk_at "s")))))
def zbH:DS:=
 (z0n (z0A 2 (dFn 2 z1O (z01 (z02 0) (z01 (z02 1) z03)))) (z0n (z0A 3 (z0i false 1 (dIt (z02 0)) (.one 5) [(z1B (z1g (dFn 2 z0j (z01 (z02 2) (z01 (z02 5) z03)))))] [] (z02 5))) (z0n (z0A 4 (dFn 2 z1N (z01 (z02 3) (z01 (z02 1) z03)))) (z0F (z2T (z01 (z02 2) (z01 (z02 4) (z01 (dFn 2 z1e (z01 (z02 4) (z01 (z02 1) z03))) z03))))))))
def z3P:List D->Ow->R D:=(z1H 5 zbH)
theorem zdd:z0a ["points", "terms", "taken", "open_points", "points_left"] ["points", "terms"] (z05 (top 35)):=fnS rfl rfl rfl (by kernel_rfl)
theorem zdr (T:Txt K mg):Callee P w K mg base "sweep" 6 2 z3P:=
 Callee.self (fnC (k:=5) T.d_sweep zdd (fun _ _ _ _ _ _ us hl=>match us,hl with|[_,_],_=>rfl) fun f cdv A outer s H E hr=>
  (have x0:Nx ["point"]:=⟨⟩;(z04 (by walk_at "s") (z04 (by walk_at "s") (z04 (by walk_at "s") (z08 (by walk_at "s")))))))
def z2P:DS:=
 (z0F (z0i false 1 (dIt (dFn 1 z1C (z01 (z02 0) z03))) (.one 1) [(z1P (z1g (dFn 2 z1k (z01 (z02 0) (z01 (z02 1) z03)))) (z1g (dFn 2 z1X (z01 (z02 0) (z01 (z02 1) z03)))))] [] (z02 1)))
def z2f:List D->Ow->R D:=(z1H 1 z2P)
theorem z8T:z0a ["function"] ["function"] (z05 (top 27)):=fnS rfl rfl rfl (by kernel_rfl)
theorem z8l (T:Txt K mg):Callee P w K mg base "greatest" 7 1 z2f:=
 Callee.self (fnC (k:=6) T.d_greatest z8T (fun _ _ _ _ _ _ us hl=>match us,hl with|[_],_=>rfl) fun f cdv A outer s H E hr=>
  (have x0:Nx ["term"]:=⟨⟩;(z08 (by delta z2P;walk_at "s"))))
def z8z:DS:=
 (z0n (z0A 1 (dFn 1 z2f (z01 (z02 0) z03))) (z0n (z0A 2 (dFn 2 z1l (z01 (z02 0) (z01 (dC (.int 1)) z03)))) (z0n (z0A 3 (z2R z03)) (z0n (z0A 4 (dC (.bl true))) (z0n (z5T 100 (z1g (z02 4)) (z0n (z9Z 5 6 7 (dFn 2 z3P (z01 (z02 2) (z01 (z02 1) z03)))) (z0n (z0A 4 (dOp (fPy neF) (z2T (z01 (z02 6) (z01 (z02 7) z03))) (z2T (z01 (z02 2) (z01 (z02 1) z03))))) (z0n (z20 (zh1 (z02 3) (z01 (z02 5) z03))) (ziY 2 1 (z01 (z02 6) (z01 (z02 7) z03))))))) (z0F (z2T (z01 (z06 z0P (z01 (z06 z5t (z01 (z02 3) z03)) z03)) (z01 (z06 z0P (z01 (z02 2) z03)) (z01 (z06 z0P (z01 (z02 1) z03)) z03))))))))))
def z3M:List D->Ow->R D:=zfB (z1H 8 z8z)
theorem zcK:z0a ["function", "terms", "points", "all_taken", "changes", "taken", "points_left", "terms_left"] ["function"] (z05 (top 36)):=fnS rfl rfl rfl (by kernel_rfl)
theorem zdP (T:Txt K mg):Callee P w K mg base "swept" 8 1 z3M:=
 Callee.frz (fnC (k:=7) T.d_swept zcK (fun _ _ _ _ _ _ us hl=>match us,hl with|[_],_=>rfl) fun f cdv A outer s H E hr=>
  ((z04 (by walk_at "s") (z04 (by walk_at "s") (z04 (by walk_at "s") (z04 (by walk_at "s") (z04 (by walk_at "s") (z08 (by walk_at "s")))))))))
def zjC:DS:=
 (z0n (z63 (z14 (z01 (z06 za8 (z01 (dC (.int 1)) (z01 (z06 zab (z01 (z06 z1r (z01 (z02 0) z03)) (z01 (dC (.int 5)) z03))) z03))) z03)) (.one 1) (z0n (z0A 2 (dFn 2 z1D (z01 (z02 0) (z01 (z02 1) z03)))) (z0n (z0A 3 (dFn 1 z0Y (z01 (z02 2) z03))) (z0n (z0A 4 (z2T (z01 (z1q z03) (z01 (dFn 1 z10 (z01 (z02 3) z03)) (z01 (z06 zey (z01 (dFn 1 z0r (z01 (z02 3) z03)) z03)) z03))))) (z0n (z0A 5 (dC .non)) (z0n (z5T 100 (z0k (dOp (fPy neF) (z02 4) (z02 5))) (z0n (z0A 5 (z02 4)) (z0A 4 (dFn 3 z1A (z01 (dOp fIx (z02 4) (dC (.int 0))) (z01 (dOp fIx (z02 4) (dC (.int 1))) (z01 (dOp fIx (z02 4) (dC (.int 2))) z03))))))) (sIf (z1B (z1g (dFn 2 z1s (z01 (dFn 1 z3M (z01 (z02 3) z03)) (z01 (z2T (z01 (z06 z0P (z01 (dOp fIx (z02 4) (dC (.int 0))) z03)) (z01 (z06 z0P (z01 (dOp fIx (z02 4) (dC (.int 1))) z03)) (z01 (z06 z0P (z01 (dOp fIx (z02 4) (dC (.int 2))) z03)) z03)))) z03))))) (z0F (dC (.bl false))) z1z))))))) (z0F (dC (.bl true))))
def F_law:List D->Ow->R D:=(z1H 6 zjC)
theorem ziL:z0a ["_law_script", "_law_k", "_law_state_here", "_law_function_here", "_law_here", "_law_ahead"] ["_law_script"] (z05 (top 56)):=fnS rfl rfl rfl (by kernel_rfl)
theorem zh4 {f:Addr} {fd:FuncData} (hF:L2.Fun K "law" "law" (top 56) f fd) (T:Txt K mg):FnOk P w K mg base CX0 9 f fd ["_law_script"] (DSp K Ec0 1 F_law):=
 fnD (k:=8) hF ziL fun cdv A outer s H E hr=>
  ((z04 (by walk_at "s") (z08 (by walk_at "s"))))
theorem zhV {f:Addr} {fd:FuncData} (hF:L2.Fun K "law" "law" (top 56) f fd) (T:Txt K mg):FnOk P w K mg base CX0 9 f fd ["_law_script"] (DSp K Ec0 1 F_law):=
 zh4 hF T
end
theorem fa_mk {K:PySem.W.Frag} {h:Heap} {mg:Str->Option Value} (X:K.In h) (G:h.Ns mainGlobals mg) {n:Str} {st:Stmt} {f:Addr} {od an:Option Addr} {sl:Array (Option Value)} {oc kV dc pm ct cd:Value} (a:PySem.W.nsIn K mainGlobals n=some (some (.ref f)))
  (l:K.lookup f=some ⟨oc,od,.func (PySem.W.fnOf n n (z2H st) (z2b st) (z05 st) .none kV dc pm an cd ct),sl⟩) (q:PySem.W.codeIn K cd n=true) (k:PySem.W.keepIn K (.ref f)=true):z0D K mg n st:=⟨f,_,PySem.W.mg_of X G a,zei l q k⟩
theorem gs_mk {K:PySem.W.Frag} {h:Heap} {mg:Str->Option Value} (X:K.In h) (G:h.Ns mainGlobals mg) {n:Str} {cs:List Nat} {t:Tok} (s:PySem.W.nsIn K mainGlobals n=some (some (.str ⟨cs.toArray⟩ t))):zjR mg n cs:=⟨_,PySem.W.mg_of X G s⟩
theorem gt_mk {K:PySem.W.Frag} {h:Heap} {mg:Str->Option Value} (X:K.In h) (G:h.Ns mainGlobals mg) {n:Str} {tb:List (Int × Int)} {e:Addr} {o:Obj} (d:PySem.W.nsIn K mainGlobals n=some (some (.ref e))) (u:K.lookup e=some o) (v:zj6 o tb=true) (y:(e == sysModules)=false):zgk K mg n tb:=⟨_,_,PySem.W.mg_of X G d,u,v,y⟩
theorem all_mk {P:Program} {w:World} {K:PySem.W.Frag} {h:Heap} {mg:Str->Option Value} {fa:Addr} (X:K.In h) (G:h.Ns mainGlobals mg) (hfa:mg "law" = some (.ref fa)) (T:Txt K mg)
  {f:Addr} {od an:Option Addr} {sl:Array (Option Value)} {oc kV dc pm ct:Value} {cd:Value} (a:PySem.W.nsIn K mainGlobals "law" = some (some (.ref f)))
  (l:K.lookup f=some ⟨oc,od,.func (PySem.W.fnOf "law" "law" (z2H (top 56)) (z2b (top 56)) (z05 (top 56)) .none kV dc pm an cd ct),sl⟩) (q:PySem.W.codeIn K cd "law" = true) (k:PySem.W.keepIn K (.ref f)=true)
  : ∃ fd:FuncData,(∀ (s:Shared) (u:Value),BindsTo s fd ⟨[u],[]⟩ [("_law_script",u)])/\∀ base:Heap,K.In base->base.Ns mainGlobals mg->FnOk P w K mg base CX0 9 fa fd ["_law_script"] (DSp K Ec0 1 F_law):=by
 have hF:L2.Fun K "law" "law" (top 56) f (PySem.W.fnOf "law" "law" (z2H (top 56)) (z2b (top 56)) (z05 (top 56)) .none kV dc pm an cd ct):=zei l q k
 have e:=hfa.symm.trans (PySem.W.mg_of X G a)
 cases e
 exact ⟨_,fun s u=>.of_eq rfl,fun base _ _=>zhV hF T⟩
end K09
-- DEPTH 9
namespace K09
open PySem DL
def terms:Nat->List (List Nat)
 | 0=>[[]]
 | n + 1=>(terms n).flatMap fun t=>[t ++ [45],t ++ [48],t ++ [49]]
def zhZ:Nat->List Nat
 | 45=>[0,1]
 | 49=>[1]
 | _=>[0]
def pts (cs:List Nat):List Nat:=cs.foldl (fun ps c=>ps.flatMap fun p=>(zhZ c).map (2 * p + ·)) [0]
def z07 (l:List Nat):List D:=l.map fun (p:Nat)=>D.int (p:Int)
theorem z6R (O:Ow):z0Q [.int 1] O=.ok (.lst ((terms 1).map .str)) O:=by kernel_rfl
theorem z69 (O:Ow):z0Q [.int 2] O=.ok (.lst ((terms 2).map .str)) O:=by kernel_rfl
theorem z6g (O:Ow):z0Q [.int 3] O=.ok (.lst ((terms 3).map .str)) O:=by kernel_rfl
theorem z6n (O:Ow):z0Q [.int 4] O=.ok (.lst ((terms 4).map .str)) O:=by kernel_rfl
theorem z6S (O:Ow):z0H [.int 1] O=.ok (.lst ((terms 1).map .str)) O:=by kernel_rfl
theorem z6B (O:Ow):z0H [.int 2] O=.ok (.lst ((terms 2).map .str)) O:=by kernel_rfl
theorem z6w (O:Ow):z0H [.int 3] O=.ok (.lst ((terms 3).map .str)) O:=by kernel_rfl
theorem z6M (O:Ow):z0H [.int 4] O=.ok (.lst ((terms 4).map .str)) O:=by kernel_rfl
def allT:List (List Nat):=terms 1 ++ terms 2 ++ terms 3 ++ terms 4
theorem zfT (O:Ow):(allT.map fun cs=>z0w [.str cs] O)=allT.map fun cs=>R.ok (.lst (z07 (pts cs))) O:=by kernel_rfl
def z72:Nat->Nat->List Nat
 | 0,_=>[]
 | n + 1,p=>z72 n (p / 2) ++ [48 + p % 2]
def allP:List (List Nat × Nat):=allT.flatMap fun cs=>(List.range (2 ^ cs.length)).map fun p=>(cs,p)
def allN:List (Nat × Nat):=[1,2,3,4].flatMap fun n=>(List.range (2 ^ n)).map fun p=>(n,p)
theorem zdS (O:Ow):(allN.map fun q=>z1b [.int (q.1:Nat),.int (q.2:Nat)] O)=allN.map fun q=>R.ok (.str (z72 q.1 q.2)) O:=by kernel_rfl
theorem zdR {n p:Nat} (h1:1 <= n) (h4:n <= 4) (hp:p < 2 ^ n):(n,p) ∈ allN:=by
 unfold allN
 rw [List.mem_flatMap]
 refine ⟨n,?_,List.mem_map.mpr ⟨p,List.mem_range.mpr hp,rfl⟩⟩
 have:n=1 \/ n=2 \/ n=3 \/ n=4:=by omega
 rcases this with rfl|rfl|rfl|rfl <;> simp
def zdM:DT:=z0k (dOp (fPy eqF) (z0i false 1 (z14 (z01 (z06 z1r (z01 (z02 0) z03)) z03)) (.one 4) [(z0k (dOp z3W (dOp fIx (z02 0) (z02 4)) (z2T (z01 (dC (.str [45])) (z01 (dOp fIx (z02 3) (z02 4)) z03)))))] [] (z02 4)) (z1q z03))
def z9h (cs bs:List Nat):Bool:=(List.range cs.length).all fun i=>cs.getD i 0 == 45 || cs.getD i 0 == bs.getD i 1
def sgn (c:Nat):Bool:=c == 45 || c == 48 || c == 49
def bit (c:Nat):Bool:=c == 48 || c == 49
theorem zhE (O:Ow) {c b:Nat} (hc:sgn c=true) (hb:bit b=true):z3W O (.str [c]) (.tup [.str [45],.str [b]])=.ok (.bl (!(c == 45 || c == b))) O:=by
 unfold sgn at hc
 unfold bit at hb
 simp only [Bool.or_eq_true,beq_iff_eq] at hc hb
 rcases hc with (rfl|rfl)|rfl <;> rcases hb with rfl|rfl <;> kernel_rfl
theorem zaP:(allP.all fun q=>z9h q.1 (z72 q.1.length q.2) == (pts q.1).contains q.2 && (z72 q.1.length q.2).length == q.1.length && (z72 q.1.length q.2).all bit && q.1.all sgn)=true:=by decide +kernel
theorem zbX:(allT.all fun cs=>decide ((List.range (2 ^ cs.length)).filter (fun p=>(pts cs).contains p)=pts cs))=true:=by decide +kernel
theorem zdF {cs:List Nat} {p:Nat} (h:cs ∈ allT) (hp:p < 2 ^ cs.length):(cs,p) ∈ allP:=by
 unfold allP
 rw [List.mem_flatMap]
 exact ⟨cs,h,List.mem_map.mpr ⟨p,List.mem_range.mpr hp,rfl⟩⟩
theorem zay:(allT.all fun cs=>decide (1 <= cs.length))=true:=by decide +kernel
theorem zdu:(allT.all fun cs=>decide (cs.length <= 4))=true:=by decide +kernel
theorem z24 {cs:List Nat} (h:cs ∈ allT) (O:Ow):z0w [.str cs] O=.ok (.lst (z07 (pts cs))) O:=List.map_inj_left.mp (zfT O) cs h
theorem zcT {cs bs:List Nat} {O:Ow} {k:Nat} {x:Option D} (hl:bs.length=cs.length) (h4:cs.length <= 4) (hc:∀ c ∈ cs,sgn c=true) (hb:∀ b ∈ bs,bit b=true):
  zdM [some (.str cs),some (.own k),x,some (.str bs)] O=.ok (z9h cs bs) O:=by
 let p:D->Bool:=fun d=>match d with|.int i=>!(cs.getD i.toNat 0 == 45 || cs.getD i.toNat 0 == bs.getD i.toNat 1)|_=>false
 have hi:z14 (z01 (z06 z1r (z01 (z02 0) z03)) z03) [some (.str cs),some (.own k),x,some (.str bs)] O=.ok (.val ((List.range cs.length).map fun (i:Nat)=>D.int (i:Int))) O:=
  z1w (z0d ((z0x (z0d rfl)).trans (z3c (by omega)))) (by omega)
 have hcomp:=z2e (ext:=1) (i:=4) (ts:=[(z0k (dOp z3W (dOp fIx (z02 0) (z02 4)) (z2T (z01 (dC (.str [45])) (z01 (dOp fIx (z02 3) (z02 4)) z03)))))]) (te:=z02 4) (p:=p) (e:=fun d=>d) hi (by simp;omega) (fun d hd=>by
  obtain ⟨i,hi,rfl⟩:=List.mem_map.mp hd
  have hi:i < cs.length:=List.mem_range.mp hi
  have hib:i < bs.length:=by omega
  have hp:p (.int (i:Int)) = !(cs[i] == 45 || cs[i] == bs[i]):=by
   show (!(cs.getD (i:Int).toNat 0 == 45 || cs.getD (i:Int).toNat 0 == bs.getD (i:Int).toNat 1))=_
   have:((i:Int)).toNat=i:=by omega
   rw [this,List.getD_eq_getElem?_getD,List.getD_eq_getElem?_getD,List.getElem?_eq_getElem hi,List.getElem?_eq_getElem hib];rfl
  rw [hp]
  have tt:z0k (dOp z3W (dOp fIx (z02 0) (z02 4)) (z2T (z01 (dC (.str [45])) (z01 (dOp fIx (z02 3) (z02 4)) z03)))) [some (.str cs),some (.own k),x,some (.str bs),some (.int (i:Int))] O=.ok (!(cs[i] == 45 || cs[i] == bs[i])) O:=by
   refine z0f ((z0e ((z0e rfl rfl).trans (z3V (by omega) hi)) ?_).trans (zhE O (hc _ (List.getElem_mem hi)) (hb _ (List.getElem_mem hib))))
   show ((z01 (dC (.str [45])) (z01 (dOp fIx (z02 3) (z02 4)) z03) _ O).bnd _)=_
   rw [z0m rfl ((z0e rfl rfl).trans (z3V (by omega) hib))]
   rfl
  show ((z0k (dOp z3W (dOp fIx (z02 0) (z02 4)) (z2T (z01 (dC (.str [45])) (z01 (dOp fIx (z02 3) (z02 4)) z03)))) [some (.str cs),some (.own k),x,some (.str bs),some (.int (i:Int))] O).bnd _)=_
  rw [tt]
  cases (!(cs[i] == 45 || cs[i] == bs[i])) <;> rfl) (fun d hd _=>rfl) false
 have e2:(((List.range cs.length).map fun (i:Nat)=>D.int (i:Int)).filter p).map (fun d=>d)=(((List.range cs.length).filter fun i=>!(cs.getD i 0 == 45 || cs.getD i 0 == bs.getD i 1)).map fun (i:Nat)=>((i:Nat):Int)).map D.int:=by
  rw [List.map_id',List.filter_map,List.map_map]
  rfl
 rw [e2] at hcomp
 have fin:dOp (fPy eqF) (z0i false 1 (z14 (z01 (z06 z1r (z01 (z02 0) z03)) z03)) (.one 4) [(z0k (dOp z3W (dOp fIx (z02 0) (z02 4)) (z2T (z01 (dC (.str [45])) (z01 (dOp fIx (z02 3) (z02 4)) z03)))))] [] (z02 4)) (z1q z03) [some (.str cs),some (.own k),x,some (.str bs)] O=.ok (.bl (z9h cs bs)) O:=by
  refine (z0e hcomp rfl).trans ((zet O _).trans ?_)
  congr 2
  unfold z9h
  rw [Bool.eq_iff_iff,List.isEmpty_iff,List.map_eq_nil_iff,List.filter_eq_nil_iff,List.all_eq_true]
  simp [Decidable.or_iff_not_imp_left]
 exact z0f fin
theorem zdU {cs:List Nat} {p:Nat} (h:(cs,p) ∈ allP) (h4:cs.length <= 4) (O:Ow) (k:Nat) (x:Option D):zdM [some (.str cs),some (.own k),x,some (.str (z72 cs.length p))] O=.ok ((pts cs).contains p) O:=by
 have:=List.all_eq_true.mp zaP _ h
 simp only [Bool.and_eq_true,beq_iff_eq] at this
 obtain ⟨⟨⟨h1,h2⟩,h3⟩,h5⟩:=this
 rw [zcT h2 h4 (fun c hc=>List.all_eq_true.mp h5 c hc) (fun c hc=>List.all_eq_true.mp h3 c hc),h1]
theorem z12 {cs:List Nat} (h:cs ∈ allT) {O:Ow} (hO:z4p O):z0c [.str cs] O=.ok (.lst (z07 (pts cs))) O:=by
 have h4:cs.length <= 4:=by simpa using List.all_eq_true.mp zdu cs h
 have h1:1 <= cs.length:=by simpa using List.all_eq_true.mp zay cs h
 have hpw:2 ^ cs.length <= 16:=Nat.le_trans (Nat.pow_le_pow_right (by decide) h4) (by decide)
 unfold z0c zfB z1H z3g
 let n:=O.length
 let body:DS:=z0n (z0A 3 (dFn 2 z1b (z01 (z06 z1r (z01 (z02 0) z03)) (z01 (z02 2) z03)))) (sIf zdM (z20 (zal (z02 1) (z01 (z02 2) z03))) z1z)
 have step:∀ i σ O' d,(∃ y z,σ=[some (.str cs),some (.own O.length),y,z]/\O'=O ++ [z07 ((List.range i).filter fun p=>(pts cs).contains p)])->((List.range (2 ^ cs.length)).map fun (i:Nat)=>D.int (i:Int))[i]?=some d->
   ∃ σ' O2,(match Tg.put (.one 2) d σ with|some σ'=>body σ' O'|none=>.bad)=.nx σ' O2/\(∃ y z,σ'=[some (.str cs),some (.own O.length),y,z]/\O2=O ++ [z07 ((List.range (i + 1)).filter fun p=>(pts cs).contains p)]):=by
  rintro i σ O' d ⟨y,z,rfl,rfl⟩ hd
  rw [List.getElem?_map] at hd
  have hi:i < 2 ^ cs.length:=by
   by_cases hi:i < 2 ^ cs.length
   ·exact hi
   ·rw [List.getElem?_eq_none_iff.mpr (by simpa using hi)] at hd;cases hd
  rw [List.getElem?_range hi] at hd
  cases hd
  have hm:=zdF h hi
  generalize hOO:(O ++ [z07 ((List.range i).filter fun p=>(pts cs).contains p)])=OO
  have hb:=List.map_inj_left.mp (zdS OO) _ (zdR h1 h4 hi)
  have ht:=zdU hm h4 OO O.length (some (D.int (i:Nat)))
  dsimp only at hb
  have e1:z0A 3 (dFn 2 z1b (z01 (z06 z1r (z01 (z02 0) z03)) (z01 (z02 2) z03))) [some (.str cs),some (.own O.length),some (.int (i:Nat)),z] OO=.nx [some (.str cs),some (.own O.length),some (.int (i:Nat)),some (.str (z72 cs.length i))] OO:=
   z1n ((z0G (z0m ((z0x (z0d rfl)).trans (z3c (by omega))) rfl) rfl).trans hb)
  show ∃ σ' O2,(match z0A 3 (dFn 2 z1b (z01 (z06 z1r (z01 (z02 0) z03)) (z01 (z02 2) z03))) [some (.str cs),some (.own O.length),some (.int (i:Nat)),z] OO with|.nx σ' O'=>sIf zdM (z20 (zal (z02 1) (z01 (z02 2) z03))) z1z σ' O'|r=>r)=.nx σ' O2/\_
  rw [e1]
  dsimp only
  unfold sIf
  rw [ht]
  dsimp only [R.bnS]
  subst hOO
  by_cases hc:(pts cs).contains i=true
  ·rw [if_pos hc]
   have hf:(List.range (i + 1)).filter (fun p=>(pts cs).contains p)=(List.range i).filter (fun p=>(pts cs).contains p) ++ [i]:=by
    rw [List.range_succ,List.filter_append,List.filter_cons,List.filter_nil,if_pos hc]
   have hll:((List.range i).filter fun p=>(pts cs).contains p).length <= i:=by
    have:=List.length_filter_le (fun p=>(pts cs).contains p) (List.range i)
    simpa using this
   refine ⟨[some (.str cs),some (.own O.length),some (.int (i:Nat)),some (.str (z72 cs.length i))],O ++ [z07 ((List.range (i + 1)).filter fun p=>(pts cs).contains p)],?_,_,_,rfl,rfl⟩
   unfold z20 zal z02
   dsimp only [List.getElem?_cons_succ,List.getElem?_cons_zero,R.bnd,z01,z03]
   have hk:(O ++ [z07 ((List.range i).filter fun p=>(pts cs).contains p)])[O.length]?=some (z07 ((List.range i).filter fun p=>(pts cs).contains p)):=by simp
   rw [hk]
   dsimp only
   rw [if_pos (by unfold z07;rw [List.length_map];omega)]
   dsimp only [R.bnS]
   rw [List.set_append_right _ _ (Nat.le_refl _),Nat.sub_self,List.set_cons_zero,hf]
   unfold z07
   rw [List.map_append]
   rfl
  ·rw [if_neg hc]
   refine ⟨_,_,rfl,_,_,rfl,?_⟩
   rw [List.range_succ,List.filter_append,List.filter_cons,List.filter_nil,if_neg hc,List.append_nil]
 have e0:z0A 1 (z2R z03) [some (.str cs),none,none,none] O=.nx [some (.str cs),some (.own O.length),none,none] (O ++ [[]]):=rfl
 have hr:z14 (z01 (dOp (fI z87) (dC (.int 1)) (z06 z1r (z01 (z02 0) z03))) z03) [some (.str cs),some (.own O.length),none,none] (O ++ [[]])=.ok (.val ((List.range (2 ^ cs.length)).map fun (i:Nat)=>D.int (i:Int))) (O ++ [[]]):=by
  refine z1w (z0d ((z0e rfl ((z0x (z0d rfl)).trans (z3c (by omega)))).trans ?_)) (by omega)
  have:cs.length=1 \/ cs.length=2 \/ cs.length=3 \/ cs.length=4:=by omega
  rcases this with e|e|e|e <;> rw [e] <;> rfl
 obtain ⟨σ',O2,f1,y,z,rfl,rfl⟩:=z3s (fun i σ O'=>∃ y z,σ=[some (.str cs),some (.own O.length),y,z]/\O'=O ++ [z07 ((List.range i).filter fun p=>(pts cs).contains p)]) step (2 ^ cs.length) 0 [some (.str cs),some (.own O.length),none,none] (O ++ [[]]) ⟨none,none,rfl,rfl⟩ (by simp) (Nat.zero_le _)
 have hl:((List.range (2 ^ cs.length)).map fun (i:Nat)=>D.int (i:Int)).length=2 ^ cs.length:=by simp
 rw [hl] at f1
 have hpts:(List.range (2 ^ cs.length)).filter (fun p=>(pts cs).contains p)=pts cs:=by simpa using List.all_eq_true.mp zbX cs h
 rw [hpts] at f1
 show z8x O.length (fin (z0n (z0A 1 (z2R z03)) _ [some (.str cs),none,none,none] O))=_
 rw [z0o e0,z0o ((z6W hr).trans (by
  show z2k _ _ ((List.range (2 ^ cs.length)).map fun (i:Nat)=>D.int (i:Int)).length 0 _ _=_
  rw [hl];exact f1)),z0t (x:=.own O.length) rfl]
 refine z7J hO [z07 (pts cs)] ?_
 unfold frz
 dsimp only
 rw [if_neg (Nat.lt_irrefl _)]
 have hk:(O ++ [z07 (pts cs)])[O.length]?=some (z07 (pts cs)):=by simp
 rw [hk]
 dsimp only
 rw [z27 fun d hd=>?_]
 ·rfl
 ·obtain ⟨q,_,rfl⟩:=List.mem_map.mp hd
  exact z3l rfl
def Ans (d:D):Prop:=d=.int 0 \/ d=.int 1 \/ d=.non
def isZ:D->Bool
 | .int i=>i == 0
 | _=>false
structure Fn (n:Nat) (f:List D):Prop where
 n1:1 <= n
 n4:n <= 4
 len:f.length=2 ^ n
 ans:∀ d ∈ f,Ans d
def z2w (f:List D) (cs:List Nat):Bool:=(pts cs).all fun p=>!isZ (f.getD p .non)
theorem ne0 (O:Ow) {d:D} (h:Ans d):fPy neF O d (.int 0)=.ok (.bl (!isZ d)) O:=by rcases h with rfl|rfl|rfl <;> kernel_rfl
theorem eq0 (O:Ow) {d:D} (h:Ans d):fPy eqF O d (.int 0)=.ok (.bl (isZ d)) O:=by rcases h with rfl|rfl|rfl <;> kernel_rfl
theorem zer {n:Nat} (h1:1 <= n) (h4:n <= 4):n=1 \/ n=2 \/ n=3 \/ n=4:=by omega
theorem z1y {n:Nat} (h1:1 <= n) (h4:n <= 4) {cs:List Nat} (h:cs ∈ terms n):cs ∈ allT:=by
 unfold allT
 rcases zer h1 h4 with rfl|rfl|rfl|rfl <;> simp [h]
theorem z6a:([1,2,3,4].all fun n=>(terms n).all fun cs=>cs.length == n)=true:=by decide +kernel
theorem z1F {n:Nat} (h1:1 <= n) (h4:n <= 4) {cs:List Nat} (h:cs ∈ terms n):cs.length=n:=by
 have:=List.all_eq_true.mp z6a n (by rcases zer h1 h4 with rfl|rfl|rfl|rfl <;> simp)
 simpa using List.all_eq_true.mp this cs h
theorem z9Y:(allT.all fun cs=>(pts cs).all fun p=>decide (p < 2 ^ cs.length))=true:=by decide +kernel
theorem z97 {cs:List Nat} (h:cs ∈ allT) {p:Nat} (hp:p ∈ pts cs):p < 2 ^ cs.length:=by
 have:=List.all_eq_true.mp z9Y cs h
 simpa using List.all_eq_true.mp this p hp
theorem z8C:(allT.all fun cs=>decide ((pts cs).length <= 16))=true:=by decide +kernel
theorem z33 {cs:List Nat} (h:cs ∈ allT):(pts cs).length <= 16:=by simpa using List.all_eq_true.mp z8C cs h
theorem zaX:∀ l:List Bool,bls (l.map D.bl)=some l
 | []=>rfl
 | b :: l=>by
  show (bls (l.map D.bl)).map (b :: ·)=_
  rw [zaX l];rfl
theorem z6r (O:Ow) (l:List Bool):zcC O [.lst (l.map D.bl)]=.ok (.bl (l.all id)) O:=by
 show (match bls (l.map D.bl) with|some bs=>R.ok (D.bl (bs.all id)) O|none=>R.bad)=_
 rw [zaX]
theorem z34 {f:List D} {p:Nat} (h:p < f.length):f.getD p .non=f[p]:=by
 rw [List.getD_eq_getElem?_getD,List.getElem?_eq_getElem h];rfl
theorem z2r {α:Type} (l:List α):l.filter (fun _=>true)=l:=by simp
theorem z9j {n:Nat} {f:List D} (hf:Fn n f) {cs:List Nat} (h:cs ∈ terms n) (O:Ow):z0q [.tup f,.str cs] O=.ok (.bl (z2w f cs)) O:=by
 have hA:=z1y hf.n1 hf.n4 h
 have hl:=z1F hf.n1 hf.n4 h
 have hit:dIt (dFn 1 z0w (z01 (z02 1) z03)) [some (.tup f),some (.str cs)] O=.ok (.val (z07 (pts cs))) O:=z1J ((z0G (z0d rfl) rfl).trans (z24 hA O))
 have hc:=z2e (ext:=1) (i:=2) (ts:=[]) (te:=dOp (fPy neF) (dOp fIx (z02 0) (z02 2)) (dC (.int 0))) (p:=fun _=>true) (e:=fun d=>.bl (match d with|.int i=>!isZ (f.getD i.toNat .non)|_=>false)) hit (by unfold z07;have:=z33 hA;simp;omega) (fun d hd=>rfl) (fun d hd _=>by
  obtain ⟨q,hq,rfl⟩:=List.mem_map.mp hd
  have hlt:q < f.length:=by rw [hf.len,<- hl];exact z97 hA hq
  refine (z0e ((z0e rfl rfl).trans (z4F (i:=q) hlt)) rfl).trans ((ne0 O (hf.ans _ (List.getElem_mem hlt))).trans ?_)
  have:((q:Int)).toNat=q:=by omega
  show _=R.ok (D.bl (!isZ (f.getD ((q:Int)).toNat .non))) O
  rw [this,z34 hlt]) false
 have e2:(((z07 (pts cs)).filter fun _=>true).map fun d=>D.bl (match d with|.int i=>!isZ (f.getD i.toNat .non)|_=>false))=((pts cs).map fun p=>!isZ (f.getD p .non)).map D.bl:=by
  rw [z2r]
  unfold z07
  rw [List.map_map,List.map_map]
  exact List.map_congr_left fun q _=>by
   show D.bl (!isZ (f.getD ((q:Int)).toNat .non))=D.bl (!isZ (f.getD q .non))
   have:((q:Int)).toNat=q:=by omega
   rw [this]
 rw [e2] at hc
 show fin (z0F _ [some (.tup f),some (.str cs)] O)=_
 rw [z0t ((z0x (z0d hc)).trans (z6r O _))]
 show R.ok (D.bl _) O=_
 unfold z2w
 congr 2
 rw [List.all_map];rfl
theorem z4C {n:Nat} {f:List D} (hf:Fn n f) {cs:List Nat} (h:cs ∈ terms n) {O:Ow} (hO:z4p O):z0J [.tup f,.str cs] O=.ok (.bl (z2w f cs)) O:=by
 have hA:=z1y hf.n1 hf.n4 h
 have hl:=z1F hf.n1 hf.n4 h
 have hit:dIt (dFn 1 z0c (z01 (z02 1) z03)) [some (.tup f),some (.str cs)] O=.ok (.val (z07 (pts cs))) O:=z1J ((z0G (z0d rfl) rfl).trans (z12 hA hO))
 have hc:=z2e (ext:=1) (i:=2) (ts:=[(z0k (dOp (fPy eqF) (dOp fIx (z02 0) (z02 2)) (dC (.int 0))))]) (te:=z02 2) (p:=fun d=>match d with|.int i=>isZ (f.getD i.toNat .non)|_=>false) (e:=fun d=>d) hit (by unfold z07;have:=z33 hA;simp;omega) (fun d hd=>by
  obtain ⟨q,hq,rfl⟩:=List.mem_map.mp hd
  have hlt:q < f.length:=by rw [hf.len,<- hl];exact z97 hA hq
  have tt:z0k (dOp (fPy eqF) (dOp fIx (z02 0) (z02 2)) (dC (.int 0))) [some (.tup f),some (.str cs),some (.int (q:Int))] O=.ok (isZ f[q]) O:=
   z0f ((z0e ((z0e rfl rfl).trans (z4F (i:=q) hlt)) rfl).trans (eq0 O (hf.ans _ (List.getElem_mem hlt))))
  have eq:(match D.int (q:Int) with|.int i=>isZ (f.getD i.toNat .non)|_=>false)=isZ f[q]:=by
   have:((q:Int)).toNat=q:=by omega
   show isZ (f.getD ((q:Int)).toNat .non)=_
   rw [this,z34 hlt]
  show ((z0k (dOp (fPy eqF) (dOp fIx (z02 0) (z02 2)) (dC (.int 0))) [some (.tup f),some (.str cs),some (.int (q:Int))] O).bnd _)=_
  rw [tt,eq]
  cases isZ f[q] <;> rfl) (fun d hd _=>rfl) false
 have e2:(((z07 (pts cs)).filter fun d=>match d with|.int i=>isZ (f.getD i.toNat .non)|_=>false).map fun d=>d)=(((pts cs).filter fun p=>isZ (f.getD p .non)).map fun (p:Nat)=>((p:Nat):Int)).map D.int:=by
  unfold z07
  rw [List.map_id',List.filter_map,List.map_map]
  have:((fun d=>match d with|.int i=>isZ (f.getD i.toNat .non)|_=>false) ∘ fun (p:Nat)=>D.int (p:Int))=fun p=>isZ (f.getD p .non):=by
   funext q
   have:((q:Int)).toNat=q:=by omega
   show isZ (f.getD ((q:Int)).toNat .non)=_
   rw [this]
  rw [this];rfl
 rw [e2] at hc
 show fin (z0F _ [some (.tup f),some (.str cs)] O)=_
 rw [z0t ((z0e hc rfl).trans (zet O _))]
 show R.ok (D.bl _) O=_
 unfold z2w
 congr 2
 rw [Bool.eq_iff_iff,List.isEmpty_iff,List.map_eq_nil_iff,List.filter_eq_nil_iff,List.all_eq_true]
 simp
theorem zaE (O:Ow) {d:D} (h:Ans d):z1W [d] O=.ok (.bl true) O:=by rcases h with rfl|rfl|rfl <;> kernel_rfl
theorem z2h {n:Nat} (h4:n <= 4):2 ^ n <= 16:=Nat.le_trans (Nat.pow_le_pow_right (by decide) h4) (by decide)
theorem zdC (O:Ow) (f:List D):z1r O [.tup f]=.ok (.int f.length) O:=rfl
theorem z5y {n:Nat} {f:List D} (hf:Fn n f) (O:Ow):z1h [.tup f] O=.ok (.bl true) O:=by
 have hc:=z2e (ext:=1) (i:=1) (ts:=[]) (te:=dFn 1 z1W (z01 (z02 1) z03)) (it0:=dIt (z02 0)) (σ:=[some (.tup f)]) (O:=O) (ds:=f) (p:=fun _=>true) (e:=fun _=>.bl true) rfl (by have:=z2h hf.n4;have:=hf.len;omega) (fun d hd=>rfl) (fun d hd _=>(z0G (z0d rfl) rfl).trans (zaE O (hf.ans d hd))) false
 have e2:(f.filter fun _=>true).map (fun _=>D.bl true)=(f.map fun _=>true).map D.bl:=by rw [z2r,List.map_map];rfl
 rw [e2] at hc
 have hif:sIf (z6Z (z1B (z1g (z2V "tuple" (z02 0)))) (z0k (z3b true z09 (z06 z1r (z01 (z02 0) z03))))) (z0F (dC (.bl false))) z1z [some (.tup f)] O=.nx [some (.tup f)] O:=by
  have:z6Z (z1B (z1g (z2V "tuple" (z02 0)))) (z0k (z3b true z09 (z06 z1r (z01 (z02 0) z03)))) [some (.tup f)] O=.ok false O:=by
   show (z0k (z3b true z09 (z06 z1r (z01 (z02 0) z03))) [some (.tup f)] O)=_
   refine z0f ?_
   show R.ok (D.bl (if true=true then !(z2q z09 (f.length:Nat)).isSome else _)) O=_
   rw [hf.len]
   rcases zer hf.n1 hf.n4 with rfl|rfl|rfl|rfl <;> rfl
  rw [z0K this];rfl
 show fin (z0n _ _ [some (.tup f)] O)=_
 rw [z0o hif,z0t ((z0x (z0d hc)).trans (z6r O _))]
 show R.ok (D.bl _) O=_
 congr 2
 rw [List.all_map]
 exact List.all_eq_true.mpr fun _ _=>rfl
theorem zg9 {n:Nat} {f:List D} (hf:Fn n f) (O:Ow):z0M [.tup f] O=.ok .non O:=by
 show fin (sIf _ _ z1z [some (.tup f)] O)=_
 have e1:dFn 1 z1h (z01 (z02 0) z03) [some (.tup f)] O=.ok (.bl true) O:=(z0G (z0d rfl) rfl).trans (z5y hf O)
 rw [z0K (z1Q (z1c e1))]
 rfl
theorem z8r {n:Nat} {f:List D} (hf:Fn n f) (O:Ow):z1o [.tup f] O=.ok (.int n) O:=by
 show fin (z0F (zi7 z09 (z06 z1r (z01 (z02 0) z03))) [some (.tup f)] O)=_
 have:zi7 z09 (z06 z1r (z01 (z02 0) z03)) [some (.tup f)] O=.ok (.int n) O:=by
  show (match z2q z09 (f.length:Nat) with|some v=>R.ok (D.int v) O|none=>R.bad)=_
  rw [hf.len]
  rcases zer hf.n1 hf.n4 with rfl|rfl|rfl|rfl <;> rfl
 rw [z0t this];rfl
theorem z50 {n:Nat} {f:List D} (hf:Fn n f) (O:Ow):z0Z [.tup f] O=.ok (.int n) O:=by
 show fin (z0F (zhC [(2,1),(4,2),(8,3),(16,4)] (z06 z1r (z01 (z02 0) z03))) [some (.tup f)] O)=_
 have:zhC [(2,1),(4,2),(8,3),(16,4)] (z06 z1r (z01 (z02 0) z03)) [some (.tup f)] O=.ok (.int n) O:=by
  show (match zik [(2,1),(4,2),(8,3),(16,4)] (f.length:Nat) with|some v=>R.ok (D.int v) O|none=>R.bad)=_
  rw [hf.len]
  rcases zer hf.n1 hf.n4 with rfl|rfl|rfl|rfl <;> rfl
 rw [z0t this];rfl
theorem z7C {n:Nat} (h1:1 <= n) (h4:n <= 4) (O:Ow):z0Q [.int n] O=.ok (.lst ((terms n).map .str)) O:=by
 rcases zer h1 h4 with rfl|rfl|rfl|rfl
 ·exact z6R O
 ·exact z69 O
 ·exact z6g O
 ·exact z6n O
theorem z71 {n:Nat} (h1:1 <= n) (h4:n <= 4) (O:Ow):z0H [.int n] O=.ok (.lst ((terms n).map .str)) O:=by
 rcases zer h1 h4 with rfl|rfl|rfl|rfl
 ·exact z6S O
 ·exact z6B O
 ·exact z6w O
 ·exact z6M O
theorem z53 {n:Nat} (h1:1 <= n) (h4:n <= 4):(terms n).length <= 81:=by
 rcases zer h1 h4 with rfl|rfl|rfl|rfl <;> decide
def z8M (n:Nat) (f:List D):List (List Nat):=(terms n).filter (z2w f)
def ziv:D->List Nat
 | .str cs=>cs
 | _=>[]
theorem z9W (l:List (List Nat)) (p:List Nat->Bool):((l.map D.str).filter fun d=>p (ziv d)).map (fun d=>d)=(l.filter p).map D.str:=by
 rw [List.map_id',List.filter_map];rfl
theorem z6m {n:Nat} {f:List D} (hf:Fn n f) (O:Ow):z1C [.tup f] O=.ok (.lst ((z8M n f).map .str)) O:=by
 have hit:dIt (dFn 1 z0Q (z01 (dFn 1 z1o (z01 (z02 0) z03)) z03)) [some (.tup f)] O=.ok (.val ((terms n).map .str)) O:=
  z1J ((z0G (z0d ((z0G (z0d rfl) rfl).trans (z8r hf O))) rfl).trans (z7C hf.n1 hf.n4 O))
 have hc:=z2e (ext:=1) (i:=1) (ts:=[(z1g (dFn 2 z0q (z01 (z02 0) (z01 (z02 1) z03))))]) (te:=z02 1) (p:=fun d=>z2w f (ziv d)) (e:=fun d=>d) hit (by have:=z53 hf.n1 hf.n4;simp;omega) (fun d hd=>by
  obtain ⟨cs,hcs,rfl⟩:=List.mem_map.mp hd
  have tt:z1g (dFn 2 z0q (z01 (z02 0) (z01 (z02 1) z03))) [some (.tup f),some (.str cs)] O=.ok (z2w f cs) O:=z1c ((z0G (z0m rfl rfl) rfl).trans (z9j hf hcs O))
  show ((z1g (dFn 2 z0q (z01 (z02 0) (z01 (z02 1) z03))) [some (.tup f),some (.str cs)] O).bnd _)=R.ok (z2w f cs) O
  rw [tt]
  cases z2w f cs <;> rfl) (fun d hd _=>rfl) false
 rw [z9W] at hc
 show fin (z0n (z20 (dFn 1 z0M (z01 (z02 0) z03))) _ [some (.tup f)] O)=_
 have e1:dFn 1 z0M (z01 (z02 0) z03) [some (.tup f)] O=.ok .non O:=(z0G (z0d rfl) rfl).trans (zg9 hf O)
 rw [z0o (z6y e1),z0t hc]
 rfl
structure StAt (O:Ow) (m:Nat) (s:Int) (b:Bool):Prop where
 at_:O[m]?=some [.int s,.bl b]
 nn:0 <= s
 lt:b=false->s < 2147483647
theorem StAt.len {O:Ow} {m:Nat} {s:Int} {b:Bool} (h:StAt O m s b):m < O.length:=(List.getElem?_eq_some_iff.mp h.at_).1
theorem z4w {O:Ow} {m:Nat} {x y:D} (h:O[m]?=some [x,y]):fIx O (.own m) (.int 0)=.ok x O:=by
 show (match O[m]? with|some ds=>(match L2.atI ds 0 with|some d=>R.ok d O|none=>R.bad)|none=>_)=_
 rw [h];rfl
theorem z9d {O:Ow} {m:Nat} {x y:D} (h:O[m]?=some [x,y]):fIx O (.own m) (.int 1)=.ok y O:=by
 show (match O[m]? with|some ds=>(match L2.atI ds 1 with|some d=>R.ok d O|none=>R.bad)|none=>_)=_
 rw [h];rfl
theorem z8R {te to ti:DE} {σ:Sg} {O O1 O2 O3:Ow} {y:D} {k:Nat} {i:Int} {ds:List D} {j:Nat} (h1:te σ O=.ok y O1) (h2:to σ O1=.ok (.own k) O2) (h3:ti σ O2=.ok (.int i) O3) (h4:O3[k]?=some ds) (h5:L2.ixN ds.length i=some j):
  zcz te to ti σ O=.nx σ (O3.set k (ds.set j y)):=by
 show ((te σ O).bnS _)=_
 rw [h1]
 show ((to σ O1).bnS _)=_
 rw [h2]
 show ((ti σ O2).bnS _)=_
 rw [h3]
 show (match O3[k]? with|some ds=>(match L2.ixN ds.length i with|some j=>RS.nx σ (O3.set k (ds.set j y))|none=>RS.bad)|none=>RS.bad)=_
 rw [h4]
 show (match L2.ixN ds.length i with|some j=>RS.nx σ (O3.set k (ds.set j y))|none=>RS.bad)=_
 rw [h5]
theorem z5L {O:Ow} {i j:Int} (h:0 < j):fI z5D O (.int i) (.int j)=.ok (.int (i % j)) O:=by
 show (match z5D i j with|some d=>R.ok d O|none=>R.bad)=_
 unfold z5D;rw [if_pos h]
theorem zec {O:Ow} {i j:Int} (h:0 < j) (h2:j < 1073741824):fI za9 O (.int i) (.int j)=.ok (.int (i / j)) O:=by
 show (match za9 i j with|some d=>R.ok d O|none=>R.bad)=_
 unfold za9;rw [if_pos ⟨h,h2⟩]
theorem z56 {O:Ow} {i j:Int} (h:-1000000000000000 < i) (h2:i < 1000000000000000):fI z7D O (.int i) (.int j)=.ok (.int (i * j)) O:=by
 show (match z7D i j with|some d=>R.ok d O|none=>R.bad)=_
 unfold z7D;rw [if_pos (.inl ⟨h,h2⟩)]
theorem z3i {O:Ow} {i j:Int}:z2G O (.int i) (.int j)=.ok (.int (i + j)) O:=rfl
theorem z3R {O:Ow} {m:Nat} {s:Int} {b:Bool} (h:StAt O m s b) {k:Nat} (k1:1 <= k) (k2:k <= 1000):
  ∃ (r:Nat) (s':Int),r < k/\z0l [.own m,.int k] O=.ok (.int r) (O.set m [.int s',.bl b])/\StAt (O.set m [.int s',.bl b]) m s' b:=by
 have kk:(0:Int) < (k:Int):=by omega
 have hset:∀ s',(O.set m [.int s',.bl b])[m]?=some [D.int s',D.bl b]:=fun s'=>by rw [List.getElem?_set_self h.len]
 have hres:∀ x:Int,∃ r:Nat,r < k/\x % (k:Int)=(r:Int):=fun x=>by
  have a1:=Int.emod_nonneg x (show (k:Int) ≠ 0 by omega)
  have a2:=Int.emod_lt_of_pos x kk
  exact ⟨(x % (k:Int)).toNat,by omega,by omega⟩
 cases b with
 | true=>
  obtain ⟨r,r1,r2⟩:=hres s
  refine ⟨r,s / k,r1,?_,hset _,Int.ediv_nonneg h.nn (by omega),fun z=>by cases z⟩
  have hc:z1g (dOp fIx (z02 0) (dC (.int 1))) [some (.own m),some (.int k),none,none] O=.ok true O:=z1c ((z0e rfl rfl).trans (z9d h.at_))
  have e1:z0A 2 (dOp (fI z5D) (dOp fIx (z02 0) (dC (.int 0))) (z02 1)) [some (.own m),some (.int k),none,none] O=.nx [some (.own m),some (.int k),some (.int r),none] O:=by
   rw [z1n ((z0e ((z0e rfl rfl).trans (z4w h.at_)) rfl).trans (z5L kk)),r2];rfl
  have e2:zcz (dOp (fI za9) (dOp fIx (z02 0) (dC (.int 0))) (z02 1)) (z02 0) (dC (.int 0)) [some (.own m),some (.int k),some (.int r),none] O=.nx [some (.own m),some (.int k),some (.int r),none] (O.set m [.int (s / k),.bl true]):=
   z8R (ds:=[.int s,.bl true]) (j:=0) ((z0e ((z0e rfl rfl).trans (z4w h.at_)) rfl).trans (zec kk (by omega))) rfl rfl h.at_ rfl
  show fin (z0n (sIf _ _ _) _ [some (.own m),some (.int k),none,none] O)=_
  have e3:sIf (z1g (dOp fIx (z02 0) (dC (.int 1)))) (z0n (z0A 2 (dOp (fI z5D) (dOp fIx (z02 0) (dC (.int 0))) (z02 1))) (z0n (zcz (dOp (fI za9) (dOp fIx (z02 0) (dC (.int 0))) (z02 1)) (z02 0) (dC (.int 0))) (z0F (z02 2)))) z1z [some (.own m),some (.int k),none,none] O=.rt (.int r) (O.set m [.int (s / k),.bl true]):=by
   rw [z0K hc,if_pos rfl,z0o e1,z0o e2];rfl
  rw [z32 e3];rfl
 | false=>
  have hs:=h.lt rfl
  let s1:Int:=(s * 48271 + 29) % 2147483647
  have s1n:0 <= s1:=Int.emod_nonneg _ (by decide)
  have s1l:s1 < 2147483647:=Int.emod_lt_of_pos _ (by decide)
  let O1:=O.set m [.int s1,.bl false]
  have hO1:O1[m]?=some [D.int s1,D.bl false]:=hset s1
  let t1:Int:=(s1 * s1 + 39373 * s1 + 7) % 2147483629
  have t1n:0 <= t1:=Int.emod_nonneg _ (by decide)
  have t1l:t1 < 2147483629:=Int.emod_lt_of_pos _ (by decide)
  let t2:Int:=(t1 * t1 + 16807 * t1) % 2147483587
  have hc:z1g (dOp fIx (z02 0) (dC (.int 1))) [some (.own m),some (.int k),none,none] O=.ok false O:=z1c ((z0e rfl rfl).trans (z9d h.at_))
  have e0:sIf (z1g (dOp fIx (z02 0) (dC (.int 1)))) (z0n (z0A 2 (dOp (fI z5D) (dOp fIx (z02 0) (dC (.int 0))) (z02 1))) (z0n (zcz (dOp (fI za9) (dOp fIx (z02 0) (dC (.int 0))) (z02 1)) (z02 0) (dC (.int 0))) (z0F (z02 2)))) z1z [some (.own m),some (.int k),none,none] O=.nx [some (.own m),some (.int k),none,none] O:=by
   rw [z0K hc];rfl
  have e1:zcz (dOp (fI z5D) (dOp z2G (dOp (fI z7D) (dOp fIx (z02 0) (dC (.int 0))) (dC (.int 48271))) (dC (.int 29))) (dC (.int 2147483647))) (z02 0) (dC (.int 0)) [some (.own m),some (.int k),none,none] O=.nx [some (.own m),some (.int k),none,none] O1:=
   z8R (ds:=[.int s,.bl false]) (j:=0) ((z0e ((z0e ((z0e ((z0e rfl rfl).trans (z4w h.at_)) rfl).trans (z56 (by have:=h.nn;omega) (by omega))) rfl).trans z3i) rfl).trans (z5L (by decide))) rfl rfl h.at_ rfl
  have ix0:∀ z w,dOp fIx (z02 0) (dC (.int 0)) [some (.own m),some (.int k),z,w] O1=.ok (.int s1) O1:=fun z w=>(z0e rfl rfl).trans (z4w hO1)
  have e2:z0A 3 (dOp (fI z5D) (dOp z2G (dOp z2G (dOp (fI z7D) (dOp fIx (z02 0) (dC (.int 0))) (dOp fIx (z02 0) (dC (.int 0)))) (dOp (fI z7D) (dC (.int 39373)) (dOp fIx (z02 0) (dC (.int 0))))) (dC (.int 7))) (dC (.int 2147483629))) [some (.own m),some (.int k),none,none] O1=.nx [some (.own m),some (.int k),none,some (.int t1)] O1:=
   z1n ((z0e ((z0e ((z0e ((z0e (ix0 none none) (ix0 none none)).trans (z56 (by omega) (by omega))) ((z0e rfl (ix0 none none)).trans (z56 (by decide) (by decide)))).trans z3i) rfl).trans z3i) rfl).trans (z5L (by decide)))
  have e3:z0A 3 (dOp (fI z5D) (dOp z2G (dOp (fI z7D) (z02 3) (z02 3)) (dOp (fI z7D) (dC (.int 16807)) (z02 3))) (dC (.int 2147483587))) [some (.own m),some (.int k),none,some (.int t1)] O1=.nx [some (.own m),some (.int k),none,some (.int t2)] O1:=
   z1n ((z0e ((z0e ((z0e rfl rfl).trans (z56 (by omega) (by omega))) ((z0e rfl rfl).trans (z56 (by decide) (by decide)))).trans z3i) rfl).trans (z5L (by decide)))
  obtain ⟨r,r1,r2⟩:=hres (t2 / 8)
  refine ⟨r,s1,r1,?_,hset _,s1n,fun _=>s1l⟩
  have e4:z0F (dOp (fI z5D) (dOp (fI za9) (z02 3) (dC (.int 8))) (z02 1)) [some (.own m),some (.int k),none,some (.int t2)] O1=.rt (.int r) O1:=by
   rw [z0t ((z0e ((z0e rfl rfl).trans (zec (by decide) (by decide))) rfl).trans (z5L kk)),r2]
  show fin (z0n _ _ [some (.own m),some (.int k),none,none] O)=_
  rw [z0o e0,z0o e1,z0o e2,z0o e3,e4];rfl
theorem ze4 {ns:List Int} {k:Nat} (O:Ow):∃ s b,z1D [.lst (ns.map .int),.int k] O=.ok (.own O.length) (O ++ [[.int s,.bl b]])/\StAt (O ++ [[.int s,.bl b]]) O.length s b:=by
 have hat:∀ s b,(O ++ [[D.int s,D.bl b]])[O.length]?=some [D.int s,D.bl b]:=fun s b=>by simp
 obtain ⟨c,hc⟩:∃ c:Int,z16 [.lst (ns.map .int),.int k] O=.ok (.int c) O:=by
  have ht:z0k (dOp fLt (z02 1) (z06 z1r (z01 (z02 0) z03))) [some (.lst (ns.map .int)),some (.int k)] O=.ok (decide ((k:Int) < (ns.map D.int).length)) O:=z0f ((z0e rfl ((z0x (z0d rfl)).trans rfl)).trans rfl)
  by_cases hk:(k:Int) < (ns.map D.int).length
  ·have hk':k < (ns.map D.int).length:=by omega
   have hx:dOp fIx (z02 0) (z02 1) [some (.lst (ns.map .int)),some (.int k)] O=.ok (ns.map D.int)[k] O:=(z0e rfl rfl).trans (z8y hk')
   refine ⟨ns[k]'(by simpa using hk'),?_⟩
   show fin (z0n _ _ [some (.lst (ns.map .int)),some (.int k)] O)=_
   have e1:sIf (z0k (dOp fLt (z02 1) (z06 z1r (z01 (z02 0) z03)))) (z0F (dOp fIx (z02 0) (z02 1))) z1z [some (.lst (ns.map .int)),some (.int k)] O=.rt (.int (ns[k]'(by simpa using hk'))) O:=by
    rw [z0K ht,if_pos (decide_eq_true hk),z0t hx];simp
   rw [z32 e1];rfl
  ·refine ⟨0,?_⟩
   show fin (z0n _ _ [some (.lst (ns.map .int)),some (.int k)] O)=_
   have e1:sIf (z0k (dOp fLt (z02 1) (z06 z1r (z01 (z02 0) z03)))) (z0F (dOp fIx (z02 0) (z02 1))) z1z [some (.lst (ns.map .int)),some (.int k)] O=.nx [some (.lst (ns.map .int)),some (.int k)] O:=by
    rw [z0K ht,if_neg (by simpa using hk)];rfl
   rw [z0o e1];rfl
 have e0:z0A 2 (dFn 2 z16 (z01 (z02 0) (z01 (z02 1) z03))) [some (.lst (ns.map .int)),some (.int k),none] O=.nx [some (.lst (ns.map .int)),some (.int k),some (.int c)] O:=z1n ((z0G (z0m rfl rfl) rfl).trans hc)
 have hp:∀ σ,dOp (fI zau) (dC (.int 10)) (dC (.int 18)) σ O=.ok (.int 1000000000000000000) O:=fun σ=>by
  refine (z0e (σ:=σ) (O:=O) rfl rfl).trans ?_
  kernel_rfl
 have ht:z0k (dOp fGe (z02 2) (dOp (fI zau) (dC (.int 10)) (dC (.int 18)))) [some (.lst (ns.map .int)),some (.int k),some (.int c)] O=.ok (decide ((1000000000000000000:Int) <= c)) O:=z0f ((z0e rfl (hp _)).trans rfl)
 by_cases hcc:(1000000000000000000:Int) <= c
 ·refine ⟨c - 1000000000000000000,true,?_,hat _ _,by omega,fun z=>by cases z⟩
  have e1:sIf (z0k (dOp fGe (z02 2) (dOp (fI zau) (dC (.int 10)) (dC (.int 18))))) (z0F (z2R (z01 (dOp (fI zaC) (z02 2) (dOp (fI zau) (dC (.int 10)) (dC (.int 18)))) (z01 (dC (.bl true)) z03)))) z1z [some (.lst (ns.map .int)),some (.int k),some (.int c)] O=.rt (.own O.length) (O ++ [[.int (c - 1000000000000000000),.bl true]]):=by
   rw [z0K ht,if_pos (decide_eq_true hcc)]
   refine z0t ?_
   show ((z01 _ _ _ O).bnd _)=_
   rw [z0m ((z0e rfl (hp _)).trans rfl) rfl]
   rfl
  show fin (z0n _ _ [some (.lst (ns.map .int)),some (.int k),none] O)=_
  rw [z0o e0,z32 e1];rfl
 ·refine ⟨c % 2147483647,false,?_,hat _ _,Int.emod_nonneg _ (by decide),fun _=>Int.emod_lt_of_pos _ (by decide)⟩
  have e1:sIf (z0k (dOp fGe (z02 2) (dOp (fI zau) (dC (.int 10)) (dC (.int 18))))) (z0F (z2R (z01 (dOp (fI zaC) (z02 2) (dOp (fI zau) (dC (.int 10)) (dC (.int 18)))) (z01 (dC (.bl true)) z03)))) z1z [some (.lst (ns.map .int)),some (.int k),some (.int c)] O=.nx [some (.lst (ns.map .int)),some (.int k),some (.int c)] O:=by
   rw [z0K ht,if_neg (by simpa using hcc)];rfl
  show fin (z0n _ _ [some (.lst (ns.map .int)),some (.int k),none] O)=_
  rw [z0o e0,z0o e1]
  have e2:z2R (z01 (dOp (fI z5D) (z02 2) (dC (.int 2147483647))) (z01 (dC (.bl false)) z03)) [some (.lst (ns.map .int)),some (.int k),some (.int c)] O=.ok (.own O.length) (O ++ [[.int (c % 2147483647),.bl false]]):=by
   show ((z01 _ _ _ O).bnd _)=_
   rw [z0m ((z0e rfl rfl).trans (z5L (by decide))) rfl]
   rfl
  rw [z0t e2];rfl
theorem zd9 {O:Ow} {m:Nat} {x:List D} (h:O[m]?=some x):O.set m x=O:=by
 obtain ⟨h1,rfl⟩:=List.getElem?_eq_some_iff.mp h
 exact List.set_getElem_self h1
theorem z4A {O:Ow} (h:z4p O) (m:Nat) (s:Int) (b:Bool):z4p (O.set m [.int s,.bl b]):=by
 intro c hc d hd
 rw [List.length_set]
 rcases List.mem_or_eq_of_mem_set hc with h1|rfl
 ·exact h c h1 d hd
 ·simp only [List.mem_cons,List.not_mem_nil,or_false] at hd
  rcases hd with rfl|rfl <;> rfl
theorem z4s {O':Ow} (hO:z4p O') (X:Ow) {d d':D} (h:frz (O' ++ X) O'.length 8 d=some d'):z8x O'.length (.ok d (O' ++ X))=.ok d' O':=by
 unfold z8x
 dsimp only
 rw [h]
 have:(O' ++ X).take O'.length=O':=by simp
 rw [this,z27 fun c hc=>z27 fun d hd=>z3l (hO c hc d hd)]
theorem z9e {ext:Nat} {it0:DI} {i:Nat} {te:DE} {σ:Sg} {O:Ow} {ds:List D} {m:Nat} {s:Int} {b:Bool} {P:D->Prop} (hst:StAt O m s b) (hi:it0 σ O=.ok (.val ds) O) (hl:ds.length < 50000)
  (he:∀ d ∈ ds,∀ s',StAt (O.set m [.int s',.bl b]) m s' b->∃ v s'',te ((clr (clr (σ ++ List.replicate ext none) [i]) [i]).set i (some d)) (O.set m [.int s',.bl b])=.ok v (O.set m [.int s'',.bl b])/\StAt (O.set m [.int s'',.bl b]) m s'' b/\P v):
  ∃ vs s',z0i false ext it0 (.one i) [] [] te σ O=.ok (.lst vs) (O.set m [.int s',.bl b])/\StAt (O.set m [.int s',.bl b]) m s' b/\vs.length=ds.length/\∀ v ∈ vs,P v:=by
 obtain ⟨acc,O',e,s',rfl,h1,h2,h3⟩:=z7k (ds:=ds) (step:=z5v ⟨it0,.one i,[]⟩ [] te (clr (σ ++ List.replicate ext none) (z0b [⟨it0,.one i,[]⟩])))
  (fun j O' acc=>∃ s',O'=O.set m [.int s',.bl b]/\StAt O' m s' b/\acc.length=j/\∀ v ∈ acc,P v) (fun j O' acc d hI hd=>by
   obtain ⟨s',rfl,h1,h2,h3⟩:=hI
   have hj:=(List.getElem?_eq_some_iff.mp hd).1
   obtain ⟨v,s'',q1,q2,q3⟩:=he d (List.mem_of_getElem? hd) s' h1
   refine ⟨acc ++ [v],_,?_,s'',rfl,q2,by simp [h2],fun w hw=>?_⟩
   ·show z2Q [] te ((clr (clr (σ ++ List.replicate ext none) [i]) [i]).set i (some d)) (O.set m [.int s',.bl b]) acc=_
    unfold z2Q
    rw [q1]
    show (if acc.length < 100000 then _ else _)=_
    rw [if_pos (by omega)]
   ·rcases List.mem_append.mp hw with hw|hw
    ·exact h3 w hw
    ·have:w=v:=by simpa using hw
     rw [this];exact q3) ds.length 0 O [] ⟨s,(zd9 hst.at_).symm,hst,rfl,by simp⟩ (by omega) (Nat.zero_le _)
 refine ⟨acc,s',?_,h1,h2,h3⟩
 unfold z0i z2F
 rw [hi]
 show z9V false (noX (z0s (.val ds) _ ds.length 0 O []))=_
 rw [e];rfl
theorem z4N:∀ (n:Nat) (cs:List Nat),cs.length=n->(∀ c ∈ cs,sgn c=true)->cs ∈ terms n
 | 0,cs,h,_=>by
  have:cs=[]:=List.length_eq_zero_iff.mp h
  subst this;simp [terms]
 | n + 1,cs,h,hs=>by
  have hne:cs ≠ []:=by intro e;subst e;simp at h
  obtain ⟨t,c,rfl⟩:∃ t c,cs=t ++ [c]:=⟨_,_,(List.dropLast_concat_getLast hne).symm⟩
  have ht:=z4N n t (by simpa using h) fun c hc=>hs c (List.mem_append_left _ hc)
  unfold terms
  rw [List.mem_flatMap]
  refine ⟨t,ht,?_⟩
  have hl:=hs c (by simp)
  unfold sgn at hl
  simp only [Bool.or_eq_true,beq_iff_eq] at hl
  rcases hl with (z|z)|z <;> rw [z] <;> simp
theorem zfi {σ:Sg} {O O':Ow} {tA:DA}:∀ (cs:List Nat),1 <= cs.length->cs.length <= 4->tA σ O=.ok [.lst (cs.map fun c=>.str [c])] O'->zde (dC (.str [])) tA σ O=.ok (.str cs) O'
 | [],h,_,_=>by simp at h
 | [a],_,_,h=>by show ((tA σ O).bnd _)=_;rw [h];rfl
 | [a,b],_,_,h=>by show ((tA σ O).bnd _)=_;rw [h];rfl
 | [a,b,c],_,_,h=>by show ((tA σ O).bnd _)=_;rw [h];rfl
 | [a,b,c,d],_,_,h=>by show ((tA σ O).bnd _)=_;rw [h];rfl
 | _ :: _ :: _ :: _ :: _ :: _,_,h,_=>by simp at h
theorem zaF:∀ (vs:List D),(∀ v ∈ vs,∃ c,v=D.str [c]/\sgn c=true)->∃ cs:List Nat,vs=cs.map (fun c=>D.str [c])/\∀ c ∈ cs,sgn c=true
 | [],_=>⟨[],rfl,by simp⟩
 | v :: vs,h=>by
  obtain ⟨c,rfl,hc⟩:=h v List.mem_cons_self
  obtain ⟨cs,rfl,hcs⟩:=zaF vs fun w hw=>h w (List.mem_cons_of_mem _ hw)
  exact ⟨c :: cs,rfl,fun x hx=>(List.mem_cons.mp hx).elim (fun e=>by rw [e];exact hc) (hcs x)⟩
theorem zgx {O:Ow} {m:Nat} {s:Int} {b:Bool} (h:StAt O m s b) {n:Nat} (n1:1 <= n) (n4:n <= 4):
  ∃ cs s',cs ∈ terms n/\z1S [.own m,.int n] O=.ok (.str cs) (O.set m [.int s',.bl b])/\StAt (O.set m [.int s',.bl b]) m s' b:=by
 have hi:z14 (z01 (z02 1) z03) [some (.own m),some (.int n)] O=.ok (.val ((List.range n).map fun (i:Nat)=>D.int (i:Int))) O:=z1w (z0d rfl) (by omega)
 obtain ⟨vs,s',e1,e2,e3,e4⟩:=z9e (ext:=1) (i:=2) (te:=dOp fIx (dC (.str [48,49,45,45])) (dFn 2 z0l (z01 (z02 0) (z01 (dC (.int 4)) z03)))) (P:=fun v=>∃ c,v=D.str [c]/\sgn c=true) h hi (by simp;omega) (fun d hd s' hs=>by
  obtain ⟨r,s'',r1,r2,r3⟩:=z3R hs (k:=4) (by decide) (by decide)
  rw [List.set_set] at r2 r3
  have r5:r < [48,49,45,45].length:=r1
  refine ⟨D.str [[48,49,45,45][r]],s'',(z0e rfl ((z0G (z0m rfl rfl) rfl).trans r2)).trans (z3V (by decide) r5),r3,_,rfl,?_⟩
  have:r=0 \/ r=1 \/ r=2 \/ r=3:=by omega
  rcases this with rfl|rfl|rfl|rfl <;> rfl)
 obtain ⟨cs,rfl,hcs⟩:=zaF vs e4
 have hl:cs.length=n:=by simpa using e3
 refine ⟨cs,s',z4N n cs hl hcs,?_,e2⟩
 show fin (z0F _ [some (.own m),some (.int n)] O)=_
 rw [z0t (zfi cs (by omega) (by omega) (z0d e1))];rfl
theorem zc8 {σ:Sg} {O:Ow} {t:DE} {n:Nat} (n4:n <= 4) (h:t σ O=.ok (.int n) O):dOp (fI z87) (dC (.int 1)) t σ O=.ok (.int ((2 ^ n:Nat):Int)) O:=by
 refine (z0e rfl h).trans ?_
 have:n=0 \/ n=1 \/ n=2 \/ n=3 \/ n=4:=by omega
 rcases this with rfl|rfl|rfl|rfl|rfl <;> rfl
theorem zgC (O:Ow) (p:Int) (l:List Int):fIn O (.int p) (.lst (l.map D.int))=.ok (.bl (l.any fun q=>q == p)) O:=by
 show fPy inF O (.int p) (.lst (l.map D.int))=_
 unfold fPy py
 have e:z1f O 8 (.lst (l.map D.int))=some (.list (l.map PyData.int)):=by
  show (z0W (z1f O 7) (l.map D.int)).map PyData.list=_
  rw [z4z];rfl
 rw [e]
 show R.ok (D.bl ((l.map PyData.int).any fun y=>PyData.eqv y (.int p))) O=_
 rw [List.any_map]
 rfl
theorem zbQ {O:Ow} {n f:Nat} {ds:List D} (h:∀ d ∈ ds,z5k n d=true):frz O n (f + 1) (.tup ds)=some (.tup ds):=by
 show (z0W (frz O n f) ds).map D.tup=_
 rw [z27 fun d hd=>z3l (h d hd)];rfl
theorem z9I {d:D} (h:Ans d) (n:Nat):z5k n d=true:=by rcases h with rfl|rfl|rfl <;> rfl
def L8:List D:=[.int 4,.int 3,.int 3,.int 2,.int 4,.int 3,.int 4,.int 1]
def Ls:List D:=[.lst [.int 0,.int 1],.lst [.int 0,.int 1,.non],.lst [.int 0,.int 0,.int 0,.int 1,.non],.lst [.int 1,.int 1,.int 1,.int 0,.non]]
theorem zjc (O:Ow) {r:Nat} (h:r < 8):∃ n:Nat,1 <= n/\n <= 4/\fIx O (.lst L8) (.int r)=.ok (.int n) O:=by
 have:r=0 \/ r=1 \/ r=2 \/ r=3 \/ r=4 \/ r=5 \/ r=6 \/ r=7:=by omega
 rcases this with rfl|rfl|rfl|rfl|rfl|rfl|rfl|rfl
 ·exact ⟨4,by decide,by decide,rfl⟩
 ·exact ⟨3,by decide,by decide,rfl⟩
 ·exact ⟨3,by decide,by decide,rfl⟩
 ·exact ⟨2,by decide,by decide,rfl⟩
 ·exact ⟨4,by decide,by decide,rfl⟩
 ·exact ⟨3,by decide,by decide,rfl⟩
 ·exact ⟨4,by decide,by decide,rfl⟩
 ·exact ⟨1,by decide,by decide,rfl⟩
theorem zjn (O:Ow) {r:Nat} (h:r < 4):∃ l:List D,1 <= l.length/\l.length <= 5/\(∀ d ∈ l,Ans d)/\fIx O (.lst Ls) (.int r)=.ok (.lst l) O:=by
 have:r=0 \/ r=1 \/ r=2 \/ r=3:=by omega
 rcases this with rfl|rfl|rfl|rfl
 ·exact ⟨[.int 0,.int 1],by decide,by decide,by simp [Ans],rfl⟩
 ·exact ⟨[.int 0,.int 1,.non],by decide,by decide,by simp [Ans],rfl⟩
 ·exact ⟨[.int 0,.int 0,.int 0,.int 1,.non],by decide,by decide,by simp [Ans],rfl⟩
 ·exact ⟨[.int 1,.int 1,.int 1,.int 0,.non],by decide,by decide,by simp [Ans],rfl⟩
theorem zdf (n:Nat):1 <= 2 ^ n:=Nat.one_le_two_pow
set_option maxHeartbeats 1000000 in
theorem z8g {O:Ow} (hO:z4p O) {m:Nat} {s:Int} {b:Bool} (h:StAt O m s b):
  ∃ n f s',Fn n f/\z0Y [.own m] O=.ok (.tup f) (O.set m [.int s',.bl b])/\StAt (O.set m [.int s',.bl b]) m s' b:=by
 obtain ⟨r,s1,r1,r2,h1⟩:=z3R h (k:=8) (by decide) (by decide)
 obtain ⟨n,n1,n4,hn⟩:=zjc (O.set m [.int s1,.bl b]) r1
 obtain ⟨w,s2,w1,w2,h2⟩:=z3R h1 (k:=6) (by decide) (by decide)
 rw [List.set_set] at w2 h2
 have hpw:=z2h n4
 have e1:z0A 1 (dOp fIx (z1q (z01 (dC (.int 4)) (z01 (dC (.int 3)) (z01 (dC (.int 3)) (z01 (dC (.int 2)) (z01 (dC (.int 4)) (z01 (dC (.int 3)) (z01 (dC (.int 4)) (z01 (dC (.int 1)) z03))))))))) (dFn 2 z0l (z01 (z02 0) (z01 (dC (.int 8)) z03)))) [some (.own m),none,none,none,none,none,none] O=.nx [some (.own m),some (.int n),none,none,none,none,none] (O.set m [.int s1,.bl b]):=
  z1n ((z0e (x:=.lst L8) rfl ((z0G (z0m rfl rfl) rfl).trans r2)).trans hn)
 have e2:z0A 2 (dFn 2 z0l (z01 (z02 0) (z01 (dC (.int 6)) z03))) [some (.own m),some (.int n),none,none,none,none,none] (O.set m [.int s1,.bl b])=.nx [some (.own m),some (.int n),some (.int w),none,none,none,none] (O.set m [.int s2,.bl b]):=z1n ((z0G (z0m rfl rfl) rfl).trans w2)
 have ht:z0k (dOp fLt (z02 2) (dC (.int 4))) [some (.own m),some (.int n),some (.int w),none,none,none,none] (O.set m [.int s2,.bl b])=.ok (decide ((w:Int) < 4)) (O.set m [.int s2,.bl b]):=z0f ((z0e rfl rfl).trans rfl)
 have hlen:(O.set m [.int s2,.bl b]).length=O.length:=List.length_set
 by_cases hw:(w:Int) < 4
 ·-- answers drawn from a list
  obtain ⟨l,l1,l5,la,hl⟩:=zjn (O.set m [.int s2,.bl b]) (show w < 4 by omega)
  have e3:z0A 3 (dOp fIx (z1q (z01 (z1q (z01 (dC (.int 0)) (z01 (dC (.int 1)) z03))) (z01 (z1q (z01 (dC (.int 0)) (z01 (dC (.int 1)) (z01 (dC .non) z03)))) (z01 (z1q (z01 (dC (.int 0)) (z01 (dC (.int 0)) (z01 (dC (.int 0)) (z01 (dC (.int 1)) (z01 (dC .non) z03)))))) (z01 (z1q (z01 (dC (.int 1)) (z01 (dC (.int 1)) (z01 (dC (.int 1)) (z01 (dC (.int 0)) (z01 (dC .non) z03)))))) z03))))) (z02 2)) [some (.own m),some (.int n),some (.int w),none,none,none,none] (O.set m [.int s2,.bl b])=.nx [some (.own m),some (.int n),some (.int w),some (.lst l),none,none,none] (O.set m [.int s2,.bl b]):=
   z1n ((z0e (x:=.lst Ls) rfl rfl).trans hl)
  have hi:z14 (z01 (dOp (fI z87) (dC (.int 1)) (z02 1)) z03) [some (.own m),some (.int n),some (.int w),some (.lst l),none,none,none] (O.set m [.int s2,.bl b])=.ok (.val ((List.range (2 ^ n)).map fun (i:Nat)=>D.int (i:Int))) (O.set m [.int s2,.bl b]):=z1w (z0d (zc8 n4 rfl)) (by omega)
  obtain ⟨vs,s3,c1,c2,c3,c4⟩:=z9e (ext:=1) (i:=7) (te:=dOp fIx (z02 3) (dFn 2 z0l (z01 (z02 0) (z01 (z06 z1r (z01 (z02 3) z03)) z03)))) (P:=Ans) h2 hi (by simp;omega) (fun d hd s' hs=>by
   rw [List.set_set] at hs
   obtain ⟨q,s'',q1,q2,q3⟩:=z3R hs (k:=l.length) l1 (by omega)
   rw [List.set_set] at q2 q3
   rw [List.set_set]
   refine ⟨l[q],s'',?_,by rw [List.set_set];exact q3,la _ (List.getElem_mem q1)⟩
   rw [List.set_set]
   exact (z0e (x:=.lst l) rfl ((z0G (z0m rfl ((z0x (z0d rfl)).trans rfl)) rfl).trans q2)).trans (z8y q1))
  rw [List.set_set] at c1 c2
  have hv:vs.length=2 ^ n:=by simpa using c3
  refine ⟨n,vs,s3,⟨n1,n4,hv,c4⟩,?_,c2⟩
  show z8x O.length (fin (z0n _ _ [some (.own m),none,none,none,none,none,none] O))=_
  rw [z0o e1,z0o e2]
  have e4:sIf (z0k (dOp fLt (z02 2) (dC (.int 4)))) (z0n (z0A 3 (dOp fIx (z1q (z01 (z1q (z01 (dC (.int 0)) (z01 (dC (.int 1)) z03))) (z01 (z1q (z01 (dC (.int 0)) (z01 (dC (.int 1)) (z01 (dC .non) z03)))) (z01 (z1q (z01 (dC (.int 0)) (z01 (dC (.int 0)) (z01 (dC (.int 0)) (z01 (dC (.int 1)) (z01 (dC .non) z03)))))) (z01 (z1q (z01 (dC (.int 1)) (z01 (dC (.int 1)) (z01 (dC (.int 1)) (z01 (dC (.int 0)) (z01 (dC .non) z03)))))) z03))))) (z02 2))) (z0F (z06 z0P (z01 (z0i false 1 (z14 (z01 (dOp (fI z87) (dC (.int 1)) (z02 1)) z03)) (.one 7) [] [] (dOp fIx (z02 3) (dFn 2 z0l (z01 (z02 0) (z01 (z06 z1r (z01 (z02 3) z03)) z03))))) z03)))) z1z [some (.own m),some (.int n),some (.int w),none,none,none,none] (O.set m [.int s2,.bl b])=.rt (.tup vs) (O.set m [.int s3,.bl b]):=by
   rw [z0K ht,if_pos (decide_eq_true hw),z0o e3,z0t ((z0x (z0d c1)).trans rfl)]
  rw [z32 e4]
  show z8x O.length (.ok (.tup vs) (O.set m [.int s3,.bl b]))=_
  have:=z4s (z4A hO m s3 b) [] (d:=.tup vs) (d':=.tup vs) (zbQ fun d hd=>z9I (c4 d hd) _)
  rw [List.append_nil,List.length_set] at this
  exact this
 ·-- the points of terms
  have e3:sIf (z0k (dOp fLt (z02 2) (dC (.int 4)))) (z0n (z0A 3 (dOp fIx (z1q (z01 (z1q (z01 (dC (.int 0)) (z01 (dC (.int 1)) z03))) (z01 (z1q (z01 (dC (.int 0)) (z01 (dC (.int 1)) (z01 (dC .non) z03)))) (z01 (z1q (z01 (dC (.int 0)) (z01 (dC (.int 0)) (z01 (dC (.int 0)) (z01 (dC (.int 1)) (z01 (dC .non) z03)))))) (z01 (z1q (z01 (dC (.int 1)) (z01 (dC (.int 1)) (z01 (dC (.int 1)) (z01 (dC (.int 0)) (z01 (dC .non) z03)))))) z03))))) (z02 2))) (z0F (z06 z0P (z01 (z0i false 1 (z14 (z01 (dOp (fI z87) (dC (.int 1)) (z02 1)) z03)) (.one 7) [] [] (dOp fIx (z02 3) (dFn 2 z0l (z01 (z02 0) (z01 (z06 z1r (z01 (z02 3) z03)) z03))))) z03)))) z1z [some (.own m),some (.int n),some (.int w),none,none,none,none] (O.set m [.int s2,.bl b])=.nx [some (.own m),some (.int n),some (.int w),none,none,none,none] (O.set m [.int s2,.bl b]):=by
   rw [z0K ht,if_neg (by simpa using hw)];rfl
  obtain ⟨q,s3,q1,q2,h3⟩:=z3R h2 (k:=5) (by decide) (by decide)
  rw [List.set_set] at q2 h3
  have hi:z14 (z01 (dOp z2G (dC (.int 1)) (dFn 2 z0l (z01 (z02 0) (z01 (dC (.int 5)) z03)))) z03) [some (.own m),some (.int n),some (.int w),none,some (.lst []),none,none] (O.set m [.int s2,.bl b])=.ok (.val ((List.range (1 + q)).map fun (i:Nat)=>D.int (i:Int))) (O.set m [.int s3,.bl b]):=by
   refine z1w (z0d ((z0e rfl ((z0G (z0m rfl rfl) rfl).trans q2)).trans ?_)) (by omega)
   rw [z3i]
   congr 2
  obtain ⟨σ',O',f1,s4,l,y,rfl,rfl,h4,hll⟩:=z3s (ds:=(List.range (1 + q)).map fun (i:Nat)=>D.int (i:Int)) (step:=fun d σ O=>match Tg.put (.one 5) d σ with|some σ'=>(z0A 4 (dOp z2G (z02 4) (dFn 1 z0c (z01 (dFn 2 z1S (z01 (z02 0) (z01 (z02 1) z03))) z03)))) σ' O|none=>.bad)
   (fun i σ O'=>∃ (s4:Int) (l:List Nat) (y:Option D),σ=[some (.own m),some (.int n),some (.int w),none,some (.lst (z07 l)),y,none]/\O'=O.set m [.int s4,.bl b]/\StAt O' m s4 b/\l.length <= 16 * i)
   (fun i σ O' d hI hd=>by
    obtain ⟨s4,l,y,rfl,rfl,h4,hll⟩:=hI
    have hi:i < 1 + q:=by have:=(List.getElem?_eq_some_iff.mp hd).1;simpa using this
    obtain ⟨cs,s5,t1,t2,t3⟩:=zgx h4 n1 n4
    rw [List.set_set] at t2 t3
    have hp:=z12 (z1y n1 n4 t1) (z4A hO m s5 b)
    have hpl:=z33 (z1y n1 n4 t1)
    refine ⟨_,_,z1n ((z0e (x:=.lst (z07 l)) rfl ((z0G (z0d ((z0G (z0m rfl rfl) rfl).trans t2)) rfl).trans hp)).trans (?_:_=R.ok (D.lst (z07 (l ++ pts cs))) _)),s5,l ++ pts cs,some d,rfl,rfl,t3,by simp;omega⟩
    show (if (z07 l).length + (z07 (pts cs)).length <= 100000 then R.ok (D.lst (z07 l ++ z07 (pts cs))) _ else R.bad)=_
    rw [if_pos (by unfold z07;simp;omega)]
    unfold z07
    rw [List.map_append])
   (1 + q) 0 [some (.own m),some (.int n),some (.int w),none,some (.lst []),none,none] (O.set m [.int s3,.bl b]) ⟨s3,[],none,rfl,rfl,h3,by simp⟩ (by simp) (Nat.zero_le _)
  have hx:=hll
  -- the answers
  let g:D->D:=fun d=>match d with|.int p=>.int (if ((l.map fun (p:Nat)=>(p:Int)).any fun q=>q == p) then 1 else 0)|d=>d
  have hi2:z14 (z01 (dOp (fI z87) (dC (.int 1)) (z02 1)) z03) [some (.own m),some (.int n),some (.int w),none,some (.lst (z07 l)),y,none] (O.set m [.int s4,.bl b])=.ok (.val ((List.range (2 ^ n)).map fun (i:Nat)=>D.int (i:Int))) (O.set m [.int s4,.bl b]):=z1w (z0d (zc8 n4 rfl)) (by omega)
  have hc:=z2e (ext:=1) (i:=7) (ts:=[]) (te:=z06 z8O (z01 (dOp fIn (z02 7) (z02 4)) z03)) (p:=fun _=>true) (e:=g) hi2 (by simp;omega) (fun d hd=>rfl) (fun d hd _=>by
   obtain ⟨p,hp,rfl⟩:=List.mem_map.mp hd
   have e:z07 l=(l.map fun (p:Nat)=>(p:Int)).map D.int:=by unfold z07;rw [List.map_map];rfl
   refine (z0x (z0d ((z0e (x:=.int (p:Int)) (y:=.lst (z07 l)) rfl rfl).trans (by rw [e];exact zgC _ _ _)))).trans ?_
   rfl) true
  generalize hvs:(((List.range (2 ^ n)).map fun (i:Nat)=>D.int (i:Int)).filter fun _=>true).map g=vs at hc
  have hvl:vs.length=2 ^ n:=by rw [<- hvs,List.length_map,z2r];simp
  have hva:∀ d ∈ vs,Ans d:=by
   intro d hd
   rw [<- hvs] at hd
   obtain ⟨d',hd',rfl⟩:=List.mem_map.mp hd
   obtain ⟨p,hp,rfl⟩:=List.mem_map.mp (List.mem_filter.mp hd').1
   show Ans (.int (if _ then 1 else 0))
   split
   ·exact .inr (.inl rfl)
   ·exact .inl rfl
  have hlen4:(O.set m [.int s4,.bl b]).length=O.length:=List.length_set
  have e5:z0A 6 (z0i true 1 (z14 (z01 (dOp (fI z87) (dC (.int 1)) (z02 1)) z03)) (.one 7) [] [] (z06 z8O (z01 (dOp fIn (z02 7) (z02 4)) z03))) [some (.own m),some (.int n),some (.int w),none,some (.lst (z07 l)),y,none] (O.set m [.int s4,.bl b])=.nx [some (.own m),some (.int n),some (.int w),none,some (.lst (z07 l)),y,some (.own O.length)] (O.set m [.int s4,.bl b] ++ [vs]):=by
   rw [z1n (hc.trans rfl),hlen4];rfl
  have hcell:∀ (s5:Int) (ws:List D),(O.set m [.int s5,.bl b] ++ [ws])[O.length]?=some ws:=fun s5 ws=>by
   have:O.length=(O.set m [.int s5,.bl b]).length:=List.length_set.symm
   rw [this];simp
  -- one of them may be free
  obtain ⟨fs,s5,k1,k2,k3,k4⟩:∃ fs s5,sIf (z0k (dOp (fPy eqF) (z02 2) (dC (.int 5)))) (zcz (dC .non) (z02 6) (dFn 2 z0l (z01 (z02 0) (z01 (dOp (fI z87) (dC (.int 1)) (z02 1)) z03)))) z1z [some (.own m),some (.int n),some (.int w),none,some (.lst (z07 l)),y,some (.own O.length)] (O.set m [.int s4,.bl b] ++ [vs])
    = .nx [some (.own m),some (.int n),some (.int w),none,some (.lst (z07 l)),y,some (.own O.length)] (O.set m [.int s5,.bl b] ++ [fs])/\fs.length=2 ^ n/\(∀ d ∈ fs,Ans d)/\StAt (O.set m [.int s5,.bl b]) m s5 b:=by
   have hq:z0k (dOp (fPy eqF) (z02 2) (dC (.int 5))) [some (.own m),some (.int n),some (.int w),none,some (.lst (z07 l)),y,some (.own O.length)] (O.set m [.int s4,.bl b] ++ [vs])=.ok ((w:Int) == 5) (O.set m [.int s4,.bl b] ++ [vs]):=z0f ((z0e rfl rfl).trans rfl)
   rw [z0K hq]
   by_cases h5:((w:Int) == 5)=true
   ·rw [if_pos h5]
    have hml:m < (O.set m [.int s4,.bl b]).length:=h4.len
    have hst:StAt (O.set m [.int s4,.bl b] ++ [vs]) m s4 b:=⟨by rw [List.getElem?_append_left hml];exact h4.at_,h4.nn,h4.lt⟩
    obtain ⟨z,s5,z1,z2,z3⟩:=z3R hst (k:=2 ^ n) (zdf n) (by omega)
    rw [List.set_append_left _ _ hml,List.set_set] at z2 z3
    refine ⟨vs.set z .non,s5,?_,by rw [List.length_set];exact hvl,fun d hd=>?_,?_⟩
    ·have ez:dFn 2 z0l (z01 (z02 0) (z01 (dOp (fI z87) (dC (.int 1)) (z02 1)) z03)) [some (.own m),some (.int n),some (.int w),none,some (.lst (z07 l)),y,some (.own O.length)] (O.set m [.int s4,.bl b] ++ [vs])=.ok (.int (z:Int)) (O.set m [.int s5,.bl b] ++ [vs]):=(z0G (z0m rfl (zc8 n4 rfl)) rfl).trans z2
     rw [z8R (y:=.non) (k:=O.length) (i:=(z:Int)) (ds:=vs) (j:=z) rfl rfl ez (hcell s5 vs) (by
      unfold L2.ixN
      rw [if_pos (by omega),if_pos (by rw [hvl];omega)]
      rfl)]
     have hs2:(O.set m [.int s5,.bl b] ++ [vs]).set O.length (vs.set z .non)=O.set m [.int s5,.bl b] ++ [vs.set z .non]:=by
      rw [List.set_append_right _ _ (by rw [List.length_set];exact Nat.le_refl _),List.length_set,Nat.sub_self];rfl
     rw [hs2]
    ·rcases List.mem_or_eq_of_mem_set hd with hd|rfl
     ·exact hva d hd
     ·exact .inr (.inr rfl)
    ·have hml5:m < (O.set m [.int s5,.bl b]).length:=by rw [List.length_set];exact h.len
     exact ⟨by have:=z3.at_;rw [List.getElem?_append_left hml5] at this;exact this,z3.nn,z3.lt⟩
   ·rw [if_neg h5]
    exact ⟨vs,s4,rfl,hvl,hva,h4⟩
  refine ⟨n,fs,s5,⟨n1,n4,k2,k3⟩,?_,k4⟩
  show z8x O.length (fin (z0n _ _ [some (.own m),none,none,none,none,none,none] O))=_
  rw [z0o e1,z0o e2,z0o e3]
  have e4:z0A 4 (z1q z03) [some (.own m),some (.int n),some (.int w),none,none,none,none] (O.set m [.int s2,.bl b])=.nx [some (.own m),some (.int n),some (.int w),none,some (.lst []),none,none] (O.set m [.int s2,.bl b]):=rfl
  have hlr:((List.range (1 + q)).map fun (i:Nat)=>D.int (i:Int)).length=1 + q:=by simp
  rw [z0o e4,z0o ((z6W hi).trans (by
   show z2k _ _ ((List.range (1 + q)).map fun (i:Nat)=>D.int (i:Int)).length 0 _ _=_
   rw [hlr];exact f1)),z0o e5,z0o k1]
  have e7:z06 z0P (z01 (z02 6) z03) [some (.own m),some (.int n),some (.int w),none,some (.lst (z07 l)),y,some (.own O.length)] (O.set m [.int s5,.bl b] ++ [fs])=.ok (.tup fs) (O.set m [.int s5,.bl b] ++ [fs]):=by
   refine (z0x (z0d rfl)).trans ?_
   show (match (O.set m [.int s5,.bl b] ++ [fs])[O.length]? with|some ds=>R.ok (D.tup ds) _|none=>_)=_
   rw [hcell]
  rw [z0t e7]
  show z8x O.length (.ok (.tup fs) (O.set m [.int s5,.bl b] ++ [fs]))=_
  have:=z4s (z4A hO m s5 b) [fs] (d:=.tup fs) (d':=.tup fs) (zbQ fun d hd=>z9I (k3 d hd) _)
  rw [List.length_set] at this
  exact this
theorem z7o {src:Src} {step:D->Ow->List D->R (List D)} {O:Ow} {g:D->List D} {all:List D} (hg:∀ i,src.get O i=all[i]?):∀ (ds pre acc:List D) (f:Nat),all=pre ++ ds->ds.length <= f->(∀ d ∈ ds,∀ acc:List D,acc.length < 100000->step d O acc=.ok (acc ++ g d) O)->acc.length + (ds.flatMap g).length + ds.length < 100000->
  z0s src step f pre.length O acc=.ok (acc ++ ds.flatMap g) O
 | [],pre,acc,f,ha,_,_,_=>by
  have e:src.get O pre.length=none:=by rw [hg,ha];simp
  cases f <;> (unfold z0s;rw [e];simp)
 | d :: ds,pre,acc,0,_,h,_,_=>by simp at h
 | d :: ds,pre,acc,f + 1,ha,h,hs,hl=>by
  unfold z0s
  have e:src.get O pre.length=some d:=by rw [hg,ha];simp
  rw [e]
  simp only [List.flatMap_cons,List.length_append,List.length_cons] at hl
  show ((step d O acc).bnd fun acc' O'=>z0s src step f (pre.length + 1) O' acc')=_
  rw [hs d List.mem_cons_self acc (by omega)]
  show z0s src step f (pre.length + 1) O (acc ++ g d)=_
  have:=z7o hg ds (pre ++ [d]) (acc ++ g d) f (by rw [ha];simp) (by simpa using h) (fun d' h'=>hs d' (List.mem_cons_of_mem _ h')) (by rw [List.length_append];omega)
  rw [List.length_append,List.length_singleton] at this
  rw [this];simp
theorem zc0 {ext:Nat} {it0:DI} {g:Tg} {ts:List DT} {te:DE} {σ:Sg} {O:Ow} {src:Src} {ds:List D} {p:D->Bool} {e:D->D} {τ:D->Sg} (hi:it0 σ O=.ok src O) (hg:∀ i,src.get O i=ds[i]?) (hsz:src.size O=ds.length) (hl:ds.length < 50000)
  (hput:∀ d ∈ ds,g.put d (clr (clr (σ ++ List.replicate ext none) (g.slots ++ [])) (g.slots ++ []))=some (τ d)) (hp:∀ d ∈ ds,z5x ts (τ d) O=.ok (p d) O) (he:∀ d ∈ ds,p d=true->te (τ d) O=.ok (e d) O) (o:Bool):
  z0i o ext it0 g ts [] te σ O=z9V o (.ok ((ds.filter p).map e) O):=by
 unfold z0i z2F
 rw [hi]
 show z9V o (noX (z0s src _ (src.size O) 0 O []))=_
 have step:∀ d ∈ ds,∀ acc:List D,acc.length < 100000->z5v ⟨it0,g,ts⟩ [] te (clr (σ ++ List.replicate ext none) (z0b [⟨it0,g,ts⟩])) d O acc=.ok (acc ++ (if p d=true then [e d] else [])) O:=by
  intro d hd acc ha
  show (match g.put d (clr (clr (σ ++ List.replicate ext none) (g.slots ++ [])) (g.slots ++ [])) with|some σ1=>(z5x ts σ1 O).bnd fun b O3=>if b=true then z2Q [] te σ1 O3 acc else .ok acc O3|none=>.bad)=_
  rw [hput d hd]
  show (z5x ts (τ d) O).bnd _=_
  rw [hp d hd]
  show (if p d=true then z2Q [] te _ O acc else .ok acc O)=_
  by_cases hpd:p d=true
  ·rw [if_pos hpd,if_pos hpd]
   unfold z2Q
   rw [he d hd hpd]
   show (if acc.length < 100000 then _ else _)=_
   rw [if_pos ha]
  ·rw [if_neg hpd,if_neg hpd];simp
 have hb:∀ l:List D,(l.flatMap fun d=>if p d=true then [e d] else [])=(l.filter p).map e:=by
  intro l
  induction l with
  | nil=>rfl
  | cons x l ih=>
   rw [List.flatMap_cons,ih,List.filter_cons]
   by_cases hx:p x=true
   ·rw [if_pos hx,if_pos hx];rfl
   ·rw [if_neg hx,if_neg hx];rfl
 have hlen:((ds.filter p).map e).length <= ds.length:=by rw [List.length_map];exact List.length_filter_le _ _
 have w:=z7o (O:=O) (g:=fun d=>if p d=true then [e d] else []) hg ds [] [] ds.length rfl (Nat.le_refl _) step (by rw [hb];simp at hlen ⊢;omega)
 rw [hb,List.nil_append] at w
 have w':z0s src (z5v ⟨it0,g,ts⟩ [] te (clr (σ ++ List.replicate ext none) (z0b [⟨it0,g,ts⟩]))) (src.size O) 0 O []=.ok ((ds.filter p).map e) O:=by rw [hsz];exact w
 rw [w'];rfl
structure Sq (O:Ow) (x:D) (xs:List D) (kd:String):Prop where
 zk:∃ src,zkD x=some src/\(∀ i,src.get O i=xs[i]?)/\src.size O=xs.length
 ln:z1r O [x]=.ok (.int xs.length) O
 kind:z2S x=kd
theorem z5X (O:Ow) (xs:List D):Sq O (.tup xs) xs "tuple":=⟨⟨_,rfl,fun _=>rfl,rfl⟩,rfl,rfl⟩
theorem z6l {k:Nat} {O:Ow} {x y:D} {xs ys:List D} {kd:String} (hx:Sq O x xs kd) (hy:Sq O y ys kd) (hkd:kd = "list" \/ kd = "tuple") (hl:xs.length=ys.length) (h5:ys.length < 10000) (hs:∀ (i:Nat) (x y:D),xs[i]?=some x->ys[i]?=some y->z0C k [x,y] O=.ok (.bl true) O):z0C (k + 1) [x,y] O=.ok (.bl true) O:=by
 obtain ⟨src,s1,s2,s3⟩:=hx.zk
 obtain ⟨srcy,y1,y2,y3⟩:=hy.zk
 have hk:=hx.kind
 have hky:=hy.kind
 have hi:zdZ (z01 (z02 0) (z01 (z02 1) z03)) [some x,some y] O=.ok (.zip src srcy) O:=by
  show (match zkD x,zkD y with|some p,some q=>R.ok (Src.zip p q) O|_,_=>R.bad)=_
  rw [s1,y1]
 have hgz:∀ i,(Src.zip src srcy).get O i=((xs.zip ys).map fun q=>D.tup [q.1,q.2])[i]?:=by
  intro i
  show (match src.get O i,srcy.get O i with|some x,some y=>some (D.tup [x,y])|_,_=>none)=_
  rw [s2,y2,List.getElem?_map]
  cases e1:xs[i]? with
  | none=>
   have:(xs.zip ys)[i]?=none:=by
    rw [List.getElem?_eq_none_iff] at e1 ⊢
    rw [List.length_zip];omega
   rw [this];rfl
  | some a=>
   have hi:=(List.getElem?_eq_some_iff.mp e1).1
   have e2:ys[i]?=some ys[i]:=List.getElem?_eq_getElem (by omega)
   have:(xs.zip ys)[i]?=some (a,ys[i]):=List.getElem?_zip_eq_some.mpr ⟨e1,e2⟩
   rw [this,e2];rfl
 have hzz:(Src.zip src srcy).size O=((xs.zip ys).map fun q=>D.tup [q.1,q.2]).length:=by
  show min (src.size O) (srcy.size O)=_
  rw [s3,y3,List.length_map,List.length_zip]
 have hc:=zc0 (ext:=2) (g:=.two 2 3) (ts:=[]) (te:=dFn 2 (z0C k) (z01 (z02 2) (z01 (z02 3) z03))) (p:=fun _=>true) (e:=fun _=>.bl true) (τ:=fun d=>match d with|.tup [a,b]=>[some x,some y,some a,some b]|_=>[]) hi hgz hzz (by rw [List.length_map,List.length_zip];omega)
  (fun d hd=>by obtain ⟨q,_,rfl⟩:=List.mem_map.mp hd;rfl) (fun d hd=>rfl) (fun d hd _=>by
   obtain ⟨q,hq,rfl⟩:=List.mem_map.mp hd
   obtain ⟨i,hi,e⟩:=List.mem_iff_getElem.mp hq
   have e:(xs.zip ys)[i]?=some (q.1,q.2):=by rw [List.getElem?_eq_getElem hi,e]
   obtain ⟨e1,e2⟩:=List.getElem?_zip_eq_some.mp e
   exact (z0G (z0m rfl rfl) rfl).trans (hs i q.1 q.2 e1 e2)) false
 have e2:((((xs.zip ys).map fun q=>D.tup [q.1,q.2]).filter fun _=>true).map fun _=>D.bl true)=((xs.zip ys).map fun _=>true).map D.bl:=by rw [z2r,List.map_map,List.map_map];rfl
 rw [e2] at hc
 have c1:z1g (zan "tuple" "list" (z02 1)) [some x,some y] O=.ok true O:=by
  show z1g (fun _ O=>R.ok (D.bl (z86 (z2S y) "tuple" || z86 (z2S y) "list")) O) [some x,some y] O=_
  rw [hky]
  rcases hkd with rfl|rfl <;> rfl
 have isT:∀ z:D,z2S z=kd->∀ i,([some x,some y]:Sg)[i]?=some (some z)->z2V "tuple" (z02 i) [some x,some y] O=.ok (.bl (z86 kd "tuple")) O:=fun z hz i hi=>by
  show (((match ([some x,some y]:Sg)[i]? with|some (some d)=>R.ok d O|_=>R.bad):R D).bnd _)=_
  rw [hi,<- hz];rfl
 have isL:∀ z:D,z2S z=kd->∀ i,([some x,some y]:Sg)[i]?=some (some z)->z2V "list" (z02 i) [some x,some y] O=.ok (.bl (z86 kd "list")) O:=fun z hz i hi=>by
  show (((match ([some x,some y]:Sg)[i]? with|some (some d)=>R.ok d O|_=>R.bad):R D).bnd _)=_
  rw [hi,<- hz];rfl
 have nb:∀ b:Bool,fPy neF O (.bl b) (.bl b)=.ok (.bl false) O:=fun b=>by cases b <;> kernel_rfl
 have c2:z6Z (z0k (dOp (fPy neF) (z2V "tuple" (z02 0)) (z2V "tuple" (z02 1)))) (z0k (dOp (fPy neF) (z2V "list" (z02 0)) (z2V "list" (z02 1)))) [some x,some y] O=.ok false O:=by
  have a1:z0k (dOp (fPy neF) (z2V "tuple" (z02 0)) (z2V "tuple" (z02 1))) [some x,some y] O=.ok false O:=z0f ((z0e (isT x hk 0 rfl) (isT y hky 1 rfl)).trans (nb _))
  have a2:z0k (dOp (fPy neF) (z2V "list" (z02 0)) (z2V "list" (z02 1))) [some x,some y] O=.ok false O:=z0f ((z0e (isL x hk 0 rfl) (isL y hky 1 rfl)).trans (nb _))
  show ((z0k (dOp (fPy neF) (z2V "tuple" (z02 0)) (z2V "tuple" (z02 1))) [some x,some y] O).bnd _)=_
  rw [a1]
  exact a2
 have c3:z0k (dOp (fPy neF) (z06 z1r (z01 (z02 0) z03)) (z06 z1r (z01 (z02 1) z03))) [some x,some y] O=.ok false O:=by
  refine z0f ((z0e ((z0x (z0d rfl)).trans hx.ln) ((z0x (z0d rfl)).trans hy.ln)).trans ?_)
  rw [hl]
  show R.ok (D.bl (!((ys.length:Int) == (ys.length:Int)))) O=_
  simp
 show fin (z0n _ _ [some x,some y] O)=_
 have e4:∀ (a:DS),z0n (sIf (z1g (zan "tuple" "list" (z02 1))) a z1z) (z0F (ze2 (dOp (fPy eqF) (z02 0) (z02 1)) (dOp (fPy eqF) (z2V "bool" (z02 0)) (z2V "bool" (z02 1))))) [some x,some y] O=match a [some x,some y] O with|.nx σ' O'=>z0F (ze2 (dOp (fPy eqF) (z02 0) (z02 1)) (dOp (fPy eqF) (z2V "bool" (z02 0)) (z2V "bool" (z02 1)))) σ' O'|r=>r:=fun a=>by
  show (match sIf (z1g (zan "tuple" "list" (z02 1))) a z1z [some x,some y] O with|.nx σ' O'=>_|r=>r)=_
  rw [z0K c1,if_pos rfl]
 rw [e4,z0o (σ':=[some x,some y]) (O1:=O) (by rw [z0K c2];rfl),z0o (σ':=[some x,some y]) (O1:=O) (by rw [z0K c3];rfl),z0t ((z0x (z0d hc)).trans (z6r O _))]
 show R.ok (D.bl _) O=_
 congr 2
 rw [List.all_map]
 exact List.all_eq_true.mpr fun _ _=>rfl
def z30:D->Bool
 | .int 1=>true
 | _=>false
def zeM (f:List D) (cs:List Nat):Bool:=(pts cs).any fun p=>z30 (f.getD p .non)
theorem eq1 (O:Ow) {d:D} (h:Ans d):fPy eqF O d (.int 1)=.ok (.bl (z30 d)) O:=by rcases h with rfl|rfl|rfl <;> kernel_rfl
theorem z5q {n:Nat} {f:List D} (hf:Fn n f) {cs:List Nat} (h:cs ∈ terms n) (O:Ow):z1k [.tup f,.str cs] O=.ok (.bl (zeM f cs)) O:=by
 have hA:=z1y hf.n1 hf.n4 h
 have hl:=z1F hf.n1 hf.n4 h
 have hit:dIt (dFn 1 z0w (z01 (z02 1) z03)) [some (.tup f),some (.str cs)] O=.ok (.val (z07 (pts cs))) O:=z1J ((z0G (z0d rfl) rfl).trans (z24 hA O))
 have hc:=z8a (o:=false) (ext:=1) (i:=2) (te:=dOp (fPy eqF) (dOp fIx (z02 0) (z02 2)) (dC (.int 1))) (e:=fun p=>D.bl (z30 (f.getD p .non))) (τ:=fun p=>[some (.tup f),some (.str cs),some (.int (p:Nat))]) hit (by have:=z33 hA;omega) (fun _=>rfl) (fun q hq=>by
  have hlt:q < f.length:=by rw [hf.len,<- hl];exact z97 hA hq
  refine (z0e ((z0e rfl rfl).trans (z4F (i:=q) hlt)) rfl).trans ((eq1 O (hf.ans _ (List.getElem_mem hlt))).trans ?_)
  rw [z34 hlt])
 show fin (z0F _ [some (.tup f),some (.str cs)] O)=_
 rw [z0t ((z0x (z0d hc)).trans (z4q O _ _))]
 rfl
def allS:List (List Nat × Nat):=allT.flatMap fun cs=>(List.range cs.length).map fun k=>(cs,k)
theorem z94 {cs:List Nat} {k:Nat} (h:cs ∈ allT) (hk:k < cs.length):(cs,k) ∈ allS:=by
 unfold allS
 rw [List.mem_flatMap]
 exact ⟨cs,h,List.mem_map.mpr ⟨k,List.mem_range.mpr hk,rfl⟩⟩
theorem zd6 (O:Ow):(allS.map fun q=>z1Y [.str q.1,.int (q.2:Nat),.str [45]] O)=allS.map fun q=>R.ok (.str (q.1.set q.2 45)) O:=by kernel_rfl
theorem zfM {cs:List Nat} {k:Nat} (h:cs ∈ allT) (hk:k < cs.length) (O:Ow):z1Y [.str cs,.int (k:Nat),.str [45]] O=.ok (.str (cs.set k 45)) O:=List.map_inj_left.mp (zd6 O) _ (z94 h hk)
theorem z6O:(allT.all fun cs=>cs.all sgn)=true:=by decide +kernel
theorem z5e {n:Nat} (h1:1 <= n) (h4:n <= 4) {cs:List Nat} (h:cs ∈ terms n):∀ c ∈ cs,sgn c=true:=List.all_eq_true.mp (List.all_eq_true.mp z6O cs (z1y h1 h4 h))
theorem z7s {n:Nat} (h1:1 <= n) (h4:n <= 4) {cs:List Nat} (h:cs ∈ terms n) {k c:Nat} (hc:sgn c=true):cs.set k c ∈ terms n:=by
 refine z4N n _ (by rw [List.length_set];exact z1F h1 h4 h) fun x hx=>?_
 rcases List.mem_or_eq_of_mem_set hx with hx|rfl
 ·exact z5e h1 h4 h x hx
 ·exact hc
theorem z8U (O:Ow) {c:Nat} (h:sgn c=true):fPy neF O (.str [c]) (.str [45])=.ok (.bl (c != 45)) O:=by
 unfold sgn at h
 simp only [Bool.or_eq_true,beq_iff_eq] at h
 rcases h with (rfl|rfl)|rfl <;> kernel_rfl
def zhv (f:List D) (cs:List Nat) (k:Nat):Bool:=cs.getD k 0 != 45 && z2w f (cs.set k 45)
def z2s (f:List D) (cs:List Nat):Bool:=!(List.range cs.length).any (zhv f cs)
theorem z9C {cs:List Nat} {k:Nat} (h:k < cs.length):cs.getD k 0=cs[k]:=by rw [List.getD_eq_getElem?_getD,List.getElem?_eq_getElem h];rfl
theorem zhK {n:Nat} {f:List D} (hf:Fn n f) {cs:List Nat} (h:cs ∈ terms n) {k:Nat} (hk:k < cs.length) (O:Ow):z18 [.tup f,.str cs,.int (k:Nat)] O=.ok (.bl (zhv f cs k)) O:=by
 have hA:=z1y hf.n1 hf.n4 h
 have h4:cs.length <= 4:=by rw [z1F hf.n1 hf.n4 h];exact hf.n4
 have hs:=z5e hf.n1 hf.n4 h _ (List.getElem_mem hk)
 show fin (z1u [some (.tup f),some (.str cs),some (.int (k:Nat))] O)=_
 have a1:dOp (fPy neF) (dOp fIx (z02 1) (z02 2)) (dC (.str [45])) [some (.tup f),some (.str cs),some (.int (k:Nat))] O=.ok (.bl (cs[k] != 45)) O:=(z0e ((z0e rfl rfl).trans (z3V (by omega) hk)) rfl).trans (z8U O hs)
 unfold z1u zhv
 rw [z9C hk]
 simp only [z0n,z0A,sIf,z0F,z20,z1z,z02,dC,z01,z03,dFn,z06,dOp,z0k,z1g,z1B,zgM,R.bnd,R.bnS,fin,List.getElem?_cons_zero,List.getElem?_cons_succ,List.set_cons_zero,List.set_cons_succ,List.length_cons,List.length_nil,Nat.zero_add,Nat.reduceAdd,Nat.reduceLeDiff,Nat.reduceLT,if_true,if_false,Bool.not_true,Bool.not_false,Bool.false_eq_true,ite_true,ite_false,ze2]
 have a1':(match (match dOp fIx (z02 1) (z02 2) [some (.tup f),some (.str cs),some (.int (k:Nat))] O with|.ok a O=>R.ok a O|r=>r) with|_=>True):=trivial
 rw [show fIx O (D.str cs) (D.int (k:Nat))=.ok (.str [cs[k]]) O from z3V (by omega) hk]
 simp only [z0n,z0A,sIf,z0F,z20,z1z,z02,dC,z01,z03,dFn,z06,dOp,z0k,z1g,z1B,zgM,R.bnd,R.bnS,fin,List.getElem?_cons_zero,List.getElem?_cons_succ,List.set_cons_zero,List.set_cons_succ,List.length_cons,List.length_nil,Nat.zero_add,Nat.reduceAdd,Nat.reduceLeDiff,Nat.reduceLT,if_true,if_false,Bool.not_true,Bool.not_false,Bool.false_eq_true,ite_true,ite_false,z8U O hs]
 cases hc:(cs[k] != 45) with
 | true=>
  simp only [z0n,z0A,sIf,z0F,z20,z1z,z02,dC,z01,z03,dFn,z06,dOp,z0k,z1g,z1B,zgM,R.bnd,R.bnS,fin,List.getElem?_cons_zero,List.getElem?_cons_succ,List.set_cons_zero,List.set_cons_succ,List.length_cons,List.length_nil,Nat.zero_add,Nat.reduceAdd,Nat.reduceLeDiff,Nat.reduceLT,if_true,if_false,Bool.not_true,Bool.not_false,Bool.false_eq_true,ite_true,ite_false,zfM hA hk O,z9j hf (z7s hf.n1 hf.n4 h (k:=k) (c:=45) rfl) O,Bool.true_and]
 | false=>simp only [z0n,z0A,sIf,z0F,z20,z1z,z02,dC,z01,z03,dFn,z06,dOp,z0k,z1g,z1B,zgM,R.bnd,R.bnS,fin,List.getElem?_cons_zero,List.getElem?_cons_succ,List.set_cons_zero,List.set_cons_succ,List.length_cons,List.length_nil,Nat.zero_add,Nat.reduceAdd,Nat.reduceLeDiff,Nat.reduceLT,if_true,if_false,Bool.not_true,Bool.not_false,Bool.false_eq_true,ite_true,ite_false,Bool.false_and]
theorem zbM {n:Nat} {f:List D} (hf:Fn n f) {cs:List Nat} (h:cs ∈ terms n) (O:Ow):z1X [.tup f,.str cs] O=.ok (.bl (z2s f cs)) O:=by
 have h4:cs.length <= 4:=by rw [z1F hf.n1 hf.n4 h];exact hf.n4
 have hi:z14 (z01 (z06 z1r (z01 (z02 1) z03)) z03) [some (.tup f),some (.str cs)] O=.ok (.val ((List.range cs.length).map fun (i:Nat)=>D.int (i:Int))) O:=z1w (z0d ((z0x (z0d rfl)).trans (z3c (by omega)))) (by omega)
 have hc:=z8a (o:=false) (ext:=1) (i:=2) (te:=dFn 3 z18 (z01 (z02 0) (z01 (z02 1) (z01 (z02 2) z03)))) (e:=fun k=>D.bl (zhv f cs k)) (τ:=fun p=>[some (.tup f),some (.str cs),some (.int (p:Nat))]) hi (by rw [List.length_range];omega) (fun _=>rfl) (fun k hk=>by
  exact (z0G (z1v rfl (z0m rfl rfl)) rfl).trans (zhK hf h (List.mem_range.mp hk) O))
 show fin (z2m [some (.tup f),some (.str cs)] O)=_
 unfold z2m z2s
 have:=(z0x (z0d hc)).trans (z4q O _ _)
 unfold z0F zhe
 rw [this]
 rfl
def gr (f:List D) (cs:List Nat):Bool:=zeM f cs && z2s f cs
def z1M (n:Nat) (f:List D):List (List Nat):=(z8M n f).filter (gr f)
theorem z9s {n:Nat} {f:List D} {cs:List Nat} (h:cs ∈ z8M n f):cs ∈ terms n/\z2w f cs=true:=List.mem_filter.mp h
theorem z7Z {n:Nat} {f:List D} (hf:Fn n f):(z8M n f).length <= 81:=Nat.le_trans (List.length_filter_le _ _) (z53 hf.n1 hf.n4)
theorem zby {n:Nat} {f:List D} (hf:Fn n f):∀ cs ∈ z8M n f,cs ∈ allT:=fun cs h=>z1y hf.n1 hf.n4 (z9s h).1
theorem z9v {c d:DT} {σ:Sg} {O:Ow} {a b:Bool} (h1:c σ O=.ok a O) (h2:a=true->d σ O=.ok b O):z1P c d σ O=.ok (a && b) O:=by
 show ((c σ O).bnd _)=_
 rw [h1]
 cases a with
 | true=>exact h2 rfl
 | false=>rfl
theorem z8u {n:Nat} {f:List D} (hf:Fn n f) (O:Ow):z2f [.tup f] O=.ok (.lst ((z1M n f).map .str)) O:=by
 have hi:dIt (dFn 1 z1C (z01 (z02 0) z03)) [some (.tup f)] O=.ok (.val ((z8M n f).map .str)) O:=z1J ((z0G (z0d rfl) rfl).trans (z6m hf O))
 have hc:=z2o (o:=false) (ext:=1) (i:=1) (t:=z1P (z1g (dFn 2 z1k (z01 (z02 0) (z01 (z02 1) z03)))) (z1g (dFn 2 z1X (z01 (z02 0) (z01 (z02 1) z03))))) (te:=z02 1) (p:=gr f) (e:=D.str) (τ:=fun cs=>[some (.tup f),some (.str cs)]) hi (by have:=z7Z hf;omega) (fun _=>rfl) (fun cs hcs=>by
  obtain ⟨h1,h2⟩:=z9s hcs
  exact z9v (z1c ((z0G (z0m rfl rfl) rfl).trans (z5q hf h1 O))) fun _=>z1c ((z0G (z0m rfl rfl) rfl).trans (zbM hf h1 O))) (fun cs _ _=>rfl)
 show fin (z2P [some (.tup f)] O)=_
 unfold z2P
 rw [z0t (hc.trans rfl)];rfl
theorem z7L:(allT.all fun cs=>cs.all fun c=>decide (c < 1114112))=true:=by decide +kernel
theorem z9o (O:Ow) (n:Nat):∀ l:List (List Nat),(∀ cs ∈ l,cs ∈ allT)->z0W (z1f O n) (l.map D.str)=some (l.map fun cs=>PyData.str ⟨cs.toArray⟩)
 | [],_=>rfl
 | x :: l,h=>by
  have hx:(if (x.all fun c=>decide (c < 1114112))=true then some (PyData.str ⟨x.toArray⟩) else none)=some (PyData.str ⟨x.toArray⟩):=by rw [if_pos (List.all_eq_true.mp z7L x (h x List.mem_cons_self))]
  have e:z1f O n (.str x)=some (.str ⟨x.toArray⟩):=by cases n <;> exact hx
  show z0W (z1f O n) (D.str x :: l.map D.str)=_
  unfold z0W
  rw [e,z9o O n l fun cs hcs=>h cs (List.mem_cons_of_mem _ hcs)];rfl
theorem z90 (O:Ow) (l:List (List Nat)) (h:∀ cs ∈ l,cs ∈ allT):fPy eqF O (.lst (l.map D.str)) (.lst [])=.ok (.bl l.isEmpty) O:=by
 unfold fPy py
 have e:z1f O 8 (.lst (l.map D.str))=some (.list (l.map fun cs=>PyData.str ⟨cs.toArray⟩)):=by
  show (z0W (z1f O 7) (l.map D.str)).map PyData.list=_
  rw [z9o O 7 l h];rfl
 rw [e]
 cases l <;> rfl
theorem zg4 (O:Ow) (l:List Int):fPy neF O (.lst (l.map D.int)) (.lst [])=.ok (.bl !l.isEmpty) O:=by
 unfold fPy py
 have e:z1f O 8 (.lst (l.map D.int))=some (.list (l.map PyData.int)):=by
  show (z0W (z1f O 7) (l.map D.int)).map PyData.list=_
  rw [z4z];rfl
 rw [e]
 cases l <;> rfl
def zj0:DE:=dOp z2G (dOp z2G (dSl (z02 2) z7u (z8p (z02 5))) (dC (.str [45]))) (dSl (z02 2) (z8p (dOp z2G (z02 5) (dC (.int 1)))) z7u)
theorem zf8 (O:Ow) (a b y3 y4:Option D):(allS.map fun q=>zj0 [a,b,some (.str q.1),y3,y4,some (.int (q.2:Nat))] O)=allS.map fun q=>R.ok (.str (q.1.set q.2 45)) O:=by kernel_rfl
def zas (f:List D) (cs:List Nat):List Nat:=(pts cs).filter fun p=>z30 (f.getD p .non)
theorem zcF (f:List D) (cs:List Nat):zeM f cs = !(zas f cs).isEmpty:=by
 unfold zeM zas
 rw [Bool.eq_iff_iff,List.any_eq_true,Bool.not_eq_true',Bool.eq_false_iff,Ne,List.isEmpty_iff,List.filter_eq_nil_iff]
 simp
def z3U (cs:List Nat):List (List Nat):=((List.range cs.length).filter fun k=>cs.getD k 0 != 45).map fun k=>cs.set k 45
theorem z83 (f:List D) (cs:List Nat):z2s f cs=((z3U cs).filter (z2w f)).isEmpty:=by
 unfold z2s z3U zhv
 rw [Bool.eq_iff_iff,List.isEmpty_iff,List.filter_eq_nil_iff,Bool.not_eq_true',Bool.eq_false_iff,Ne,List.any_eq_true]
 simp
 exact ⟨fun h a x h1 h2 h3=>h3 ▸ h x h1 h2,fun h x h1 h2=>h _ x h1 h2 rfl⟩
theorem z4L {n:Nat} {f:List D} (hf:Fn n f) {cs:List Nat} (h:cs ∈ terms n):∀ o ∈ z3U cs,o ∈ terms n:=fun o ho=>by
 obtain ⟨k,_,rfl⟩:=List.mem_map.mp ho
 exact z7s hf.n1 hf.n4 h rfl
theorem zaB {n:Nat} {f:List D} (hf:Fn n f) {cs:List Nat} (h:cs ∈ terms n):(z3U cs).length <= 4:=by
 unfold z3U
 rw [List.length_map]
 have:=List.length_filter_le (fun k=>cs.getD k 0 != 45) (List.range cs.length)
 have h2:=z1F hf.n1 hf.n4 h
 rw [List.length_range] at this
 have:=hf.n4
 omega
def z9k (f:List D) (cs:List Nat):Bool:=(zeM f cs && z2w f cs) && z2s f cs
def zdL:DS:=z0n (z0A 3 (z0i false 1 (dIt (dFn 1 z0c (z01 (z02 2) z03))) (.one 5) [(z0k (dOp (fPy eqF) (dOp fIx (z02 0) (z02 5)) (dC (.int 1))))] [] (z02 5))) (sIf (z1P (z0k (dOp (fPy neF) (z02 3) (z1q z03))) (z1g (dFn 2 z0J (z01 (z02 0) (z01 (z02 2) z03))))) (z0n (z0A 4 (z0i false 1 (z14 (z01 (z06 z1r (z01 (z02 2) z03)) z03)) (.one 5) [(z0k (dOp (fPy neF) (dOp fIx (z02 2) (z02 5)) (dC (.str [45]))))] [] zj0)) (sIf (z0k (dOp (fPy eqF) (z0i false 1 (dIt (z02 4)) (.one 5) [(z1g (dFn 2 z0J (z01 (z02 0) (z01 (z02 5) z03))))] [] (z02 5)) (z1q z03))) (z20 (zal (z02 1) (z01 (z02 2) z03))) z1z)) z1z)
theorem zdo {n:Nat} {f:List D} (hf:Fn n f) {cs:List Nat} (h:cs ∈ terms n) {O:Ow} (hO:z4p O) {k:Nat} {c:List D} (hk:O[k]?=some c) (hc:c.length < 100000) (y3 y4:Option D):
  ∃ z3 z4,zdL [some (.tup f),some (.own k),some (.str cs),y3,y4] O=.nx [some (.tup f),some (.own k),some (.str cs),z3,z4] (if z9k f cs=true then O.set k (c ++ [.str cs]) else O):=by
 have hA:=z1y hf.n1 hf.n4 h
 have hl:=z1F hf.n1 hf.n4 h
 have h4:cs.length <= 4:=by rw [hl];exact hf.n4
 have i1:dIt (dFn 1 z0c (z01 (z02 2) z03)) [some (.tup f),some (.own k),some (.str cs),y3,y4] O=.ok (.val (z07 (pts cs))) O:=z1J ((z0G (z0d rfl) rfl).trans (z12 hA hO))
 have c1:=z2o (o:=false) (ext:=1) (i:=5) (t:=z0k (dOp (fPy eqF) (dOp fIx (z02 0) (z02 5)) (dC (.int 1)))) (te:=z02 5) (p:=fun p=>z30 (f.getD p .non)) (e:=fun (p:Nat)=>D.int (p:Int)) (τ:=fun (p:Nat)=>[some (.tup f),some (.own k),some (.str cs),y3,y4,some (.int (p:Int))]) i1 (by have:=z33 hA;omega) (fun _=>rfl) (fun q hq=>by
  have hlt:q < f.length:=by rw [hf.len,<- hl];exact z97 hA hq
  refine z0f ((z0e ((z0e rfl rfl).trans (z4F (i:=q) hlt)) rfl).trans ((eq1 O (hf.ans _ (List.getElem_mem hlt))).trans ?_))
  rw [z34 hlt]) (fun _ _ _=>rfl)
 have e1:z0A 3 (z0i false 1 (dIt (dFn 1 z0c (z01 (z02 2) z03))) (.one 5) [(z0k (dOp (fPy eqF) (dOp fIx (z02 0) (z02 5)) (dC (.int 1))))] [] (z02 5)) [some (.tup f),some (.own k),some (.str cs),y3,y4] O=.nx [some (.tup f),some (.own k),some (.str cs),some (.lst (((zas f cs).map fun (p:Nat)=>(p:Int)).map D.int)),y4] O:=by
  refine (z1n c1).trans ?_
  rw [List.map_map];rfl
 have t1:z1P (z0k (dOp (fPy neF) (z02 3) (z1q z03))) (z1g (dFn 2 z0J (z01 (z02 0) (z01 (z02 2) z03)))) [some (.tup f),some (.own k),some (.str cs),some (.lst (((zas f cs).map fun (p:Nat)=>(p:Int)).map D.int)),y4] O=.ok (zeM f cs && z2w f cs) O:=by
  refine z9v (z0f ((z0e rfl rfl).trans ((zg4 O _).trans ?_))) fun _=>z1c ((z0G (z0m rfl rfl) rfl).trans (z4C hf h hO))
  rw [zcF,List.isEmpty_map]
 unfold zdL
 rw [z0o e1,z0K t1]
 unfold z9k
 cases hg:(zeM f cs && z2w f cs) with
 | false=>exact ⟨_,_,rfl⟩
 | true=>
  rw [if_pos rfl]
  have i2:z14 (z01 (z06 z1r (z01 (z02 2) z03)) z03) [some (.tup f),some (.own k),some (.str cs),some (.lst (((zas f cs).map fun (p:Nat)=>(p:Int)).map D.int)),y4] O=.ok (.val ((List.range cs.length).map fun (i:Nat)=>D.int (i:Int))) O:=z1w (z0d ((z0x (z0d rfl)).trans (z3c (by omega)))) (by omega)
  have c2:=z2o (o:=false) (ext:=1) (i:=5) (t:=z0k (dOp (fPy neF) (dOp fIx (z02 2) (z02 5)) (dC (.str [45])))) (te:=zj0) (p:=fun k=>cs.getD k 0 != 45) (e:=fun (k:Nat)=>D.str (cs.set k 45)) (τ:=fun (p:Nat)=>[some (.tup f),some (.own k),some (.str cs),some (.lst (((zas f cs).map fun (p:Nat)=>(p:Int)).map D.int)),y4,some (.int (p:Int))]) i2 (by rw [List.length_range];omega) (fun _=>rfl) (fun q hq=>by
   have hlt:=List.mem_range.mp hq
   refine z0f ((z0e ((z0e rfl rfl).trans (z3V (by omega) hlt)) rfl).trans ((z8U O (z5e hf.n1 hf.n4 h _ (List.getElem_mem hlt))).trans ?_))
   rw [z9C hlt]) (fun q hq _=>List.map_inj_left.mp (zf8 O _ _ _ _) _ (z94 hA (List.mem_range.mp hq)))
  have e2:z0A 4 (z0i false 1 (z14 (z01 (z06 z1r (z01 (z02 2) z03)) z03)) (.one 5) [(z0k (dOp (fPy neF) (dOp fIx (z02 2) (z02 5)) (dC (.str [45]))))] [] zj0) [some (.tup f),some (.own k),some (.str cs),some (.lst (((zas f cs).map fun (p:Nat)=>(p:Int)).map D.int)),y4] O=.nx [some (.tup f),some (.own k),some (.str cs),some (.lst (((zas f cs).map fun (p:Nat)=>(p:Int)).map D.int)),some (.lst ((z3U cs).map .str))] O:=by
   refine (z1n c2).trans ?_
   have:(z3U cs).map D.str=((List.range cs.length).filter fun k=>cs.getD k 0 != 45).map fun (k:Nat)=>D.str (cs.set k 45):=by
    unfold z3U
    rw [List.map_map];rfl
   rw [this];rfl
  have c3:=z2o (o:=false) (ext:=1) (i:=5) (it0:=dIt (z02 4)) (σ:=[some (.tup f),some (.own k),some (.str cs),some (.lst (((zas f cs).map fun (p:Nat)=>(p:Int)).map D.int)),some (.lst ((z3U cs).map .str))]) (O0:=O) (O:=O) (l:=z3U cs) (inj:=D.str) (t:=z1g (dFn 2 z0J (z01 (z02 0) (z01 (z02 5) z03)))) (te:=z02 5) (p:=z2w f) (e:=D.str) (τ:=fun o=>[some (.tup f),some (.own k),some (.str cs),some (.lst (((zas f cs).map fun (p:Nat)=>(p:Int)).map D.int)),some (.lst ((z3U cs).map .str)),some (.str o)]) rfl (by have:=zaB hf h;omega) (fun _=>rfl) (fun o ho=>z1c ((z0G (z0m rfl rfl) rfl).trans (z4C hf (z4L hf h o ho) hO))) (fun _ _ _=>rfl)
  have t2:z0k (dOp (fPy eqF) (z0i false 1 (dIt (z02 4)) (.one 5) [(z1g (dFn 2 z0J (z01 (z02 0) (z01 (z02 5) z03))))] [] (z02 5)) (z1q z03)) [some (.tup f),some (.own k),some (.str cs),some (.lst (((zas f cs).map fun (p:Nat)=>(p:Int)).map D.int)),some (.lst ((z3U cs).map .str))] O=.ok (z2s f cs) O:=by
   rw [z83]
   exact z0f ((z0e c3 rfl).trans (z90 O _ fun o ho=>z1y hf.n1 hf.n4 (z4L hf h o (List.mem_filter.mp ho).1)))
  rw [z0o e2,z0K t2]
  cases hw:z2s f cs with
  | false=>exact ⟨_,_,rfl⟩
  | true=>
   refine ⟨some (.lst (((zas f cs).map fun (p:Nat)=>(p:Int)).map D.int)),some (.lst ((z3U cs).map .str)),?_⟩
   rw [if_pos rfl]
   simp only [z0n,z0A,sIf,z0F,z20,z1z,z02,dC,z01,z03,dFn,z06,dOp,z0k,z1g,z1B,zgM,R.bnd,R.bnS,fin,List.getElem?_cons_zero,List.getElem?_cons_succ,List.set_cons_zero,List.set_cons_succ,List.length_cons,List.length_nil,Nat.zero_add,Nat.reduceAdd,Nat.reduceLeDiff,Nat.reduceLT,if_true,if_false,Bool.not_true,Bool.not_false,Bool.false_eq_true,ite_true,ite_false,zal,hk,hc,Bool.and_self]
theorem zdp {O X:Ow} (h:z4p O) (hX:∀ c ∈ X,∀ d ∈ c,z5k (O.length + X.length) d=true):z4p (O ++ X):=by
 intro c hc d hd
 rw [List.length_append]
 rcases List.mem_append.mp hc with hc|hc
 ·have:=h c hc d hd
  cases d with
  | own k=>simp only [z5k,decide_eq_true_eq] at this ⊢;omega
  | _=>exact this
 ·exact hX c hc d hd
theorem z4u {O:Ow} (h:z4p O) {c:List D} (hc:∀ d ∈ c,z5k (O.length + 1) d=true):z4p (O ++ [c]):=zdp h fun x hx d hd=>by
 have:x=c:=by simpa using hx
 subst this;exact hc d hd
def whr (q:D->Bool) (n:Nat) (f:List D):List Nat:=(List.range (2 ^ n)).filter fun p=>q (f.getD p .non)
theorem z6j {α:Type} {n i:Nat} (f:Nat->α):((List.range n).map f)[i]?=if i < n then some (f i) else none:=by
 rw [List.getElem?_map]
 by_cases h:i < n
 ·rw [List.getElem?_range h,if_pos h];rfl
 ·rw [if_neg h,List.getElem?_eq_none_iff.mpr (by simp;omega)];rfl
theorem zhR {n:Nat} {f:List D} (hf:Fn n f) {p:Nat} (hp:p < 2 ^ n):Ans (f.getD p .non):=by
 rw [z34 (by rw [hf.len];exact hp)]
 exact hf.ans _ (List.getElem_mem _)
theorem z5w {n:Nat} {f:List D} (hf:Fn n f) (a:D) (q:D->Bool) (O:Ow) (hq:∀ d,Ans d->fPy eqF O d a=.ok (.bl (q d)) O):z1l [.tup f,a] O=.ok (.lst (z07 (whr q n f))) O:=by
 have hpw:=z2h hf.n4
 have hi:z9m (z01 (z02 0) z03) [some (.tup f),some a] O=.ok (.val (z5C f)) O:=rfl
 have hc:=z3E (o:=false) (ext:=2) (g:=.two 2 3) (ts:=[(z0k (dOp (fPy eqF) (z02 3) (z02 1)))]) (te:=z02 2) (l:=List.range (2 ^ n)) (inj:=fun (p:Nat)=>D.tup [.int (p:Int),f.getD p .non]) (p:=fun p=>q (f.getD p .non)) (e:=fun (p:Nat)=>D.int (p:Int))
  (τ:=fun (p:Nat)=>[some (.tup f),some a,some (.int (p:Int)),some (f.getD p .non)]) hi (fun i=>by
   rw [z6j]
   show (z5C f)[i]?=_
   rw [z74]
   by_cases hi:i < 2 ^ n
   ·have hif:i < f.length:=by rw [hf.len];exact hi
    rw [if_pos hi,List.getElem?_eq_getElem hif]
    show some (D.tup [.int (i:Nat),f[i]])=_
    rw [z34 hif]
   ·rw [if_neg hi,List.getElem?_eq_none_iff.mpr (by rw [hf.len];omega)];rfl) (by
   show (z5C f).length=_
   unfold z5C;simp [hf.len]) (by rw [List.length_range];omega) (fun k _=>rfl) (fun p hp=>z4v (by
   have hp:=List.mem_range.mp hp
   exact z0f ((z0e rfl rfl).trans (hq _ (zhR hf hp))))) (fun p _ _=>rfl)
 show fin (z0F _ [some (.tup f),some a] O)=_
 rw [z0t (hc.trans rfl)];rfl
theorem z3J {m:Nat} (l:List (List Nat)):∀ d ∈ l.map D.str,z5k m d=true:=fun d hd=>by
 obtain ⟨cs,_,rfl⟩:=List.mem_map.mp hd;rfl
theorem z5W {α:Type} {l:List α} {k:Nat} {a:α} (h:l[k]?=some a):l.take (k + 1)=l.take k ++ [a]:=by
 obtain ⟨h1,rfl⟩:=List.getElem?_eq_some_iff.mp h
 exact List.take_succ_eq_append_getElem h1
theorem z51 {n:Nat} {f:List D} (hf:Fn n f) {O:Ow} (hO:z4p O):z0r [.tup f] O=.ok (.lst (((terms n).filter (z9k f)).map .str)) O:=by
 have hi:dIt (dFn 1 z0H (z01 (dFn 1 z0Z (z01 (z02 0) z03)) z03)) [some (.tup f),some (.own O.length),none,none,none] (O ++ [[]])=.ok (.val ((terms n).map .str)) (O ++ [[]]):=
  z1J ((z0G (z0d ((z0G (z0d rfl) rfl).trans (z50 hf _))) rfl).trans (z71 hf.n1 hf.n4 _))
 have hfew:=z53 hf.n1 hf.n4
 obtain ⟨σ',O',l1,y2,y3,y4,rfl,rfl⟩:=zc6 (i:=2) (body:=zdL) hi (fun k σ O'=>∃ y2 y3 y4,σ=[some (.tup f),some (.own O.length),y2,y3,y4]/\O'=O ++ [(((terms n).take k).filter (z9k f)).map D.str]) (fun k cs σ O' hk hI=>by
  obtain ⟨y2,y3,y4,rfl,rfl⟩:=hI
  have hcs:cs ∈ terms n:=List.mem_of_getElem? hk
  have hcell:(O ++ [(((terms n).take k).filter (z9k f)).map D.str])[O.length]?=some ((((terms n).take k).filter (z9k f)).map D.str):=by simp
  have hlen:((((terms n).take k).filter (z9k f)).map D.str).length < 100000:=by
   have h1:=List.length_filter_le (z9k f) ((terms n).take k)
   have h2:=List.length_take_le k (terms n)
   have h3:((terms n).take k).length <= (terms n).length:=by rw [List.length_take];omega
   rw [List.length_map];omega
  obtain ⟨z3,z4,e⟩:=zdo hf hcs (z4u hO (z3J _)) hcell hlen y3 y4
  refine ⟨_,_,e,some (.str cs),z3,z4,rfl,?_⟩
  rw [z5W hk,List.filter_append,List.filter_cons,List.filter_nil]
  by_cases hc:z9k f cs=true
  ·rw [if_pos hc,if_pos hc,List.map_append,List.set_append_right _ _ (Nat.le_refl _),Nat.sub_self];rfl
  ·rw [if_neg hc,if_neg hc,List.append_nil]) ⟨none,none,none,rfl,rfl⟩
 rw [List.take_length] at l1
 show z8x O.length (fin (z2I [some (.tup f),none,none,none,none] O))=_
 have e0:z0A 1 (z2R z03) [some (.tup f),none,none,none,none] O=.nx [some (.tup f),some (.own O.length),none,none,none] (O ++ [[]]):=rfl
 show z8x O.length (fin (z0n (z0A 1 (z2R z03)) (z0n (z63 _ (.one 2) zdL) (z0F (z02 1))) [some (.tup f),none,none,none,none] O))=_
 rw [z0o e0,z0o l1,z0t (x:=.own O.length) rfl]
 refine z7J hO [((terms n).filter (z9k f)).map D.str] ?_
 unfold frz
 dsimp only
 rw [if_neg (Nat.lt_irrefl _)]
 have hk:(O ++ [((terms n).filter (z9k f)).map D.str])[O.length]?=some (((terms n).filter (z9k f)).map D.str):=by simp
 rw [hk]
 dsimp only
 rw [z27 fun d hd=>?_]
 ·rfl
 ·obtain ⟨q,_,rfl⟩:=List.mem_map.mp hd
  exact z3l rfl
theorem z8V (n:Nat) (f:List D):(terms n).filter (z9k f)=z1M n f:=by
 unfold z1M z8M gr
 rw [List.filter_filter]
 refine List.filter_congr fun cs _=>?_
 unfold z9k
 cases zeM f cs <;> cases z2w f cs <;> cases z2s f cs <;> rfl
def hol (ts:List (List Nat)) (p:Nat):List (List Nat):=ts.filter fun cs=>(pts cs).contains p
theorem z3O (O:Ow) (p:Nat) (l:List Nat):fIn O (.int (p:Int)) (.lst (z07 l))=.ok (.bl (l.contains p)) O:=by
 refine (zfO O (x:=.int (p:Int)) (y:=.lst (z07 l)) (l:=z07 l) rfl (z2p 7 l) (.inl rfl) (b:=l.contains p) ?_).1
 unfold z07
 rw [List.contains_iff_mem,List.mem_map]
 constructor
 ·exact fun h=>⟨p,h,rfl⟩
 ·rintro ⟨q,h,e⟩
  have:(q:Int)=(p:Int):=D.int.inj e
  have:q=p:=by omega
  exact this ▸ h
theorem z40 {ts:List (List Nat)} (h:∀ cs ∈ ts,cs ∈ allT) (hl:ts.length <= 81) (p:Nat) (O:Ow):z0j [.lst (ts.map .str),.int (p:Int)] O=.ok (.lst ((hol ts p).map .str)) O:=by
 have hc:=z2o (o:=false) (ext:=1) (i:=2) (it0:=dIt (z02 0)) (σ:=[some (.lst (ts.map .str)),some (.int (p:Int))]) (O0:=O) (O:=O) (l:=ts) (inj:=D.str) (t:=z0k (dOp fIn (z02 1) (dFn 1 z0w (z01 (z02 2) z03)))) (te:=z02 2) (p:=fun cs=>(pts cs).contains p) (e:=D.str) (τ:=fun cs=>[some (.lst (ts.map .str)),some (.int (p:Int)),some (.str cs)]) rfl (by omega) (fun _=>rfl)
  (fun cs hcs=>z0f (z0R rfl (z0X (z0d rfl) (z24 (h cs hcs) O)) (z3O O p _))) (fun _ _ _=>rfl)
 exact z7I (hc.trans rfl)
theorem z29 {ts:List (List Nat)} (h:∀ cs ∈ ts,cs ∈ allT) (hl:ts.length <= 81) (p:Nat) {O:Ow} (hO:z4p O):z0h [.lst (ts.map .str),.int (p:Int)] O=.ok (.lst ((hol ts p).map .str)) O:=by
 have hc:=z2o (o:=false) (ext:=1) (i:=2) (it0:=dIt (z02 0)) (σ:=[some (.lst (ts.map .str)),some (.int (p:Int))]) (O0:=O) (O:=O) (l:=ts) (inj:=D.str) (t:=z0k (dOp fIn (z02 1) (dFn 1 z0c (z01 (z02 2) z03)))) (te:=z02 2) (p:=fun cs=>(pts cs).contains p) (e:=D.str) (τ:=fun cs=>[some (.lst (ts.map .str)),some (.int (p:Int)),some (.str cs)]) rfl (by omega) (fun _=>rfl)
  (fun cs hcs=>z0f (z0R rfl (z0X (z0d rfl) (z12 (h cs hcs) hO)) (z3O O p _))) (fun _ _ _=>rfl)
 exact z7I (hc.trans rfl)
theorem z8J {n:Nat} {f:List D} (hf:Fn n f) (O:Ow):z10 [.tup f] O=.ok (.lst (z07 (whr z30 n f))) O:=by
 have hpw:=z2h hf.n4
 have hi:z14 (z01 (z06 z1r (z01 (z02 0) z03)) z03) [some (.tup f)] O=.ok (.val ((List.range (2 ^ n)).map fun (i:Nat)=>D.int (i:Int))) O:=z1w (z0d (z1U (z0d rfl) (by rw [zdC,hf.len]))) (by omega)
 have hc:=z2o (o:=false) (ext:=1) (i:=1) (t:=z0k (dOp (fPy eqF) (dOp fIx (z02 0) (z02 1)) (dC (.int 1)))) (te:=z02 1) (p:=fun p=>z30 (f.getD p .non)) (e:=fun (p:Nat)=>D.int (p:Int)) (τ:=fun (p:Nat)=>[some (.tup f),some (.int (p:Int))]) hi (by rw [List.length_range];omega) (fun _=>rfl) (fun q hq=>by
  have hlt:q < f.length:=by rw [hf.len];exact List.mem_range.mp hq
  refine z0f (z0R (z0R rfl rfl (z4F (i:=q) hlt)) rfl ((eq1 O (hf.ans _ (List.getElem_mem hlt))).trans ?_))
  rw [z34 hlt]) (fun _ _ _=>rfl)
 exact z7I (hc.trans rfl)
def z5j (ts:List (List Nat)) (p:Nat):Bool:=(hol ts p).length == 1
def zjb (ts:List (List Nat)) (p:Nat):D:=.tup [.int (p:Int),.str ((hol ts p).headD [])]
def ziT (ps:List Nat) (ts:List (List Nat)):List D:=(ps.filter (z5j ts)).map (zjb ts)
def z6V (ps:List Nat) (ts:List (List Nat)):List (List Nat):=(ps.filter (z5j ts)).map fun p=>(hol ts p).headD []
theorem zjZ (O:Ow) (l:List D):fPy eqF O (.int (l.length:Int)) (.int 1)=.ok (.bl (l.length == 1)) O:=by
 refine (z8Q O (x:=.int (l.length:Int)) (y:=.int 1) rfl rfl (b:=l.length == 1) ?_).1
 rw [beq_iff_eq]
 constructor
 ·intro h;rw [h];rfl
 ·intro h
  have:(l.length:Int)=1:=D.int.inj h
  omega
theorem zir {ts:List (List Nat)} {p:Nat} (h:z5j ts p=true) (O:Ow):fIx O (.lst ((hol ts p).map .str)) (.int 0)=.ok (.str ((hol ts p).headD [])) O:=by
 unfold z5j at h
 rw [beq_iff_eq] at h
 cases e:hol ts p with
 | nil=>rw [e] at h;cases h
 | cons x r=>exact z8y (i:=0) (ds:=(x :: r).map D.str) (by simp)
theorem zgc {ps:List Nat} {ts:List (List Nat)} (h:∀ cs ∈ ts,cs ∈ allT) (hl:ts.length <= 81) (hp:ps.length <= 16) (O:Ow):z17 [.lst (z07 ps),.lst (ts.map .str)] O=.ok (.lst (ziT ps ts)) O:=by
 have c1:=z8a (o:=false) (ext:=1) (i:=3) (it0:=dIt (z02 0)) (σ:=[some (.lst (z07 ps)),some (.lst (ts.map .str)),none]) (O0:=O) (O:=O) (l:=ps) (inj:=fun (p:Nat)=>D.int (p:Int)) (te:=z2T (z01 (z02 3) (z01 (dFn 2 z0j (z01 (z02 1) (z01 (z02 3) z03))) z03))) (e:=fun (p:Nat)=>D.tup [.int (p:Int),.lst ((hol ts p).map .str)]) (τ:=fun (p:Nat)=>[some (.lst (z07 ps)),some (.lst (ts.map .str)),none,some (.int (p:Int))]) rfl (by omega) (fun _=>rfl)
  (fun p _=>by
   show ((z01 (z02 3) (z01 (dFn 2 z0j (z01 (z02 1) (z01 (z02 3) z03))) z03)) _ O).bnd _=_
   rw [z0m (x:=.int (p:Int)) (y:=.lst ((hol ts p).map .str)) rfl (z0X (z0m rfl rfl) (z40 h hl p O))];rfl)
 have c2:=z3E (o:=false) (ext:=2) (g:=.two 3 4) (it0:=dIt (z02 2)) (σ:=[some (.lst (z07 ps)),some (.lst (ts.map .str)),some (.lst (ps.map fun (p:Nat)=>D.tup [.int (p:Int),.lst ((hol ts p).map .str)]))]) (O0:=O) (O:=O) (ts:=[(z0k (dOp (fPy eqF) (z06 z1r (z01 (z02 4) z03)) (dC (.int 1))))]) (te:=z2T (z01 (z02 3) (z01 (dOp fIx (z02 4) (dC (.int 0))) z03))) (l:=ps) (inj:=fun (p:Nat)=>D.tup [.int (p:Int),.lst ((hol ts p).map .str)]) (p:=z5j ts) (e:=zjb ts)
  (τ:=fun (p:Nat)=>[some (.lst (z07 ps)),some (.lst (ts.map .str)),some (.lst (ps.map fun (p:Nat)=>D.tup [.int (p:Int),.lst ((hol ts p).map .str)])),some (.int (p:Int)),some (.lst ((hol ts p).map .str))]) (src:=.val (ps.map fun (p:Nat)=>D.tup [.int (p:Int),.lst ((hol ts p).map .str)])) rfl (fun _=>rfl) (by show (ps.map _).length=_;simp) (by omega) (fun _ _=>rfl)
  (fun p _=>z4v (z0f (z0R (z1U (z0d rfl) rfl) rfl ((zjZ O _).trans (by rw [List.length_map];rfl))))) (fun p _ hp=>by
   show ((z01 (z02 3) (z01 (dOp fIx (z02 4) (dC (.int 0))) z03)) _ O).bnd _=_
   rw [z0m (x:=.int (p:Int)) (y:=.str ((hol ts p).headD [])) rfl (z0R rfl rfl (zir hp O))];rfl)
 show fin (z2U [some (.lst (z07 ps)),some (.lst (ts.map .str)),none] O)=_
 exact z15 (z0y (c1.trans rfl) (z0t (c2.trans rfl)))
theorem zhg {α:Type} {src:Src} {step:D->Ow->List D->R (List D)} {O:Ow} {inj:α->D} {g:α->D} {all:List α} (hg:∀ i,src.get O i=(all.map inj)[i]?):∀ (ds pre:List α) (acc:List D) (f:Nat),all=pre ++ ds->ds.length <= f->
  (∀ a ∈ ds,∀ acc:List D,acc.length < 1000->step (inj a) O acc=.ok (acc ++ [g a]) O)->acc.length + ds.length < 1000->z0s src step f pre.length O acc=.ok (acc ++ ds.map g) O
 | [],pre,acc,f,ha,_,_,_=>by
  have e:src.get O pre.length=none:=by rw [hg,ha];simp
  cases f <;> (unfold z0s;rw [e];simp)
 | d :: ds,pre,acc,0,_,h,_,_=>by simp at h
 | d :: ds,pre,acc,f + 1,ha,h,hs,hl=>by
  unfold z0s
  have e:src.get O pre.length=some (inj d):=by rw [hg,ha];simp
  rw [e]
  simp only [List.length_cons] at hl
  show ((step (inj d) O acc).bnd fun acc' O'=>z0s src step f (pre.length + 1) O' acc')=_
  rw [hs d List.mem_cons_self acc (by omega)]
  show z0s src step f (pre.length + 1) O (acc ++ [g d])=_
  have:=zhg hg ds (pre ++ [d]) (acc ++ [g d]) f (by rw [ha];simp) (by simpa using h) (fun d' h'=>hs d' (List.mem_cons_of_mem _ h')) (by rw [List.length_append,List.length_singleton];omega)
  rw [List.length_append,List.length_singleton] at this
  rw [this];simp
theorem zga {α:Type} {ext:Nat} {it0:DI} {g:Tg} {te:DE} {σ:Sg} {O O0:Ow} {src:Src} {l:List α} {inj:α->D} {e:α->List Nat} {τ:α->Sg} {o:Bool} (hi:it0 σ O0=.ok src O) (hg:∀ i,src.get O i=(l.map inj)[i]?) (hsz:src.size O=l.length) (hl:l.length < 64)
  (hτ:∀ a ∈ l,g.put (inj a) (clr (clr (σ ++ List.replicate ext none) (g.slots ++ [])) (g.slots ++ []))=some (τ a)) (he:∀ a ∈ l,te (τ a) O=.ok (.str (e a)) O):z8H o ext it0 g [] [] te σ O0=if o=true then .ok (.own O.length) (O ++ [(z26 (l.map e)).map .str]) else .ok (.lst ((z26 (l.map e)).map .str)) O:=by
 unfold z8H z19
 rw [hi]
 show zk5 o (noX (z0s src _ (src.size O) 0 O []))=_
 have w:=zhg (O:=O) (src:=src) (step:=z2i ⟨it0,g,[]⟩ [] (emS te) (clr (σ ++ List.replicate ext none) (z0b [⟨it0,g,[]⟩]))) (g:=fun a=>D.str (e a)) hg l [] [] (src.size O) rfl (by omega) (fun a ha acc hacc=>by
  show (match g.put (inj a) (clr (clr (σ ++ List.replicate ext none) (g.slots ++ [])) (g.slots ++ [])) with|some σ1=>(z5x [] σ1 O).bnd fun b O3=>if b=true then z2a [] (emS te) σ1 O3 acc else .ok acc O3|none=>.bad)=_
  rw [hτ a ha]
  show ((te (τ a) O).bnd _)=_
  rw [he a ha]
  show (if acc.length < 1000 then R.ok (acc ++ [D.str (e a)]) O else R.bad)=_
  rw [if_pos hacc]) (by simp;omega)
 have w':z0s src (z2i ⟨it0,g,[]⟩ [] (emS te) (clr (σ ++ List.replicate ext none) (z0b [⟨it0,g,[]⟩]))) (src.size O) 0 O []=.ok ((l.map e).map .str) O:=by rw [List.map_map];exact w
 rw [w']
 show (match z9y ((l.map e).map D.str) with|some ss=>if ss.length < 64 then _ else _|none=>_)=_
 rw [DL.strL_map]
 show (if (l.map e).length < 64 then _ else _)=_
 rw [if_pos (by rw [List.length_map];exact hl)]
theorem z0v {α:Type} {p:α->Bool} {l:List α} {k:Nat} (h:l.length <= k):(l.filter p).length <= k:=Nat.le_trans (List.length_filter_le _ _) h
theorem zd3 {ps:List Nat} {ts:List (List Nat)} (h:∀ cs ∈ ts,cs ∈ allT) (hl:ts.length <= 81) (hp:ps.length <= 16) (O:Ow):z1O [.lst (z07 ps),.lst (ts.map .str)] O=.ok (.lst ((z26 (z6V ps ts)).map .str)) O:=by
 have hfe:=z0v (p:=z5j ts) hp
 have hi:dIt (dFn 2 z17 (z01 (z02 0) (z01 (z02 1) z03))) [some (.lst (z07 ps)),some (.lst (ts.map .str))] O=.ok (.val (ziT ps ts)) O:=z1J (z0X (z0m rfl rfl) (zgc h hl hp O))
 have c:=zga (o:=false) (ext:=2) (g:=.two 2 3) (te:=z02 3) (l:=ps.filter (z5j ts)) (inj:=zjb ts) (e:=fun p=>(hol ts p).headD []) (τ:=fun (p:Nat)=>[some (.lst (z07 ps)),some (.lst (ts.map .str)),some (.int (p:Int)),some (.str ((hol ts p).headD []))]) hi (fun i=>rfl) (by
   show (ziT ps ts).length=_
   unfold ziT;rw [List.length_map]) (by omega) (fun _ _=>rfl) (fun _ _=>rfl)
 exact z7I (c.trans rfl)
theorem zbB {n:Nat} {f:List D} (hf:Fn n f) (q:D->Bool):(whr q n f).length <= 16:=by
 have:=z2h hf.n4
 exact z0v (by rw [List.length_range];exact this)
theorem za6 {n:Nat} {f:List D} (hf:Fn n f):∀ cs ∈ z1M n f,cs ∈ allT:=fun cs h=>zby hf cs (List.mem_filter.mp h).1
theorem z3Q {n:Nat} {f:List D} (hf:Fn n f):(z1M n f).length <= 81:=z0v (z7Z hf)
theorem zi1 {α:Type} {src:Src} {step:D->Ow->List D->R (List D)} {O:Ow} {inj:α->D} {g:α->D} {all:List α} (hg:∀ i,src.get O i=(all.map inj)[i]?) (hs:∀ pre a r,all=pre ++ a :: r->step (inj a) O (pre.map g)=.ok (pre.map g ++ [g a]) O):∀ (ds pre:List α) (f:Nat),all=pre ++ ds->ds.length <= f->z0s src step f pre.length O (pre.map g)=.ok (all.map g) O
 | [],pre,f,ha,_=>by
  have e:src.get O pre.length=none:=by rw [hg,ha];simp
  have e2:all=pre:=by rw [ha];simp
  cases f <;> (unfold z0s;rw [e,e2])
 | d :: ds,pre,0,_,h=>by simp at h
 | d :: ds,pre,f + 1,ha,h=>by
  unfold z0s
  have e:src.get O pre.length=some (inj d):=by rw [hg,ha];simp
  rw [e]
  show ((step (inj d) O (pre.map g)).bnd fun acc' O'=>z0s src step f (pre.length + 1) O' acc')=_
  rw [hs pre d ds ha]
  show z0s src step f (pre.length + 1) O (pre.map g ++ [g d])=_
  have:=zi1 hg hs ds (pre ++ [d]) f (by rw [ha];simp) (by simpa using h)
  rw [List.length_append,List.length_singleton,List.map_append] at this
  exact this
theorem z9K {α:Type} {ext i:Nat} {it0:DI} {tk tv:DE} {σ:Sg} {O O0:Ow} {l:List α} {inj key val:α->D} {kk:α->DK} {τ:α->Sg} (hi:it0 σ O0=.ok (.val (l.map inj)) O) (hl:l.length < 1000) (hn:(l.map kk).Nodup)
  (hτ:∀ a,(clr (clr (σ ++ List.replicate ext none) [i]) [i]).set i (some (inj a))=τ a) (hk:∀ a ∈ l,tk (τ a) O=.ok (key a) O) (hkk:∀ a ∈ l,zcB (key a)=some (kk a)) (hv:∀ a ∈ l,tv (τ a) O=.ok (val a) O):
  z46 ext it0 (.one i) [] [] tk tv σ O0=.ok (.map (l.map kk) (l.map val)) O:=by
 unfold z46 z19
 rw [hi]
 show ((noX (z0s (.val (l.map inj)) _ ((l.map inj).length) 0 O [])).bnd _)=_
 have w:=zi1 (O:=O) (src:=.val (l.map inj)) (step:=z2i ⟨it0,.one i,[]⟩ [] (emD tk tv) (clr (σ ++ List.replicate ext none) (z0b [⟨it0,.one i,[]⟩]))) (inj:=inj) (g:=fun a=>z1I (kk a,val a)) (all:=l) (fun _=>rfl) (fun pre a r ha=>by
  have hm:a ∈ l:=by rw [ha];simp
  show (match (some ((clr (clr (σ ++ List.replicate ext none) [i]) [i]).set i (some (inj a))):Option Sg) with|some σ1=>(z5x [] σ1 O).bnd fun b O3=>if b=true then z2a [] (emD tk tv) σ1 O3 (pre.map fun a=>z1I (kk a,val a)) else .ok (pre.map fun a=>z1I (kk a,val a)) O3|none=>.bad)=_
  rw [hτ a]
  show ((tk (τ a) O).bnd _)=_
  rw [hk a hm]
  show (match zcB (key a) with|some k=>_|none=>_)=_
  rw [hkk a hm]
  show ((tv (τ a) O).bnd _)=_
  rw [hv a hm]
  have hlen:(pre.map fun a=>z1I (kk a,val a)).length < 1000:=by
   rw [List.length_map]
   have:=congrArg List.length ha
   simp at this
   omega
  have hany:(pre.map fun a=>z1I (kk a,val a)).any (zgO (kk a))=false:=by
   rw [List.any_eq_false]
   intro x hx
   obtain ⟨b,hb,rfl⟩:=List.mem_map.mp hx
   have:kk b ≠ kk a:=by
    rw [ha,List.map_append,List.map_cons,List.nodup_append] at hn
    exact hn.2.2 _ (List.mem_map.mpr ⟨b,hb,rfl⟩) _ List.mem_cons_self
   show ¬ decide (kk b=kk a)=true
   rw [decide_eq_true_eq];exact this
  show (if _/\_ then R.ok _ O else R.bad)=_
  rw [if_pos ⟨hlen,hany⟩];rfl) l [] ((l.map inj).length) rfl (by simp)
 rw [show z0s (.val (l.map inj)) _ ((l.map inj).length) 0 O []=_ from w]
 show R.ok (D.map (mKs (l.map fun a=>z1I (kk a,val a))) (mDs (l.map fun a=>z1I (kk a,val a)))) O=_
 have e:(l.map fun a=>z1I (kk a,val a))=(l.map fun a=>(kk a,val a)).map z1I:=by rw [List.map_map];rfl
 rw [e,z8G,z8S,List.map_map,List.map_map];rfl
theorem z3u {α:Type} {kk:α->DK} {val:α->D} {a:α}:∀ {l:List α},a ∈ l->(l.map kk).Nodup->z4Q (kk a) (l.map kk) (l.map val)=some (val a)
 | [],h,_=>by cases h
 | b :: l,h,hn=>by
  rw [List.map_cons,List.nodup_cons] at hn
  show (if kk b=kk a then some (val b) else z4Q (kk a) (l.map kk) (l.map val))=_
  rcases List.mem_cons.mp h with rfl|h
  ·rw [if_pos rfl]
  ·rw [if_neg (fun (e:kk b=kk a)=>hn.1 (by rw [e];exact List.mem_map.mpr ⟨a,h,rfl⟩))]
   exact z3u h hn.2
theorem z8I {td ty:DE} {σ:Sg} {O:Ow} {ks:List DK} {ds:List D} {y d:D} {k:DK} (h1:td σ O=.ok (.map ks ds) O) (h2:ty σ O=.ok y O) (h3:zcB y=some k) (h4:z4Q k ks ds=some d):z21 td ty σ O=.ok d O:=by
 unfold z21
 rw [h1]
 show ((ty σ O).bnd _)=_
 rw [h2]
 show (match zcB y with|some k=>_|none=>_)=_
 rw [h3]
 show (match z4Q k ks ds with|some d=>R.ok d O|none=>R.bad)=_
 rw [h4]
abbrev Tm (ts:List (List Nat)):Prop:=∀ cs ∈ ts,cs ∈ allT
theorem zaq {ts:List (List Nat)} (h:Tm ts) (k:Nat):(ts.map D.str).all (pl k)=true:=List.all_eq_true.mpr fun d hd=>by
 obtain ⟨cs,hcs,rfl⟩:=List.mem_map.mp hd
 have:(cs.all fun c=>decide (c < 1114112))=true:=List.all_eq_true.mp z7L cs (h cs hcs)
 cases k <;> exact this
theorem z8W {a b:List (List Nat)} (h:a.map D.str=b.map D.str):a=b:=by
 have:=congrArg (List.map fun d=>match d with|D.str x=>x|_=>[]) h
 simpa [List.map_map,Function.comp_def] using this
theorem ziR (O:Ow) {x:List Nat} (hx:x ∈ allT) {l:List (List Nat)} (hl:Tm l) {y:D} (hy:lsV O y=some (l.map D.str)):fIn O (.str x) y=.ok (.bl (l.contains x)) O/\z3W O (.str x) y=.ok (.bl (!l.contains x)) O:=by
 refine zfO O (x:=.str x) (l:=l.map D.str) ?_ (zaq hl 7) (.inl hy) (b:=l.contains x) ?_
 ·have:=zaq (ts:=[x]) (fun cs hcs=>by rw [List.mem_singleton.mp hcs];exact hx) 7
  simpa using this
 ·rw [List.contains_iff_mem,List.mem_map]
  exact ⟨fun h=>⟨x,h,rfl⟩,fun ⟨q,h,e⟩=>by cases e;exact h⟩
theorem zkg (O:Ow) {a b:List (List Nat)} (ha:Tm a) (hb:Tm b):fPy neF O (.lst (a.map .str)) (.lst (b.map .str))=.ok (.bl (a != b)) O:=
 (zci O (zaq ha 7) (zaq hb 7) (b:=a == b) (by rw [beq_iff_eq];exact ⟨fun h=>h ▸ rfl,z8W⟩)).2
theorem zk0 (O:Ow) (a b:List Nat):fPy neF O (.lst (z07 a)) (.lst (z07 b))=.ok (.bl (a != b)) O:=
 (zci O (z2p 7 a) (z2p 7 b) (b:=a == b) (by rw [beq_iff_eq];exact ⟨fun h=>h ▸ rfl,z4y⟩)).2
theorem z4a {ts:List (List Nat)} (h:Tm ts) (p:Nat):Tm (hol ts p):=fun cs hcs=>h cs (List.mem_filter.mp hcs).1
theorem zbe {ts:List (List Nat)} (h:ts.length <= 81) (p:Nat):(hol ts p).length <= 81:=z0v h
def pgo (ts:List (List Nat)) (o p:Nat):Bool:=((hol ts o).all fun t=>(hol ts p).contains t) && (hol ts o != hol ts p || decide (o < p))
abbrev zh0 (p:Nat):DK:=.inl (p:Int)
theorem zca {ps:List Nat} (h:ps.Nodup):(ps.map zh0).Nodup:=List.pairwise_map.mpr (h.imp fun n e=>n (by have:=Sum.inl.inj e;omega))
abbrev zj4 (ps:List Nat) (ts:List (List Nat)):D:=.map (ps.map zh0) (ps.map fun p=>.lst ((hol ts p).map .str))
theorem zkc (O:Ow) (a b:Nat):fLt O (.int (a:Int)) (.int (b:Int))=.ok (.bl (decide (a < b))) O:=by
 show R.ok (D.bl (decide ((a:Int) < (b:Int)))) O=_
 rw [show decide ((a:Int) < (b:Int))=decide (a < b) from by rw [decide_eq_decide];omega]
theorem zih {ps:List Nat} {ts:List (List Nat)} (hp:ps.Nodup) (h:Tm ts) (hl:ts.length <= 81) {o p:Nat} (ho:o ∈ ps) (hpp:p ∈ ps) (O:Ow):z0z [.int (o:Int),.int (p:Int),zj4 ps ts] O=.ok (.bl (pgo ts o p)) O:=by
 let σ:Sg:=[some (.int (o:Int)),some (.int (p:Int)),some (zj4 ps ts)]
 have go:∀ (τ:Sg) (j q:Nat),τ[2]?=some (some (zj4 ps ts))->τ[j]?=some (some (.int (q:Int)))->q ∈ ps->z21 (z02 2) (z02 j) τ O=.ok (.lst ((hol ts q).map .str)) O:=fun τ j q h2 hj hq=>
  z8I (ks:=ps.map zh0) (ds:=ps.map fun p=>.lst ((hol ts p).map .str)) (by unfold z02;rw [h2]) (by unfold z02;rw [hj]) rfl (z3u (kk:=zh0) (val:=fun p=>D.lst ((hol ts p).map .str)) hq (zca hp))
 have c:=z8a (o:=false) (ext:=1) (i:=3) (it0:=dIt (z21 (z02 2) (z02 0))) (σ:=σ) (O0:=O) (O:=O) (l:=hol ts o) (inj:=D.str) (te:=dOp fIn (z02 3) (z21 (z02 2) (z02 1))) (e:=fun t=>D.bl ((hol ts p).contains t)) (τ:=fun t=>σ ++ [some (.str t)])
  (z1J (go σ 0 o rfl rfl ho)) (by have:=zbe hl o;omega) (fun _=>rfl) (fun t ht=>z0R rfl (go _ 1 p rfl rfl hpp) (ziR O (z4a h o t ht) (z4a h p) rfl).1)
 have t1:=z1Q (z1c ((z1U (z0d (c.trans rfl)) (z7a O _ _))))
 show fin (z1K σ O)=_
 unfold z1K pgo
 cases hb:(hol ts o).all fun t=>(hol ts p).contains t with
 | false=>
  rw [hb] at t1
  exact z15 (zb4 t1 rfl)
 | true=>
  rw [hb] at t1
  exact z15 (z9c t1 (z0t (zbz (z0R (go σ 0 o rfl rfl ho) (go σ 1 p rfl rfl hpp) (zkg O (z4a h o) (z4a h p))) fun _=>z0R rfl rfl (zkc O o p))))
def kpt (ps:List Nat) (ts:List (List Nat)):List Nat:=ps.filter fun p=>!(ps.any fun o=>pgo ts o p)
theorem z5r {ps:List Nat} {ts:List (List Nat)} (hp:ps.Nodup) (hp16:ps.length <= 16) (h:Tm ts) (hl:ts.length <= 81) (O:Ow):z1N [.lst (z07 ps),.lst (ts.map .str)] O=.ok (.lst (z07 (kpt ps ts))) O:=by
 let σ:Sg:=[some (.lst (z07 ps)),some (.lst (ts.map .str)),none]
 have d:=z9K (ext:=1) (i:=3) (it0:=dIt (z02 0)) (tk:=z02 3) (tv:=dFn 2 z0j (z01 (z02 1) (z01 (z02 3) z03))) (σ:=σ) (O:=O) (O0:=O) (l:=ps) (inj:=fun (p:Nat)=>D.int (p:Int)) (key:=fun (p:Nat)=>D.int (p:Int)) (kk:=zh0) (val:=fun p=>.lst ((hol ts p).map .str)) (τ:=fun p=>σ ++ [some (.int (p:Int))])
  rfl (by omega) (zca hp) (fun _=>rfl) (fun _ _=>rfl) (fun _ _=>rfl) (fun p _=>z0X (z0m rfl rfl) (z40 h hl p O))
 let σ2:Sg:=[some (.lst (z07 ps)),some (.lst (ts.map .str)),some (zj4 ps ts)]
 have c1:∀ p ∈ ps,z06 zao (z01 (z0i false 1 (dIt (z02 0)) (.one 4) [] [] (dFn 3 z0z (z01 (z02 4) (z01 (z02 3) (z01 (z02 2) z03))))) z03) (σ2 ++ [some (.int (p:Int))]) O=.ok (.bl (ps.any fun o=>pgo ts o p)) O:=fun p hpp=>by
  have c:=z8a (o:=false) (ext:=1) (i:=4) (it0:=dIt (z02 0)) (σ:=σ2 ++ [some (.int (p:Int))]) (O0:=O) (O:=O) (l:=ps) (inj:=fun (p:Nat)=>D.int (p:Int)) (te:=dFn 3 z0z (z01 (z02 4) (z01 (z02 3) (z01 (z02 2) z03)))) (e:=fun o=>D.bl (pgo ts o p)) (τ:=fun o=>σ2 ++ [some (.int (p:Int)),some (.int (o:Int))])
   rfl (by omega) (fun _=>rfl) (fun o ho=>z0X (z1v rfl (z0m rfl rfl)) (zih hp h hl ho hpp O))
  exact z1U (z0d (c.trans rfl)) (z4q O _ _)
 have c2:=z2o (o:=false) (ext:=1) (i:=3) (it0:=dIt (z02 0)) (σ:=σ2) (O0:=O) (O:=O) (l:=ps) (inj:=fun (p:Nat)=>D.int (p:Int)) (t:=z1B (z1g (z06 zao (z01 (z0i false 1 (dIt (z02 0)) (.one 4) [] [] (dFn 3 z0z (z01 (z02 4) (z01 (z02 3) (z01 (z02 2) z03))))) z03)))) (te:=z02 3) (p:=fun p=>!(ps.any fun o=>pgo ts o p)) (e:=fun (p:Nat)=>D.int (p:Int)) (τ:=fun p=>σ2 ++ [some (.int (p:Int))])
  rfl (by omega) (fun _=>rfl) (fun p hpp=>z1Q (z1c (c1 p hpp))) (fun _ _ _=>rfl)
 show fin (z3q σ O)=_
 exact z15 (z0y d (z0t (c2.trans rfl)))
def sg (cs:List Nat):Nat:=(cs.filter (· != 45)).length
theorem zc2 (O:Ow):(allT.map fun cs=>z0V [.str cs] O)=allT.map fun cs=>R.ok (.int ((sg cs:Nat):Int)) O:=by kernel_rfl
theorem z9n {cs:List Nat} (h:cs ∈ allT) (O:Ow):z0V [.str cs] O=.ok (.int (sg cs:Nat)) O:=List.map_inj_left.mp (zc2 O) cs h
theorem z66 (O:Ow):(allT.map fun cs=>z0B [.tup [.str cs]] O)=allT.map fun cs=>R.ok (.int ((sg cs:Nat):Int)) O:=by kernel_rfl
theorem z43 {cs:List Nat} (h:cs ∈ allT) (O:Ow):z0B [.tup [.str cs]] O=.ok (.int (sg cs:Nat)) O:=List.map_inj_left.mp (z66 O) cs h
def held (ps:List Nat) (t:List Nat):List Nat:=(pts t).filter fun q=>ps.contains q
def tgo (ps:List Nat) (o t:List Nat):Bool:=!(decide (sg t < sg o) || !((held ps t).all fun q=>(held ps o).contains q)) && (held ps o != held ps t || (decide (sg o < sg t) || decide (o < t)))
abbrev zfG (t:List Nat):DK:=.inr t
theorem z8K {ts:List (List Nat)} (h:ts.Nodup):(ts.map zfG).Nodup:=List.pairwise_map.mpr (h.imp fun n e=>n (Sum.inr.inj e))
abbrev zgL (ps:List Nat) (ts:List (List Nat)):D:=.map (ts.map zfG) (ts.map fun t=>.lst (z07 (held ps t)))
theorem zjN (O:Ow) (a b:Nat):z9X O (.int (a:Int)) (.int (b:Int))=.ok (.bl (decide (a < b))) O:=by
 show R.ok (D.bl (decide ((a:Int) < (b:Int)))) O=_
 rw [show decide ((a:Int) < (b:Int))=decide (a < b) from by rw [decide_eq_decide];omega]
theorem zkk (O:Ow) (a b:Nat):fGt O (.int (a:Int)) (.int (b:Int))=.ok (.bl (decide (b < a))) O:=by
 show R.ok (D.bl (decide ((b:Int) < (a:Int)))) O=_
 rw [show decide ((b:Int) < (a:Int))=decide (b < a) from by rw [decide_eq_decide];omega]
theorem zdm {t:List Nat} (h:t ∈ allT) (ps:List Nat):(held ps t).length <= 16:=z0v (by have:=z33 h;omega)
theorem zis {ps:List Nat} {ts:List (List Nat)} (hn:ts.Nodup) (h:Tm ts) {o t:List Nat} (ho:o ∈ ts) (ht:t ∈ ts) (O:Ow):z0E [.str o,.str t,zgL ps ts] O=.ok (.bl (tgo ps o t)) O:=by
 let σ:Sg:=[some (.str o),some (.str t),some (zgL ps ts)]
 have go:∀ (τ:Sg) (j:Nat) (q:List Nat),τ[2]?=some (some (zgL ps ts))->τ[j]?=some (some (.str q))->q ∈ ts->z21 (z02 2) (z02 j) τ O=.ok (.lst (z07 (held ps q))) O:=fun τ j q h2 hj hq=>
  z8I (ks:=ts.map zfG) (ds:=ts.map fun t=>.lst (z07 (held ps t))) (by unfold z02;rw [h2]) (by unfold z02;rw [hj]) rfl (z3u (kk:=zfG) (val:=fun t=>D.lst (z07 (held ps t))) hq (z8K hn))
 have c:=z8a (o:=false) (ext:=1) (i:=3) (it0:=dIt (z21 (z02 2) (z02 1))) (σ:=σ) (O0:=O) (O:=O) (l:=held ps t) (inj:=fun (p:Nat)=>D.int (p:Int)) (te:=dOp fIn (z02 3) (z21 (z02 2) (z02 0))) (e:=fun q=>D.bl ((held ps o).contains q)) (τ:=fun (q:Nat)=>σ ++ [some (.int (q:Int))])
  (z1J (go σ 1 t rfl rfl ht)) (by have:=zdm (h t ht) ps;omega) (fun _=>rfl) (fun q _=>z0R rfl (go _ 0 o rfl rfl ho) (z3O O q _))
 have s1:dFn 1 z0V (z01 (z02 0) z03) σ O=.ok (.int (sg o:Nat)) O:=z0X (z0d rfl) (z9n (h o ho) O)
 have s2:dFn 1 z0V (z01 (z02 1) z03) σ O=.ok (.int (sg t:Nat)) O:=z0X (z0d rfl) (z9n (h t ht) O)
 have t1:=z6T (z0f (z0R s1 s2 (zkk O _ _))) fun _=>z1Q (z1c (z1U (z0d (c.trans rfl)) (z7a O _ _)))
 show fin (z1R σ O)=_
 unfold z1R tgo
 cases hb:(decide (sg t < sg o) || !((held ps t).all fun q=>(held ps o).contains q)) with
 | true=>
  rw [hb] at t1
  exact z15 (zb4 t1 rfl)
 | false=>
  rw [hb] at t1
  exact z15 (z9c t1 (z0t (zbz (z0R (go σ 0 o rfl rfl ho) (go σ 1 t rfl rfl ht) (zk0 O _ _)) fun _=>zbz (z0R s1 s2 (zjN O _ _)) fun _=>z0R rfl rfl rfl)))
def usf (ps:List Nat) (ts:List (List Nat)):List (List Nat):=ts.filter fun t=>!(held ps t).isEmpty
def ktm (ps:List Nat) (ts:List (List Nat)):List (List Nat):=(usf ps ts).filter fun t=>!((usf ps ts).any fun o=>tgo ps o t)
theorem z6z {ps:List Nat} {ts:List (List Nat)} (hn:ts.Nodup) (h:Tm ts) (hl:ts.length <= 81) (O:Ow):z1e [.lst (z07 ps),.lst (ts.map .str)] O=.ok (.lst ((ktm ps ts).map .str)) O:=by
 let σ:Sg:=[some (.lst (z07 ps)),some (.lst (ts.map .str)),none,none]
 have d:=z9K (ext:=1) (i:=4) (it0:=dIt (z02 1)) (tk:=z02 4) (tv:=z0i false 1 (dIt (dFn 1 z0w (z01 (z02 4) z03))) (.one 5) [(z0k (dOp fIn (z02 5) (z02 0)))] [] (z02 5)) (σ:=σ) (O:=O) (O0:=O) (l:=ts) (inj:=D.str) (key:=D.str) (kk:=zfG) (val:=fun t=>.lst (z07 (held ps t))) (τ:=fun t=>σ ++ [some (.str t)])
  rfl (by omega) (z8K hn) (fun _=>rfl) (fun _ _=>rfl) (fun _ _=>rfl) (fun t ht=>by
   have c:=z2o (o:=false) (ext:=1) (i:=5) (it0:=dIt (dFn 1 z0w (z01 (z02 4) z03))) (σ:=σ ++ [some (.str t)]) (O0:=O) (O:=O) (l:=pts t) (inj:=fun (p:Nat)=>D.int (p:Int)) (t:=z0k (dOp fIn (z02 5) (z02 0))) (te:=z02 5) (p:=fun q=>ps.contains q) (e:=fun (p:Nat)=>D.int (p:Int)) (τ:=fun (q:Nat)=>σ ++ [some (.str t),some (.int (q:Int))])
    (z1J (z0X (z0d rfl) (z24 (h t ht) O))) (by have:=z33 (h t ht);omega) (fun _=>rfl) (fun q _=>z0f (z0R rfl rfl (z3O O q ps))) (fun _ _ _=>rfl)
   exact c.trans rfl)
 let σ2:Sg:=[some (.lst (z07 ps)),some (.lst (ts.map .str)),some (zgL ps ts),none]
 have go:∀ (τ:Sg) (q:List Nat),τ[2]?=some (some (zgL ps ts))->τ[4]?=some (some (.str q))->q ∈ ts->z21 (z02 2) (z02 4) τ O=.ok (.lst (z07 (held ps q))) O:=fun τ q h2 hj hq=>
  z8I (ks:=ts.map zfG) (ds:=ts.map fun t=>.lst (z07 (held ps t))) (by unfold z02;rw [h2]) (by unfold z02;rw [hj]) rfl (z3u (kk:=zfG) (val:=fun t=>D.lst (z07 (held ps t))) hq (z8K hn))
 have c0:=z2o (o:=false) (ext:=1) (i:=4) (it0:=dIt (z02 1)) (σ:=σ2) (O0:=O) (O:=O) (l:=ts) (inj:=D.str) (t:=z1g (z21 (z02 2) (z02 4))) (te:=z02 4) (p:=fun t=>!(held ps t).isEmpty) (e:=D.str) (τ:=fun t=>σ2 ++ [some (.str t)])
  rfl (by omega) (fun _=>rfl) (fun t ht=>by
   show ((z21 (z02 2) (z02 4) _ O).bnd _)=_
   have e:=go (σ2 ++ [some (D.str t)]) t rfl rfl ht
   rw [e]
   show R.ok (!(z07 (held ps t)).isEmpty) O=_
   unfold z07;rw [List.isEmpty_map]) (fun _ _ _=>rfl)
 let σ3:Sg:=[some (.lst (z07 ps)),some (.lst (ts.map .str)),some (zgL ps ts),some (.lst ((usf ps ts).map .str))]
 have hu:∀ t ∈ usf ps ts,t ∈ ts:=fun t ht=>(List.mem_filter.mp ht).1
 have hul:(usf ps ts).length <= 81:=z0v hl
 have c1:∀ t ∈ usf ps ts,z06 zao (z01 (z0i false 1 (dIt (z02 3)) (.one 5) [] [] (dFn 3 z0E (z01 (z02 5) (z01 (z02 4) (z01 (z02 2) z03))))) z03) (σ3 ++ [some (.str t)]) O=.ok (.bl ((usf ps ts).any fun o=>tgo ps o t)) O:=fun t ht=>by
  have c:=z8a (o:=false) (ext:=1) (i:=5) (it0:=dIt (z02 3)) (σ:=σ3 ++ [some (.str t)]) (O0:=O) (O:=O) (l:=usf ps ts) (inj:=D.str) (te:=dFn 3 z0E (z01 (z02 5) (z01 (z02 4) (z01 (z02 2) z03)))) (e:=fun o=>D.bl (tgo ps o t)) (τ:=fun o=>σ3 ++ [some (.str t),some (.str o)])
   rfl (by omega) (fun _=>rfl) (fun o ho=>z0X (z1v rfl (z0m rfl rfl)) (zis hn h (hu o ho) (hu t ht) O))
  exact z1U (z0d (c.trans rfl)) (z4q O _ _)
 have c2:=z2o (o:=false) (ext:=1) (i:=4) (it0:=dIt (z02 3)) (σ:=σ3) (O0:=O) (O:=O) (l:=usf ps ts) (inj:=D.str) (t:=z1B (z1g (z06 zao (z01 (z0i false 1 (dIt (z02 3)) (.one 5) [] [] (dFn 3 z0E (z01 (z02 5) (z01 (z02 4) (z01 (z02 2) z03))))) z03)))) (te:=z02 4) (p:=fun t=>!((usf ps ts).any fun o=>tgo ps o t)) (e:=D.str) (τ:=fun t=>σ3 ++ [some (.str t)])
  rfl (by omega) (fun _=>rfl) (fun t ht=>z1Q (z1c (c1 t ht))) (fun _ _ _=>rfl)
 show fin (z45 σ O)=_
 exact z15 (z0y d (z0y (c0.trans rfl) (z0t (c2.trans rfl))))
def tak (ps:List Nat) (ts:List (List Nat)):List (List Nat):=z26 (z6V ps ts)
def opn (ps:List Nat) (ts:List (List Nat)):List Nat:=ps.filter fun p=>(hol (tak ps ts) p).isEmpty
def pl2 (ps:List Nat) (ts:List (List Nat)):List Nat:=kpt (opn ps ts) ts
def tl2 (ps:List Nat) (ts:List (List Nat)):List (List Nat):=ktm (pl2 ps ts) ts
theorem z3h {ts:List (List Nat)} (h:Tm ts) {p:Nat} (h1:z5j ts p=true):(hol ts p).headD [] ∈ hol ts p:=by
 unfold z5j at h1
 rw [beq_iff_eq] at h1
 cases e:hol ts p with
 | nil=>rw [e] at h1;cases h1
 | cons x r=>exact List.mem_cons_self
theorem zaw {ps:List Nat} {ts:List (List Nat)} (h:Tm ts):∀ t ∈ tak ps ts,t ∈ ts:=fun t ht=>by
 obtain ⟨p,hp,rfl⟩:=List.mem_map.mp ((z1p _).mp ht)
 exact (List.mem_filter.mp (z3h h (List.mem_filter.mp hp).2)).1
theorem z9D (x:List Nat):∀ l:List (List Nat),(z8f x l).length <= l.length + 1
 | []=>by simp [z8f]
 | y :: r=>by
  have:=z9D x r
  unfold z8f
  split
  ·simp
  ·split
   ·simp
   ·simp only [List.length_cons];omega
theorem z6p (ss:List (List Nat)):(z26 ss).length <= ss.length:=by
 have:∀ (l acc:List (List Nat)),(l.foldl (fun l x=>z8f x l) acc).length <= acc.length + l.length:=fun l=>by
  induction l with
  | nil=>intro acc;simp
  | cons a l ih=>
   intro acc
   rw [List.foldl_cons]
   have h1:=ih (z8f a acc)
   have h2:=z9D a acc
   simp only [List.length_cons];omega
 have:=this ss []
 simpa [z26] using this
theorem z8w (ps:List Nat) (ts:List (List Nat)):(tak ps ts).length <= (ps.filter (z5j ts)).length:=by
 have:=z6p (z6V ps ts)
 unfold z6V at this
 rw [List.length_map] at this
 exact this
theorem zdA {ps:List Nat} {ts:List (List Nat)} (hp:ps.Nodup) (hp16:ps.length <= 16) (hn:ts.Nodup) (h:Tm ts) (hl:ts.length <= 81) (O:Ow):
  z3P [.lst (z07 ps),.lst (ts.map .str)] O=.ok (.tup [.lst ((tak ps ts).map .str),.lst (z07 (pl2 ps ts)),.lst ((tl2 ps ts).map .str)]) O:=by
 let σ:Sg:=[some (.lst (z07 ps)),some (.lst (ts.map .str)),some (.lst ((tak ps ts).map .str)),none,none]
 have tt:Tm (tak ps ts):=fun t ht=>h t (zaw h t ht)
 have tl:(tak ps ts).length <= 81:=by have:=z8w ps ts;have:=z0v (p:=z5j ts) hp16;omega
 have c:=z2o (o:=false) (ext:=1) (i:=5) (it0:=dIt (z02 0)) (σ:=σ) (O0:=O) (O:=O) (l:=ps) (inj:=fun (p:Nat)=>D.int (p:Int)) (t:=z1B (z1g (dFn 2 z0j (z01 (z02 2) (z01 (z02 5) z03))))) (te:=z02 5) (p:=fun p=>(hol (tak ps ts) p).isEmpty) (e:=fun (p:Nat)=>D.int (p:Int)) (τ:=fun (p:Nat)=>σ ++ [some (.int (p:Int))])
  rfl (by omega) (fun _=>rfl) (fun p _=>by
   have:z1g (dFn 2 z0j (z01 (z02 2) (z01 (z02 5) z03))) (σ ++ [some (.int (p:Int))]) O=.ok (!(hol (tak ps ts) p).isEmpty) O:=by
    show ((dFn 2 z0j (z01 (z02 2) (z01 (z02 5) z03)) _ O).bnd _)=_
    rw [z0X (z0m rfl rfl) (z40 tt tl p O)]
    show R.ok (!((hol (tak ps ts) p).map D.str).isEmpty) O=_
    rw [List.isEmpty_map]
   rw [z1Q this,Bool.not_not]) (fun _ _ _=>rfl)
 have ho:(opn ps ts).Nodup:=hp.filter _
 show fin (zbH [some (.lst (z07 ps)),some (.lst (ts.map .str)),none,none,none] O)=_
 refine z15 (z0y (z0X (z0m rfl rfl) (zd3 h hl hp16 O)) (z0y (c.trans rfl) (z0y (z0X (z0m rfl rfl) (z5r ho (z0v hp16) h hl O)) ?_)))
 have e:dFn 2 z1e (z01 (z02 4) (z01 (z02 1) z03)) [some (.lst (z07 ps)),some (.lst (ts.map .str)),some (.lst ((tak ps ts).map .str)),some (.lst (z07 (opn ps ts))),some (.lst (z07 (pl2 ps ts)))] O=.ok (.lst ((tl2 ps ts).map .str)) O:=z0X (z0m rfl rfl) (z6z hn h hl O)
 refine z0t ?_
 have e3:=z1v (t:=z02 2) (x:=.lst ((tak ps ts).map .str)) rfl (z0m (t:=z02 4) (x:=.lst (z07 (pl2 ps ts))) rfl e)
 show ((z01 (z02 2) (z01 (z02 4) (z01 (dFn 2 z1e (z01 (z02 4) (z01 (z02 1) z03))) z03)) [some (.lst (z07 ps)),some (.lst (ts.map .str)),some (.lst ((tak ps ts).map .str)),some (.lst (z07 (opn ps ts))),some (.lst (z07 (pl2 ps ts)))] O).bnd _)=_
 rw [e3];rfl
theorem z9u {α:Type} {l:List α} {inj:α->D} {i:Nat} {body:DS} {I:Sg->Prop} {O:Ow} {q:α->Bool} {d:D} (hb:∀ a ∈ l,∀ σ,I σ->(q a=true/\body (σ.set i (some (inj a))) O=.rt d O) \/ (q a=false/\∃ σ',I σ'/\body (σ.set i (some (inj a))) O=.nx σ' O)):
  ∀ (f k:Nat) (σ:Sg),I σ->k <= l.length->l.length <= k + f->((l.drop k).any q=true/\z2k (.val (l.map inj)) (fun d σ O=>match Tg.put (.one i) d σ with|some σ'=>body σ' O|none=>.bad) f k σ O=.rt d O) \/ ((l.drop k).any q=false/\∃ σ',I σ'/\z2k (.val (l.map inj)) (fun d σ O=>match Tg.put (.one i) d σ with|some σ'=>body σ' O|none=>.bad) f k σ O=.nx σ' O)
 | 0,k,σ,hI,h1,h2=>by
  have:k=l.length:=by omega
  subst this
  have e:(Src.val (l.map inj)).get O l.length=none:=by simp [Src.get]
  refine .inr ⟨by simp,σ,hI,?_⟩
  unfold z2k
  rw [e]
 | f + 1,k,σ,hI,h1,h2=>by
  by_cases hk:k=l.length
  ·subst hk
   have e:(Src.val (l.map inj)).get O l.length=none:=by simp [Src.get]
   refine .inr ⟨by simp,σ,hI,?_⟩
   unfold z2k
   rw [e]
  ·have hlt:k < l.length:=by omega
   have e:(Src.val (l.map inj)).get O k=some (inj l[k]):=by
    show (l.map inj)[k]?=_
    rw [List.getElem?_map,List.getElem?_eq_getElem hlt];rfl
   have e2:Tg.put (.one i) (inj l[k]) σ=some (σ.set i (some (inj l[k]))):=rfl
   unfold z2k
   rw [e]
   dsimp only
   rw [e2]
   dsimp only
   rw [List.drop_eq_getElem_cons hlt,List.any_cons]
   rcases hb _ (List.getElem_mem hlt) σ hI with ⟨hq,hr⟩|⟨hq,σ',hI',hr⟩
   ·rw [hq,hr];exact .inl ⟨rfl,rfl⟩
   ·rw [hq,hr,Bool.false_or]
    exact z9u hb f (k + 1) σ' hI' (by omega) (by omega)
theorem zbw {α:Type} {l:List α} {inj:α->D} {i:Nat} {it:DI} {body:DS} (I:Sg->Prop) {O:Ow} (q:α->Bool) {d:D} {σ:Sg} (hi:it σ O=.ok (.val (l.map inj)) O) (hI:I σ) (hb:∀ a ∈ l,∀ σ,I σ->(q a=true/\body (σ.set i (some (inj a))) O=.rt d O) \/ (q a=false/\∃ σ',I σ'/\body (σ.set i (some (inj a))) O=.nx σ' O)):
  (l.any q=true/\z63 it (.one i) body σ O=.rt d O) \/ (l.any q=false/\∃ σ',I σ'/\z63 it (.one i) body σ O=.nx σ' O):=by
 have h:=z9u hb (l.map inj).length 0 σ hI (Nat.zero_le _) (by simp)
 rw [List.drop_zero] at h
 rw [z6W hi]
 exact h
theorem zk1 {t:List Nat} (h:t ∈ allT) (k:Nat):pl k (.str t)=true:=by
 have:=zaq (ts:=[t]) (fun cs hcs=>by rw [List.mem_singleton.mp hcs];exact h) k
 simpa using this
theorem zkq (O:Ow) {a b:List Nat} (ha:a ∈ allT) (hb:b ∈ allT):fPy neF O (.str a) (.str b)=.ok (.bl (a != b)) O:=
 (z8Q O (zk1 ha 8) (zk1 hb 8) (b:=a == b) (by rw [beq_iff_eq];exact ⟨fun h=>h ▸ rfl,fun h=>D.str.inj h⟩)).2
theorem zkv (O:Ow) (a b:Nat):fPy neF O (.int (a:Int)) (.int (b:Int))=.ok (.bl (a != b)) O:=
 (z8Q O (x:=.int (a:Int)) (y:=.int (b:Int)) rfl rfl (b:=a == b) (by rw [beq_iff_eq];exact ⟨fun h=>h ▸ rfl,fun h=>by have:=D.int.inj h;omega⟩)).2
theorem zkA (O:Ow) (a:Int):fPy eqF O (.int a) (.int 0)=.ok (.bl (decide (a=0))) O:=
 (z8Q O (x:=.int a) (y:=.int 0) rfl rfl (b:=decide (a=0)) (by rw [decide_eq_true_eq];exact ⟨fun h=>h ▸ rfl,fun h=>D.int.inj h⟩)).1
theorem zb5 (O:Ow) (l:List Nat):fPy eqF O (.lst (z07 l)) (.lst [])=.ok (.bl l.isEmpty) O:=
 (zci O (z2p 7 l) (y:=[]) rfl (b:=l.isEmpty) (by rw [List.isEmpty_iff];exact ⟨fun h=>h ▸ rfl,fun h=>List.map_eq_nil_iff.mp h⟩)).1
def lpg (ts:List (List Nat)) (p o:Nat):Bool:=(o != p) && ((((hol ts o).filter fun t=>!(hol ts p).contains t).isEmpty) && (hol ts o != hol ts p || decide (o < p)))
theorem z6f {ps:List Nat} {ts:List (List Nat)} (h:Tm ts) (hl:ts.length <= 81) (p:Nat) {O:Ow} (hO:z4p O):z0N [.lst (z07 ps),.lst (ts.map .str),.int (p:Int)] O=.ok (.bl (ps.any (lpg ts p))) O:=by
 let A:Option D:=some (.lst (z07 ps))
 let B:Option D:=some (.lst (ts.map .str))
 let C:Option D:=some (.int (p:Int))
 let W:Option D:=some (.lst ((hol ts p).map .str))
 have e1:dFn 2 z0h (z01 (z02 1) (z01 (z02 2) z03)) [A,B,C,none,none,none] O=.ok (.lst ((hol ts p).map .str)) O:=z0X (z0m rfl rfl) (z29 h hl p hO)
 have hf:=zbw (l:=ps) (inj:=fun (p:Nat)=>D.int (p:Int)) (i:=4) (it:=dIt (z02 0)) (body:=z0n (z0A 5 (dFn 2 z0h (z01 (z02 1) (z01 (z02 4) z03)))) (sIf (z1P (z0k (dOp (fPy neF) (z02 4) (z02 2))) (z1P (z0k (dOp (fPy eqF) (z0i false 1 (dIt (z02 5)) (.one 6) [(z0k (dOp z3W (z02 6) (z02 3)))] [] (z02 6)) (z1q z03))) (z6Z (z0k (dOp (fPy neF) (z02 5) (z02 3))) (z0k (dOp fLt (z02 4) (z02 2)))))) (z0F (dC (.bl true))) z1z)) (fun σ=>∃ y z,σ=[A,B,C,W,y,z]) (O:=O) (lpg ts p) (d:=.bl true) (σ:=[A,B,C,W,none,none]) rfl ⟨none,none,rfl⟩ (fun o _ σ ⟨y,z,hσ⟩=>by
  subst hσ
  let G:Option D:=some (.int (o:Int))
  let V:Option D:=some (.lst ((hol ts o).map .str))
  have a1:dFn 2 z0h (z01 (z02 1) (z01 (z02 4) z03)) [A,B,C,W,G,z] O=.ok (.lst ((hol ts o).map .str)) O:=z0X (z0m rfl rfl) (z29 h hl o hO)
  have c:=z2o (o:=false) (ext:=1) (i:=6) (it0:=dIt (z02 5)) (σ:=[A,B,C,W,G,V]) (O0:=O) (O:=O) (l:=hol ts o) (inj:=D.str) (t:=z0k (dOp z3W (z02 6) (z02 3))) (te:=z02 6) (p:=fun t=>!(hol ts p).contains t) (e:=D.str) (τ:=fun t=>[A,B,C,W,G,V,some (.str t)]) rfl (by have:=zbe hl o;omega) (fun _=>rfl) (fun t ht=>z0f (z0R rfl rfl (ziR O (z4a h o t ht) (z4a h p) rfl).2)) (fun _ _ _=>rfl)
  have t1:z1P (z0k (dOp (fPy neF) (z02 4) (z02 2))) (z1P (z0k (dOp (fPy eqF) (z0i false 1 (dIt (z02 5)) (.one 6) [(z0k (dOp z3W (z02 6) (z02 3)))] [] (z02 6)) (z1q z03))) (z6Z (z0k (dOp (fPy neF) (z02 5) (z02 3))) (z0k (dOp fLt (z02 4) (z02 2))))) [A,B,C,W,G,V] O=.ok (lpg ts p o) O:=
   z3k (z0f (z0R rfl rfl (zkv O o p))) fun _=>z3k (z0f (z0R (c.trans rfl) rfl (z90 O _ fun t ht=>z4a h o t (List.mem_filter.mp ht).1))) fun _=>z6T (z0f (z0R rfl rfl (zkg O (z4a h o) (z4a h p)))) fun _=>z0f (z0R rfl rfl (zkc O o p))
  show (_/\z0n _ _ [A,B,C,W,G,z] O=_) \/ (_/\∃ σ',_/\z0n _ _ [A,B,C,W,G,z] O=_)
  cases hq:lpg ts p o with
  | true=>
   rw [hq] at t1
   exact .inl ⟨rfl,z0y a1 ((z0K t1).trans rfl)⟩
  | false=>
   rw [hq] at t1
   exact .inr ⟨rfl,[A,B,C,W,G,V],⟨_,_,rfl⟩,z0y a1 ((z0K t1).trans rfl)⟩)
 show fin (z2c [A,B,C,none,none,none] O)=_
 rcases hf with ⟨h1,h2⟩|⟨h1,σ',_,h2⟩
 ·rw [h1];exact z15 (z0y e1 (z32 h2))
 ·rw [h1];exact z15 (z0y e1 (z39 h2 rfl))
def z5o (ps:List Nat) (t:List Nat):List Nat:=ps.filter fun q=>(pts t).contains q
def lct (ps:List Nat) (t o:List Nat):Bool:=decide ((sg o:Int) - (sg t:Int) < 0) || (decide ((sg o:Int) - (sg t:Int)=0) && (z5o ps o != z5o ps t || decide (o < t)))
def ltg (ps:List Nat) (t o:List Nat):Bool:=(o != t && ((z5o ps t).filter fun q=>!(z5o ps o).contains q).isEmpty) && lct ps t o
theorem ze8 (O:Ow) (p:Nat) (l:List Nat):z3W O (.int (p:Int)) (.lst (z07 l))=.ok (.bl (!l.contains p)) O:=by
 refine (zfO O (x:=.int (p:Int)) (y:=.lst (z07 l)) (l:=z07 l) rfl (z2p 7 l) (.inl rfl) (b:=l.contains p) ?_).2
 unfold z07
 rw [List.contains_iff_mem,List.mem_map]
 constructor
 ·exact fun h=>⟨p,h,rfl⟩
 ·rintro ⟨q,h,e⟩
  have:(q:Int)=(p:Int):=D.int.inj e
  have:q=p:=by omega
  exact this ▸ h
theorem z7x {ps:List Nat} {ts:List (List Nat)} (hp:ps.length <= 16) (h:Tm ts) {t:List Nat} (ht:t ∈ allT) {O:Ow} (hO:z4p O):z0T [.lst (z07 ps),.lst (ts.map .str),.str t] O=.ok (.bl ((z5o ps t).isEmpty || ts.any (ltg ps t))) O:=by
 let A:Option D:=some (.lst (z07 ps))
 let B:Option D:=some (.lst (ts.map .str))
 let C:Option D:=some (.str t)
 let W:Option D:=some (.lst (z07 (z5o ps t)))
 have oc:∀ (σ:Sg) (j:Nat) (u:List Nat),σ.length=7->σ[0]?=some A->j < 7->σ[j]?=some (some (.str u))->u ∈ allT->z0i false 1 (dIt (z02 0)) (.one 7) [(z0k (dOp fIn (z02 7) (dFn 1 z0c (z01 (z02 j) z03))))] [] (z02 7) σ O=.ok (.lst (z07 (z5o ps u))) O:=fun σ j u hl h0 hj7 hj hu=>by
  have hcl:clr (clr (σ ++ List.replicate 1 none) [7]) [7]=σ ++ [none]:=by
   match σ,hl with
   | [_,_,_,_,_,_,_],_=>rfl
  have c:=z2o (o:=false) (ext:=1) (i:=7) (it0:=dIt (z02 0)) (σ:=σ) (O0:=O) (O:=O) (l:=ps) (inj:=fun (p:Nat)=>D.int (p:Int)) (t:=z0k (dOp fIn (z02 7) (dFn 1 z0c (z01 (z02 j) z03)))) (te:=z02 7) (p:=fun q=>(pts u).contains q) (e:=fun (p:Nat)=>D.int (p:Int)) (τ:=fun (q:Nat)=>σ ++ [some (.int (q:Int))])
   (z1J (by unfold z02;rw [h0];rfl)) (by omega) (fun q=>by rw [hcl,List.set_append_right _ _ (by omega),hl];rfl) (fun q _=>by
    have g7:(σ ++ [some (D.int (q:Int))])[7]?=some (some (D.int (q:Int))):=by rw [List.getElem?_append_right (by omega),hl];rfl
    have gj:(σ ++ [some (D.int (q:Int))])[j]?=some (some (D.str u)):=by rw [List.getElem?_append_left (by omega)];exact hj
    exact z0f (z0R (by unfold z02;rw [g7]) (z0X (z0d (by unfold z02;rw [gj])) (z12 hu hO)) (z3O O q _))) (fun q _ _=>by
    have g7:(σ ++ [some (D.int (q:Int))])[7]?=some (some (D.int (q:Int))):=by rw [List.getElem?_append_right (by omega),hl];rfl
    unfold z02;rw [g7])
  exact c.trans rfl
 have e1:=oc [A,B,C,none,none,none,none] 2 t rfl rfl (by decide) rfl ht
 show fin (z2u [A,B,C,none,none,none,none] O)=_
 have t0:z0k (dOp (fPy eqF) (z02 3) (z1q z03)) [A,B,C,W,none,none,none] O=.ok (z5o ps t).isEmpty O:=z0f (z0R rfl rfl (zb5 O _))
 cases h0:(z5o ps t).isEmpty with
 | true=>
  rw [h0] at t0
  exact z15 (z0y e1 (zb4 t0 rfl))
 | false=>
  rw [h0] at t0
  have hf:=zbw (l:=ts) (inj:=D.str) (i:=4) (it:=dIt (z02 1)) (body:=(z0n (z0A 5 (z0i false 1 (dIt (z02 0)) (.one 7) [(z0k (dOp fIn (z02 7) (dFn 1 z0c (z01 (z02 4) z03))))] [] (z02 7))) (sIf (z1P (z0k (dOp (fPy neF) (z02 4) (z02 2))) (z0k (dOp (fPy eqF) (z0i false 1 (dIt (z02 3)) (.one 7) [(z0k (dOp z3W (z02 7) (z02 5)))] [] (z02 7)) (z1q z03)))) (z0n (z0A 6 (dOp (fI zaC) (dFn 1 z0B (z01 (z2T (z01 (z02 4) z03)) z03)) (dFn 1 z0B (z01 (z2T (z01 (z02 2) z03)) z03)))) (sIf (z6Z (z0k (dOp z9X (z02 6) (dC (.int 0)))) (z1P (z0k (dOp (fPy eqF) (z02 6) (dC (.int 0)))) (z6Z (z0k (dOp (fPy neF) (z02 5) (z02 3))) (z0k (dOp z9X (z02 4) (z02 2)))))) (z0F (dC (.bl true))) z1z)) z1z))) (fun σ=>∃ x y z,σ=[A,B,C,W,x,y,z]) (O:=O) (ltg ps t) (d:=.bl true) (σ:=[A,B,C,W,none,none,none]) rfl ⟨none,none,none,rfl⟩ (fun o ho σ ⟨x,y,z,hσ⟩=>by
   subst hσ
   let G:Option D:=some (.str o)
   let V:Option D:=some (.lst (z07 (z5o ps o)))
   have hoT:=h o ho
   have a1:=oc [A,B,C,W,G,y,z] 4 o rfl rfl (by decide) rfl hoT
   have c:=z2o (o:=false) (ext:=1) (i:=7) (it0:=dIt (z02 3)) (σ:=[A,B,C,W,G,V,z]) (O0:=O) (O:=O) (l:=z5o ps t) (inj:=fun (p:Nat)=>D.int (p:Int)) (t:=z0k (dOp z3W (z02 7) (z02 5))) (te:=z02 7) (p:=fun q=>!(z5o ps o).contains q) (e:=fun (p:Nat)=>D.int (p:Int)) (τ:=fun (q:Nat)=>[A,B,C,W,G,V,z,some (.int (q:Int))]) rfl (by have:(z5o ps t).length <= 16:=z0v hp;omega) (fun _=>rfl) (fun q _=>z0f (z0R rfl rfl (ze8 O q _))) (fun _ _ _=>rfl)
   have t1:z1P (z0k (dOp (fPy neF) (z02 4) (z02 2))) (z0k (dOp (fPy eqF) (z0i false 1 (dIt (z02 3)) (.one 7) [(z0k (dOp z3W (z02 7) (z02 5)))] [] (z02 7)) (z1q z03))) [A,B,C,W,G,V,z] O=.ok (o != t && ((z5o ps t).filter fun q=>!(z5o ps o).contains q).isEmpty) O:=
    z3k (z0f (z0R rfl rfl (zkq O hoT ht))) fun _=>z0f (z0R (c.trans rfl) rfl (zb5 O _))
   have a2:dOp (fI zaC) (dFn 1 z0B (z01 (z2T (z01 (z02 4) z03)) z03)) (dFn 1 z0B (z01 (z2T (z01 (z02 2) z03)) z03)) [A,B,C,W,G,V,z] O=.ok (.int ((sg o:Int) - (sg t:Int))) O:=z0R (z0X (z0d rfl) (z43 hoT O)) (z0X (z0d rfl) (z43 ht O)) rfl
   have t2:z6Z (z0k (dOp z9X (z02 6) (dC (.int 0)))) (z1P (z0k (dOp (fPy eqF) (z02 6) (dC (.int 0)))) (z6Z (z0k (dOp (fPy neF) (z02 5) (z02 3))) (z0k (dOp z9X (z02 4) (z02 2))))) [A,B,C,W,G,V,some (.int ((sg o:Int) - (sg t:Int)))] O=.ok (lct ps t o) O:=
    z6T (z0f (z0R rfl rfl rfl)) fun _=>z3k (z0f (z0R rfl rfl (zkA O _))) fun _=>z6T (z0f (z0R rfl rfl (zk0 O _ _))) fun _=>z0f (z0R rfl rfl rfl)
   show (_/\z0n _ _ [A,B,C,W,G,y,z] O=_) \/ (_/\∃ σ',_/\z0n _ _ [A,B,C,W,G,y,z] O=_)
   unfold ltg
   cases hq:(o != t && ((z5o ps t).filter fun q=>!(z5o ps o).contains q).isEmpty) with
   | false=>
    rw [hq] at t1
    exact .inr ⟨rfl,_,⟨_,_,_,rfl⟩,z0y a1 ((z0K t1).trans rfl)⟩
   | true=>
    rw [hq] at t1
    rw [Bool.true_and]
    cases hr:lct ps t o with
    | true=>
     rw [hr] at t2
     exact .inl ⟨rfl,z0y a1 ((z0K t1).trans (z0y a2 ((z0K t2).trans rfl)))⟩
    | false=>
     rw [hr] at t2
     exact .inr ⟨rfl,_,⟨_,_,_,rfl⟩,z0y a1 ((z0K t1).trans (z0y a2 ((z0K t2).trans rfl)))⟩)
  rw [Bool.false_or]
  rcases hf with ⟨h1,h2⟩|⟨h1,σ',_,h2⟩
  ·rw [h1];exact z15 (z0y e1 (z9c t0 (z32 h2)))
  ·rw [h1];exact z15 (z0y e1 (z9c t0 (z39 h2 rfl)))
theorem z99 (O:Ow) (k:Nat):∀ (f:Nat) (d:D),pl f d=true->frz O k f d=some d
 | 0,d,h=>by
  cases d with
  | non=>rfl
  | int i=>rfl
  | str cs=>rfl
  | _=>cases h
 | f + 1,d,h=>by
  cases d with
  | non=>rfl
  | int i=>rfl
  | str cs=>rfl
  | lst ds=>
   have h:ds.all (pl f)=true:=h
   show (z0W (frz O k f) ds).map D.lst=_
   rw [z27 fun x hx=>z99 O k f x (List.all_eq_true.mp h x hx)];rfl
  | tup ds=>
   have h:ds.all (pl f)=true:=h
   show (z0W (frz O k f) ds).map D.tup=_
   rw [z27 fun x hx=>z99 O k f x (List.all_eq_true.mp h x hx)];rfl
  | _=>cases h
theorem z3x {O:Ow} {x:List D}:(O ++ [x])[O.length]?=some x:=by simp
theorem z9O {O:Ow} {x y:List D}:(O ++ [x]).set O.length y=O ++ [y]:=by
 rw [List.set_append_right _ _ (Nat.le_refl _),Nat.sub_self];rfl
theorem zdx {σ:Sg} {O O1:Ow} {i k:Nat} {t:DE} {y:D} {ds:List D} (hi:σ[i]?=some (some (.own k))) (ht:t σ O=.ok y O1) (hk:O1[k]?=some ds) (hl:ds.length < 100000):
  z20 (zal (z02 i) (z01 t z03)) σ O=.nx σ (O1.set k (ds ++ [y])):=by
 refine z6y (x:=.non) ?_
 unfold zal z02
 rw [hi]
 show ((z01 t z03 σ O).bnd _)=_
 rw [z0d ht]
 show (match [y],O1[k]? with|[y],some ds=>if ds.length < 100000 then R.ok D.non (O1.set k (ds ++ [y])) else R.bad|_,_=>R.bad)=_
 rw [hk]
 dsimp only
 rw [if_pos hl]
def z2v (ts:List (List Nat)) (acc:List (List Nat)) (p:Nat):List (List Nat):=if (z5j ts p && !acc.contains ((hol ts p).headD []))=true then acc ++ [(hol ts p).headD []] else acc
def frs (ts:List (List Nat)) (ps:List Nat):List (List Nat):=ps.foldl (z2v ts) []
structure zja (ts:List (List Nat)) (ps:List Nat) (l:List (List Nat)):Prop where
 nd:l.Nodup
 mem:∀ t,t ∈ l ↔ t ∈ z6V ps ts
theorem zex (ts:List (List Nat)):∀ (ps pre:List Nat) (acc:List (List Nat)),zja ts pre acc->zja ts (pre ++ ps) (ps.foldl (z2v ts) acc)
 | [],pre,acc,h=>by rw [List.append_nil];exact h
 | p :: ps,pre,acc,h=>by
  rw [List.foldl_cons,show pre ++ p :: ps=(pre ++ [p]) ++ ps by simp]
  refine zex ts ps (pre ++ [p]) _ ?_
  have ea:z6V (pre ++ [p]) ts=z6V pre ts ++ (if z5j ts p=true then [(hol ts p).headD []] else []):=by
   unfold z6V
   rw [List.filter_append,List.map_append,List.filter_cons,List.filter_nil]
   split <;> rfl
  unfold z2v
  cases h1:z5j ts p with
  | false=>rw [h1] at ea;simp at ea ⊢;exact ⟨h.nd,fun t=>by rw [ea];exact h.mem t⟩
  | true=>
   rw [h1] at ea
   rw [if_pos rfl] at ea
   cases h2:acc.contains ((hol ts p).headD []) with
   | true=>
    have hm:(hol ts p).headD [] ∈ acc:=List.contains_iff_mem.mp h2
    simp only [Bool.not_true,Bool.and_false,Bool.false_eq_true,if_false]
    refine ⟨h.nd,fun t=>?_⟩
    rw [ea,List.mem_append,List.mem_singleton,<- h.mem]
    exact ⟨.inl,fun z=>z.elim id fun e=>e ▸ hm⟩
   | false=>
    have hm:(hol ts p).headD [] ∉ acc:=fun z=>by rw [List.contains_iff_mem.mpr z] at h2;cases h2
    simp only [Bool.not_false,Bool.and_true,if_true]
    refine ⟨?_,fun t=>?_⟩
    ·rw [List.nodup_append]
     refine ⟨h.nd,by simp,fun a ha b hb e=>?_⟩
     rw [List.mem_singleton] at hb
     subst hb;subst e
     exact hm ha
    ·rw [ea,List.mem_append,List.mem_append,h.mem]
theorem zaD (ts:List (List Nat)) (ps:List Nat):zja ts ps (frs ts ps):=by
 have:=zex ts ps [] [] ⟨List.nodup_nil,fun t=>by simp [z6V]⟩
 rw [List.nil_append] at this
 exact this
theorem zeg {ts:List (List Nat)} (h:Tm ts) (ps:List Nat):∀ t ∈ frs ts ps,t ∈ ts:=fun t ht=>by
 have:=((zaD ts ps).mem t).mp ht
 obtain ⟨p,hp,rfl⟩:=List.mem_map.mp this
 exact (List.mem_filter.mp (z3h h (List.mem_filter.mp hp).2)).1
theorem z3A (ts:List (List Nat)):∀ (ps:List Nat) (acc:List (List Nat)),(ps.foldl (z2v ts) acc).length <= acc.length + ps.length
 | [],acc=>by simp
 | p :: ps,acc=>by
  rw [List.foldl_cons]
  have h1:=z3A ts ps (z2v ts acc p)
  have h2:(z2v ts acc p).length <= acc.length + 1:=by unfold z2v;split <;> simp
  simp only [List.length_cons];omega
theorem zeX {ts:List (List Nat)} (h:Tm ts) {acc:List (List Nat)} (ha:Tm acc) (p:Nat):Tm (z2v ts acc p):=by
 unfold z2v
 split
 ·rename_i hc
  rw [Bool.and_eq_true] at hc
  intro t ht
  rcases List.mem_append.mp ht with ht|ht
  ·exact ha t ht
  ·rw [List.mem_singleton] at ht;subst ht
   exact z4a h p _ (z3h h hc.1)
 ·exact ha
theorem zej {ts:List (List Nat)} (h:Tm ts):∀ (ps:List Nat) (acc:List (List Nat)),Tm acc->Tm (ps.foldl (z2v ts) acc)
 | [],_,ha=>ha
 | p :: ps,acc,ha=>zej h ps _ (zeX h ha p)
theorem z4K {l:List (List Nat)} (h:Tm l) (hl:l.length <= 81) (p:Nat) {O:Ow} (hO:z4p O) {k:Nat} (hk:O[k]?=some (l.map D.str)):z0h [.own k,.int (p:Int)] O=.ok (.lst ((hol l p).map .str)) O:=by
 have hc:=z3E (o:=false) (ext:=1) (g:=.one 2) (it0:=dIt (z02 0)) (σ:=[some (.own k),some (.int (p:Int))]) (O0:=O) (O:=O) (src:=.own k) (l:=l) (inj:=D.str) (ts:=[z0k (dOp fIn (z02 1) (dFn 1 z0c (z01 (z02 2) z03)))]) (te:=z02 2) (p:=fun cs=>(pts cs).contains p) (e:=D.str) (τ:=fun cs=>[some (.own k),some (.int (p:Int)),some (.str cs)]) rfl (fun i=>by
   show (match O[k]? with|some ds=>ds[i]?|none=>none)=_
   rw [hk]) (by
   show (match O[k]? with|some ds=>ds.length|none=>0)=_
   rw [hk];simp) (by omega) (fun _ _=>rfl) (fun cs hcs=>z4v (z0f (z0R rfl (z0X (z0d rfl) (z12 (h cs hcs) hO)) (z3O O p _)))) (fun _ _ _=>rfl)
 exact z7I (hc.trans rfl)
def lt1 (ps:List Nat) (ts:List (List Nat)):List (List Nat):=ts.filter fun t=>!(frs ts ps).contains t
def lp1 (ps:List Nat) (ts:List (List Nat)):List Nat:=ps.filter fun p=>(hol (frs ts ps) p).isEmpty
def lp2 (ps:List Nat) (ts:List (List Nat)):List Nat:=(lp1 ps ts).filter fun p=>!((lp1 ps ts).any (lpg (lt1 ps ts) p))
def lt2 (ps:List Nat) (ts:List (List Nat)):List (List Nat):=(lt1 ps ts).filter fun t=>!((z5o (lp2 ps ts) t).isEmpty || (lt1 ps ts).any (ltg (lp2 ps ts) t))
theorem z7j {tk:List (List Nat)} {ps:List Nat} {ts:List (List Nat)} (hp16:ps.length <= 16) (h:Tm ts) (hl:ts.length <= 81) (hnd:(tk ++ frs ts ps).Nodup) (hlen:(tk ++ frs ts ps).length < 64) (htk:Tm tk) {O:Ow} (hO:z4p O):
  z1A [.lst (tk.map .str),.lst (z07 ps),.lst (ts.map .str)] O=.ok (.tup [.lst ((z26 (tk ++ frs ts ps)).map .str),.lst (z07 (lp2 ps ts)),.lst ((lt2 ps ts).map .str)]) O:=by
 let A:Option D:=some (.lst (tk.map .str))
 let B:Option D:=some (.lst (z07 ps))
 let C:Option D:=some (.lst (ts.map .str))
 let K:Option D:=some (.own O.length)
 have e0:z0A 3 (z2R z03) [A,B,C,none,none,none] O=.nx [A,B,C,K,none,none] (O ++ [[]]):=rfl
 obtain ⟨σ',O',l1,y4,y5,rfl,rfl⟩:=zc6 (i:=4) (l:=ps) (inj:=fun (p:Nat)=>D.int (p:Int)) (it:=dIt (z02 1)) (σ:=[A,B,C,K,none,none]) (O0:=O ++ [[]]) (O:=O ++ [[]]) (body:=z0n (z0A 5 (dFn 2 z0h (z01 (z02 2) (z01 (z02 4) z03)))) (sIf (z1P (z0k (dOp (fPy eqF) (z06 z1r (z01 (z02 5) z03)) (dC (.int 1)))) (z0k (dOp z3W (dOp fIx (z02 5) (dC (.int 0))) (z02 3)))) (z20 (zal (z02 3) (z01 (dOp fIx (z02 5) (dC (.int 0))) z03))) z1z)) rfl
  (fun k σ O'=>∃ y4 y5,σ=[A,B,C,K,y4,y5]/\O'=O ++ [((ps.take k).foldl (z2v ts) []).map D.str]) (fun k p σ O' hk hI=>by
   obtain ⟨y4,y5,rfl,rfl⟩:=hI
   generalize hacc:(ps.take k).foldl (z2v ts) []=acc
   have hT:Tm acc:=by rw [<- hacc];exact zej h _ _ (fun _ z=>by cases z)
   have hln:acc.length <= 16:=by
    rw [<- hacc]
    have:=z3A ts (ps.take k) []
    have h3:(ps.take k).length <= ps.length:=by rw [List.length_take];omega
    simp only [List.length_nil] at this;omega
   have fl:=z4u hO (z3J (m:=O.length + 1) acc)
   let V:Option D:=some (.lst ((hol ts p).map .str))
   have a1:dFn 2 z0h (z01 (z02 2) (z01 (z02 4) z03)) [A,B,C,K,some (.int (p:Int)),y5] (O ++ [acc.map D.str])=.ok (.lst ((hol ts p).map .str)) (O ++ [acc.map D.str]):=z0X (z0m rfl rfl) (z29 h hl p fl)
   have x0:z5j ts p=true->dOp fIx (z02 5) (dC (.int 0)) [A,B,C,K,some (.int (p:Int)),V] (O ++ [acc.map D.str])=.ok (.str ((hol ts p).headD [])) (O ++ [acc.map D.str]):=fun h1=>z0R rfl rfl (zir h1 _)
   have t1:z1P (z0k (dOp (fPy eqF) (z06 z1r (z01 (z02 5) z03)) (dC (.int 1)))) (z0k (dOp z3W (dOp fIx (z02 5) (dC (.int 0))) (z02 3))) [A,B,C,K,some (.int (p:Int)),V] (O ++ [acc.map D.str])=.ok (z5j ts p && !acc.contains ((hol ts p).headD [])) (O ++ [acc.map D.str]):=
    z3k (z0f (z0R (z1U (z0d rfl) rfl) rfl ((zjZ _ _).trans (by rw [List.length_map];rfl)))) fun h1=>z0f (z0R (x0 h1) rfl (ziR _ (z4a h p _ (z3h h h1)) hT z3x).2)
   have es:(ps.take (k + 1)).foldl (z2v ts) []=z2v ts acc p:=by rw [z5W hk,List.foldl_append,hacc];rfl
   rw [es]
   cases hc:(z5j ts p && !acc.contains ((hol ts p).headD [])) with
   | true=>
    rw [hc] at t1
    have h1:z5j ts p=true:=(Bool.and_eq_true _ _ ▸ hc).1
    refine ⟨_,_,z0y a1 ((z0K t1).trans (zdx rfl (x0 h1) z3x (by rw [List.length_map];omega))),_,_,rfl,?_⟩
    rw [z9O]
    unfold z2v
    rw [if_pos hc,List.map_append];rfl
   | false=>
    rw [hc] at t1
    refine ⟨_,_,z0y a1 ((z0K t1).trans rfl),_,_,rfl,?_⟩
    unfold z2v
    rw [if_neg (by rw [hc];exact Bool.false_ne_true)]) ⟨none,none,rfl,rfl⟩
 rw [List.take_length] at l1
 have l1':z63 _ _ _ _ _=.nx _ (O ++ [(frs ts ps).map D.str]):=l1
 have frT:Tm (frs ts ps):=fun t ht=>h t (zeg h ps t ht)
 have frl:(frs ts ps).length <= 81:=by have:=z3A ts ps [];simp only [List.length_nil] at this;show (ps.foldl (z2v ts) []).length <= 81;omega
 have fl:=z4u hO (z3J (m:=O.length + 1) (frs ts ps))
 generalize hO1:O ++ [(frs ts ps).map D.str]=O1 at *
 have hk1:O1[O.length]?=some ((frs ts ps).map D.str):=by rw [<- hO1];exact z3x
 have c1:=z2o (o:=false) (ext:=1) (i:=6) (it0:=dIt (z02 2)) (σ:=[A,B,C,K,y4,y5]) (O0:=O1) (O:=O1) (l:=ts) (inj:=D.str) (t:=z0k (dOp z3W (z02 6) (z02 3))) (te:=z02 6) (p:=fun t=>!(frs ts ps).contains t) (e:=D.str) (τ:=fun t=>[A,B,C,K,y4,y5,some (.str t)]) rfl (by omega) (fun _=>rfl) (fun t ht=>z0f (z0R rfl rfl (ziR O1 (h t ht) frT (y:=.own O.length) hk1).2)) (fun _ _ _=>rfl)
 let C1:Option D:=some (.lst ((lt1 ps ts).map .str))
 have lT:Tm (lt1 ps ts):=fun t ht=>h t (List.mem_filter.mp ht).1
 have ll:(lt1 ps ts).length <= 81:=z0v hl
 have c2:=z2o (o:=false) (ext:=0) (i:=4) (it0:=dIt (z02 1)) (σ:=[A,B,C1,K,y4,y5]) (O0:=O1) (O:=O1) (l:=ps) (inj:=fun (p:Nat)=>D.int (p:Int)) (t:=z0k (dOp (fPy eqF) (dFn 2 z0h (z01 (z02 3) (z01 (z02 4) z03))) (z1q z03))) (te:=z02 4) (p:=fun p=>(hol (frs ts ps) p).isEmpty) (e:=fun (p:Nat)=>D.int (p:Int)) (τ:=fun (p:Nat)=>[A,B,C1,K,some (.int (p:Int)),y5]) rfl (by omega) (fun _=>rfl) (fun p _=>z0f (z0R (z0X (z0m rfl rfl) (z4K frT frl p fl hk1)) rfl (z90 O1 _ (z4a frT p)))) (fun _ _ _=>rfl)
 let B1:Option D:=some (.lst (z07 (lp1 ps ts)))
 have c3:=z2o (o:=false) (ext:=0) (i:=4) (it0:=dIt (z02 1)) (σ:=[A,B1,C1,K,y4,y5]) (O0:=O1) (O:=O1) (l:=lp1 ps ts) (inj:=fun (p:Nat)=>D.int (p:Int)) (t:=z1B (z1g (dFn 3 z0N (z01 (z02 1) (z01 (z02 2) (z01 (z02 4) z03)))))) (te:=z02 4) (p:=fun p=>!((lp1 ps ts).any (lpg (lt1 ps ts) p))) (e:=fun (p:Nat)=>D.int (p:Int)) (τ:=fun (p:Nat)=>[A,B1,C1,K,some (.int (p:Int)),y5]) rfl (by have:(lp1 ps ts).length <= 16:=z0v hp16;omega) (fun _=>rfl) (fun p _=>z1Q (z1c (z0X (z1v rfl (z0m rfl rfl)) (z6f lT ll p fl)))) (fun _ _ _=>rfl)
 let B2:Option D:=some (.lst (z07 (lp2 ps ts)))
 have hl2:(lp2 ps ts).length <= 16:=z0v (z0v hp16)
 have c4:=z2o (o:=false) (ext:=1) (i:=6) (it0:=dIt (z02 2)) (σ:=[A,B2,C1,K,y4,y5]) (O0:=O1) (O:=O1) (l:=lt1 ps ts) (inj:=D.str) (t:=z1B (z1g (dFn 3 z0T (z01 (z02 1) (z01 (z02 2) (z01 (z02 6) z03)))))) (te:=z02 6) (p:=fun t=>!((z5o (lp2 ps ts) t).isEmpty || (lt1 ps ts).any (ltg (lp2 ps ts) t))) (e:=D.str) (τ:=fun t=>[A,B2,C1,K,y4,y5,some (.str t)]) rfl (by omega) (fun _=>rfl) (fun t ht=>z1Q (z1c (z0X (z1v rfl (z0m rfl rfl)) (z7x hl2 lT (lT t ht) fl)))) (fun _ _ _=>rfl)
 let C2:Option D:=some (.lst ((lt2 ps ts).map .str))
 have a5:z06 z5t (z01 (dOp z2G (z02 0) (z02 3)) z03) [A,B2,C2,K,y4,y5] O1=.ok (.lst ((z26 (tk ++ frs ts ps)).map .str)) O1:=by
  have hadd:dOp z2G (z02 0) (z02 3) [A,B2,C2,K,y4,y5] O1=.ok (.lst ((tk ++ frs ts ps).map .str)) O1:=by
   refine z0R (x:=.lst (tk.map .str)) (y:=.own O.length) rfl rfl ?_
   show (match lsV O1 (.lst (tk.map .str)),lsV O1 (.own O.length) with|some xs,some ys=>if xs.length + ys.length <= 100000 then R.ok (D.lst (xs ++ ys)) O1 else R.bad|_,_=>R.bad)=_
   rw [show lsV O1 (.own O.length)=some ((frs ts ps).map D.str) from hk1]
   show (if (tk.map D.str).length + ((frs ts ps).map D.str).length <= 100000 then R.ok (D.lst (tk.map D.str ++ (frs ts ps).map D.str)) O1 else R.bad)=_
   rw [if_pos (by rw [List.length_append] at hlen;simp only [List.length_map];omega),List.map_append]
  refine z1U (z0d hadd) ?_
  show (match z9y ((tk ++ frs ts ps).map D.str) with|some ss=>if ss.Nodup/\ss.length < 64 then R.ok (D.lst ((z26 ss).map .str)) O1 else R.bad|none=>R.bad)=_
  rw [DL.strL_map]
  exact if_pos ⟨hnd,hlen⟩
 show z8x O.length (fin (z2L [A,B,C,none,none,none] O))=_
 have main:fin (z2L [A,B,C,none,none,none] O)=.ok (.tup [.lst ((z26 (tk ++ frs ts ps)).map .str),.lst (z07 (lp2 ps ts)),.lst ((lt2 ps ts).map .str)]) O1:=by
  refine z15 (z39 e0 (z39 l1' (z0y (c1.trans rfl) (z0y (c2.trans rfl) (z0y (c3.trans rfl) (z0y (c4.trans rfl) (z0t ?_)))))))
  have e3:=z1v a5 (z0m (t:=z02 1) (x:=.lst (z07 (lp2 ps ts))) (u:=z02 2) (y:=.lst ((lt2 ps ts).map .str)) rfl rfl)
  show ((z01 (z06 z5t (z01 (dOp z2G (z02 0) (z02 3)) z03)) (z01 (z02 1) (z01 (z02 2) z03)) [A,B2,C2,K,y4,y5] O1).bnd _)=_
  rw [e3];rfl
 rw [main,<- hO1]
 refine z4s hO [(frs ts ps).map D.str] (z99 _ _ 8 _ ?_)
 have sT:Tm (z26 (tk ++ frs ts ps)):=fun t ht=>by
  rcases List.mem_append.mp ((z1p _).mp ht) with z|z
  ·exact htk t z
  ·exact frT t z
 have lT2:Tm (lt2 ps ts):=fun t ht=>lT t (List.mem_filter.mp ht).1
 have q1:=zaq sT 6
 have q2:=z2p 6 (lp2 ps ts)
 have q3:=zaq lT2 6
 show [D.lst _,D.lst _,D.lst _].all (pl 7)=true
 simp only [List.all_cons,List.all_nil,Bool.and_true,Bool.and_eq_true]
 exact ⟨q1,q2,q3⟩
theorem z3S {α:Type} [LT α] (irr:∀ a:α,¬ a < a) (tr:∀ a b c:α,a < b->b < c->a < c):∀ {l m:List α},l.Pairwise (· < ·)->m.Pairwise (· < ·)->(∀ x,x ∈ l ↔ x ∈ m)->l=m
 | [],[],_,_,_=>rfl
 | [],b :: m,_,_,h=>by have:=(h b).mpr List.mem_cons_self;cases this
 | a :: l,[],_,_,h=>by have:=(h a).mp List.mem_cons_self;cases this
 | a :: l,b :: m,hl,hm,h=>by
  rw [List.pairwise_cons] at hl hm
  have e:a=b:=by
   rcases List.mem_cons.mp ((h a).mp List.mem_cons_self) with z|z
   ·exact z
   ·rcases List.mem_cons.mp ((h b).mpr List.mem_cons_self) with w|w
    ·exact w.symm
    ·exact absurd (tr _ _ _ (hm.1 a z) (hl.1 b w)) (irr _)
  subst e
  congr 1
  refine z3S irr tr hl.2 hm.2 fun x=>?_
  constructor
  ·intro hx
   rcases List.mem_cons.mp ((h x).mp (List.mem_cons_of_mem _ hx)) with z|z
   ·subst z;exact absurd (hl.1 x hx) (irr x)
   ·exact z
  ·intro hx
   rcases List.mem_cons.mp ((h x).mpr (List.mem_cons_of_mem _ hx)) with z|z
   ·subst z;exact absurd (hm.1 x hx) (irr x)
   ·exact z
theorem zdI {l m:List (List Nat)} (h:∀ x,x ∈ l ↔ x ∈ m):z26 l=z26 m:=
 z3S (fun a=>List.lt_irrefl a) (fun a b c=>List.lt_trans) (z3F l) (z3F m) fun x=>by rw [z1p,z1p];exact h x
theorem z8N:(allT.all fun cs=>decide ((pts cs).Pairwise (· < ·)))=true:=by decide +kernel
theorem zf9 {cs:List Nat} (h:cs ∈ allT):(pts cs).Pairwise (· < ·):=of_decide_eq_true (List.all_eq_true.mp z8N cs h)
theorem z65 {ps:List Nat} (hp:ps.Pairwise (· < ·)) {t:List Nat} (h:t ∈ allT):z5o ps t=held ps t:=
 z3S (fun a=>Nat.lt_irrefl a) (fun a b c=>Nat.lt_trans) (hp.filter _) ((zf9 h).filter _) fun x=>by
  unfold z5o held
  rw [List.mem_filter,List.mem_filter,List.contains_iff_mem,List.contains_iff_mem]
  exact and_comm
theorem mem_hol {ts:List (List Nat)} {p:Nat} {t:List Nat}:t ∈ hol ts p ↔ t ∈ ts/\p ∈ pts t:=by
 unfold hol
 rw [List.mem_filter,List.contains_iff_mem]
theorem hol_none {ts:List (List Nat)} {p:Nat}:(hol ts p).isEmpty=true ↔ ∀ t ∈ ts,p ∉ pts t:=by
 rw [List.isEmpty_iff,List.eq_nil_iff_forall_not_mem]
 exact ⟨fun h t ht hp=>h t (mem_hol.mpr ⟨ht,hp⟩),fun h t ht=>h t (mem_hol.mp ht).1 (mem_hol.mp ht).2⟩
theorem z4B (ts:List (List Nat)) (ps:List Nat) (t:List Nat):t ∈ frs ts ps ↔ t ∈ tak ps ts:=by
 rw [(zaD ts ps).mem]
 exact (z1p _).symm
theorem zhD (ps:List Nat) (ts:List (List Nat)):lp1 ps ts=opn ps ts:=by
 unfold lp1 opn
 refine List.filter_congr fun p _=>?_
 rw [Bool.eq_iff_iff,hol_none,hol_none]
 exact ⟨fun h t ht=>h t ((z4B ts ps t).mpr ht),fun h t ht=>h t ((z4B ts ps t).mp ht)⟩
theorem zaz {ps:List Nat} {ts:List (List Nat)} {p:Nat} (hp:p ∈ opn ps ts):hol (lt1 ps ts) p=hol ts p:=by
 have hn:=hol_none.mp (List.mem_filter.mp hp).2
 unfold hol lt1
 rw [List.filter_filter]
 refine List.filter_congr fun t _=>?_
 cases hc:(pts t).contains p with
 | false=>rfl
 | true=>
  have hm:p ∈ pts t:=List.contains_iff_mem.mp hc
  have:t ∉ frs ts ps:=fun z=>hn t ((z4B ts ps t).mp z) hm
  have:(frs ts ps).contains t=false:=by
   cases q:(frs ts ps).contains t with
   | false=>rfl
   | true=>exact absurd (List.contains_iff_mem.mp q) this
  rw [this];rfl
theorem z9B {α:Type} [BEq α] [LawfulBEq α] (a b:List α):(a.filter fun t=>!b.contains t).isEmpty=a.all fun t=>b.contains t:=by
 rw [Bool.eq_iff_iff,List.isEmpty_iff,List.filter_eq_nil_iff,List.all_eq_true]
 simp
theorem zgP {ps:List Nat} {ts:List (List Nat)} {o p:Nat} (ho:o ∈ opn ps ts) (hp:p ∈ opn ps ts):lpg (lt1 ps ts) p o=pgo ts o p:=by
 unfold lpg pgo
 rw [zaz ho,zaz hp,z9B]
 by_cases e:o=p
 ·subst e
  simp
 ·have:(o != p)=true:=by simpa using e
  rw [this,Bool.true_and]
theorem z52 {α:Type} {l:List α} {p q:α->Bool} (h:∀ x ∈ l,p x=q x):l.any p=l.any q:=by
 induction l with
 | nil=>rfl
 | cons a l ih=>rw [List.any_cons,List.any_cons,h a List.mem_cons_self,ih fun x hx=>h x (List.mem_cons_of_mem _ hx)]
theorem zeF (ps:List Nat) (ts:List (List Nat)):lp2 ps ts=pl2 ps ts:=by
 unfold lp2 pl2 kpt
 rw [zhD]
 refine List.filter_congr fun p hp=>?_
 rw [z52 fun o ho=>zgP ho hp]
theorem zcx {ps:List Nat} {ts:List (List Nat)} {p:Nat} (h:p ∈ pl2 ps ts):p ∈ opn ps ts:=(List.mem_filter.mp h).1
theorem z9G {ps:List Nat} {ts:List (List Nat)} {t:List Nat} (ht:t ∈ tak ps ts):held (pl2 ps ts) t=[]:=by
 unfold held
 rw [List.filter_eq_nil_iff]
 intro q hq hc
 have hq2:=zcx (List.contains_iff_mem.mp hc)
 exact hol_none.mp (List.mem_filter.mp hq2).2 t ht hq
theorem zf6 {ps:List Nat} (hp:ps.Pairwise (· < ·)) {o t:List Nat} (ho:o ∈ allT) (ht:t ∈ allT):ltg ps t o=tgo ps o t:=by
 unfold ltg tgo lct
 rw [z65 hp ho,z65 hp ht,z9B]
 generalize ha:((held ps t).all fun q=>(held ps o).contains q)=a
 rcases Nat.lt_trichotomy (sg o) (sg t) with h|h|h
 ·have e1:decide ((sg o:Int) - (sg t:Int) < 0)=true:=decide_eq_true (by omega)
  have e2:decide (sg t < sg o)=false:=decide_eq_false (by omega)
  have e3:decide (sg o < sg t)=true:=decide_eq_true h
  have e4:(o != t)=true:=by
   rw [bne_iff_ne];intro e;rw [e] at h;omega
  rw [e1,e2,e3,e4]
  cases a <;> simp
 ·have e1:decide ((sg o:Int) - (sg t:Int) < 0)=false:=decide_eq_false (by omega)
  have e2:decide (sg t < sg o)=false:=decide_eq_false (by omega)
  have e3:decide (sg o < sg t)=false:=decide_eq_false (by omega)
  have e5:decide ((sg o:Int) - (sg t:Int)=0)=true:=decide_eq_true (by omega)
  rw [e1,e2,e3,e5]
  by_cases e:o=t
  ·subst e
   have:¬ o < o:=List.lt_irrefl o
   simp [this]
  ·have:(o != t)=true:=by rw [bne_iff_ne];exact e
   rw [this]
   cases a <;> simp
 ·have e1:decide ((sg o:Int) - (sg t:Int) < 0)=false:=decide_eq_false (by omega)
  have e2:decide (sg t < sg o)=true:=decide_eq_true h
  have e5:decide ((sg o:Int) - (sg t:Int)=0)=false:=decide_eq_false (by omega)
  rw [e1,e2,e5]
  simp
theorem zeU (ps:List Nat) (ts:List (List Nat)):usf (pl2 ps ts) ts=(lt1 ps ts).filter fun t=>!(held (pl2 ps ts) t).isEmpty:=by
 unfold usf lt1
 rw [List.filter_filter]
 refine List.filter_congr fun t _=>?_
 cases q:(frs ts ps).contains t with
 | false=>simp
 | true=>
  rw [z9G ((z4B ts ps t).mp (List.contains_iff_mem.mp q))];rfl
theorem zi5 {ps:List Nat} {ts:List (List Nat)} (hp:ps.Pairwise (· < ·)) (h:Tm ts):lt2 ps ts=tl2 ps ts:=by
 have hP:(pl2 ps ts).Pairwise (· < ·):=(hp.filter _).filter _
 have lT:Tm (lt1 ps ts):=fun t ht=>h t (List.mem_filter.mp ht).1
 unfold lt2 tl2 ktm
 rw [zeF,zeU,List.filter_filter]
 refine List.filter_congr fun t ht=>?_
 have e:((lt1 ps ts).any (ltg (pl2 ps ts) t))=(lt1 ps ts).any fun o=>tgo (pl2 ps ts) o t:=z52 fun o ho=>zf6 hP (lT o ho) (lT t ht)
 rw [z65 hP (lT t ht),Bool.not_or,e]
 show _=(!(((lt1 ps ts).filter fun t=>!(held (pl2 ps ts) t).isEmpty).any fun o=>tgo (pl2 ps ts) o t) && !(held (pl2 ps ts) t).isEmpty)
 cases hh:held (pl2 ps ts) t with
 | nil=>simp
 | cons q r=>
  have:(((lt1 ps ts).filter fun t=>!(held (pl2 ps ts) t).isEmpty).any fun o=>tgo (pl2 ps ts) o t)=(lt1 ps ts).any fun o=>tgo (pl2 ps ts) o t:=by
   rw [List.any_filter]
   refine z52 fun o _=>?_
   cases ho:held (pl2 ps ts) o with
   | cons _ _=>rfl
   | nil=>
    unfold tgo
    rw [hh,ho]
    simp
  rw [this,Bool.and_comm]
structure Ok (T:List (List Nat)) (ps:List Nat) (ts:List (List Nat)):Prop where
 ps1:ps.Pairwise (· < ·)
 ts1:ts.Nodup
 tT:Tm ts
 tl:ts.length <= 81
 TT:Tm T
 nd:T.Nodup
 dj:∀ t ∈ T,t ∉ ts
 ln:T.length + ps.length <= 16
theorem Ok.pn {T:List (List Nat)} {ps:List Nat} {ts:List (List Nat)} (h:Ok T ps ts):ps.Nodup:=h.ps1.imp fun z=>Nat.ne_of_lt z
theorem Ok.p16 {T:List (List Nat)} {ps:List Nat} {ts:List (List Nat)} (h:Ok T ps ts):ps.length <= 16:=by have:=h.ln;omega
theorem z80 {ps:List Nat} {ts:List (List Nat)} (h:Tm ts) {p:Nat} (hp:p ∈ ps) (h1:z5j ts p=true):¬ (hol (tak ps ts) p).isEmpty=true:=fun z=>by
 have hm:=z3h h h1
 have:(hol ts p).headD [] ∈ tak ps ts:=(z1p _).mpr (List.mem_map.mpr ⟨p,List.mem_filter.mpr ⟨hp,h1⟩,rfl⟩)
 exact hol_none.mp z _ this (mem_hol.mp hm).2
theorem z36 {α:Type} {a b:α->Bool}:∀ {l:List α},(∀ x ∈ l,a x=true->b x=true->False)->(l.filter a).length + (l.filter b).length <= l.length
 | [],_=>by simp
 | x :: l,h=>by
  have ih:=z36 (l:=l) (a:=a) (b:=b) fun y hy=>h y (List.mem_cons_of_mem _ hy)
  have hx:=h x List.mem_cons_self
  rw [List.filter_cons,List.filter_cons]
  by_cases h1:a x=true
  ·have h2:¬ b x=true:=fun z=>hx h1 z
   rw [if_pos h1,if_neg h2]
   simp only [List.length_cons];omega
  ·rw [if_neg h1]
   split
   ·simp only [List.length_cons];omega
   ·simp only [List.length_cons];omega
theorem zcn (ps:List Nat) (ts:List (List Nat)):(pl2 ps ts).length <= (opn ps ts).length:=List.length_filter_le _ _
theorem zeu {ps:List Nat} {ts:List (List Nat)} {t:List Nat} (h:t ∈ tl2 ps ts):t ∈ ts/\¬ (held (pl2 ps ts) t).isEmpty=true:=by
 have h1:=List.mem_filter.mp (List.mem_filter.mp h).1
 exact ⟨h1.1,by simpa using h1.2⟩
theorem zbi (l:List (List Nat)):(z26 l).Nodup:=List.Pairwise.imp (fun {a b} z (e:a=b)=>List.lt_irrefl a (by rw [<- e] at z;exact z)) (z3F l)
theorem Ok.step {T:List (List Nat)} {ps:List Nat} {ts:List (List Nat)} (h:Ok T ps ts):Ok (T ++ tak ps ts) (pl2 ps ts) (tl2 ps ts) where
 ps1:=(h.ps1.filter _).filter _
 ts1:=(h.ts1.filter _).filter _
 tT:=fun t ht=>h.tT t (zeu ht).1
 tl:=z0v (z0v h.tl)
 TT:=fun t ht=>(List.mem_append.mp ht).elim (h.TT t) fun z=>h.tT t (zaw h.tT t z)
 nd:=by
  rw [List.nodup_append]
  refine ⟨h.nd,zbi _,fun a ha b hb e=>?_⟩
  subst e
  exact h.dj a ha (zaw h.tT a hb)
 dj:=fun t ht z=>by
  have z2:=zeu z
  rcases List.mem_append.mp ht with ht|ht
  ·exact h.dj t ht z2.1
  ·rw [z9G ht] at z2;exact z2.2 rfl
 ln:=by
  have h1:=z8w ps ts
  have h2:=zcn ps ts
  have h3:(ps.filter (z5j ts)).length + (opn ps ts).length <= ps.length:=z36 fun p hp a b=>z80 h.tT hp a b
  have h4:=h.ln
  rw [List.length_append];omega
theorem stay {T:List (List Nat)} {ps:List Nat} {ts:List (List Nat)} (h:Ok T ps ts) (e:pl2 ps ts=ps):tak ps ts=[]:=by
 have h1:=z8w ps ts
 have h2:=zcn ps ts
 have h3:(ps.filter (z5j ts)).length + (opn ps ts).length <= ps.length:=z36 fun p hp a b=>z80 h.tT hp a b
 rw [e] at h2
 exact List.length_eq_zero_iff.mp (by omega)
theorem z62 {α:Type} {l:List α} {p q:α->Bool} (h:l.length <= ((l.filter p).filter q).length):(l.filter p).filter q=l:=by
 rw [List.filter_filter] at h ⊢
 exact List.filter_eq_self.mpr (List.length_filter_eq_length_iff.mp (Nat.le_antisymm (List.length_filter_le _ _) h))
theorem zk7 {ps:List Nat} {ts:List (List Nat)} (h:¬ (pl2 ps ts=ps/\tl2 ps ts=ts)):(pl2 ps ts).length + (tl2 ps ts).length < ps.length + ts.length:=by
 have a1:(pl2 ps ts).length <= ps.length:=Nat.le_trans (List.length_filter_le _ _) (List.length_filter_le _ _)
 have a2:(tl2 ps ts).length <= ts.length:=Nat.le_trans (List.length_filter_le _ _) (List.length_filter_le _ _)
 rcases Nat.lt_or_ge ((pl2 ps ts).length + (tl2 ps ts).length) (ps.length + ts.length) with z|z
 ·exact z
 ·exact absurd ⟨z62 (by show ps.length <= (pl2 ps ts).length;omega),z62 (by show ts.length <= (tl2 ps ts).length;omega)⟩ h
structure St where
 T:List (List Nat)
 ps:List Nat
 ts:List (List Nat)
def z73:Nat->St->St
 | 0,s=>s
 | f + 1,s=>if pl2 s.ps s.ts=s.ps/\tl2 s.ps s.ts=s.ts then s else z73 f ⟨s.T ++ tak s.ps s.ts,pl2 s.ps s.ts,tl2 s.ps s.ts⟩
theorem zbG:∀ (f:Nat) (s:St),Ok s.T s.ps s.ts->Ok (z73 f s).T (z73 f s).ps (z73 f s).ts
 | 0,s,h=>h
 | f + 1,s,h=>by
  unfold z73
  split
  ·exact h
  ·exact zbG f ⟨_,_,_⟩ h.step
theorem zgF {a b:List (List Nat)} (ha:Tm a) (hb:Tm b) (p:List Nat):pl 8 (.tup [.lst (a.map .str),.lst (z07 p),.lst (b.map .str)])=true:=by
 show [D.lst _,D.lst _,D.lst _].all (pl 7)=true
 simp only [List.all_cons,List.all_nil,Bool.and_true,Bool.and_eq_true]
 exact ⟨zaq ha 6,z2p 6 p,zaq hb 6⟩
theorem zcl {b:List (List Nat)} (hb:Tm b) (p:List Nat):pl 8 (.tup [.lst (z07 p),.lst (b.map .str)])=true:=by
 show [D.lst _,D.lst _].all (pl 7)=true
 simp only [List.all_cons,List.all_nil,Bool.and_true,Bool.and_eq_true]
 exact ⟨z2p 6 p,zaq hb 6⟩
def wB:DS:=(z0n (z9Z 5 6 7 (dFn 2 z3P (z01 (z02 2) (z01 (z02 1) z03)))) (z0n (z0A 4 (dOp (fPy neF) (z2T (z01 (z02 6) (z01 (z02 7) z03))) (z2T (z01 (z02 2) (z01 (z02 1) z03))))) (z0n (z20 (zh1 (z02 3) (z01 (z02 5) z03))) (ziY 2 1 (z01 (z02 6) (z01 (z02 7) z03))))))
abbrev sgW (F:Option D) (k:Nat) (s:St) (b:Bool) (y5 y6 y7:Option D):Sg:=[F,some (.lst (s.ts.map .str)),some (.lst (z07 s.ps)),some (.own k),some (.bl b),y5,y6,y7]
theorem zjS {F:Option D} {s:St} (h:Ok s.T s.ps s.ts) (O:Ow) (y5 y6 y7:Option D):∃ z5 z6 z7,wB (sgW F O.length s true y5 y6 y7) (O ++ [s.T.map D.str])=.nx (sgW F O.length ⟨s.T ++ tak s.ps s.ts,pl2 s.ps s.ts,tl2 s.ps s.ts⟩ (!decide (pl2 s.ps s.ts=s.ps/\tl2 s.ps s.ts=s.ts)) z5 z6 z7) (O ++ [(s.T ++ tak s.ps s.ts).map D.str]):=by
 let A:Option D:=some (.lst (s.ts.map .str))
 let B:Option D:=some (.lst (z07 s.ps))
 let K:Option D:=some (.own O.length)
 let Z5:Option D:=some (.lst ((tak s.ps s.ts).map .str))
 let Z6:Option D:=some (.lst (z07 (pl2 s.ps s.ts)))
 let Z7:Option D:=some (.lst ((tl2 s.ps s.ts).map .str))
 refine ⟨Z5,Z6,Z7,?_⟩
 have a1:z9Z 5 6 7 (dFn 2 z3P (z01 (z02 2) (z01 (z02 1) z03))) (sgW F O.length s true y5 y6 y7) (O ++ [s.T.map D.str])=.nx [F,A,B,K,some (.bl true),Z5,Z6,Z7] (O ++ [s.T.map D.str]):=by
  unfold z9Z
  rw [z0X (z0m rfl rfl) (zdA h.pn h.p16 h.ts1 h.tT h.tl (O ++ [s.T.map D.str]))];rfl
 have n1:dOp (fPy neF) (z2T (z01 (z02 6) (z01 (z02 7) z03))) (z2T (z01 (z02 2) (z01 (z02 1) z03))) [F,A,B,K,some (.bl true),Z5,Z6,Z7] (O ++ [s.T.map D.str])=.ok (.bl (!decide (pl2 s.ps s.ts=s.ps/\tl2 s.ps s.ts=s.ts))) (O ++ [s.T.map D.str]):=by
  refine z0R (x:=.tup [.lst (z07 (pl2 s.ps s.ts)),.lst ((tl2 s.ps s.ts).map .str)]) (y:=.tup [.lst (z07 s.ps),.lst (s.ts.map .str)]) rfl rfl (z8Q _ (zcl h.step.tT _) (zcl h.tT _) (b:=decide (pl2 s.ps s.ts=s.ps/\tl2 s.ps s.ts=s.ts)) ?_).2
  rw [decide_eq_true_eq]
  constructor
  ·rintro ⟨e1,e2⟩;rw [e1,e2]
  ·intro e
   have e:=D.tup.inj e
   have e1:=D.lst.inj (List.cons.inj e).1
   have e2:=D.lst.inj (List.cons.inj (List.cons.inj e).2).1
   exact ⟨z4y e1,z8W e2⟩
 have x1:z20 (zh1 (z02 3) (z01 (z02 5) z03)) [F,A,B,K,some (.bl (!decide (pl2 s.ps s.ts=s.ps/\tl2 s.ps s.ts=s.ts))),Z5,Z6,Z7] (O ++ [s.T.map D.str])=.nx [F,A,B,K,some (.bl (!decide (pl2 s.ps s.ts=s.ps/\tl2 s.ps s.ts=s.ts))),Z5,Z6,Z7] (O ++ [(s.T ++ tak s.ps s.ts).map D.str]):=by
  refine (z6y (x:=.non) (O1:=O ++ [(s.T ++ tak s.ps s.ts).map D.str]) ?_)
  show (match [D.lst ((tak s.ps s.ts).map D.str)],(O ++ [s.T.map D.str])[O.length]? with
   | [y],some ds=>(match lsV (O ++ [s.T.map D.str]) y with
    | some es=>if ds.length + es.length <= 100000 then R.ok D.non ((O ++ [s.T.map D.str]).set O.length (ds ++ es)) else R.bad
    | none=>R.bad)
   | _,_=>R.bad)=_
  rw [z3x]
  show (if (s.T.map D.str).length + ((tak s.ps s.ts).map D.str).length <= 100000 then R.ok D.non ((O ++ [s.T.map D.str]).set O.length (s.T.map D.str ++ (tak s.ps s.ts).map D.str)) else R.bad)=_
  have l1:=h.ln
  have l2:=h.step.ln
  rw [List.length_append] at l2
  rw [if_pos (by simp only [List.length_map];omega),z9O,List.map_append]
 unfold wB
 exact z39 a1 (z0y n1 (z39 x1 rfl))
theorem zcq {F:Option D} (O:Ow):∀ (g:Nat) (s:St) (y5 y6 y7:Option D),Ok s.T s.ps s.ts->s.ps.length + s.ts.length < g->∃ z5 z6 z7,z1L (z1g (z02 4)) wB (g + 1) (sgW F O.length s true y5 y6 y7) (O ++ [s.T.map D.str])=.nx (sgW F O.length (z73 g s) false z5 z6 z7) (O ++ [(z73 g s).T.map D.str])
 | 0,s,_,_,_,_,hm=>by omega
 | g + 1,s,y5,y6,y7,h,hm=>by
  obtain ⟨z5,z6,z7,e⟩:=zjS (F:=F) h O y5 y6 y7
  have e0:∀ r,(match wB (sgW F O.length s true y5 y6 y7) (O ++ [s.T.map D.str]) with
   | .nx σ' O'=>z1L (z1g (z02 4)) wB (g + 1) σ' O'
   | .ct σ' O'=>z1L (z1g (z02 4)) wB (g + 1) σ' O'
   | .bk σ' O'=>.nx σ' O'
   | r=>r)=r->z1L (z1g (z02 4)) wB (g + 1 + 1) (sgW F O.length s true y5 y6 y7) (O ++ [s.T.map D.str])=r:=fun r hr=>hr
  by_cases hs:pl2 s.ps s.ts=s.ps/\tl2 s.ps s.ts=s.ts
  ·have ht:=stay h hs.1
   rw [decide_eq_true hs,ht,hs.1,hs.2,List.append_nil] at e
   refine ⟨z5,z6,z7,e0 _ ?_⟩
   rw [e]
   unfold z73
   rw [if_pos hs]
   rfl
  ·rw [decide_eq_false hs] at e
   have hl:=zk7 hs
   obtain ⟨w5,w6,w7,ih⟩:=zcq (F:=F) O g ⟨s.T ++ tak s.ps s.ts,pl2 s.ps s.ts,tl2 s.ps s.ts⟩ z5 z6 z7 h.step (by show (pl2 s.ps s.ts).length + (tl2 s.ps s.ts).length < g;omega)
   refine ⟨w5,w6,w7,e0 _ ?_⟩
   rw [e]
   have:z73 (g + 1) s=z73 g ⟨s.T ++ tak s.ps s.ts,pl2 s.ps s.ts,tl2 s.ps s.ts⟩:=by
    show (if _ then _ else _)=_
    rw [if_neg hs]
   rw [this]
   exact ih
theorem z6t:([1,2,3,4].all fun n=>decide ((terms n).Pairwise (· < ·)))=true:=by decide +kernel
theorem zaZ {n:Nat} (h1:1 <= n) (h4:n <= 4):(terms n).Pairwise (· < ·):=by
 have:n ∈ [1,2,3,4]:=by simp;omega
 exact of_decide_eq_true (List.all_eq_true.mp z6t n this)
theorem z5Q {n:Nat} {f:List D} (hf:Fn n f):(z1M n f).Pairwise (· < ·):=((zaZ hf.n1 hf.n4).filter _).filter _
theorem zjT {l:List (List Nat)} (h:l.Pairwise (· < ·)):l.Nodup:=List.Pairwise.imp (fun {a b} z (e:a=b)=>List.lt_irrefl a (by rw [<- e] at z;exact z)) h
theorem ok0 {n:Nat} {f:List D} (hf:Fn n f):Ok [] (whr z30 n f) (z1M n f) where
 ps1:=List.pairwise_lt_range.filter _
 ts1:=zjT (z5Q hf)
 tT:=za6 hf
 tl:=z3Q hf
 TT:=fun _ z=>by cases z
 nd:=List.nodup_nil
 dj:=fun _ z=>by cases z
 ln:=by have:=zbB hf z30;simpa using this
abbrev s0 (n:Nat) (f:List D):St:=⟨[],whr z30 n f,z1M n f⟩
abbrev sF (n:Nat) (f:List D):St:=z73 99 (s0 n f)
abbrev res (n:Nat) (f:List D):D:=.tup [.tup ((z26 (sF n f).T).map .str),.tup (z07 (sF n f).ps),.tup ((sF n f).ts.map .str)]
theorem ziB {n:Nat} {f:List D} (hf:Fn n f):Ok (sF n f).T (sF n f).ps (sF n f).ts:=zbG 99 (s0 n f) (ok0 hf)
theorem m0 {n:Nat} {f:List D} (hf:Fn n f):(s0 n f).ps.length + (s0 n f).ts.length < 99:=by
 have h1:=zbB hf z30
 have h2:=z3Q hf
 show (whr z30 n f).length + (z1M n f).length < 99
 omega
theorem z9L {l:List (List Nat)} (h:Tm l):Tm (z26 l):=fun t ht=>h t ((z1p _).mp ht)
theorem zdg {n:Nat} {f:List D} (hf:Fn n f) {O:Ow} (hO:z4p O):z3M [.tup f] O=.ok (res n f) O:=by
 let F:Option D:=some (.tup f)
 have hF:=ziB hf
 obtain ⟨z5,z6,z7,w⟩:=zcq (F:=F) O 99 (s0 n f) none none none (ok0 hf) (m0 hf)
 have g1:dFn 1 z2f (z01 (z02 0) z03) [F,none,none,none,none,none,none,none] O=.ok (.lst ((z1M n f).map .str)) O:=z0X (z0d rfl) (z8u hf O)
 have p1:dFn 2 z1l (z01 (z02 0) (z01 (dC (.int 1)) z03)) [F,some (.lst ((z1M n f).map .str)),none,none,none,none,none,none] O=.ok (.lst (z07 (whr z30 n f))) O:=z0X (z0m rfl rfl) (z5w hf (.int 1) z30 O fun d h=>eq1 O h)
 have w':z5T 100 (z1g (z02 4)) wB (sgW F O.length (s0 n f) true none none none) (O ++ [[]])=.nx (sgW F O.length (sF n f) false z5 z6 z7) (O ++ [(sF n f).T.map D.str]):=w
 generalize hO1:O ++ [(sF n f).T.map D.str]=O1 at w'
 have hk1:O1[O.length]?=some ((sF n f).T.map D.str):=by rw [<- hO1];exact z3x
 have a1:z06 z0P (z01 (z06 z5t (z01 (z02 3) z03)) z03) (sgW F O.length (sF n f) false z5 z6 z7) O1=.ok (.tup ((z26 (sF n f).T).map .str)) O1:=by
  have a0:z06 z5t (z01 (z02 3) z03) (sgW F O.length (sF n f) false z5 z6 z7) O1=.ok (.lst ((z26 (sF n f).T).map .str)) O1:=by
   refine z1U (z0d (x:=.own O.length) rfl) ?_
   show (match O1[O.length]? with|some ds=>(match z9y ds with|some ss=>if ss.Nodup/\ss.length < 64 then R.ok (D.lst ((z26 ss).map .str)) O1 else R.bad|none=>R.bad)|none=>R.bad)=_
   rw [hk1]
   dsimp only
   rw [DL.strL_map]
   have:=hF.ln
   exact if_pos ⟨hF.nd,by omega⟩
  exact z1U (z0d a0) rfl
 have main:fin (z8z [F,none,none,none,none,none,none,none] O)=.ok (res n f) O1:=by
  refine z15 (z0y g1 (z0y p1 (z0y (x:=.own O.length) (O1:=O ++ [[]]) rfl (z0y (x:=.bl true) rfl (z39 w' (z0t ?_))))))
  have e3:=z1v a1 (z0m (t:=z06 z0P (z01 (z02 2) z03)) (x:=.tup (z07 (sF n f).ps)) (u:=z06 z0P (z01 (z02 1) z03)) (y:=.tup ((sF n f).ts.map .str)) rfl rfl)
  show ((z01 (z06 z0P (z01 (z06 z5t (z01 (z02 3) z03)) z03)) (z01 (z06 z0P (z01 (z02 2) z03)) (z01 (z06 z0P (z01 (z02 1) z03)) z03)) (sgW F O.length (sF n f) false z5 z6 z7) O1).bnd _)=_
  rw [e3];rfl
 show z8x O.length (fin (z8z [F,none,none,none,none,none,none,none] O))=_
 rw [main,<- hO1]
 refine z4s hO [(sF n f).T.map D.str] (z99 _ _ 8 _ ?_)
 show [D.tup _,D.tup _,D.tup _].all (pl 7)=true
 simp only [List.all_cons,List.all_nil,Bool.and_true,Bool.and_eq_true]
 exact ⟨zaq (z9L hF.TT) 6,z2p 6 _,zaq hF.tT 6⟩
abbrev z1Z (s:St):D:=.tup [.lst ((z26 s.T).map .str),.lst (z07 s.ps),.lst (s.ts.map .str)]
def wL:DS:=z0n (z0A 5 (z02 4)) (z0A 4 (dFn 3 z1A (z01 (dOp fIx (z02 4) (dC (.int 0))) (z01 (dOp fIx (z02 4) (dC (.int 1))) (z01 (dOp fIx (z02 4) (dC (.int 2))) z03)))))
theorem Ok.pl {s:St} (h:Ok s.T s.ps s.ts):pl 8 (z1Z s)=true:=zgF (z9L h.TT) h.tT s.ps
theorem zjJ {A B M F:Option D} {s:St} (h:Ok s.T s.ps s.ts) {O:Ow} (hO:z4p O) (y:Option D):wL [A,B,M,F,some (z1Z s),y] O=.nx [A,B,M,F,some (z1Z ⟨s.T ++ tak s.ps s.ts,pl2 s.ps s.ts,tl2 s.ps s.ts⟩),some (z1Z s)] O:=by
 have fr:=zaD s.ts s.ps
 have l1:=h.ln
 have l2:(frs s.ts s.ps).length <= s.ps.length:=by have:=z3A s.ts s.ps [];rw [List.length_nil,Nat.zero_add] at this;exact this
 have l3:=z6p s.T
 have nd:(z26 s.T ++ frs s.ts s.ps).Nodup:=by
  rw [List.nodup_append]
  refine ⟨zbi _,fr.nd,fun a ha b hb e=>?_⟩
  subst e
  exact h.dj a ((z1p _).mp ha) (zeg h.tT s.ps a hb)
 have sw:=z7j h.p16 h.tT h.tl nd (by rw [List.length_append];omega) (z9L h.TT) hO
 rw [zeF,zi5 h.ps1 h.tT,zdI (l:=z26 s.T ++ frs s.ts s.ps) (m:=s.T ++ tak s.ps s.ts) (fun x=>by rw [List.mem_append,List.mem_append,z1p,z4B])] at sw
 unfold wL
 exact z0y (x:=z1Z s) rfl (z1n (z0X (z1v (x:=.lst ((z26 s.T).map .str)) rfl (z0m (x:=.lst (z07 s.ps)) (y:=.lst (s.ts.map .str)) rfl rfl)) sw))
theorem zgB {s:St} (h:¬ (pl2 s.ps s.ts=s.ps/\tl2 s.ps s.ts=s.ts)):z1Z ⟨s.T ++ tak s.ps s.ts,pl2 s.ps s.ts,tl2 s.ps s.ts⟩ ≠ z1Z s:=fun e=>by
 have e:=List.cons.inj (List.cons.inj (D.tup.inj e)).2
 exact h ⟨z4y (D.lst.inj e.1),z8W (D.lst.inj (List.cons.inj e.2).1)⟩
theorem tst {A B M F:Option D} {x y:D} (hx:pl 8 x=true) (hy:pl 8 y=true) (O:Ow) (b:Bool) (hb:b=true ↔ x=y):z0k (dOp (fPy neF) (z02 4) (z02 5)) [A,B,M,F,some x,some y] O=.ok (!b) O:=z0f (z0R rfl rfl (z8Q O hx hy hb).2)
theorem zbC {A B M F:Option D} {O:Ow} (hO:z4p O):∀ (g:Nat) (s:St) (y:D),Ok s.T s.ps s.ts->s.ps.length + s.ts.length < g->pl 8 y=true->z1Z s ≠ y->∃ z,z1L (z0k (dOp (fPy neF) (z02 4) (z02 5))) wL (g + 1) [A,B,M,F,some (z1Z s),some y] O=.nx [A,B,M,F,some (z1Z (z73 g s)),z] O
 | 0,s,_,_,hm,_,_=>by omega
 | g + 1,s,y,h,hm,hy,hne=>by
  have t:=tst (A:=A) (B:=B) (M:=M) (F:=F) h.pl hy O false ⟨fun z=>(by cases z),fun z=>absurd z hne⟩
  have e:=zjJ (A:=A) (B:=B) (M:=M) (F:=F) h hO (some y)
  have e0:∀ r,z1L (z0k (dOp (fPy neF) (z02 4) (z02 5))) wL (g + 1) [A,B,M,F,some (z1Z ⟨s.T ++ tak s.ps s.ts,pl2 s.ps s.ts,tl2 s.ps s.ts⟩),some (z1Z s)] O=r->z1L (z0k (dOp (fPy neF) (z02 4) (z02 5))) wL (g + 1 + 1) [A,B,M,F,some (z1Z s),some y] O=r:=fun r hr=>by
   show ((z0k (dOp (fPy neF) (z02 4) (z02 5)) [A,B,M,F,some (z1Z s),some y] O).bnS _)=_
   rw [t]
   show (match wL [A,B,M,F,some (z1Z s),some y] O with
    | .nx σ' O'=>z1L (z0k (dOp (fPy neF) (z02 4) (z02 5))) wL (g + 1) σ' O'
    | .ct σ' O'=>z1L (z0k (dOp (fPy neF) (z02 4) (z02 5))) wL (g + 1) σ' O'
    | .bk σ' O'=>.nx σ' O'
    | r=>r)=_
   rw [e]
   exact hr
  by_cases hs:pl2 s.ps s.ts=s.ps/\tl2 s.ps s.ts=s.ts
  ·have ht:=stay h hs.1
   rw [ht,hs.1,hs.2,List.append_nil] at e0
   refine ⟨some (z1Z s),e0 _ ?_⟩
   have t2:=tst (A:=A) (B:=B) (M:=M) (F:=F) h.pl h.pl O true ⟨fun _=>rfl,fun _=>rfl⟩
   show ((z0k (dOp (fPy neF) (z02 4) (z02 5)) [A,B,M,F,some (z1Z s),some (z1Z s)] O).bnS _)=_
   rw [t2]
   unfold z73
   rw [if_pos hs]
   rfl
  ·have hl:=zk7 hs
   obtain ⟨z,ih⟩:=zbC hO g ⟨s.T ++ tak s.ps s.ts,pl2 s.ps s.ts,tl2 s.ps s.ts⟩ (z1Z s) h.step (by show (pl2 s.ps s.ts).length + (tl2 s.ps s.ts).length < g;omega) h.pl (zgB hs)
   refine ⟨z,e0 _ ?_⟩
   have:z73 (g + 1) s=z73 g ⟨s.T ++ tak s.ps s.ts,pl2 s.ps s.ts,tl2 s.ps s.ts⟩:=by
    show (if _ then _ else _)=_
    rw [if_neg hs]
   rw [this]
   exact ih
theorem z9S:∀ (f:Nat) (s:St) (p:Nat),p ∈ (z73 f s).ps->p ∈ s.ps
 | 0,s,p,h=>h
 | f + 1,s,p,h=>by
  unfold z73 at h
  split at h
  ·exact h
  ·have:=z9S f _ p h
   exact (List.mem_filter.mp (zcx this)).1
theorem zck (O:Ow):((List.range 16).map fun (p:Nat)=>z0C 2 [.int (p:Int),.int (p:Int)] O)=(List.range 16).map fun _=>R.ok (.bl true) O:=by kernel_rfl
theorem zbk (O:Ow):(allT.map fun cs=>z0C 2 [.str cs,.str cs] O)=allT.map fun _=>R.ok (.bl true) O:=by kernel_rfl
theorem zb8 {l:List Nat} (h:∀ p ∈ l,p < 16) (hl:l.length <= 16) (O:Ow):z0C 3 [.tup (z07 l),.tup (z07 l)] O=.ok (.bl true) O:=by
 refine z6l (k:=2) (z5X _ _) (z5X _ _) (.inr rfl) rfl (by show (l.map _).length < 10000;rw [List.length_map];omega) fun i x y hx hy=>?_
 rw [hx] at hy;cases hy
 obtain ⟨p,hp,rfl⟩:=List.mem_map.mp (List.mem_of_getElem? hx)
 exact List.map_inj_left.mp (zck O) p (List.mem_range.mpr (h p hp))
theorem z7m {l:List (List Nat)} (h:Tm l) (hl:l.length <= 81) (O:Ow):z0C 3 [.tup (l.map .str),.tup (l.map .str)] O=.ok (.bl true) O:=by
 refine z6l (k:=2) (z5X _ _) (z5X _ _) (.inr rfl) rfl (by rw [List.length_map];omega) fun i x y hx hy=>?_
 rw [hx] at hy;cases hy
 obtain ⟨cs,hcs,rfl⟩:=List.mem_map.mp (List.mem_of_getElem? hx)
 exact List.map_inj_left.mp (zbk O) cs (h cs hcs)
theorem zcJ {n:Nat} {f:List D} (hf:Fn n f) (O:Ow):z1s [res n f,res n f] O=.ok (.bl true) O:=by
 have hF:=ziB hf
 have hp16:=hF.p16
 have hT:(z26 (sF n f).T).length <= 81:=by have:=z6p (sF n f).T;have:=hF.ln;omega
 have hb:∀ p ∈ (sF n f).ps,p < 16:=fun p hp=>by
  have:=List.mem_range.mp (List.mem_filter.mp (z9S 99 (s0 n f) p hp)).1
  have:=z2h hf.n4
  omega
 refine z6l (k:=3) (z5X _ _) (z5X _ _) (.inr rfl) rfl (by show 3 < 10000;decide) fun i x y hx hy=>?_
 rw [hx] at hy;cases hy
 have hm:=List.mem_of_getElem? hx
 simp only [List.mem_cons,List.not_mem_nil,or_false] at hm
 rcases hm with rfl|rfl|rfl
 ·exact z7m (z9L hF.TT) hT O
 ·exact zb8 hb hp16 O
 ·exact z7m hF.tT hF.tl O
theorem zbK:∀ {l:List (List Nat)},l.Pairwise (· < ·)->zdl l=true
 | [],_=>rfl
 | [_],_=>rfl
 | x :: y :: r,h=>by
  obtain ⟨h1,h2⟩:=List.pairwise_cons.mp h
  show (!decide (y < x) && zdl (y :: r))=true
  rw [decide_eq_false (fun z=>List.lt_irrefl x (List.lt_trans (h1 y List.mem_cons_self) z)),zbK h2];rfl
theorem zdn {ns:List Int} (hn:ns.length <= 63) (σ:Sg) (c:Nat) (hc:c < 1000) (h0:z02 0 σ []=.ok (.lst (ns.map .int)) []):∃ m:Nat,m < 100000/\z06 za8 (z01 (dC (.int 1)) (z01 (z06 zab (z01 (z06 z1r (z01 (z02 0) z03)) (z01 (dC (.int (c:Nat))) z03))) z03)) σ []=.ok (.int (m:Nat)) []:=by
 have h1:z06 zab (z01 (z06 z1r (z01 (z02 0) z03)) (z01 (dC (.int (c:Nat))) z03)) σ []=.ok (.int (if (c:Int) < ((ns.map D.int).length:Nat) then (c:Int) else ((ns.map D.int).length:Nat))) []:=(z0x (z0m ((z0x (z0d h0)).trans rfl) rfl)).trans rfl
 have h2:=(z0x (f:=za8) (z0m (t:=dC (.int 1)) rfl h1))
 refine ⟨(if (if (c:Int) < ((ns.map D.int).length:Nat) then (c:Int) else ((ns.map D.int).length:Nat)) > 1 then (if (c:Int) < ((ns.map D.int).length:Nat) then (c:Int) else ((ns.map D.int).length:Nat)) else 1).toNat,?_,h2.trans ?_⟩
 ·rw [List.length_map];split <;> split <;> omega
 ·show R.ok (D.int (if (if (c:Int) < ((ns.map D.int).length:Nat) then (c:Int) else ((ns.map D.int).length:Nat)) > 1 then (if (c:Int) < ((ns.map D.int).length:Nat) then (c:Int) else ((ns.map D.int).length:Nat)) else 1)) []=_
  congr 2
  rw [List.length_map];split <;> split <;> omega
theorem ze1 {ns:List Int} {k:Nat} {O:Ow} (hO:z4p O) {y2 y3 y4 y5:Option D} (body:DS) (hb:body=(z0n (z0A 2 (dFn 2 z1D (z01 (z02 0) (z01 (z02 1) z03)))) (z0n (z0A 3 (dFn 1 z0Y (z01 (z02 2) z03))) (z0n (z0A 4 (z2T (z01 (z1q z03) (z01 (dFn 1 z10 (z01 (z02 3) z03)) (z01 (z06 zey (z01 (dFn 1 z0r (z01 (z02 3) z03)) z03)) z03))))) (z0n (z0A 5 (dC .non)) (z0n (z5T 100 (z0k (dOp (fPy neF) (z02 4) (z02 5))) wL) (sIf (z1B (z1g (dFn 2 z1s (z01 (dFn 1 z3M (z01 (z02 3) z03)) (z01 (z2T (z01 (z06 z0P (z01 (dOp fIx (z02 4) (dC (.int 0))) z03)) (z01 (z06 z0P (z01 (dOp fIx (z02 4) (dC (.int 1))) z03)) (z01 (z06 z0P (z01 (dOp fIx (z02 4) (dC (.int 2))) z03)) z03)))) z03))))) (z0F (dC (.bl false))) z1z))))))):
  ∃ z2 z3 z4 z5 O',body [some (.lst (ns.map .int)),some (.int (k:Int)),y2,y3,y4,y5] O=.nx [some (.lst (ns.map .int)),some (.int (k:Int)),z2,z3,z4,z5] O'/\z4p O':=by
 subst hb
 obtain ⟨s,b,s1,s2⟩:=ze4 (ns:=ns) (k:=k) O
 have fl1:z4p (O ++ [[.int s,.bl b]]):=z4u hO fun d hd=>by
  simp only [List.mem_cons,List.not_mem_nil,or_false] at hd
  rcases hd with rfl|rfl <;> rfl
 obtain ⟨n,f,s',hf,f1,f2⟩:=z8g fl1 s2
 have fl2:=z4A fl1 O.length s' b
 generalize hO1:O ++ [[D.int s,D.bl b]]=O1 at *
 generalize hO2:O1.set O.length [D.int s',D.bl b]=O2 at *
 generalize hm:O.length=m at *
 let A:Option D:=some (.lst (ns.map .int))
 let B:Option D:=some (.int (k:Int))
 let M:Option D:=some (.own m)
 let F:Option D:=some (.tup f)
 have g1:z0r [.tup f] O2=.ok (.lst ((z1M n f).map .str)) O2:=by rw [<- z8V];exact z51 hf fl2
 have a4:z2T (z01 (z1q z03) (z01 (dFn 1 z10 (z01 (z02 3) z03)) (z01 (z06 zey (z01 (dFn 1 z0r (z01 (z02 3) z03)) z03)) z03))) [A,B,M,F,y4,y5] O2=.ok (z1Z (s0 n f)) O2:=by
  have b3:z06 zey (z01 (dFn 1 z0r (z01 (z02 3) z03)) z03) [A,B,M,F,y4,y5] O2=.ok (.lst ((z1M n f).map .str)) O2:=by
   refine z1U (z0d (z0X (z0d rfl) g1)) ?_
   show (match z9y ((z1M n f).map D.str) with|some ss=>if zdl ss=true/\((z1M n f).map D.str).length <= 100000 then R.ok (D.lst ((z1M n f).map D.str)) O2 else R.bad|none=>R.bad)=_
   rw [DL.strL_map]
   have:=z3Q hf
   exact if_pos ⟨zbK (z5Q hf),by rw [List.length_map];omega⟩
  have b2:dFn 1 z10 (z01 (z02 3) z03) [A,B,M,F,y4,y5] O2=.ok (.lst (z07 (whr z30 n f))) O2:=z0X (z0d rfl) (z8J hf O2)
  have e3:=z1v (t:=z1q z03) (x:=.lst []) (σ:=[A,B,M,F,y4,y5]) (O:=O2) rfl (z0m b2 b3)
  show ((z01 (z1q z03) (z01 (dFn 1 z10 (z01 (z02 3) z03)) (z01 (z06 zey (z01 (dFn 1 z0r (z01 (z02 3) z03)) z03)) z03)) [A,B,M,F,y4,y5] O2).bnd _)=_
  rw [e3];rfl
 obtain ⟨z,w⟩:=zbC (A:=A) (B:=B) (M:=M) (F:=F) fl2 99 (s0 n f) .non (ok0 hf) (m0 hf) rfl (fun e=>by cases e)
 have sm:dFn 2 z1s (z01 (dFn 1 z3M (z01 (z02 3) z03)) (z01 (z2T (z01 (z06 z0P (z01 (dOp fIx (z02 4) (dC (.int 0))) z03)) (z01 (z06 z0P (z01 (dOp fIx (z02 4) (dC (.int 1))) z03)) (z01 (z06 z0P (z01 (dOp fIx (z02 4) (dC (.int 2))) z03)) z03)))) z03)) [A,B,M,F,some (z1Z (sF n f)),z] O2=.ok (.bl true) O2:=
  z0X (z0m (z0X (z0d rfl) (zdg hf fl2)) (y:=res n f) rfl) (zcJ hf O2)
 refine ⟨M,F,some (z1Z (sF n f)),z,O2,?_,fl2⟩
 refine z0y (z0X (z0m rfl rfl) s1) (z0y (z0X (z0d rfl) f1) (z0y a4 (z0y (x:=.non) rfl (z39 w ?_))))
 exact (z0K (b:=false) (O1:=O2) (z1Q (z1c sm))).trans rfl
theorem pure_law (ns:List Int) (hn:ns.length <= 63):∃ O,F_law [.lst (ns.map .int)] []=.ok (.bl true) O:=by
 let A:Option D:=some (.lst (ns.map .int))
 let σ0:Sg:=[A,none,none,none,none,none]
 obtain ⟨m,hm,hr⟩:=zdn hn σ0 5 (by decide) rfl
 obtain ⟨σ',O',l1,y1,y2,y3,y4,y5,rfl,l2⟩:=zc6 (i:=1) (z1w (z0d hr) hm) (fun _ σ O'=>∃ y1 y2 y3 y4 y5,σ=[A,y1,y2,y3,y4,y5]/\z4p O') (fun _ i σ O' _ hI=>by
   obtain ⟨y1,y2,y3,y4,y5,rfl,fl⟩:=hI
   obtain ⟨z2,z3,z4,z5,O4,t1,t2⟩:=ze1 (ns:=ns) (k:=i) fl (y2:=y2) (y3:=y3) (y4:=y4) (y5:=y5) _ rfl
   exact ⟨_,_,t1,_,_,_,_,_,rfl,t2⟩) ⟨none,none,none,none,none,rfl,fun c hc=>by cases hc⟩
 refine ⟨O',?_⟩
 show fin (z0n _ (z0F (dC (.bl true))) σ0 [])=_
 exact z15 (z39 l1 rfl)
end K09
open PySem PySem.W PyProof.Rows
set_option maxRecDepth 100000 in
set_option maxHeartbeats 0 in
theorem PySem.Challenge.cw_leastterms_k09_tables_swept_holds : PySem.Challenge.rw_leastterms_k09_tables_swept.Holds := by
 w_on;o_law;refine PySem.W.holds_openX (q:=K09.Qv) (loose:=K09.Lv) (N:=3734) (Xt:=K09.Xv) (XP:=PySem.W.XL K09.Qv []) (Yf:=(fun s=>(PySem.W.Hook.obs K09.Hk s,decide (0 < s.toks)))) (Ya:=(fun w=>(PySem.W.Hook.val K09.Hk w,true))) K09.lw (fun s e=>PySem.W.xl_of s (Bool.and_eq_true_iff.mp e).1) PySem.W.XL.keeps (by rfl) (by rfl) (by rfl) (fun s e=>PySem.W.recFacts_of (Bool.and_eq_true_iff.mp e).2) (by rfl) (by first|assumption|decide +kernel) (by decide +kernel) ⟨rfl,rfl,rfl,rfl,rfl,by decide +kernel⟩ ?hw ?hc;(case hw=>w_witness2)
 delta K09.Hk;k_fill
 refine DL.walkD' (l:=PySem.Challenge.rw_leastterms_k09_tables_swept) (k:=9) (x := "_law_script") (F:=K09.F_law) rfl rfl ⟨rfl,by decide,by decide⟩ (PySem.W.Hook.of K09.Hk) (PySem.W.Hook.keeps K09.Hk) (fun w h Y=>PySem.W.kIn_of Y) ?F K09.pure_law
 case F=>
  intro w mg fa h KX G hmg
  refine' K09.all_mk KX G hmg ⟨K09.fa_mk KX G ?_ ?_ ?_ ?_,K09.fa_mk KX G ?_ ?_ ?_ ?_,K09.fa_mk KX G ?_ ?_ ?_ ?_,K09.fa_mk KX G ?_ ?_ ?_ ?_,K09.fa_mk KX G ?_ ?_ ?_ ?_,K09.fa_mk KX G ?_ ?_ ?_ ?_,K09.fa_mk KX G ?_ ?_ ?_ ?_,K09.fa_mk KX G ?_ ?_ ?_ ?_,K09.fa_mk KX G ?_ ?_ ?_ ?_,K09.fa_mk KX G ?_ ?_ ?_ ?_,K09.fa_mk KX G ?_ ?_ ?_ ?_,K09.fa_mk KX G ?_ ?_ ?_ ?_,K09.fa_mk KX G ?_ ?_ ?_ ?_,K09.fa_mk KX G ?_ ?_ ?_ ?_,K09.fa_mk KX G ?_ ?_ ?_ ?_,K09.fa_mk KX G ?_ ?_ ?_ ?_,K09.fa_mk KX G ?_ ?_ ?_ ?_,K09.fa_mk KX G ?_ ?_ ?_ ?_,K09.fa_mk KX G ?_ ?_ ?_ ?_,K09.fa_mk KX G ?_ ?_ ?_ ?_,K09.fa_mk KX G ?_ ?_ ?_ ?_,K09.fa_mk KX G ?_ ?_ ?_ ?_,K09.fa_mk KX G ?_ ?_ ?_ ?_,K09.fa_mk KX G ?_ ?_ ?_ ?_,K09.fa_mk KX G ?_ ?_ ?_ ?_,K09.fa_mk KX G ?_ ?_ ?_ ?_,K09.fa_mk KX G ?_ ?_ ?_ ?_,K09.fa_mk KX G ?_ ?_ ?_ ?_,K09.fa_mk KX G ?_ ?_ ?_ ?_,K09.fa_mk KX G ?_ ?_ ?_ ?_,K09.fa_mk KX G ?_ ?_ ?_ ?_,K09.fa_mk KX G ?_ ?_ ?_ ?_,K09.fa_mk KX G ?_ ?_ ?_ ?_,K09.fa_mk KX G ?_ ?_ ?_ ?_,K09.fa_mk KX G ?_ ?_ ?_ ?_,K09.fa_mk KX G ?_ ?_ ?_ ?_,K09.fa_mk KX G ?_ ?_ ?_ ?_,K09.fa_mk KX G ?_ ?_ ?_ ?_,K09.fa_mk KX G ?_ ?_ ?_ ?_,K09.fa_mk KX G ?_ ?_ ?_ ?_,K09.fa_mk KX G ?_ ?_ ?_ ?_,K09.fa_mk KX G ?_ ?_ ?_ ?_,K09.fa_mk KX G ?_ ?_ ?_ ?_,K09.fa_mk KX G ?_ ?_ ?_ ?_,K09.fa_mk KX G ?_ ?_ ?_ ?_,K09.fa_mk KX G ?_ ?_ ?_ ?_,PySem.W.mg_none_of KX G ?_,PySem.W.mg_none_of KX G ?_,PySem.W.mg_none_of KX G ?_,PySem.W.mg_none_of KX G ?_,PySem.W.mg_none_of KX G ?_,PySem.W.mg_none_of KX G ?_,PySem.W.mg_none_of KX G ?_,PySem.W.mg_none_of KX G ?_,PySem.W.mg_none_of KX G ?_,PySem.W.mg_none_of KX G ?_,PySem.W.mg_none_of KX G ?_,PySem.W.mg_none_of KX G ?_,PySem.W.mg_none_of KX G ?_,PySem.W.mg_none_of KX G ?_,PySem.W.mg_none_of KX G ?_,PySem.W.mg_none_of KX G ?_,K09.gs_mk KX G ?_,K09.gt_mk KX G ?_ ?_ ?_ ?_⟩ ?Ha ?Hl ?_ ?_
  (case' Ha|Hl=>k_is)
  all_goals first|k_is|kernel_rfl|rfl|skip